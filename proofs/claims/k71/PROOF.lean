import PyProof.Rows.All
import Wide.All
import OpenK.AllK
import Wide.FinOn
import PyProof.EqAt
import PyProof.EqKinds
import PyProof.TupleCall
import PyProof.NeKinds
import Lean
import PyProof.ZipIter
import PyProof.TupleIter
import PyProof.EnumIter
import PySem.Challenge.RW_bridgefind_k71_whole_one_answer_by_all_r
set_option autoImplicit true
set_option relaxedAutoImplicit true
set_option Elab.async false
set_option linter.all false
set_option maxRecDepth 100000
set_option maxHeartbeats 1000000
def nM {i m n:Nat}(e:i+m=n)(h:i < n):m - 1 < m:=by lia
def nN {i m n:Nat}(e:i+m=n)(h:i < n):i+1+(m - 1)=n:=by lia
def ue {α:Type}{xs:List α}{i:Nat}{x:α}(h:xs[i]?=some x):i < xs.length:=(List.getElem?_eq_some_iff.mp h).1
def zF {α β:Type}{f:α->β}{xs:List α}{i:Nat}{x:α}(h:xs[i]?=some x):i < (xs.map f).length:=by rw[List.length_map];exact ue h
def zG {α β:Type}{f:α->β}{xs:List α}{i:Nat}(h:i < xs.length):i < (xs.map f).length:=by rw[List.length_map];exact h
local macro_rules|`(tactic|lia)=>`(tactic|first | (with_reducible (first | assumption | exact Nat.le_of_lt ‹_› | exact Nat.lt_add_one_of_le ‹_› | exact Nat.lt_add_one _ | exact Nat.le_add_right _ _ | exact Nat.le_add_left _ _ | exact Nat.le_of_lt_add_one ‹_› | exact Nat.lt_of_le_of_lt (Nat.zero_le _) ‹_› | exact Nat.sub_lt ‹_› Nat.one_pos | exact nM ‹_› ‹_› | exact nN ‹_› ‹_› | exact nM ‹_› (ue ‹_›) | exact nN ‹_› (ue ‹_›) | exact nM ‹_› (zF ‹_›) | exact nN ‹_› (zF ‹_›) | exact nM ‹_› (zG ‹_›) | exact nN ‹_› (zG ‹_›) | exact Nat.sub_le _ _ | exact Nat.add_sub_of_le ‹_› | exact Nat.le_refl _ | exact Nat.le_trans ‹_› ‹_› | exact Nat.lt_of_lt_of_le ‹_› ‹_› | exact Nat.lt_of_le_of_lt ‹_› ‹_› | exact Nat.le_trans (Nat.le_of_lt ‹_›) ‹_› | exact Nat.lt_of_lt_of_eq ‹_› ‹_› | exact Nat.lt_of_lt_of_eq ‹_› (Eq.symm ‹_›) | exact Nat.le_of_eq ‹_› | exact Nat.le_of_eq (Eq.symm ‹_›) | exact Nat.lt_of_lt_of_le ‹_› (Nat.le_add_right _ _) | exact Nat.le_antisymm ‹_› ‹_› | exact Eq.symm ‹_› | exact Int.natCast_nonneg _ | exact Int.ofNat_lt.mpr ‹_› | exact Int.ofNat_lt.mp ‹_› | exact Int.ofNat_le.mpr ‹_› | exact Int.le_of_lt ‹_›)) | cutsat|omega)
abbrev ay:=@PySem.wpAny_bind
abbrev aS:=@PySem.wpAny_pure
abbrev dS:=@PySem.wpAny_mono
abbrev aq:=@if_pos
abbrev ak:=@if_neg
abbrev av:=@Or.inl
abbrev fQ:=@Or.inr
abbrev bf:=@Ne.symm
abbrev lL:=@Decidable.byContradiction
abbrev bE:=@PySem.boot_len
open PySem.W (Frag nsIn codeIn keepIn tabIn codeHdIn mg_of mg_none_of fnOf OpenLaw kitOne mroIn findIn)
abbrev ai:=@List.length_map
abbrev aj:=@Nat.le_refl
abbrev aC:=@List.getElem?_eq_getElem
abbrev aH:=@List.getD_eq_getElem?_getD
abbrev aM:=@Option.some.inj
abbrev aO:=@decide_eq_true
abbrev aT:=@PySem.Heap.lt_size
abbrev aU:=@decide_eq_false
abbrev aW:=@List.mem_cons
abbrev aX:=@PySem.Heap.get?_push_of_some
abbrev aZ:=@List.getElem?_eq_some_iff
abbrev bg:=@List.length_append
abbrev bj:=@List.getElem?_map
abbrev bq:=@List.map_append
abbrev bw:=@List.length_take
abbrev bA:=@List.take_of_length_le
abbrev bK:=@List.map_cons
abbrev bL:=@Nat.ne_of_lt
abbrev bO:=@List.size_toArray
abbrev bP:=@List.mem_singleton
abbrev bR:=@List.not_mem_nil
abbrev bS:=@Nat.le_trans
abbrev bV:=@List.mem_cons_of_mem
abbrev bW:=@of_decide_eq_true
abbrev bZ:=@PySem.Heap.get?_push_size
abbrev cb:=@List.mem_cons_self
abbrev cf:=@Nat.zero_le
abbrev cx:=@List.mem_append
abbrev cy:=@List.take_succ_eq_append_getElem
abbrev cA:=@Nat.lt_of_lt_of_le
abbrev cB:=@List.append_nil
abbrev cC:=@List.mem_map
abbrev cE:=@List.getElem_mem
abbrev cK:=@Bool.false_ne_true
abbrev cP:=@List.sum_cons
abbrev cS:=@List.length_cons
abbrev cT:=@List.length_singleton
abbrev cU:=@List.length_range
abbrev cZ:=@List.nodup_cons
abbrev c5:=@List.filter_append
abbrev dw:=@List.filter_cons_of_pos
abbrev dE:=@Nat.lt_irrefl
abbrev dF:=@List.mem_of_getElem?
abbrev dU:=@List.getElem_of_mem
abbrev dW:=@List.length_filter_le
abbrev d7:=@List.mem_filter
abbrev d8:=@List.length_drop
abbrev eE:=@Nat.le_of_lt
abbrev eF:=@Nat.lt_of_le_of_lt
abbrev eG:=@List.getElem?_eq_none
abbrev eI:=@List.all_eq_true
abbrev eJ:=@List.filter_cons_of_neg
abbrev eK:=@List.take_append_drop
abbrev eU:=@List.mem_range
abbrev eV:=@List.pairwise_iff_getElem
abbrev fc:=@List.mem_append_right
abbrev fe:=@List.lookup_cons
abbrev fA:=@List.map_map
abbrev fB:=@List.nodup_append
abbrev fD:=@List.filter_eq_nil_iff
abbrev fR:=@Int.toNat_natCast
abbrev fS:=@Option.map_eq_some_iff
abbrev fT:=@List.getElem?_range
abbrev gy:=@List.getElem?_append_right
abbrev gA:=@List.length_replicate
abbrev gB:=@List.any_cons
abbrev gC:=@List.length_nil
abbrev gE:=@List.ext_getElem?
abbrev gG:=@List.append_assoc
abbrev gH:=@List.drop_eq_nil_of_le
abbrev ie:=@Array.length_toList
abbrev ig:=@Nat.ne_of_gt
abbrev ij:=@Nat.le_succ
abbrev il:=@Bool.and_eq_true
abbrev ip:=@List.pairwise_map
abbrev iq:=@Nat.add_le_add_right
abbrev ir:=@Nat.add_zero
abbrev i5:=@Int.natCast_nonneg
abbrev ja:=@PySem.Heap.get?_update_other
abbrev jc:=@Bool.and_false
abbrev jd:=@Nat.le_of_not_lt
abbrev je:=@Nat.zero_add
abbrev jf:=@Nat.min_eq_left
abbrev jg:=@List.range_succ
abbrev jN:=@List.getElem?_append_left
abbrev jO:=@List.find?_cons
abbrev jP:=@Option.map_some
abbrev jQ:=@List.map_nil
abbrev jR:=@List.nodup_nil
abbrev jS:=@Nat.not_lt_zero
abbrev jT:=@Nat.testBit_succ
abbrev jU:=@Nat.add_sub_cancel
abbrev jV:=@List.getElem?_set
abbrev jW:=@Int.zero_add
abbrev jX:=@List.flatten_cons
abbrev jY:=@List.filter_nil
abbrev jZ:=@Bool.or_false
abbrev j3:=@List.mem_or_eq_of_mem_set
abbrev lM:=@List.filterMap_cons
abbrev lN:=@PySem.Heap.size_push
abbrev lO:=@Nat.le_of_eq
abbrev lP:=@Nat.lt_succ_self
abbrev lQ:=@List.of_mem_zip
abbrev lR:=@List.all_cons
abbrev lS:=@List.mem_reverse
abbrev lT:=@List.map_take
abbrev lU:=@of_decide_eq_false
abbrev lV:=@Nat.pow_succ
abbrev lW:=@Bool.eq_false_iff
abbrev lX:=@Nat.sub_self
abbrev lY:=@List.map_set
abbrev lZ:=@List.length_reverse
abbrev l0:=@List.length_pos_iff
abbrev l5:=@List.filter_congr
abbrev nO:=@Bool.eq_iff_iff
abbrev nQ:=@List.length_set
abbrev nR:=@Bool.false_or
abbrev nS:=@Int.emod_nonneg
abbrev nU:=@Int.emod_lt_of_pos
abbrev nW:=@Bool.and_true
abbrev nX:=@Bool.not_eq_true'
abbrev nY:=@List.eq_nil_of_length_eq_zero
abbrev n9:=@Array.toArray_toList
abbrev oa:=@List.reverse_cons
abbrev oe:=@List.take_zero
abbrev og:=@List.getElem?_take
abbrev oh:=@List.getElem?_drop
abbrev oi:=@List.length_zip
abbrev oj:=@List.filter_eq_self
abbrev om:=@List.mem_flatten
abbrev oo:=@List.map_congr_left
abbrev oq:=@Nat.min_eq_right
abbrev ou:=@List.replicate_succ'
abbrev ox:=@List.flatten_append
abbrev oy:=@List.pairwise_append
abbrev oz:=@Nat.lt_of_not_le
abbrev oA:=@List.nodup_range
abbrev oB:=@List.pairwise_cons
abbrev oC:=@List.filter_filter
abbrev oE:=@List.map_drop
abbrev uf:=@Option.isSome_iff_exists
abbrev ug:=@Nat.add_le_add_left
abbrev uh:=@List.zip_cons_cons
abbrev ui:=@Array.perm_iff_toList_perm
abbrev uj:=@Bool.false_eq_true
abbrev uk:=@List.getElem?_reverse
abbrev um:=@Array.getElem?_toList
abbrev uo:=@List.mem_map_of_mem
abbrev uq:=@List.mem_take_iff_getElem
abbrev ur:=@List.getElem?_cons_succ
abbrev uv:=@List.range_eq_range'
abbrev uw:=@List.pairwise_lt_range
abbrev ux:=@Nat.pos_of_ne_zero
abbrev uy:=@List.perm_ext_iff_of_nodup
abbrev uz:=@List.pairwise_singleton
abbrev uA:=@List.length_eq_zero_iff
abbrev uB:=@List.mem_of_mem_drop
section
local macro_rules|`(#[$xs,*])=>`(⟨$xs,*⟩)
namespace L2
open PySem PySem.Spec PyProof.Rows
abbrev Key:=Sum Int Str
def jh:Key->Value->Bool
  | .inl k,v=>Value.isInt k v
  | .inr x,v=>Value.isStrOf x v
def keyH (w:World):Key->Int
  | .inl k=>hashInt k
  | .inr x=>hashStr w x
def fU:∀{k:Key} {v:Value},jh k v=true->(∃ i t,k=Sum.inl i/\v=Value.int i t)\/(∃ x t,k=Sum.inr x/\v=Value.str x t)
  | .inl i,v,h=>by
    obtain ⟨t,e⟩:=Value.isInt_shape (k:=i) (v:=v) h;exact .inl #[i,t,rfl,e]
  | .inr x,v,h=>by
    obtain ⟨t,e⟩:=Value.isStrOf_shape (x:=x) (v:=v) h;exact .inr #[x,t,rfl,e]
def EY (i:Int)(t:Tok):jh (.inl i) (.int i t)=true:=by simp[jh,Value.isInt]
def EZ (x:Str)(t:Tok):jh (.inr x) (.str x t)=true:=by simp[jh,Value.isStrOf]
def E2 (a b:Int):decide ((Sum.inl a:Key)=Sum.inl b)=(a==b):=by
  by_cases e:a=b
  · subst e;simp
  · have h:¬ (Sum.inl a:Key)=Sum.inl b:=λq=>e (Sum.inl.inj q)
    rw[aU h];exact (beq_eq_false_iff_ne.mpr e).symm
def E3 (a b:Str):decide ((Sum.inr a:Key)=Sum.inr b)=decide (a=b):=by
  by_cases e:a=b
  · subst e;simp
  · have h:¬ (Sum.inr a:Key)=Sum.inr b:=λq=>e (Sum.inr.inj q)
    rw[aU h,aU e]
def E4 (a:Int)(b:Str):decide ((Sum.inl a:Key)=Sum.inr b)=false:=aU (λq=>nomatch q)
def E5 (a:Str)(b:Int):decide ((Sum.inr a:Key)=Sum.inl b)=false:=aU (λq=>nomatch q)
def bX (prog:Program)(w:World):PySem.KeyKind prog w Key where
  is:=jh
  hash:=keyH w
  inj:=λv a b ha hb=>by
    rcases fU ha with ⟨i,t,rfl,rfl⟩|⟨x,t,rfl,rfl⟩
    · rcases fU hb with ⟨j,u,rfl,e⟩|⟨y,u,rfl,e⟩
      · injection e with e1 _;rw[e1]
      · exact nomatch e
    · rcases fU hb with ⟨j,u,rfl,e⟩|⟨y,u,rfl,e⟩
      · exact nomatch e
      · injection e with e1 _;rw[e1]
  byValue:=λk v h=>by
    rcases fU h with ⟨i,t,rfl,rfl⟩|⟨x,t,rfl,rfl⟩<;>rfl
  pyHash:=λhv h=>by
    rcases fU hv with ⟨i,t,rfl,rfl⟩|⟨x,t,rfl,rfl⟩
    · exact wpAny_pyHash_int h
    · exact wpAny_pyHash_str h
  eqBool:=λhu hv h=>by
    rcases fU hu with ⟨i,t,rfl,rfl⟩|⟨x,t,rfl,rfl⟩
    · rcases fU hv with ⟨j,u,rfl,rfl⟩|⟨y,u,rfl,rfl⟩
      · rw[E2]at h;exact wpAny_eqBool_int h
      · rw[E4]at h;exact SeqAt.EqAt.int_str i t y u _ _ _ _ h
    · rcases fU hv with ⟨j,u,rfl,rfl⟩|⟨y,u,rfl,rfl⟩
      · rw[E5]at h;exact SeqAt.EqAt.str_int x t j u _ _ _ _ h
      · rw[E3]at h;exact wpAny_eqBool_str h
  «strs»:=λk x t v h=>by
    rcases fU h with ⟨i,u,rfl,e⟩|⟨y,u,rfl,e⟩
    · exact nomatch e
    · injection e with e1 _
      subst e1;cases v<;>rfl
def E6 (prog:Program)(w:World)(k:Key)(v:Value):(bX prog w).is k v=jh k v:=rfl
def E7 (prog:Program)(w:World)(i:Int)(t:Tok):(bX prog w).is (.inl i) (.int i t)=true:=EY i t
def E8 (prog:Program)(w:World)(x:Str)(t:Tok):(bX prog w).is (.inr x) (.str x t)=true:=EZ x t
inductive V where
  | non|bl (b:Bool)|int (i:Int)|str (x:Str)|byt (b:Array UInt8)|flt (b:UInt64)|ref (a:Addr)|ty (n:String)
  deriving DecidableEq
def RelV:V->Value->Prop
  | .non,u=>u=Value.none
  | .bl b,u=>u=Value.bool b
  | .int i,u=>∃ t,u=Value.int i t
  | .str x,u=>∃ t,u=Value.str x t
  | .byt b,u=>∃ t,u=Value.bytes b t
  | .flt b,u=>∃ t,u=Value.float b t
  | .ref a,u=>u=Value.ref a
  | .ty n,u=>u=Value.type n
abbrev Vals:List V->List Value->Prop:=Paired RelV
def Vals.length {xs:List V}{us:List Value}(r:Vals xs us):xs.length=us.length:=Paired.length r
def Vals.get:∀{xs:List V} {us:List Value} {i:Nat} {x:V},Vals xs us->xs[i]?=some x->∃ u,us[i]?=some u/\RelV x u
  | _,_,_,_,.nil,e=>by simp at e
  | _,_,0,_,.cons r _,e=>by simp at e;subst e;exact #[_,rfl,r]
  | _,_,i+1,x,.cons _ t,e=>by
    obtain ⟨u,h1,h2⟩:=Vals.get (i:=i) (x:=x) t (by simpa using e);exact #[u,by simpa using h1,h2]
def Vals.set {x:V}{u:Value}(r:RelV x u):∀{xs:List V} {us:List Value} (i:Nat),Vals xs us->Vals (xs.set i x) (us.set i u)
  | _,_,_,.nil=>.nil
  | _,_,0,.cons _ t=>.cons r t
  | _,_,i+1,.cons q t=>.cons q (Vals.set r i t)
def Vals.append:∀{xs ys:List V} {us ws:List Value},Vals xs us->Vals ys ws->Vals (xs++ys) (us++ws)
  | _,_,_,_,.nil,s=>s
  | _,_,_,_,.cons r t,s=>.cons r (Vals.append t s)
def Vals.take:∀{xs:List V} {us:List Value} (n:Nat),Vals xs us->Vals (xs.take n) (us.take n)
  | _,_,0,_=>.nil
  | _,_,_+1,.nil=>.nil
  | _,_,n+1,.cons r t=>.cons r (Vals.take n t)
def Vals.drop:∀{xs:List V} {us:List Value} (n:Nat),Vals xs us->Vals (xs.drop n) (us.drop n)
  | _,_,0,r=>r
  | _,_,_+1,.nil=>.nil
  | _,_,n+1,.cons _ t=>Vals.drop n t
def RelO:Option V->Option Value->Prop
  | some v,some u=>RelV v u
  | none,none=>True
  | _,_=>False
def KV {κ:Type}:List (κ×V)->List (κ×Value)->Prop:=Paired λ(p:κ×V) (q:κ×Value)=>p.1=q.1/\RelV p.2 q.2
def kV:Key->V
  | .inl i=>.int i
  | .inr x=>.str x
inductive HO where
  | lst (xs:List V)
  | tup (xs:List V)
  | dK (kvs:List (Key×V))|dT (kvs:List (List Key×V))
  | set (S:Int->Bool) (n:Nat)
  | ins (C dx:Addr) (fs:List (Str×V))
  | own (x:Addr)
  | xd (fs:List (Str×V))
  | met (f x:Addr)
  | rng (lo hi:Int)
  | frz (o:Obj) (u:HO)
  | tbl (ps:Array Value)
  | ext (φ:Heap->Prop)
abbrev Hp:=Addr->Option HO
def upd (H:Hp)(a:Addr)(o:HO):Hp:=λb=>if b=a then some o else H b
def af {a:Addr}:upd H a o a=some o:=by unfold upd;rw[aq rfl]
def ah {a b:Addr}(h:b≠a):upd H a o b=H b:=by unfold upd;rw[ak h]
def E9 {a:Addr}:upd (upd H a o) a u=upd H a u:=by
  funext b;unfold upd;split<;>rfl
def zH {H:Hp}{a b:Addr}{o u:HO}(h:H a=some o)(h':H b=some u)(d:o≠u):a≠b:=by
  intro e;subst e;rw[h]at h';exact d (aM h')
def au {H:Hp}{a b:Addr}{o:HO}(h:H a=some o)(h':H b=none):a≠b:=by
  intro e;subst e;rw[h]at h';cases h'
section
variable (P:Program)(w:World)
def bN (H:Hp)(h:Heap)(a:Addr):HO->Prop
  | .lst xs=>xs.length<=sizeLine/\∃(its:List Value) (n:Nat),Vals xs its/\h.get? a=some { cls:=.type "list",data:=.seq its.toArray n }
  | .tup xs=>xs.length<=sizeLine/\∃ its:List Value,Vals xs its/\IsTup h a its.toArray
  | .dK kvs=>kvs.length<=sizeLine/\(a==sysModules)=false/\∃ vs,KV kvs vs/\h.DictOf (bX P w) a vs
  | .dT kvs=>kvs.length<=sizeLine/\(a==sysModules)=false/\∃ xs:List (List Key×Addr×Value),
      Paired (λ(p:List Key×V) (q:List Key×Addr×Value)=>p.1=q.1/\H q.2.1=some (.tup (p.1.map kV))/\RelV p.2 q.2.2) kvs xs/\
      ∃ o es ep,h.get? a=some o/\o.ExactDict/\o.data=.dict es ep/\es.toList=xs.map (entryOfKey (tupleKind (bX P w)))/\(xs.map (·.1)).Nodup
  | .set S n=>h.SetOf (intKind P w) a S n
  | .ins C dx fs=>H dx=some (.own a)/\fs.length<=1000/\dx≠a/\h.get? a=some (W.instObj C dx)/\
      ∃ mA,h.Ns1 dx mA/\(∀ f,RelO (fs.lookup f) (mA f))/\PySem.Within mA (fs.map (·.1))
  | .own _=>∃ o,h.get? a=some o
  | .xd fs=>∃ mA,h.Ns1 a mA/\∀ f,RelO (fs.lookup f) (mA f)
  | .rng lo hi=>∃ t u v,h.get? a=some { cls:=.type "range",data:=.fields (List.toArray [.int lo t,.int hi u,.int 1 v]) }
  | .frz o u=>h.get? a=some o/\bN H h a u
  | .tbl ps=>h.get? a=some { cls:=.none,data:=.fields ps }
  | .met f x=>h.get? a=some (W.methodObj (.ref f) (.ref x))
  | .ext φ=>φ h/\(∃ o,h.get? a=some o)/\∀ h1 h2:Heap,φ h1->(∀ o,h1.get? a=some o->h2.get? a=some o)->φ h2
def HOk (H:Hp)(h:Heap):Prop:=∀ a o,H a=some o->bN P w H h a o
end
section
variable {P:Program}{w:World}{H H':Hp}{h h':Heap}{a:Addr}{o:HO}
def bN.lt (x:bN P w H h a o):a<h.objs.size:=by
  cases o with
  | lst xs=>obtain ⟨_,_,_,_,e⟩:=x;exact aT e
  | tup xs=>obtain ⟨_,_,_,p⟩:=x;exact p.lt
  | dK kvs=>obtain ⟨_,_,_,_,o,_,_,e,_⟩:=x;exact aT e
  | dT kvs=>obtain ⟨_,_,_,_,o,_,_,e,_⟩:=x;exact aT e
  | set S n=>obtain ⟨o,_,_,_,e,_⟩:=x;exact aT e
  | ins C dx fs=>obtain ⟨_,_,_,e,_⟩:=x;exact aT e
  | own y=>obtain ⟨_,e⟩:=x;exact aT e
  | xd fs=>obtain ⟨_,⟨_,_,_,e,_⟩,_⟩:=x;exact aT e
  | rng lo hi=>obtain ⟨_,_,_,e⟩:=x;exact aT e
  | frz ob u=>obtain ⟨e,_⟩:=x;exact aT e
  | tbl ps=>exact aT (show h.get? a=some _ from x)
  | met f y=>exact aT (show h.get? a=some _ from x)
  | ext φ=>obtain ⟨_,⟨_,e⟩,_⟩:=x;exact aT e
def Paired.mapP {α β:Type}{F G:α->β->Prop}:∀{l₁:List α} {l₂:List β},Paired F l₁ l₂->(∀ a b,F a b->G a b)->Paired G l₁ l₂
  | _,_,.nil,_=>.nil
  | _,_,.cons r t,f=>.cons (f _ _ r) (Paired.mapP t f)
def bN.stay (x:bN P w H h a o)(k:∀ b u,(b=a\/H b=some (.own a))->h.get? b=some u->h'.get? b=some u)
    (ho:∀ b,H b=some (.own a)->H' b=some (.own a)) (ht:∀ b xs,H b=some (.tup xs)->H' b=some (.tup xs)):bN P w H' h' a o:=by
  induction o with
  | lst xs=>obtain ⟨z,its,n,r,e⟩:=x;exact #[z,its,n,r,k _ _ (.inl rfl) e]
  | tup xs=>obtain ⟨z,its,r,ob,e,c⟩:=x;exact #[z,its,r,ob,k _ _ (.inl rfl) e,c]
  | dK kvs=>obtain ⟨z,y,vs,r,ob,es,ep,e,c⟩:=x;exact #[z,y,vs,r,ob,es,ep,k _ _ (.inl rfl) e,c]
  | dT kvs=>
    obtain ⟨z,y,xs,r,ob,es,ep,e,c⟩:=x;exact #[z,y,xs,Paired.mapP r λp q z=>#[z.1,ht _ _ z.2.1,z.2.2],ob,es,ep,k _ _ (.inl rfl) e,c]
  | set S n=>obtain ⟨ob,es,ep,t,e,c⟩:=x;exact #[ob,es,ep,t,k _ _ (.inl rfl) e,c]
  | ins C dx fs=>
    obtain ⟨d,z,ne,e,mA,⟨od,es,ep,e2,c⟩,r⟩:=x;exact #[ho _ d,z,ne,k _ _ (.inl rfl) e,mA,#[od,es,ep,k _ _ (.inr d) e2,c],r]
  | own y=>obtain ⟨ob,e⟩:=x;exact #[ob,k _ _ (.inl rfl) e]
  | xd fs=>obtain ⟨mA,⟨od,es,ep,e,c⟩,r⟩:=x;exact #[mA,#[od,es,ep,k _ _ (.inl rfl) e,c],r]
  | rng lo hi=>obtain ⟨t,u,v,e⟩:=x;exact #[t,u,v,k _ _ (.inl rfl) e]
  | frz ob u ih=>obtain ⟨e,q⟩:=x;exact #[k _ _ (.inl rfl) e,ih q]
  | tbl ps=>
    have e:h.get? a=some { cls:=.none,data:=.fields ps }:=x;show h'.get? a=some { cls:=.none,data:=.fields ps };exact k a _ (.inl rfl) e
  | met f y=>
    have e:h.get? a=some (W.methodObj (.ref f) (.ref y)):=x;show h'.get? a=some (W.methodObj (.ref f) (.ref y));exact k a _ (.inl rfl) e
  | ext φ=>obtain ⟨p,⟨o,e⟩,st⟩:=x;exact #[st _ _ p λo q=>k _ _ (.inl rfl) q,#[o,k _ _ (.inl rfl) e],st]
def HOk.lt (x:HOk P w H h)(e:H a=some o):a<h.objs.size:=(x a o e).lt
def HOk.fresh (x:HOk P w H h)(e:h.objs.size<=a):H a=none:=by
  cases q:H a with
  | none=>rfl
  | some u=>exact absurd (cA (x.lt q) e) (dE _)
def HOk.kept (x:HOk P w H h)(k:∀ b u,h.get? b=some u->h'.get? b=some u):HOk P w H h':=λa o e=>
  (x a o e).stay (λb u _ q=>k b u q) (λ_ q=>q) λ_ _ q=>q
def HOk.laid (x:HOk P w H h)(k:∀ b u,h.get? b=some u->h'.get? b=some u)(hp:h.objs.size<=a)(new:bN P w (upd H a o) h' a o):HOk P w (upd H a o) h':=λb u e=>by
  have hn:=x.fresh hp;by_cases hb:b=a
  · subst hb;rw[af]at e;cases e;exact new
  · rw[ah hb]at e
    exact (x b u e).stay (λc v _ q=>k c v q) (λc q=>by rw[ah (au q hn)];exact q) λc xs q=>by rw[ah (au q hn)];exact q
end
def Rd (H:Hp)(a:Addr)(u:HO):Prop:=H a=some u\/∃ o,H a=some (.frz o u)
def Rd.ok {w:World}{h:Heap}{a:Addr}(r:Rd H a u)(x:HOk P w H h):bN P w H h a u:=by
  rcases r with r|⟨o,r⟩
  · exact x a u r
  · obtain ⟨_,q⟩:=x a _ r
    exact q
def Mut:Option HO->Prop
  | some (.lst _)=>True
  | some (.dK _)=>True
  | some (.dT _)=>True
  | some (.set _ _)=>True
  | some (.ins _ _ _)=>True
  | some (.ext _)=>True
  | _=>False
section
variable {P:Program}{w:World}{H:Hp}{h h':Heap}{x e:Addr}{o':HO}
def HOk.write (ok:HOk P w H h)(mu:Mut (H x))(he:e=x\/H e=some (.own x))(k:∀ b u,b≠e->h.get? b=some u->h'.get? b=some u)(heo:∃ u,h'.get? e=some u)
    (new:bN P w (upd H x o') h' x o'):HOk P w (upd H x o') h':=λb u q=>by
  have nown:∀ c y,H c=some (.own y)->c≠x:=λc y r z=>by subst z;rw[r]at mu;exact mu
  have ntup:∀ c xs,H c=some (.tup xs)->c≠x:=λc xs r z=>by subst z;rw[r]at mu;exact mu
  by_cases hb:b=x
  · subst hb;rw[af]at q;cases q;exact new
  · rw[ah hb]at q
    by_cases hbe:b=e
    · have q':H b=some (.own x):=by
        rcases he with z|z
        · exact absurd (hbe.trans z) hb
        · rw[hbe];exact z
      rw[q]at q';cases q'
      obtain ⟨v,hv⟩:=heo;exact #[v,by rw[hbe];exact hv]
    · refine (ok b u q).stay (λc v hc r=>k c v ?_ r) (λc r=>by rw[ah (nown c b r)];exact r) λc xs r=>by rw[ah (ntup c xs r)];exact r
      rcases hc with rfl|hc
      · exact hbe
      · rintro rfl
        rcases he with z|z
        · exact nown c b hc z
        · rw[hc]at z;cases z;exact hb rfl
end
structure Un (fs ex:List Addr)(H H':Hp)(h h':Heap):Prop where
  keep:∀ b o,h.get? b=some o->H b=none->b∉fs->b∉ex->h'.get? b=some o
  slot:∀ b o,h.get? b=some o->H b=none->b∈fs->b∉ex->∃ sl,h'.get? b=some { o with slots:=sl }
  free:∀ b o,h.get? b=some o->H b=none->b∉ex->H' b=none
  there:∀ b o,h.get? b=some o->b∉ex->∃ o',h'.get? b=some o'
  tups:∀ b xs,H b=some (.tup xs)->H' b=some (.tup xs)
  frzs:∀ b o u,H b=some (.frz o u)->H' b=some (.frz o u)
  tbls:∀ b ps,H b=some (.tbl ps)->∃ more,H' b=some (.tbl (ps++more))
section
variable {fs fs' ex ex':List Addr}{H H1 H2:Hp}{h h1 h2 h':Heap}{a x e:Addr}{o:HO}
def Un.any (u:Un fs ex H H1 h h1){b:Addr}{ob:Obj}(q:h.get? b=some ob)(n:H b=none)(hx:b∉ex):∃ sl,h1.get? b=some { ob with slots:=sl }:=by
  by_cases hb:b∈fs
  · exact u.slot b ob q n hb hx
  · exact #[ob.slots,u.keep b ob q n hb hx]
def Un.kept (k:∀ b u,h.get? b=some u->h'.get? b=some u):Un fs ex H H h h':=
  #[λb ob q _ _ _=>k b ob q,λb ob q _ _ _=>#[ob.slots,k b ob q],λ_ _ _ n _=>n,λb ob q _=>#[ob,k b ob q],λ_ _ q=>q,λ_ _ _ q=>q,λ_ ps q=>#[(List.toArray []),by rw[q];simp]]
def Un.refl:Un fs ex H H h h:=Un.kept λ_ _ q=>q
def Un.laid (k:∀ b u,h.get? b=some u->h'.get? b=some u)(hp:h.objs.size<=a)(hn:H a=none):Un fs ex H (upd H a o) h h' where
  keep:=λb u q _ _ _=>k b u q
  slot:=λb u q _ _ _=>#[u.slots,k b u q]
  free:=λb u q n _=>by rw[ah (bL (cA (aT q) hp))];exact n
  there:=λb u q _=>#[u,k b u q]
  tups:=λb xs q=>by rw[ah (au q hn)];exact q
  frzs:=λb u xs q=>by rw[ah (au q hn)];exact q
  tbls:=λb ps q=>#[(List.toArray []),by rw[ah (au q hn),q];simp]
def Un.write (mu:Mut (H x))(he:e=x\/H e=some (.own x))(k:∀ b u,b≠e->h.get? b=some u->h'.get? b=some u)(heo:∃ u,h'.get? e=some u):Un fs ex H (upd H x o) h h':=by
  have hx:∀ b,H b=none->b≠x:=λb n z=>by subst z;rw[n]at mu;exact mu
  have hb:∀ b,H b=none->b≠e:=λb n z=>by
    subst z;rcases he with r|r
    · exact hx b n r
    · rw[n]at r;cases r
  have hm:∀ b u,H b=some u->¬ Mut (some u)->b≠x:=λb u q nm z=>by subst z;rw[q]at mu;exact nm mu
  refine #[λb u q n _ _=>k b u (hb b n) q,λb u q n _ _=>#[u.slots,k b u (hb b n) q],λb u q n _=>by rw[ah (hx b n)];exact n,λb u q _=>?_,
    λb xs q=>by rw[ah (hm b _ q λz=>z)];exact q,λb u xs q=>by rw[ah (hm b _ q λz=>z)];exact q,λb ps q=>#[(List.toArray []),by rw[ah (hm b _ q λz=>z),q];simp]]
  by_cases hbe:b=e
  · subst hbe;exact heo
  · exact #[u,k b u hbe q]
end
def trk (h:Heap)(H:Hp):List Addr:=(List.range h.objs.size).filter λa=>(H a).isSome
def hidT (h:Heap)(H:Hp):Heap:=W.hideAll h (trk h H)
def Fb (h:Heap)(H:Hp):(hidT h H).objs.size=h.objs.size:=W.hideAll_size _ _
def Fc {h:Heap}{H:Hp}{b:Addr}{o:Obj}(e:h.get? b=some o)(n:H b=none):(hidT h H).get? b=some o:=
  W.hideAll_get _ e λhm=>by
    have q:(H b).isSome=true:=(d7.mp hm).2;rw[n]at q;simp at q
def Fd {b:Addr}{o:Obj}(e:(hidT h H).get? b=some o):h.get? b=some o/\H b=none:=by
  have e':h.get? b=some o:=W.of_hideAll (trk h H) e;refine #[e',?_];cases q:H b with
  | none=>rfl
  | some x=>
    have hm:b∈trk h H:=d7.mpr #[eU.mpr (aT e'),by simp[q]];have z:(hidT h H).get? b=none:=W.hideAll_none (trk h H) hm;rw[z]at e;cases e
def Fe (g h:Heap)(L:Addr):List (Addr×Obj):=(List.range h.objs.size).filterMap λa=>if a=L\/(g.get? a).isSome=true then none else (h.get? a).map λo=>(a,o)
def rest (g h:Heap)(L d:Addr):List (Addr×Obj):=(Fe g h L).filter λp=>decide (p.1≠d)
structure Mod (K:Frag)(mg:Str->Option Value)(base:Heap):Prop where
  kin:K.In base
  glob:base.Ns mainGlobals mg
  blt:∃ mb,base.Ns builtinsNs mb/\∀ x:Str,x ≠ "__name__"->mb x=bootBuiltins x
  nolimit:base.NoLimit
structure Cx where
  prog:Program
  w:World
  K:Frag
  mg:Str->Option Value
  base:Heap
  A:Around
  N:List Str
  s₀:Shared
  H₀:Hp
  env:Env
  outer:List Env
  stack:List Env
  ex:List Addr
  fn:Str->Bool
  calm:Bool
  pn:List (Addr×Obj)
  xe:Value->Shared->Prop
def frs (l:List Env):List Addr:=l.filterMap (·.frame)
abbrev Cx.fs (X:Cx):List Addr:=frs X.outer
def Vis (sc:Scope)(x:Str):Prop:=sc.names.lookup x=some .local\/sc.names.lookup x=some .cell\/sc.names.lookup x=some .free
def Loc (sc:Scope)(x:Str):Prop:=sc.names.lookup x=some .local\/sc.names.lookup x=some .cell
def Look (env:Env)(h:Heap)(m:Str->Option Value)(x:Str)(u:Value):Prop:=
  (env.kindOf x=some .local/\m x=some u)\/((env.kindOf x=some .cell\/env.kindOf x=some .free)/\∃ c,env.cells.lookup x=some c/\h.IsCell c (some u))
structure Cx.Ok (X:Cx):Prop where
  mod:Mod X.K X.mg X.base
  kind:X.env.scope.kind=.function
  glob:X.env.globals=mainGlobals
  blt:X.env.builtins=builtinsNs
  above:X.s₀.heap.objs.size<=X.env.locals
  inj:∀ x y c,X.env.cells.lookup x=some c->X.env.cells.lookup y=some c->x=y
  has:∀ x,(X.env.kindOf x=some .cell\/X.env.kindOf x=some .free)->∃ c,X.env.cells.lookup x=some c
  cab:∀ x c,X.fn x=true->X.env.cells.lookup x=some c->X.s₀.heap.objs.size<=c
  hd:X.calm=true->X.A.handled=none
  frames:X.A.frames=some X.stack
  stk:X.stack=X.outer\/(X.stack=X.env::X.outer/\X.env.frame=some X.env.locals)
  exf:∀ b∈X.ex,b≠X.env.locals/\∀ x c,X.env.cells.lookup x=some c->c≠b
  bs:∀ b o,X.base.get? b=some o->X.s₀.heap.get? b=some o/\X.H₀ b=none
  bsz:X.base.objs.size<=X.s₀.heap.objs.size
  noex:∀ b o,X.base.get? b=some o->b∉X.ex
  exfs:∀ b∈X.ex,b∉X.fs
  funs:X.s₀.heap.FunFrames X.base X.outer
  frf:∀ b∈X.fs,X.H₀ b=none
structure Inv (X:Cx)(Px:List (Addr×Obj))(U:List (Option V))(H:Hp)(s:Shared):Prop where
  ok:X.Ok
  os:s.os=X.s₀.os
  bare:AllBare s.gens
  base:Un X.fs X.ex X.H₀ H X.s₀.heap s.heap
  loc:∃ m,s.heap.Ns X.env.locals m/\∀(i:Nat) (x:Str) (v:V),X.N[i]?=some x->U[i]?=some (some v)->Vis X.env.scope x->∃ u,RelV v u/\Look X.env s.heap m x u
  cell:∀ x c,X.env.cells.lookup x=some c->∃ v,s.heap.IsCell c v
  free:H X.env.locals=none
  freeC:∀ x c,X.env.cells.lookup x=some c->H c=none
  pin:∀ p∈X.pn++Px,s.heap.get? p.1=some p.2/\H p.1=none/\p.1≠X.env.locals/\p.1∉X.fs/\∀ v,p.2.data≠.cell v
  hok:HOk X.prog X.w H s.heap
  len:U.length=X.N.length
section
variable {X:Cx}{Px:List (Addr×Obj)}{U:List (Option V)}{H H':Hp}{s:Shared}{h':Heap}
def Cx.Ok.nofr (ok:X.Ok){b:Addr}{o:Obj}(e:X.base.get? b=some o):b∉X.fs:=λhb=>by
  have:=(ok.funs.mem hb).1;rw[e]at this;cases this
def Inv.bs (I:Inv X Px U H s):∀ b o,X.base.get? b=some o->s.heap.get? b=some o/\H b=none:=λb o e=>
  #[I.base.keep b o (I.ok.bs b o e).1 (I.ok.bs b o e).2 (I.ok.nofr e) (I.ok.noex b o e),I.base.free b o (I.ok.bs b o e).1 (I.ok.bs b o e).2 (I.ok.noex b o e)]
def Inv.bk (I:Inv X Px U H s):∀ b o,X.base.get? b=some o->s.heap.get? b=some o:=λb o e=>(I.bs b o e).1
def Inv.mod (I:Inv X Px U H s):Mod X.K X.mg X.base:=I.ok.mod
def Inv.kIn (I:Inv X Px U H s):X.K.In s.heap:=I.ok.mod.kin.keeps I.bk
def Inv.lt (I:Inv X Px U H s):X.env.locals<s.heap.objs.size:=let ⟨_,hn,_⟩:=I.loc;hn.lt
def Inv.sz (I:Inv X Px U H s):X.s₀.heap.objs.size<=s.heap.objs.size:=bS I.ok.above (eE I.lt)
def Inv.nofs (I:Inv X Px U H s){a:Addr}(h:s.heap.objs.size<=a):a∉X.fs:=λhb=>by
  obtain ⟨_,o,ho,_⟩:=I.ok.funs.mem hb;exact absurd (cA (aT ho) (bS I.sz h)) (dE _)
def Inv.cne (I:Inv X Px U H s):∀ x c,X.env.cells.lookup x=some c->c≠X.env.locals:=λx c e z=>by
  obtain ⟨v,o,ho,hd⟩:=I.cell x c e;obtain ⟨m,⟨o',es,ep,ho',hd',_⟩,_⟩:=I.loc;rw[z,ho']at ho;cases ho;rw[hd']at hd;cases hd
def Inv.funs (I:Inv X Px U H s):s.heap.FunFrames X.base X.outer:=by
  have all:∀(l:List Env),(∀ b∈frs l,b∈X.fs)->X.s₀.heap.FunFrames X.base l->s.heap.FunFrames X.base l:=by
    intro l
    induction l with
    | nil=>intro _ _;trivial
    | cons env r ih=>
      intro hs hl;obtain ⟨hk,⟨L,o,hf,hn,ho,hd⟩,hr⟩:=hl;have hL:L∈X.fs:=hs L (by unfold frs;rw[lM,hf];exact cb);obtain ⟨sl,e⟩:=I.base.slot L o ho (I.ok.frf L hL) hL λz=>I.ok.exfs L z hL;exact #[hk,#[L,_,hf,hn,e,hd],ih (λb hb=>hs b (by unfold frs;rw[lM,hf];exact bV _ hb)) hr]
  exact all X.outer (λ_ hb=>hb) I.ok.funs
def Inv.stack (I:Inv X Px U H s):s.heap.FunFrames X.base X.stack:=by
  rcases I.ok.stk with e|⟨e,hf⟩
  · rw[e];exact I.funs
  · rw[e]
    obtain ⟨m,hn,_⟩:=I.loc;refine .cons (by rw[I.ok.kind];decide) hf hn ?_ I.funs;exact Heap.get?_none_of_le (bS I.ok.bsz I.ok.above)
def Inv.stkSub (I:Inv X Px U H s):∀ b∈frs X.stack,b∈X.env.locals::X.fs:=λb hb=>by
  rcases I.ok.stk with e|⟨e,hf⟩
  · rw[e]at hb;exact bV _ hb
  · rw[e]at hb
    unfold frs at hb;rw[lM,hf]at hb;exact hb
def Inv.stkFree (I:Inv X Px U H s):∀ b∈frs X.stack,H b=none:=λb hb=>by
  rcases aW.mp (I.stkSub b hb) with e|hb
  · rw[e];exact I.free
  · obtain ⟨_,o,ho,_⟩:=I.ok.funs.mem hb
    exact I.base.free b o ho (I.ok.frf b hb) λz=>I.ok.exfs b z hb
def Inv.step {g':Array GenState}{t':Nat}{d':Drawn}{ch:List Addr}(I:Inv X Px U H s)
    (hch:∀ b∈ch,(b∈X.ex\/X.s₀.heap.objs.size<=b)/\b≠X.env.locals/\(∀ x c,X.env.cells.lookup x=some c->c≠b)/\∀ p∈X.pn++Px,p.1≠b)
    (keep:∀ b o,b≠X.env.locals->b∉X.fs->b∉ch->s.heap.get? b=some o->H b=none->h'.get? b=some o)
    (slot:∀ b o,b≠X.env.locals->b∈X.fs->b∉ch->s.heap.get? b=some o->H b=none->∃ sl,h'.get? b=some { o with slots:=sl }) (free:∀ b o,b∉ch->s.heap.get? b=some o->H b=none->H' b=none)
    (there:∀ b o,b∉ch->s.heap.get? b=some o->∃ o',h'.get? b=some o')
    (tups:∀ b xs,H b=some (.tup xs)->H' b=some (.tup xs)) (frzs:∀ b o u,H b=some (.frz o u)->H' b=some (.frz o u)) (tbls:∀ b ps,H b=some (.tbl ps)->∃ more,H' b=some (.tbl (ps++more)))
    (ns:∀ m,s.heap.Ns X.env.locals m->h'.Ns X.env.locals m) (hok:HOk X.prog X.w H' h') (hg:AllBare g') :
    Inv X Px U H' { s with heap:=h',gens:=g',drawn:=d',toks:=t' }:=by
  have neL:∀ b o,X.s₀.heap.get? b=some o->b≠X.env.locals:=λb o e=>bL (cA (aT e) I.ok.above);have neC:∀ b o,X.s₀.heap.get? b=some o->b∉X.ex->b∉ch:=λb o e hx hb=>by
    rcases (hch b hb).1 with z|z
    · exact hx z
    · exact absurd (cA (aT e) z) (dE _)
  have cellK:∀ x c,X.env.cells.lookup x=some c->∀ v,s.heap.IsCell c v->h'.IsCell c v:=λx c e v ⟨o,ho,hd⟩=>by
    have nch:c∉ch:=λz=>(hch c z).2.2.1 x c e rfl;by_cases hc:c∈X.fs
    · obtain ⟨sl,q⟩:=slot c o (I.cne x c e) hc nch ho (I.freeC x c e)
      exact #[_,q,hd]
    · exact #[o,keep c o (I.cne x c e) hc nch ho (I.freeC x c e),hd]
  refine #[I.ok,I.os,hg,#[λb o e n hb hx=>?_,λb o e n hb hx=>?_,λb o e n hx=>?_,λb o e hx=>?_,λb xs e=>tups b xs (I.base.tups b xs e),λb o xs e=>frzs b o xs (I.base.frzs b o xs e),λb ps e=>?_],?_,λx c e=>?_,?_,λx c e=>?_,λp hp=>?_,hok,I.len]
  · exact keep b o (neL b o e) hb (neC b o e hx) (I.base.keep b o e n hb hx) (I.base.free b o e n hx)
  · obtain ⟨sl,e1⟩:=I.base.slot b o e n hb hx
    obtain ⟨sl',e2⟩:=slot b _ (neL b o e) hb (neC b o e hx) e1 (I.base.free b o e n hx);exact #[sl',e2]
  · obtain ⟨o',e1⟩:=I.base.there b o e hx
    exact free b o' (neC b o e hx) e1 (I.base.free b o e n hx)
  · obtain ⟨o',e1⟩:=I.base.there b o e hx
    exact there b o' (neC b o e hx) e1
  · obtain ⟨m1,e1⟩:=I.base.tbls b ps e
    obtain ⟨m2,e2⟩:=tbls b _ e1;exact #[m1++m2,by rw[e2,Array.append_assoc]]
  · obtain ⟨m,hn,hl⟩:=I.loc
    refine #[m,ns m hn,λi x v e1 e2 e3=>?_];obtain ⟨u,r,l⟩:=hl i x v e1 e2 e3;refine #[u,r,?_];rcases l with l|⟨k,c,e,z⟩
    · exact .inl l
    · exact .inr #[k,c,e,cellK x c e _ z]
  · obtain ⟨v,z⟩:=I.cell x c e
    exact #[v,cellK x c e v z]
  · obtain ⟨m,⟨o,_,_,ho,_⟩,_⟩:=I.loc
    exact free _ o (λz=>(hch _ z).2.1 rfl) ho I.free
  · obtain ⟨v,o,ho,hd⟩:=I.cell x c e
    exact free c o (λz=>(hch c z).2.2.1 x c e rfl) ho (I.freeC x c e)
  · obtain ⟨e,n,ne,nf,d⟩:=I.pin p hp
    have nch:p.1∉ch:=λz=>(hch p.1 z).2.2.2 p hp rfl;exact #[keep p.1 p.2 ne nf nch e n,free p.1 p.2 nch e n,ne,nf,d]
def Inv.un {t':Nat}(I:Inv X Px U H s)(u:Un X.fs [] H H' s.heap h')(hok:HOk X.prog X.w H' h'):Inv X Px U H' { s with heap:=h',toks:=t' }:=by
  obtain ⟨m,⟨o,es,ep,ho,r⟩,_⟩:=id I.loc;obtain ⟨sl,hL⟩:=u.any ho I.free (by simp);exact I.step (g':=s.gens) (d':=s.drawn) (ch:=[]) (λ_ z=>nomatch z) (λb o _ hb _ e n=>u.keep b o e n hb (by simp)) (λb o _ hb _ e n=>u.slot b o e n hb (by simp)) (λb o _ e n=>u.free b o e n (by simp)) (λb o _ e=>u.there b o e (by simp)) u.tups u.frzs u.tbls (λm' hm=>by
    obtain ⟨o',es',ep',ho',r'⟩:=hm;rw[ho]at ho';cases ho'
    exact #[_,es',ep',hL,r']) hok I.bare
def Inv.call {g':Array GenState}{t':Nat}{d':Drawn}{ch:List Addr}(I:Inv X Px U H s)(u:Un (frs X.stack) ch H H' s.heap h')(hok:HOk X.prog X.w H' h')(hg:AllBare g')
    (hch:∀ b∈ch,(b∈X.ex\/X.s₀.heap.objs.size<=b)/\b≠X.env.locals/\(∀ x c,X.env.cells.lookup x=some c->c≠b)/\∀ p∈X.pn++Px,p.1≠b) :
    Inv X Px U H' { s with heap:=h',gens:=g',drawn:=d',toks:=t' }:=by
  obtain ⟨m,⟨o,es,ep,ho,r⟩,_⟩:=id I.loc;obtain ⟨sl,hL⟩:=u.any ho I.free λz=>(hch _ z).2.1 rfl;exact I.step (ch:=ch) hch (λb o hL hb hc e n=>u.keep b o e n (λz=>(aW.mp (I.stkSub b z)).elim hL hb) hc) (λb o _ _ hc e n=>u.any e n hc) (λb o hc e n=>u.free b o e n hc) (λb o hc e=>u.there b o e hc) u.tups u.frzs u.tbls (λm' hm=>by
    obtain ⟨o',es',ep',ho',r'⟩:=hm;rw[ho]at ho';cases ho'
    exact #[_,es',ep',hL,r']) hok hg
def Inv.turned {t':Nat}{it:Addr}(I:Inv X Px U H s)(k:∀ b o,b≠it->s.heap.get? b=some o->h'.get? b=some o)(hn:H it=none)(hL:it≠X.env.locals)
    (h1:it∈X.ex\/X.s₀.heap.objs.size<=it) (h2:∀ x c,X.env.cells.lookup x=some c->c≠it) (h3:∀ p∈X.pn++Px,p.1≠it):Inv X Px U H { s with heap:=h',toks:=t' }:=by
  have nit:∀ b u,H b=some u->b≠it:=λb u e z=>by rw[z,hn]at e;cases e
  refine I.step (g':=s.gens) (d':=s.drawn) (ch:=[it]) (λb hb=>?_) (λb o _ _ hc e _=>k b o (λz=>hc (by simp[z])) e) (λb o _ _ hc e _=>#[o.slots,k b o (λz=>hc (by simp[z])) e]) (λ_ _ _ _ n=>n)
    (λb o hc e=>#[o,k b o (λz=>hc (by simp[z])) e]) (λ_ _ e=>e) (λ_ _ _ e=>e) (λb ps e=>#[(List.toArray []),by rw[e];simp]) (λm hm=>?_) (λb u e=>?_) I.bare
  · have e:b=it:=by simpa using hb
    subst e;exact #[h1,hL,h2,h3]
  · obtain ⟨o,es,ep,ho,r⟩:=hm
    exact #[o,es,ep,k _ o (bf hL) ho,r]
  · refine (I.hok b u e).stay (λc v hc q=>k c v ?_ q) (λ_ q=>q) λ_ _ q=>q
    rcases hc with z|z
    · rw[z];exact nit b u e
    · exact nit c _ z
def Inv.tok (I:Inv X Px U H s)(t:Nat):Inv X Px U H { s with toks:=t }:=I.un (h':=s.heap) (t':=t) Un.refl I.hok
def Inv.kept {t':Nat}(I:Inv X Px U H s)(k:∀ b u,s.heap.get? b=some u->h'.get? b=some u):Inv X Px U H { s with heap:=h',toks:=t' }:=I.un (Un.kept k) (I.hok.kept k)
def Inv.laid {a:Addr}{t':Nat}(I:Inv X Px U H s)(k:∀ b u,s.heap.get? b=some u->h'.get? b=some u)(hp:s.heap.objs.size<=a)(new:bN X.prog X.w (upd H a o) h' a o) :
    Inv X Px U (upd H a o) { s with heap:=h',toks:=t' }:=I.un (Un.laid k hp (I.hok.fresh hp)) (I.hok.laid k hp new)
def Inv.write {x e:Addr}{t':Nat}(I:Inv X Px U H s)(mu:Mut (H x))(he:e=x\/H e=some (.own x))(k:∀ b u,b≠e->s.heap.get? b=some u->h'.get? b=some u)(heo:∃ u,h'.get? e=some u)
    (new:bN X.prog X.w (upd H x o) h' x o):Inv X Px U (upd H x o) { s with heap:=h',toks:=t' }:=I.un (Un.write mu he k heo) (I.hok.write mu he k heo new)
def Inv.pins_of {pins':List (Addr×Obj)}(I:Inv X Px U H s)(h:∀ p∈pins',s.heap.get? p.1=some p.2/\H p.1=none/\p.1≠X.env.locals/\p.1∉X.fs/\∀ v,p.2.data≠.cell v):Inv X pins' U H s:=
  #[I.ok,I.os,I.bare,I.base,I.loc,I.cell,I.free,I.freeC,λp hp=>(cx.mp hp).elim (λz=>I.pin p (List.mem_append_left _ z)) (h p),I.hok,I.len]
def zI {N:List Str}(hN:N.Nodup){i j:Nat}{x:Str}(a:N[i]?=some x)(b:N[j]?=some x):i=j:=by
  obtain ⟨h1,e1⟩:=aZ.mp a;obtain ⟨h2,e2⟩:=aZ.mp b;exact (List.getElem_inj hN).mp (e1.trans e2.symm)
def zJ {M:Model}{A:Around}{E:Value->Shared->Prop}{i:Nat}{x:Str}{v:V}{u:Value}{Q:Unit->Shared->Prop}(I:Inv X Px U H s)(hN:X.N.Nodup)(hi:X.N[i]?=some x)(hx:Loc X.env.scope x)(r:RelV v u)
    (h:∀ s',Inv X Px (U.set i (some v)) H s'->(∃ a,Heap.SameBut a s.heap s'.heap/\(a=X.env.locals\/X.env.cells.lookup x=some a))->Q () s') (hf:X.fn x=true\/X.env.scope.names.lookup x=some .local:=by first|exact .inl rfl|exact .inr rfl|assumption):wpAny M A (storeName X.env x u) Q E s:=by
  obtain ⟨m,hn,hl⟩:=id I.loc;have hcls:(X.env.scope.kind == .class||(X.env.scope.kind == .module&&X.env.locals != X.env.globals))=false:=by rw[I.ok.kind];rfl
  have hiσ:i<U.length:=by rw[I.len];exact (aZ.mp hi).1
  have cne:=I.cne;have tracked:∀{a:Addr} {h':Heap},(∃ o,s.heap.get? a=some o/\H a=none)->Heap.SameBut a s.heap h'->HOk X.prog X.w H h':=λ{a h'} ha hs b ob e=>by
    obtain ⟨_,_,hfree⟩:=ha;refine (I.hok b ob e).stay (λc w' hc q=>(hs.2 c ?_).trans q) (λ_ q=>q) λ_ _ q=>q;rintro rfl;rcases hc with rfl|hc
    · rw[hfree]at e;cases e
    · rw[hfree]at hc;cases hc
  rcases hx with hk|hk
  · refine wpAny_storeName_local hk hn (λh' hn' hs=>?_) hcls
    obtain ⟨oL,_,_,hoL,_⟩:=id hn;refine h _ #[I.ok,I.os,I.bare,#[λb o e n hb hx=>?_,λb o e n hb hx=>?_,I.base.free,λb o e hx=>?_,I.base.tups,I.base.frzs,I.base.tbls],#[_,hn',λj y v' e1 e2 e3=>?_],λy c e=>?_,I.free,I.freeC,λp hp=>?_,tracked #[oL,hoL,I.free] hs,by simpa using I.len] #[_,hs,.inl rfl]
    · exact (hs.2 b (bL (cA (aT e) I.ok.above))).trans (I.base.keep b o e n hb hx)
    · obtain ⟨sl,e1⟩:=I.base.slot b o e n hb hx
      exact #[sl,(hs.2 b (bL (cA (aT e) I.ok.above))).trans e1]
    · obtain ⟨o',e1⟩:=I.base.there b o e hx
      exact #[o',(hs.2 b (bL (cA (aT e) I.ok.above))).trans e1]
    · by_cases hj:j=i
      · subst hj
        rw[hi]at e1;cases e1
        rw[List.getElem?_set_self hiσ]at e2;cases e2
        exact #[u,r,.inl #[hk,by simp]]
      · rw[List.getElem?_set_ne (bf hj)]at e2
        obtain ⟨u',r',q⟩:=hl j y v' e1 e2 e3;refine #[u',r',?_];rcases q with ⟨k,e⟩|⟨k,c,e,z⟩
        · refine .inl #[k,?_]
          have:y≠x:=λe=>hj (zI hN e1 (e ▸ hi));simp[this,e]
        · exact .inr #[k,c,e,z.sameBut hs (cne y c e)]
    · obtain ⟨w',z⟩:=I.cell y c e
      exact #[w',z.sameBut hs (cne y c e)]
    · obtain ⟨e,n,ne,nf,d⟩:=I.pin p hp
      exact #[(hs.2 p.1 ne).trans e,n,ne,nf,d]
  · have hfn:X.fn x=true:=by
      rcases hf with z|z
      · exact z
      · rw[z]at hk;cases hk
    obtain ⟨c,hc⟩:=I.ok.has x (.inl hk);obtain ⟨w',z⟩:=I.cell x c hc;refine wpAny_storeName_cell I.ok.kind hk hc z (λh' hc' hs=>?_);obtain ⟨oc,hoc,hocd⟩:=id z;refine h { s with heap:=h' } #[I.ok,I.os,I.bare,#[λb o e n hb hx=>?_,λb o e n hb hx=>?_,I.base.free,λb o e hx=>?_,I.base.tups,I.base.frzs,I.base.tbls],#[m,hn.sameBut hs (bf (cne x c hc)),λj y v' e1 e2 e3=>?_],λy c' e=>?_,I.free,I.freeC,λp hp=>?_,tracked #[oc,hoc,I.freeC x c hc] hs,by simpa using I.len] #[c,hs,.inr hc]
    · exact (hs.2 b (bL (cA (aT e) (I.ok.cab x c hfn hc)))).trans (I.base.keep b o e n hb hx)
    · obtain ⟨sl,e1⟩:=I.base.slot b o e n hb hx
      exact #[sl,(hs.2 b (bL (cA (aT e) (I.ok.cab x c hfn hc)))).trans e1]
    · obtain ⟨o',e1⟩:=I.base.there b o e hx
      exact #[o',(hs.2 b (bL (cA (aT e) (I.ok.cab x c hfn hc)))).trans e1]
    · by_cases hj:j=i
      · subst hj
        rw[hi]at e1;cases e1
        rw[List.getElem?_set_self hiσ]at e2;cases e2
        exact #[u,r,.inr #[.inl hk,c,hc,hc']]
      · rw[List.getElem?_set_ne (bf hj)]at e2
        obtain ⟨u',r',q⟩:=hl j y v' e1 e2 e3;refine #[u',r',?_];rcases q with q|⟨k,c',e,z'⟩
        · exact .inl q
        · refine .inr #[k,c',e,z'.sameBut hs ?_]
          rintro rfl;exact hj (zI hN e1 (I.ok.inj _ _ _ e hc ▸ hi))
    · by_cases hcc:c'=c
      · subst hcc;exact #[_,hc']
      · obtain ⟨w2,z2⟩:=I.cell y c' e
        exact #[w2,z2.sameBut hs hcc]
    · obtain ⟨e,n,ne,nf,d⟩:=I.pin p hp
      refine #[(hs.2 p.1 ?_).trans e,n,ne,nf,d];intro q;rw[q,hoc]at e;have q':oc=p.2:=aM e;exact d w' (by rw[<-q'];exact hocd)
def zK {M:Model}{A:Around}{E:Value->Shared->Prop}{i:Nat}{x:Str}{v:V}{u:Value}{Q:Unit->Shared->Prop}(I:Inv X Px U H s)(hN:X.N.Nodup)(hi:X.N[i]?=some x)(hx:Loc X.env.scope x)(r:RelV v u)
    (h:∀ s',Inv X Px (U.set i (some v)) H s'->Q () s') (hf:X.fn x=true\/X.env.scope.names.lookup x=some .local:=by first|exact .inl rfl|exact .inr rfl|assumption):wpAny M A (storeName X.env x u) Q E s:=
  zJ I hN hi hx r (λs' I' _=>h s' I') hf
def Inv.call' {s':Shared}{ch:List Addr}(I:Inv X Px U H s)(ho:s'.os=s.os)(u:Un (frs X.stack) ch H H' s.heap s'.heap)(hok:HOk X.prog X.w H' s'.heap)(hg:AllBare s'.gens)
    (hch:∀ b∈ch,(b∈X.ex\/X.s₀.heap.objs.size<=b)/\b≠X.env.locals/\(∀ x c,X.env.cells.lookup x=some c->c≠b)/\∀ p∈X.pn++Px,p.1≠b):Inv X Px U H' s':=by
  obtain ⟨h',g',d',t',o'⟩:=s';have e:o'=s.os:=ho;subst e;exact I.call (g':=g') (t':=t') (d':=d') u hok hg hch
end
abbrev XK:=Value->Option Addr->Hp->Prop
abbrev St:=List (Option V)
abbrev VK:=V->Hp->Prop
abbrev TE:=St->Hp->VK->Prop
abbrev TT:=St->Hp->(Bool->Hp->Prop)->Prop
abbrev TA:=St->Hp->(List V->Hp->Prop)->Prop
structure Ends where
  nx:St->Hp->Prop
  rt:VK
  bk:St->Hp->Prop:=λ_ _=>False
  ct:St->Hp->Prop:=λ_ _=>False
abbrev TS:=Ends->St->Hp->Prop
inductive EP (X:Cx)(Px:List (Addr×Obj))(U:St)(Q:VK)(u:Value)(s':Shared):Prop
  | c:∀ v H',Inv X Px U H' s'->RelV v u->Q v H'->EP X Px U Q u s'
def TP (X:Cx)(Px:List (Addr×Obj))(U:St)(Q:Bool->Hp->Prop)(b:Bool)(s':Shared):Prop:=∃ H',Inv X Px U H' s'/\Q b H'
inductive AP (X:Cx)(Px:List (Addr×Obj))(U:St)(Q:List V->Hp->Prop)(us:List Value)(s':Shared):Prop
  | c:∀ vs H',Inv X Px U H' s'->Vals vs us->Q vs H'->AP X Px U Q us s'
def SP (X:Cx)(Px:List (Addr×Obj))(D:Ends)(f:Flow)(s':Shared):Prop:=
  match f with
  | .next=>∃ U' H',Inv X Px U' H' s'/\D.nx U' H'
  | .brk=>∃ U' H',Inv X Px U' H' s'/\D.bk U' H'
  | .cont=>∃ U' H',Inv X Px U' H' s'/\D.ct U' H'
  | .ret u=>∃ v U' H',Inv X Px U' H' s'/\RelV v u/\D.rt v H'
def PE (X:Cx)(e:Expr)(t:TE):Prop:=
  ∀(Px:List (Addr×Obj)) (s:Shared) (U:St) (H:Hp) (Q:VK),Inv X Px U H s->t U H Q->wpAny (model X.prog X.w) X.A (eval e X.env) (EP X Px U Q) X.xe s
def PT (X:Cx)(e:Expr)(t:TT):Prop:=
  ∀(Px:List (Addr×Obj)) (s:Shared) (U:St) (H:Hp) (Q:Bool->Hp->Prop),Inv X Px U H s->t U H Q->wpAny (model X.prog X.w) X.A (isTrue e X.env (eval e X.env)) (TP X Px U Q) X.xe s
def PW (X:Cx)(e:Expr)(t:TT):Prop:=
  ∀(whole:Sem Value) (Px:List (Addr×Obj)) (s:Shared) (U:St) (H:Hp) (Q:Bool->Hp->Prop),Inv X Px U H s->t U H Q->wpAny (model X.prog X.w) X.A (isTrue e X.env whole) (TP X Px U Q) X.xe s
def PW.pt {t:TT}(h:PW X e t):PT X e t:=h _
def PA (X:Cx)(es:List Expr)(t:TA):Prop:=
  ∀(pos:Pos) (Px:List (Addr×Obj)) (s:Shared) (U:St) (H:Hp) (Q:List V->Hp->Prop),Inv X Px U H s->t U H Q->wpAny (model X.prog X.w) X.A (spliced (backTo pos (starEach es X.env))) (AP X Px U Q) X.xe s
def PS (X:Cx)(st:Stmt)(t:TS):Prop:=
  ∀(Px:List (Addr×Obj)) (s:Shared) (U:St) (H:Hp) (D:Ends),Inv X Px U H s->t D U H->wpAny (model X.prog X.w) X.A (exec st X.env) (SP X Px D) X.xe s
def PSs (X:Cx)(st:List Stmt)(t:TS):Prop:=
  ∀(Px:List (Addr×Obj)) (s:Shared) (U:St) (H:Hp) (D:Ends),Inv X Px U H s->t D U H->wpAny (model X.prog X.w) X.A (execs st X.env) (SP X Px D) X.xe s
def thn {α:Type}{t:Sem α}{Q Q':α->Shared->Prop}{M:Model}{A:Around}{E:Value->Shared->Prop}{s:Shared}(h:wpAny M A t Q E s)(hQ:∀ a s,Q a s->Q' a s):wpAny M A t Q' E s:=dS h hQ λ_ _ x=>x
section
variable {X:Cx}
inductive tVar (i:Nat)(U:St)(H:Hp)(Q:VK):Prop
  | c:∀ v,U[i]?=some (some v)->Q v H->tVar i U H Q
def tC (v:V):TE:=λ_ H Q=>Q v H
def Ff {i:Nat}{x:Str}{pos:Pos}(hN:X.N[i]?=some x)(hv:Vis X.env.scope x)(hd:(x==("__debug__" : Str))=false:=by decide)(hcd:(x==("__classdict__" : Str))=false:=by decide):PE X (.Name x pos) (tVar i):=by
  intro Px s U H Q I h;obtain ⟨v,e,h⟩:=h;obtain ⟨m,hn,hl⟩:=I.loc;obtain ⟨u,r,l⟩:=hl i x v hN e hv;have fin:EP X Px U Q u s:=#[v,H,I,r,h];rcases l with ⟨hk,hm⟩|⟨hk,c,hc,hcell⟩
  · exact wpAny_Name (wpAny_loadName_local I.ok.kind hk hn hm fin) hd
  · rcases hk with hk|hk
    · exact wpAny_Name (wpAny_loadName_cell I.ok.kind hk hc hcell fin) hd
    · exact wpAny_Name (wpAny_loadName_free I.ok.kind hk hc hcell fin hcd) hd
def ag {i j pos}:PE X (.Constant (.int i) j pos) (tC (.int i)):=λ_ _ _ H _ I h=>wpAny_Constant_int #[.int i,H,I.tok _,#[_,rfl],h]
def cL {b j pos}:PE X (.Constant (.bool b) j pos) (tC (.bl b)):=λ_ _ _ H _ I h=>Constant_bool #[.bl b,H,I,rfl,h]
def oF {j pos}:PE X (.Constant .none j pos) (tC .non):=λ_ _ _ H _ I h=>Constant_none #[.non,H,I,rfl,h]
def fE {x j pos}:PE X (.Constant (.str x) j pos) (tC (.str x)):=λ_ _ _ H _ I h=>Calls.Constant_str #[.str x,H,I.tok _,#[_,rfl],h]
def Gl (X:Cx)(x:Str):Prop:=X.env.kindOf x=some .globalImplicit
def ji {E:Value->Shared->Prop}{u:Value}{pos:Pos}{Q:Value->Shared->Prop}(I:Inv X Px U H s)(hg:Gl X x)(hm:X.mg x=some u)(h:Q u s)
    (hd:(x==("__debug__" : Str))=false:=by decide):wpAny (model X.prog X.w) X.A (eval (.Name x pos) X.env) Q E s:=
  Calls.Name_function_global I.ok.kind hg (Calls.loadGlobal_global (by rw[I.ok.glob];exact I.mod.glob.keeps I.bk) hm h) hd
def fV {E:Value->Shared->Prop}{u:Value}{pos:Pos}{Q:Value->Shared->Prop}(I:Inv X Px U H s)(hg:Gl X x)(hm:X.mg x=none)(hv:bootBuiltins x=some u)(h:Q u s)
    (hn:x ≠ "__name__":=by decide) (hd:(x==("__debug__" : Str))=false:=by decide):wpAny (model X.prog X.w) X.A (eval (.Name x pos) X.env) Q E s:=by
  obtain ⟨mb,h1,h2⟩:=I.mod.blt;exact Calls.Name_function_global I.ok.kind hg (Calls.loadGlobal_builtin (by rw[I.ok.glob];exact I.mod.glob.keeps I.bk) hm (by rw[I.ok.blt];exact h1.keeps I.bk) ((h2 x hn).trans hv) h) hd
def Fg {v:V}{u:Value}{pos:Pos}(hg:Gl X x)(hm:X.mg x=some u)(r:RelV v u)(hd:(x==("__debug__" : Str))=false:=by decide):PE X (.Name x pos) (tC v):=
  λ_ _ _ H _ I h=>ji I hg hm #[v,H,I,r,h] hd
def fF {v:V}{u:Value}{pos:Pos}(hg:Gl X x)(hm:X.mg x=none)(hv:bootBuiltins x=some u)(r:RelV v u)(hn:x ≠ "__name__":=by decide)(hd:(x==("__debug__" : Str))=false:=by decide):PE X (.Name x pos) (tC v):=
  λ_ _ _ H _ I h=>fV I hg hm hv #[v,H,I,r,h] hn hd
variable {a b:Expr}{ta tb:TE}{pos:Pos}
inductive GtB (Q:Bool->Hp->Prop)(x:V)(H1:Hp):Prop
  | c:∀ c,x=.bl c->Q c H1->GtB Q x H1
def tB (t:TE):TT:=λU H Q=>t U H λx H1=>GtB Q x H1
def c6 {t:TE}(h:PE X e t)(he:∀ whole,isTrue e X.env whole=(do let v <-whole;standAt e.pos;holding [v] (truthy v)):=by intro _;rfl):PT X e (tB t):=by
  intro Px s U H Q I hw;refine isTrue_plain (thn (h Px s U H _ I hw) λv s1 zq0=>?_) (he _);obtain ⟨x,H1,I1,r1,q1⟩:=zq0;obtain ⟨d,rfl,q⟩:=q1;cases r1
  exact wpAny_truthy_bool #[H1,I1,q]
variable {tA tB':TT}{rest:List Expr}
def tAnd (t u:TT):TT:=λU H Q=>t U H λc H1=>if c=true then u U H1 Q else Q false H1
def tOr (t u:TT):TT:=λU H Q=>t U H λc H1=>if c=true then Q true H1 else u U H1 Q
def tNot (t:TT):TT:=λU H Q=>t U H λc H1=>Q (!c) H1
def iw (ha:PT X a tA):PW X (.BoolOp .And [a] pos) tA:=by
  intro wh Px s U H Q I h;refine isTrue_and (thn (ha Px s U H Q I h) λc s1 e=>?_);cases c with
  | true=>exact isTrue_and_nil e
  | false=>exact e
def jk (ha:PT X a tA):PW X (.BoolOp .Or [a] pos) tA:=by
  intro wh Px s U H Q I h;refine isTrue_or (thn (ha Px s U H Q I h) λc s1 e=>?_);cases c with
  | false=>exact isTrue_or_nil e
  | true=>exact e
def ix (ha:PT X a tA)(hb:PW X (.BoolOp .And (b::rest) pos) tB'):PW X (.BoolOp .And (a::b::rest) pos) (tAnd tA tB'):=by
  intro wh Px s U H Q I h;refine isTrue_and (thn (ha Px s U H _ I h) λc s1 zq0=>?_);obtain ⟨H1,I1,q1⟩:=zq0;cases c with
  | true=>exact hb wh Px s1 U H1 Q I1 q1
  | false=>exact #[H1,I1,q1]
def jl (ha:PT X a tA)(hb:PW X (.BoolOp .Or (b::rest) pos) tB'):PW X (.BoolOp .Or (a::b::rest) pos) (tOr tA tB'):=by
  intro wh Px s U H Q I h;refine isTrue_or (thn (ha Px s U H _ I h) λc s1 zq0=>?_);obtain ⟨H1,I1,q1⟩:=zq0;cases c with
  | true=>exact #[H1,I1,q1]
  | false=>exact hb wh Px s1 U H1 Q I1 q1
def dG (ha:PT X a tA):PT X (.UnaryOp .Not a pos) (tNot tA):=by
  intro Px s U H Q I h;exact isTrue_not (ha Px s U H (λc H1=>Q (!c) H1) I h)
inductive zL (tb:TE)(U:St)(Q:VK)(x:V)(H1:Hp):Prop
  | c:∀ c,x=.bl c->(if c=true then tb U H1 Q else Q (.bl false) H1)->zL tb U Q x H1
def Fh (ta tb:TE):TE:=λU H Q=>ta U H λx H1=>zL tb U Q x H1
inductive zM (tb:TE)(U:St)(Q:VK)(x:V)(H1:Hp):Prop
  | c:∀ c,x=.bl c->(if c=true then Q (.bl true) H1 else tb U H1 Q)->zM tb U Q x H1
def tOrV (ta tb:TE):TE:=λU H Q=>ta U H λx H1=>zM tb U Q x H1
inductive zN (Q:VK)(x:V)(H1:Hp):Prop
  | c:∀ c,x=.bl c->Q (.bl (!c)) H1->zN Q x H1
def Fi (ta:TE):TE:=λU H Q=>ta U H λx H1=>zN Q x H1
def oG {op}{t:TE}(h:PE X a t):PE X (.BoolOp op [a] pos) t:=λPx s U H Q I hw=>BoolOp_one (h Px s U H Q I hw)
def uC (ha:PE X a ta)(hb:PE X (.BoolOp .And (b::rest) pos) tb):PE X (.BoolOp .And (a::b::rest) pos) (Fh ta tb):=by
  intro Px s U H Q I h;refine BoolOp_and (thn (ha Px s U H _ I h) λv s1 zq0=>?_);obtain ⟨x,H1,I1,r1,q1⟩:=zq0;obtain ⟨c,rfl,q1⟩:=q1;cases r1
  refine wpAny_truthy_bool ?_;cases c with
  | true=>exact hb Px s1 U H1 Q I1 q1
  | false=>exact #[.bl false,H1,I1,rfl,q1]
def Fj (ha:PE X a ta)(hb:PE X (.BoolOp .Or (b::rest) pos) tb):PE X (.BoolOp .Or (a::b::rest) pos) (tOrV ta tb):=by
  intro Px s U H Q I h;refine BoolOp_or (thn (ha Px s U H _ I h) λv s1 zq0=>?_);obtain ⟨x,H1,I1,r1,q1⟩:=zq0;obtain ⟨c,rfl,q1⟩:=q1;cases r1
  refine wpAny_truthy_bool ?_;cases c with
  | false=>exact hb Px s1 U H1 Q I1 q1
  | true=>exact #[.bl true,H1,I1,rfl,q1]
def Fk (ha:PE X a ta):PE X (.UnaryOp .Not a pos) (Fi ta):=by
  intro Px s U H Q I h;refine UnaryOp_ (thn (ha Px s U H _ I h) λv s1 zq0=>?_);obtain ⟨x,H1,I1,r1,q1⟩:=zq0;obtain ⟨c,rfl,q1⟩:=q1;cases r1
  exact not_of (wpAny_truthy_bool #[.bl (!c),H1,I1,rfl,q1])
def tIf (t:TT)(ta tb:TE):TE:=λU H Q=>t U H λc H1=>if c=true then ta U H1 Q else tb U H1 Q
def zO (hc:PT X c tA)(ha:PE X a ta)(hb:PE X b tb):PE X (.IfExp c a b pos) (tIf tA ta tb):=by
  intro Px s U H Q I h;refine wpAny_IfExp (thn (hc Px s U H _ I h) λd s1 zq0=>?_);obtain ⟨H1,I1,q1⟩:=zq0;cases d with
  | true=>exact ha Px s1 U H1 Q I1 q1
  | false=>exact hb Px s1 U H1 Q I1 q1
end
def SqL (K:Frag)(H:Hp)(a:Addr)(xs:List V):Prop:=
  Rd H a (.lst xs)\/
    ∃(o:Obj) (its:Array Value) (n:Nat),K.lookup a=some o/\o.cls=.type "list"/\o.dict=none/\o.data=.seq its n/\its.size<=sizeLine/\Vals xs its.toList
def SqT (K:Frag)(H:Hp)(a:Addr)(xs:List V):Prop:=
  Rd H a (.tup xs)\/
    ∃(o:Obj) (its:Array Value) (n:Nat),K.lookup a=some o/\o.cls=.type "tuple"/\o.data=.seq its n/\its.size<=sizeLine/\Vals xs its.toList
def absV:Value->Option V
  | .none=>some .non
  | .bool b=>some (.bl b)
  | .int i _=>some (.int i)
  | .str x _=>some (.str x)
  | .bytes b _=>some (.byt b)
  | .float b _=>some (.flt b)
  | .ref a=>some (.ref a)
  | .type n=>some (.ty n)
  | _=>none
def RelV.abs {x:V}{u:Value}(r:RelV x u):absV u=some x:=by
  cases x with
  | non=>cases r;rfl
  | bl _=>cases r;rfl
  | int _=>obtain ⟨t,rfl⟩:=r;rfl
  | str _=>obtain ⟨t,rfl⟩:=r;rfl
  | byt _=>obtain ⟨t,rfl⟩:=r;rfl
  | flt _=>obtain ⟨t,rfl⟩:=r;rfl
  | ref _=>cases r;rfl
  | ty _=>cases r;rfl
def RelV.inj {x y:V}{u:Value}(r:RelV x u)(q:RelV y u):x=y:=aM (r.abs.symm.trans q.abs)
def Vals.inj:∀{xs ys:List V} {us:List Value},Vals xs us->Vals ys us->xs=ys
  | _,_,_,.nil,.nil=>rfl
  | _,_,_,.cons r t,.cons r' t'=>by rw[r.inj r',Vals.inj t t']
section
variable {X:Cx}{Px:List (Addr×Obj)}{U:St}{H:Hp}{s:Shared}{a:Addr}{xs ys:List V}
def SqL.of {K:Frag}(h:H a=some (.lst xs)):SqL K H a xs:=.inl (.inl h)
def SqT.of {K:Frag}(h:H a=some (.tup xs)):SqT K H a xs:=.inl (.inl h)
def Inv.list (I:Inv X Px U H s)(h:SqL X.K H a xs):∃ its:List Value,Vals xs its/\PlainL s.heap a its.toArray/\xs.length<=sizeLine:=by
  rcases h with h|⟨o,its,n,hk,hc,hd,hs,hz,r⟩
  · obtain ⟨z,its,n,r,e⟩:=h.ok I.hok
    exact #[its,r,#[_,n,e,rfl,rfl,rfl],z]
  · refine #[its.toList,r,#[o,n,I.kIn a o hk,hc,hd,by simpa using hs],?_]
    have e:=r.length;simp only[ie]at e;lia
def Inv.tuple (I:Inv X Px U H s)(h:SqT X.K H a xs):∃ its:List Value,Vals xs its/\IsTup s.heap a its.toArray/\xs.length<=sizeLine:=by
  rcases h with h|⟨o,its,n,hk,hc,hs,hz,r⟩
  · obtain ⟨z,its,r,p⟩:=h.ok I.hok
    exact #[its,r,p,z]
  · refine #[its.toList,r,#[o,I.kIn a o hk,hc,n,by simpa using hs],?_]
    have e:=r.length;simp only[ie]at e;lia
def Inv.list_inj (I:Inv X Px U H s)(h:SqL X.K H a xs)(h':SqL X.K H a ys):xs=ys:=by
  obtain ⟨its,r,⟨o,n,e,_,_,d⟩,_⟩:=I.list h;obtain ⟨its',r',⟨o',n',e',_,_,d'⟩,_⟩:=I.list h';rw[e]at e';cases e'
  rw[d]at d';injection d' with d1 _;have:its=its':=by simpa using congrArg Array.toList d1
  subst this;exact r.inj r'
def Inv.tuple_inj (I:Inv X Px U H s)(h:SqT X.K H a xs)(h':SqT X.K H a ys):xs=ys:=by
  obtain ⟨its,r,⟨o,e,_,n,d⟩,_⟩:=I.tuple h;obtain ⟨its',r',⟨o',e',_,n',d'⟩,_⟩:=I.tuple h';rw[e]at e';cases e'
  rw[d]at d';injection d' with d1 _;have:its=its':=by simpa using congrArg Array.toList d1
  subst this;exact r.inj r'
end
abbrev Cx.wish (X:Cx)(E:Value->Shared->Prop):Cx:={ X with xe:=E }
abbrev Cx.nox (X:Cx):Cx:=X.wish λ_ _=>False
def Cx.Ok.wish {X:Cx}(ok:X.Ok)(E:Value->Shared->Prop):(X.wish E).Ok:=
  #[ok.mod,ok.kind,ok.glob,ok.blt,ok.above,ok.inj,ok.has,ok.cab,ok.hd,ok.frames,ok.stk,ok.exf,ok.bs,ok.bsz,ok.noex,ok.exfs,ok.funs,ok.frf]
def Cx.Ok.unwish {X:Cx}{E:Value->Shared->Prop}(ok:(X.wish E).Ok):X.Ok:=
  #[ok.mod,ok.kind,ok.glob,ok.blt,ok.above,ok.inj,ok.has,ok.cab,ok.hd,ok.frames,ok.stk,ok.exf,ok.bs,ok.bsz,ok.noex,ok.exfs,ok.funs,ok.frf]
section
variable {X:Cx}{Px:List (Addr×Obj)}{U:St}{H:Hp}{s:Shared}{E:Value->Shared->Prop}
def Inv.wish (I:Inv X Px U H s)(E:Value->Shared->Prop):Inv (X.wish E) Px U H s:=#[I.ok.wish E,I.os,I.bare,I.base,I.loc,I.cell,I.free,I.freeC,I.pin,I.hok,I.len]
def Inv.unwish (I:Inv (X.wish E) Px U H s):Inv X Px U H s:=#[I.ok.unwish,I.os,I.bare,I.base,I.loc,I.cell,I.free,I.freeC,I.pin,I.hok,I.len]
def SP.unwish {D:Ends}{f:Flow}(h:SP (X.wish E) Px D f s'):SP X Px D f s':=by
  cases f with
  | next=>obtain ⟨U',H',I,q⟩:=h;exact #[U',H',I.unwish,q]
  | brk=>obtain ⟨U',H',I,q⟩:=h;exact #[U',H',I.unwish,q]
  | cont=>obtain ⟨U',H',I,q⟩:=h;exact #[U',H',I.unwish,q]
  | ret u=>obtain ⟨v,U',H',I,r,q⟩:=h;exact #[v,U',H',I.unwish,r,q]
def PSs.nox {st:List Stmt}{t:TS}(h:PSs X.nox st t):PSs X st t:=λPx s U H D I hw=>
  dS (h Px s U H D (I.wish _) hw) (λ_ _ q=>q.unwish) λ_ _ z=>False.elim z
end
section
variable {X:Cx}{st:Stmt}{rest:List Stmt}{t u:TS}{e:Expr}{te:TE}{pos:Pos}
def Fl:TS:=λD U H=>D.nx U H
def tSeq (t u:TS):TS:=λD U H=>t { D with nx:=u D } U H
def bx:PSs X [] Fl:=λ_ _ U H _ I h=>wpAny_execs_nil #[U,H,I,h]
def aF (h1:PS X st t)(h2:PSs X rest u):PSs X (st::rest) (tSeq t u):=by
  intro Px s U H D I h;refine wpAny_execs_cons (thn (h1 Px s U H { D with nx:=u D } I h) λf s1 q=>?_);cases f with
  | next=>
    obtain ⟨U',H',I',q⟩:=q;exact h2 Px s1 U' H' D I' q
  | ret v=>exact q
  | brk=>exact q
  | cont=>exact q
def ao (h1:PS X st t):PSs X [st] t:=by
  intro Px s U H D I h;refine wpAny_execs_cons (thn (h1 Px s U H D I h) λf s1 q=>?_);cases f with
  | next=>exact wpAny_execs_nil q
  | ret v=>exact q
  | brk=>exact q
  | cont=>exact q
def Inv.quiet {s:Shared}(I:Inv X Px U H s):interactive X.env=false:=by simp[interactive,I.ok.kind]
def Fm (te:TE):TS:=λD U H=>te U H λ_ H1=>D.nx U H1
def cF (he:PE X e te)(hs:swapsWith e none pos.line X.env=pure false:=by rfl):PS X (.Expr e pos) (Fm te):=by
  intro Px s U H D I h;exact wpAny_Expr_any (thn (he Px s U H _ I h) λv s1 zq0=>(by obtain ⟨x,H1,I1,r1,q1⟩:=zq0;exact #[U,H1,I1,q1])) I.quiet hs
def tRet (te:TE):TS:=λD U H=>te U H D.rt
def aJ (he:PE X e te):PS X (.Return (some e) pos) (tRet te):=by
  intro Px s U H D I h;exact wpAny_Return_some (thn (he Px s U H _ I h) λv s1 zq0=>(by obtain ⟨x,H1,I1,r1,q1⟩:=zq0;exact #[x,U,H1,I1,r1,q1]))
def tIfS (c:TT)(t u:TS):TS:=λD U H=>c U H λb H1=>if b=true then t D U H1 else u D U H1
def bp {a:List Stmt}(hc:PT X c tc)(ha:PSs X a t)(hb:PSs X b u):PS X (.If c a b pos) (tIfS tc t u):=by
  intro Px s U H D I h;refine wpAny_If (thn (hc Px s U H _ I h) λd s1 zq0=>?_);obtain ⟨H1,I1,q1⟩:=zq0;cases d with
  | true=>exact ha Px s1 U H1 D I1 q1
  | false=>exact hb Px s1 U H1 D I1 q1
def Fn:TS:=λ_ _ _=>False
def dX:PS X st Fn:=λ_ _ _ _ _ _ h=>h.elim
end
abbrev TG:=V->St->Hp->(St->Hp->Prop)->Prop
abbrev TGs:=List V->St->Hp->(St->Hp->Prop)->Prop
def PG (X:Cx)(target:Expr)(t:TG):Prop:=
  ∀(Px:List (Addr×Obj)) (s:Shared) (U:St) (H:Hp) (v:V) (u:Value) (Q:St->Hp->Prop),Inv X Px U H s->RelV v u->t v U H Q->
    wpAny (model X.prog X.w) X.A (assign target X.env u) (λ_ s'=>∃ U' H',Inv X Px U' H' s'/\Q U' H') X.xe s
def PGs (X:Cx)(ts:List Expr)(t:TGs):Prop:=
  ∀(Px:List (Addr×Obj)) (s:Shared) (U:St) (H:Hp) (vs:List V) (us:List Value) (Q:St->Hp->Prop),Inv X Px U H s->Vals vs us->t vs U H Q->
    wpAny (model X.prog X.w) X.A (assignInOrder ((assignEach ts X.env).map (·.2)) us) (λ_ s'=>∃ U' H',Inv X Px U' H' s'/\Q U' H') X.xe s
abbrev TSet:=V->V->V->Hp->(Hp->Prop)->Prop
def PSet (X:Cx)(t:TSet):Prop:=
  ∀(Px:List (Addr×Obj)) (s:Shared) (U:St) (H:Hp) (o i v:V) (ov iv u:Value) (Q:Hp->Prop),Inv X Px U H s->RelV o ov->RelV i iv->RelV v u->t o i v H Q->
    wpAny (model X.prog X.w) X.A (setItem ov iv u) (λ_ s'=>∃ H',Inv X Px U H' s'/\Q H') X.xe s
section
variable {X:Cx}{pos:Pos}
def gI (i:Nat):TG:=λv U H Q=>Q (U.set i (some v)) H
def aQ {i:Nat}{x:Str}(hN:X.N.Nodup)(hi:X.N[i]?=some x)(hx:Loc X.env.scope x)(hf:X.fn x=true\/X.env.scope.names.lookup x=some .local:=by first|exact .inl rfl|exact .inr rfl|assumption):PG X (.Name x pos) (gI i):=by
  intro Px s U H v u Q I r h;exact wpAny_assign_Name (zK I hN hi hx r (λs' I'=>#[_,H,I',h]) hf)
inductive gNil (vs:List V)(U:St)(H:Hp)(Q:St->Hp->Prop):Prop
  | c:vs=[]->Q U H->gNil vs U H Q
inductive oH (t:TG)(u:TGs)(vs:List V)(U:St)(H:Hp)(Q:St->Hp->Prop):Prop
  | c:∀ v r,vs=v::r->(t v U H λU' H'=>u r U' H' Q)->oH t u vs U H Q
def iy:PGs X [] gNil:=by
  intro Px s U H vs us Q I r h;obtain ⟨e,h⟩:=h;subst e;cases r
  exact assignInOrder_nil #[U,H,I,h]
def dH {t:TG}(h1:PG X e t)(h2:PGs X es u)
    (hs:(assignEach (e::es) X.env).map (·.2)=assign e X.env::(assignEach es X.env).map (·.2):=by rfl):PGs X (e::es) (oH t u):=by
  intro Px s U H vs us Q I r h;obtain ⟨v,vr,e1,h⟩:=h;subst e1;cases r with
  | cons r rr=>
    rw[hs];refine assignInOrder_cons (thn (h1 Px s U H _ _ _ I r h) λ_ s1 zq0=>?_);obtain ⟨U1,H1,I1,q1⟩:=zq0;exact h2 Px s1 U1 H1 _ _ Q I1 rr q1
inductive gTup (K:Frag)(n:Nat)(t:TGs)(v:V)(U:St)(H:Hp)(Q:St->Hp->Prop):Prop
  | c:∀ a xs,v=.ref a->SqT K H a xs->xs.length=n->t xs U H Q->gTup K n t v U H Q
def j4 {k:Nat}{t:TGs}{n:Nat}(hc:X.calm=true)(h:PGs X es t)
    (hn:(assignEach es X.env).length=n:=by rfl) (hst:(assignEach es X.env).findIdx? (·.1)=none:=by rfl):PG X (.Tuple es k pos) (gTup X.K n t):=by
  intro Px s U H v u Q I r hw;obtain ⟨a,xs,e1,hq,hl,hw⟩:=hw;subst e1;cases r
  obtain ⟨its,rv,ht,hz⟩:=I.tuple hq;refine assign_Tuple_tuple (I.ok.hd hc) ht (by simp[hn,<-hl,rv.length]) hst λh' hx=>?_;have I1:Inv X Px U H { s with heap:=h' }:=I.kept (t':=s.toks) λb o e=>hx b o (bL (aT e)) e;exact h Px _ U H xs _ Q I1 (by simpa using rv) hw
def gSub (to ti:TE)(t:TSet):TG:=λv U H Q=>to U H λo H1=>ti U H1 λi H2=>t o i v H2 λH3=>Q U H3
def l6 {t:TSet}(ho:PE X o to)(hi:PE X i ti)(hs:PSet X t)
    (ha:∀ v,assign (.Subscript o i pos) X.env v=(do
      let ov <-holding [v] (eval o X.env)
      let iv <-holding [v,ov] (eval i X.env)
      standAt pos
      holding [v,ov,iv] (setItem ov iv v)
      release [v,ov,iv] []):=by intro _;rfl):PG X (.Subscript o i pos) (gSub to ti t):=by
  intro Px s U H v u Q I r h;rw[ha];refine ay (wpAny_holding (thn (ho Px s U H _ I h) λov s1 zq0=>?_));obtain ⟨x,H1,I1,r1,q1⟩:=zq0;refine ay (wpAny_holding (thn (hi Px s1 U H1 _ I1 q1) λiv s2 zq0=>?_));obtain ⟨y,H2,I2,r2,q2⟩:=zq0;refine ay (wpAny_standAt (ay (wpAny_holding (thn (hs Px s2 U H2 x y v ov iv u _ I2 r1 r2 r q2) λ_ s3 zq0=>?_))));obtain ⟨H3,I3,q3⟩:=zq0;exact wpAny_release #[U,H3,I3,q3]
def tAsg (te:TE)(g:TG):TS:=λD U H=>te U H λx H1=>g x U H1 D.nx
def j5 (he:PE X e te)(hg:PG X tg g)(hs:swapsWithSole [tg] e pos.line X.env=pure false:=by rfl)(hw:swappedStores [tg] e X.env=pure none:=by rfl)
    (h1:(assignEach [tg] X.env).map (·.2)=[assign tg X.env]:=by rfl):PS X (.Assign [tg] e pos) (tAsg te g):=by
  intro Px s U H D I h;refine wpAny_Assign_stores (thn (he Px s U H _ I h) λv s1 zq0=>?_) hs hw;obtain ⟨x,H1,I1,r1,q1⟩:=zq0;rw[h1];exact thn (hg Px s1 U H1 x v _ I1 r1 q1) λ_ s2 q=>q
def aI {i:Nat}{x:Str}{pos':Pos}(hN:X.N.Nodup)(hi:X.N[i]?=some x)(hx:Loc X.env.scope x)(he:PE X e te)(hs:swapsWith e (some (.Name x pos')) pos.line X.env=pure false:=by rfl)(hf:X.fn x=true\/X.env.scope.names.lookup x=some .local:=by first|exact .inl rfl|exact .inr rfl|assumption) :
    PS X (.Assign [.Name x pos'] e pos) (tAsg te (gI i)):=by
  intro Px s U H D I h;refine wpAny_Assign_Name (thn (he Px s U H _ I h) λv s1 zq0=>?_) hs;obtain ⟨y,H1,I1,r1,q1⟩:=zq0;exact zK I1 hN hi hx r1 (λs2 I2=>#[_,H1,I2,q1]) hf
end
section
variable {X:Cx}{pos:Pos}
def uD (c:TT)(tb:TS):TS:=λD U H=>∃ W:Nat->St->Hp->Prop,(∃ m,W m U H)/\∀ m U H,W m U H->
  c U H λb H1=>if b=true then ∃ N:St->Hp->Prop,(∀ U' H',N U' H'->∃ m',m'<m/\W m' U' H')/\tb { D with nx:=N,ct:=N,bk:=D.nx } U H1 else D.nx U H1
def oI (hp:PassesOwn (model X.prog X.w) X.A X.env X.xe)(hc:PT X c tc)(hb:PSs X body tb):PS X (.While c body [] pos) (uD tc tb):=by
  intro Px s U H D I h;obtain ⟨W,⟨m0,w0⟩,turn⟩:=h;refine wpAny_While (codeAny_whileLoop (λn s'=>∃ U' H',Inv X Px U' H' s'/\W n U' H') ?_ m0 #[U,H,I,w0]);rintro n s1 ⟨U1,H1,I1,w1⟩;refine wpAny_passesOwn hp (thn (hc Px s1 U1 H1 _ I1 (turn n U1 H1 w1)) λb s2 zq0=>?_);obtain ⟨H2,I2,q2⟩:=zq0;cases b with
  | true=>
    obtain ⟨N,hN,q2⟩:=q2;rw[aq rfl];refine wpAny_passesOwn hp (thn (hb Px s2 U1 H2 _ I2 q2) λf s3 q3=>?_);cases f with
    | next=>
      obtain ⟨U3,H3,I3,n3⟩:=q3;obtain ⟨m',hm,w3⟩:=hN U3 H3 n3;exact #[m',hm,U3,H3,I3,w3]
    | cont=>
      obtain ⟨U3,H3,I3,n3⟩:=q3;obtain ⟨m',hm,w3⟩:=hN U3 H3 n3;exact #[m',hm,U3,H3,I3,w3]
    | brk=>exact q3
    | ret v=>exact q3
  | false=>
    rw[ak cK];exact wpAny_execs_nil #[U1,H2,I2,q2]
end
structure It where
  go:Nat->Hp->Prop
  yld:Nat->Hp->V->Hp->Prop
  stop:Nat->Hp->Prop
def FpOk (X:Cx)(Px:List (Addr×Obj))(H:Hp)(b:Addr):Prop:=
  H b=none/\b≠X.env.locals/\b∉X.fs/\(b∈X.ex\/X.s₀.heap.objs.size<=b)/\(∀ x c,X.env.cells.lookup x=some c->c≠b)/\∀ p∈X.pn++Px,p.1≠b
def Inv.fpOk {H':Hp}{s:Shared}{b:Addr}(I:Inv X Px U H s)(hb:s.heap.objs.size<=b)(hn:H' b=none):FpOk X Px H' b:=by
  refine #[hn,ig (cA I.lt hb),I.nofs hb,.inr (bS I.sz hb),λx c e z=>?_,λp hp z=>?_]
  · obtain ⟨v,q⟩:=I.cell x c e
    exact absurd (cA q.lt (by rw[z];exact hb)) (dE _)
  · exact absurd (cA (aT (I.pin p hp).1) (by rw[z];exact hb)) (dE _)
structure Turn (P:Program)(w:World)(K:Frag)(tg:Expr)(J:It)(fp:List Addr)(it:Addr)(tn:Nat->Heap->Prop):Prop where
  mem:it∈fp
  obj:∀ i h,tn i h->∀ b∈fp,∃ o,h.get? b=some o/\∀ v,o.data≠.cell v
  keep:∀ i h h',tn i h->(∀ b∈fp,∀ o,h.get? b=some o->h'.get? b=some o)->tn i h'
  item:∀(X:Cx),X.prog=P->X.w=w->X.K=K->X.calm=true->∀(i:Nat) (Px:List (Addr×Obj)) (s:Shared) (U:St) (H:Hp) (E:Value->Shared->Prop),Inv X Px U H s->(∀ b∈fp,FpOk X Px H b)->tn i s.heap->J.go i H->
    wpAny (model P w) X.A (pyNext (.ref it)) (λr s1=>∃ u,r=some u/\
      wpAny (model P w) X.A (letOwnedTupleGo tg (.ref it) u) (λ_ s2=>∃ x H',Inv X Px U H' s2/\RelV x u/\J.yld i H x H'/\tn (i+1) s2.heap/\∀ b∈fp,H' b=none) E s1) E s
  done:∀(X:Cx),X.prog=P->X.w=w->X.K=K->X.calm=true->∀(i:Nat) (Px:List (Addr×Obj)) (s:Shared) (U:St) (H:Hp) (E:Value->Shared->Prop),Inv X Px U H s->(∀ b∈fp,FpOk X Px H b)->tn i s.heap->J.stop i H->
    wpAny (model P w) X.A (pyNext (.ref it)) (λr s1=>r=none/\Inv X Px U H s1) E s
  self:∀(A:Around) (i:Nat) (s:Shared) (Q:Value->Shared->Prop) (E:Value->Shared->Prop),tn i s.heap->Q (.ref it) s->wpAny (model P w) A (pyIter (.ref it)) Q E s
abbrev TI:=St->Hp->(It->Hp->Prop)->Prop
inductive PIE (X:Cx)(Px:List (Addr×Obj))(U:St)(tg:Expr)(R:It->Hp->Prop)(itv:Value)(s2:Shared):Prop
  | c:∀(it:Addr) (fp:List Addr) (tn:Nat->Heap->Prop) (J:It) (H':Hp),itv=.ref it->Inv X Px U H' s2->Turn X.prog X.w X.K tg J fp it tn->tn 0 s2.heap->(∀ b∈fp,FpOk X Px H' b)->R J H'->PIE X Px U tg R itv s2
def PI (X:Cx)(tg iter:Expr)(wi:TI):Prop:=
  ∀(Px:List (Addr×Obj)) (s:Shared) (U:St) (H:Hp) (R:It->Hp->Prop),Inv X Px U H s->wi U H R->
    wpAny (model X.prog X.w) X.A (eval iter X.env) (λv s1=>wpAny (model X.prog X.w) X.A (pyIter v) (PIE X Px U tg R) X.xe s1) X.xe s
def oJ {M:Model}{A:Around}{E:Value->Shared->Prop}{s:Shared}{tg:Expr}{it:Addr}{u:Value}{o:Obj}{n:String}{vs:Array Value}{Q:Unit->Shared->Prop}(ho:s.heap.get? it=some o)(hc:o.cls=.type n)(hd:o.data=.fields vs)
    (hn:["enumerate","zip","dict_itemiterator","dict_reverseitemiterator","odict_iterator","itertools.zip_longest","itertools.pairwise"].contains n=false) (hQ:Q () s):wpAny M A (letOwnedTupleGo tg (.ref it) u) Q E s:=by
  unfold letOwnedTupleGo;cases tg<;>first
    | exact aS hQ
    | (cases u <;> first
        | exact aS hQ
        | (refine ay (wpAny_load ho ?_)
           rw[hc,hd];show wpAny M A (if (["enumerate","zip","dict_itemiterator","dict_reverseitemiterator","odict_iterator","itertools.zip_longest","itertools.pairwise"].contains n&&vs[0]?==some (rawInt _))=true then _ else _) Q E s
           rw[ak (by intro h;rw[hn,Bool.false_and]at h;cases h)]
           exact aS hQ))
def Itl (K:Frag)(a:Addr):It:=
  #[λi H=>∃ xs x,SqL K H a xs/\xs[i]?=some x,λi H x H'=>H'=H/\∀ xs,SqL K H a xs->xs[i]?=some x,λi H=>∃ xs,SqL K H a xs/\xs.length<=i]
def Itt (K:Frag)(a:Addr):It:=
  #[λi H=>∃ xs x,SqT K H a xs/\xs[i]?=some x,λi H x H'=>H'=H/\∀ xs,SqT K H a xs->xs[i]?=some x,λi H=>∃ xs,SqT K H a xs/\xs.length<=i]
def Itr (lo:Int)(n:Nat):It:=#[λi _=>i<n,λi H x H'=>H'=H/\x=.int (lo+i),λi _=>n<=i]
def zP {K:Frag}(a it:Addr):Turn P w K tg (Itl K a) [it] it (λi h=>h.IsListIter it a i) where
  mem:=by simp
  obj:=λi h st b hb=>by
    have e:b=it:=by simpa using hb
    subst e;obtain ⟨o,e,c,d⟩:=st;exact #[o,e,λv z=>by rw[d]at z;cases z]
  keep:=λi h h' st k=>st.at λo e=>k it (by simp) o e
  item:=by
    intro X hP hw hK hc i Px s U H E I hf st hg;subst hP hw hK;obtain ⟨xs,x,hq,hx⟩:=hg;obtain ⟨its,rv,p,hz⟩:=I.list hq;obtain ⟨u,hu,ru⟩:=rv.get hx;obtain ⟨f0,f1,f2,f3,f4,f5⟩:=hf it (by simp);refine wpAny_pyNext_list_item st p.isList (x:=u) (by simpa using hu) λh' st' sb=>?_;have I1:Inv X Px U H { s with heap:=h' }:=I.turned (t':=s.toks) (λb o hb e=>(sb.2 b hb).trans e) f0 f1 f3 f4 f5;obtain ⟨o,e,c,d⟩:=id st';exact #[u,rfl,oJ (s:={ s with heap:=h' }) e c d (by decide) #[x,H,I1,ru,#[rfl,λys hy=>by rw[I.list_inj hy hq];exact hx],st',λb hb=>(hf b hb).1]]
  done:=by
    intro X hP hw hK hc i Px s U H E I hf st hg;subst hP hw hK;obtain ⟨xs,hq,hx⟩:=hg;obtain ⟨its,rv,p,hz⟩:=I.list hq;obtain ⟨f0,f1,f2,f3,f4,f5⟩:=hf it (by simp);have hl:=rv.length;exact wpAny_pyNext_list_end (I.ok.hd hc) st p.isList (by simp;lia) λh' eb=>#[rfl,I.turned (t':=s.toks) (λb o hb e=>eb b o hb e) f0 f1 f3 f4 f5]
  self:=λ_ _ _ _ _ st h=>wpAny_pyIter_listiter st h
def zQ {K:Frag}(a it:Addr):Turn P w K tg (Itt K a) [it] it (λi h=>h.IsTupleIter it a i) where
  mem:=by simp
  obj:=λi h st b hb=>by
    have e:b=it:=by simpa using hb
    subst e;obtain ⟨o,e,c,d⟩:=st;exact #[o,e,λv z=>by rw[d]at z;cases z]
  keep:=λi h h' st k=>st.at λo e=>k it (by simp) o e
  item:=by
    intro X hP hw hK hc i Px s U H E I hf st hg;subst hP hw hK;obtain ⟨xs,x,hq,hx⟩:=hg;obtain ⟨its,rv,p,hz⟩:=I.tuple hq;obtain ⟨u,hu,ru⟩:=rv.get hx;obtain ⟨f0,f1,f2,f3,f4,f5⟩:=hf it (by simp);refine wpAny_pyNext_tuple_item st (show s.heap.IsTuple a its.toArray from p) (x:=u) (by simpa using hu) λh' st' sb=>?_;have I1:Inv X Px U H { s with heap:=h' }:=I.turned (t':=s.toks) (λb o hb e=>(sb.2 b hb).trans e) f0 f1 f3 f4 f5;obtain ⟨o,e,c,d⟩:=id st';exact #[u,rfl,oJ (s:={ s with heap:=h' }) e c d (by decide) #[x,H,I1,ru,#[rfl,λys hy=>by rw[I.tuple_inj hy hq];exact hx],st',λb hb=>(hf b hb).1]]
  done:=by
    intro X hP hw hK hc i Px s U H E I hf st hg;subst hP hw hK;obtain ⟨xs,hq,hx⟩:=hg;obtain ⟨its,rv,p,hz⟩:=I.tuple hq;obtain ⟨f0,f1,f2,f3,f4,f5⟩:=hf it (by simp);have hl:=rv.length;exact wpAny_pyNext_tuple_end (I.ok.hd hc) st (show s.heap.IsTuple a its.toArray from p) (by simp;lia) λh' eb=>#[rfl,I.turned (t':=s.toks) (λb o hb e=>eb b o hb e) f0 f1 f3 f4 f5]
  self:=λ_ _ _ _ _ st h=>wpAny_pyIter_tupleiter st h
def Fo {K:Frag}(it:Addr)(lo:Int)(n:Nat):Turn P w K tg (Itr lo n) [it] it (λi h=>IsRangeIter h it (lo+(i:Nat)*1) ((n:Int)-(i:Nat)) 1) where
  mem:=by simp
  obj:=λi h st b hb=>by
    have e:b=it:=by simpa using hb
    subst e;exact #[_,st,λv z=>by
      have z':Data.fields _=Data.cell v:=z;cases z']
  keep:=λi h h' st k=>k it (by simp) _ st
  item:=by
    intro X hP hw hK hc i Px s U H E I hf st hg;subst hP hw hK;obtain ⟨f0,f1,f2,f3,f4,f5⟩:=hf it (by simp);have W:=Walks.range (prog:=X.prog) (w:=X.w) (I.ok.hd hc) it lo 1 n;refine W.item i s _ _ hg st λv h' tk hv st' kk=>?_;obtain ⟨t,rfl⟩:=hv;have I1:Inv X Px U H { s with heap:=h',toks:=tk }:=I.turned (λb o hb e=>kk b o (by simpa using hb) e) f0 f1 f3 f4 f5;refine #[_,rfl,oJ (s:={ s with heap:=h',toks:=tk }) (n := "range_iterator") st' rfl rfl (by decide) #[.int (lo+i),H,I1,#[t,?_],#[rfl,rfl],st',λb hb=>(hf b hb).1]];rw[Int.mul_one]
  done:=by
    intro X hP hw hK hc i Px s U H E I hf st hg;subst hP hw hK;obtain ⟨f0,f1,f2,f3,f4,f5⟩:=hf it (by simp);exact wpAny_pyNext_range_end (I.ok.hd hc) st (by have:n<=i:=hg;lia) λh' eb=>#[rfl,I.turned (t':=s.toks) (λb o hb e=>eb b o hb e) f0 f1 f3 f4 f5]
  self:=λ_ _ _ _ _ st h=>wpAny_pyIter_rangeiter st h
section
variable {X:Cx}{tg:Expr}
inductive zR (K:Frag)(R:It->Hp->Prop)(x:V)(H1:Hp):Prop
  | c:∀ a,x=.ref a->(∃ xs,SqL K H1 a xs)->R (Itl K a) H1->zR K R x H1
def Fp (K:Frag)(tl:TE):TI:=λU H R=>tl U H λx H1=>zR K R x H1
inductive zS (K:Frag)(R:It->Hp->Prop)(x:V)(H1:Hp):Prop
  | c:∀ a,x=.ref a->(∃ xs,SqT K H1 a xs)->R (Itt K a) H1->zS K R x H1
def iTup (K:Frag)(tl:TE):TI:=λU H R=>tl U H λx H1=>zS K R x H1
def c8 (hl:PE X l tl):PI X tg l (Fp X.K tl):=by
  intro Px s U H R I h;refine thn (hl Px s U H _ I h) λv s1 zq0=>?_;obtain ⟨x,H1,I1,r1,q1⟩:=zq0;obtain ⟨a,e,⟨xs,hq⟩,q⟩:=q1;subst e;cases r1
  obtain ⟨its,rv,p,hz⟩:=I1.list hq;refine wpAny_pyIter_list p.isList ?_;refine #[s1.heap.objs.size,[s1.heap.objs.size],_,_,H1,rfl,I1.kept (t':=s1.toks) λb o e=>aX _ e,zP a _,#[_,bZ _ rfl,rfl,rfl],λb hb=>?_,q];have e:b=s1.heap.objs.size:=by simpa using hb
  subst e;exact I1.fpOk (aj _) (I1.hok.fresh (aj _))
def gJ (hl:PE X l tl):PI X tg l (iTup X.K tl):=by
  intro Px s U H R I h;refine thn (hl Px s U H _ I h) λv s1 zq0=>?_;obtain ⟨x,H1,I1,r1,q1⟩:=zq0;obtain ⟨a,e,⟨xs,hq⟩,q⟩:=q1;subst e;cases r1
  obtain ⟨its,rv,p,hz⟩:=I1.tuple hq;refine wpAny_pyIter_tuple (show s1.heap.IsTuple a its.toArray from p) ?_;refine #[s1.heap.objs.size,[s1.heap.objs.size],_,_,H1,rfl,I1.kept (t':=s1.toks) λb o e=>aX _ e,zQ a _,#[_,bZ _ rfl,rfl,rfl],λb hb=>?_,q];have e:b=s1.heap.objs.size:=by simpa using hb
  subst e;exact I1.fpOk (aj _) (I1.hok.fresh (aj _))
def zT {R:It->Hp->Prop}{E:Value->Shared->Prop}{lo hi:Int}{t u v:Tok}{tk:Nat}(I:Inv X Px U H s)(h1:-(2^62)<=lo)(h2:lo<2^62)(h3:-(2^62)<=hi)(h4:hi<2^62)
    (q:R (Itr lo (hi-lo).toNat) H):wpAny (model X.prog X.w) X.A (pyIter (.ref s.heap.objs.size)) (PIE X Px U tg R) E { s with heap:=s.heap.push { cls:=.type "range",data:=.fields (List.toArray [.int lo t,.int hi u,.int 1 v]) },toks:=tk }:=by
  refine wpAny_pyIter_range (IsRange.new ..) (small_one h1 h2 h3 h4) ?_;have I1:Inv X Px U H { s with heap:=s.heap.push { cls:=.type "range",data:=.fields (List.toArray [.int lo t,.int hi u,.int 1 v]) },toks:=tk }:=I.kept λb o e=>aX _ e;refine #[(s.heap.push { cls:=.type "range",data:=.fields (List.toArray [.int lo t,.int hi u,.int 1 v]) }).objs.size,[(s.heap.push { cls:=.type "range",data:=.fields (List.toArray [.int lo t,.int hi u,.int 1 v]) }).objs.size],_,_,H,rfl,
    I1.kept (t':=tk) λb o e=>aX _ e,Fo _ lo (hi-lo).toNat,?_,λb hb=>?_,q]
  · have e1:lo+((0:Nat):Int)*1=lo:=by simp
    have e2:(((hi-lo).toNat:Nat):Int)-((0:Nat):Int)=Builtin.Range.rangeSize lo hi 1:=by rw[rangeSize_one];split<;>lia
    show IsRangeIter _ _ (lo+((0:Nat):Int)*1) ((((hi-lo).toNat:Nat):Int)-((0:Nat):Int)) 1;rw[e1,e2];exact bZ _ rfl
  · have e:b=(s.heap.push { cls:=.type "range",data:=.fields (List.toArray [.int lo t,.int hi u,.int 1 v]) }).objs.size:=by simpa using hb
    subst e;exact I1.fpOk (aj _) (I1.hok.fresh (aj _))
inductive zU (R:It->Hp->Prop)(vs:List V)(H1:Hp):Prop
  | c:∀(j:Int),vs=[.int j]->-(2^62)<=j->j<2^62->R (Itr 0 j.toNat) H1->zU R vs H1
def Fq (ta:TA):TI:=λU H R=>ta U H λvs H1=>zU R vs H1
inductive zV (R:It->Hp->Prop)(vs:List V)(H1:Hp):Prop
  | c:∀(i j:Int),vs=[.int i,.int j]->(-(2^62)<=i/\i<2^62/\-(2^62)<=j/\j<2^62)->R (Itr i (j-i).toNat) H1->zV R vs H1
def Fs (ta:TA):TI:=λU H R=>ta U H λvs H1=>zV R vs H1
def fW {a:Expr}{p pos:Pos}(hg:Gl X "range")(hm:X.mg "range" = none)(ha:PA X [a] ta)(hs:starEach [a] X.env=[(false,eval a X.env)]:=by rfl):PI X tg (.Call (.Name "range" p) [a] [] pos) (Fq ta):=by
  intro Px s U H R I h;refine Call_ (fV I hg hm boot_range (PyProof.Rows.callWith_type1 (thn (ha pos Px s U H _ I h) λus s1 zq0=>?_) hs rfl));obtain ⟨vs,H1,I1,r1,q1⟩:=zq0;obtain ⟨j,e,q1,q2,q⟩:=q1;subst e;cases r1 with
  | cons r rr=>
    cases rr
    obtain ⟨t,rfl⟩:=r;exact call_range_1 (zT I1 (by lia) (by lia) q1 q2 (by simpa using q))
def j6 {a b:Expr}{p pos:Pos}(hg:Gl X "range")(hm:X.mg "range" = none)(ha:PA X [a,b] ta)(hs:starEach [a,b] X.env=[(false,eval a X.env),(false,eval b X.env)]:=by rfl)(hs2:starEach [b] X.env=[(false,eval b X.env)]:=by rfl) :
    PI X tg (.Call (.Name "range" p) [a,b] [] pos) (Fs ta):=by
  intro Px s U H R I h;refine Call_ (fV I hg hm boot_range (PyProof.Rows.callWith_type1 (thn (ha pos Px s U H _ I h) λus s1 zq0=>?_) (by rw[hs,hs2]) (by rw[hs2];rfl)));obtain ⟨vs,H1,I1,r1,q1⟩:=zq0;obtain ⟨i,j,e,⟨q1,q2,q3,q4⟩,q⟩:=q1;subst e;cases r1 with
  | cons r rr=>
    cases rr with
    | cons r' rr=>
      cases rr
      obtain ⟨t,rfl⟩:=r;obtain ⟨t',rfl⟩:=r';exact call_range_2 (zT I1 q1 q2 q3 q4 q)
def tFor (wi:TI)(g:TG)(tb:TS):TS:=λD U H=>wi U H λJ H1=>∃ W:Nat->Nat->St->Hp->Prop,(∃ m,W 0 m U H1)/\∀ i m U H,W i m U H->
  (J.stop i H/\D.nx U H)\/(J.go i H/\∃ N:St->Hp->Prop,(∀ U' H',N U' H'->∃ m',m'<m/\W (i+1) m' U' H')/\∀ x H',J.yld i H x H'->g x U H' λU2 H2=>tb { D with nx:=N,ct:=N,bk:=D.nx } U2 H2)
def l7 (fp:List Addr)(h:Heap):List (Addr×Obj):=fp.filterMap λb=>(h.get? b).map λo=>(b,o)
def oK {fp:List Addr}{h:Heap}{b:Addr}{o:Obj}(hb:b∈fp)(e:h.get? b=some o):(b,o)∈l7 fp h:=List.mem_filterMap.mpr #[b,hb,by rw[e];rfl]
def Ft {p:Addr×Obj}(hp:p∈l7 fp h):p.1∈fp/\h.get? p.1=some p.2:=by
  obtain ⟨b,hb,e⟩:=List.mem_filterMap.mp hp;cases q:h.get? b with
  | none=>rw[q]at e;cases e
  | some o=>
    rw[q]at e;have e':(b,o)=p:=aM e;subst e';exact #[hb,q]
def Inv.pinned {s:Shared}{fp:List Addr}(I:Inv X Px U H s)(hf:∀ b∈fp,FpOk X Px H b)(ho:∀ b∈fp,∃ o,s.heap.get? b=some o/\∀ v,o.data≠.cell v):Inv X (Px++l7 fp s.heap) U H s:=
  I.pins_of λp hp=>(cx.mp hp).elim (λz=>I.pin p (fc _ z)) λz=>by
    obtain ⟨hb,e⟩:=Ft z;obtain ⟨f0,f1,f2,_⟩:=hf p.1 hb;obtain ⟨o,e',d⟩:=ho p.1 hb;rw[e]at e';cases e'
    exact #[e,f0,f1,f2,d]
def Inv.unpinned {Px pl:List (Addr×Obj)}{s:Shared}(I:Inv X (Px++pl) U H s):Inv X Px U H s:=I.pins_of λp hp=>I.pin p (fc _ (List.mem_append_left _ hp))
def ck {pos:Pos}(hp:PassesOwn (model X.prog X.w) X.A X.env X.xe)(hc:X.calm=true)(hi:PI X tg iter wi)(hg:PG X tg g)(hb:PSs X body tb)
    (hs:∀ x,foldedSetIterable iter X.env x=pure x:=by intro _;rfl):PS X (.For tg iter body [] pos) (tFor wi g tb):=by
  intro Px s U H D I h;refine wpAny_For (thn (hi Px s U H _ I h) λv s1 h1=>thn h1 λitv s2 h2=>?_) hs;obtain ⟨it,fp,tn,J,H2,e,I2,T,st2,f2,W,⟨m0,w0⟩,turn⟩:=h2;subst e;have stat:∀{H':Hp},(∀ b∈fp,H' b=none)->∀ b∈fp,FpOk X Px H' b:=λhn b hb=>#[hn b hb,(f2 b hb).2];refine codeAny_forLoop_any (λn s'=>∃ i U' H',Inv X Px U' H' s'/\tn i s'.heap/\(∀ b∈fp,H' b=none)/\W i n U' H') ?_ m0 #[0,U,H2,I2,st2,λb hb=>(f2 b hb).1,w0];rintro n s3 ⟨i,U3,H3,I3,st3,fr3,w3⟩;rcases turn i n U3 H3 w3 with ⟨stop,qn⟩|⟨go,N,hN,step⟩
  · refine wpAny_passesOwn hp (thn (T.done X rfl rfl rfl hc i Px s3 U3 H3 X.xe I3 (stat fr3) st3 stop) λr s4 zq0=>?_)
    obtain ⟨hr,I4⟩:=zq0;subst hr;exact wpAny_execs_nil #[U3,H3,I4,qn]
  · refine wpAny_passesOwn hp (thn (T.item X rfl rfl rfl hc i Px s3 U3 H3 X.xe I3 (stat fr3) st3 go) λr s4 zq0=>?_)
    obtain ⟨u,hr,h4⟩:=zq0;subst hr;refine wpAny_passesOwn hp (thn h4 λ_ s5 zq0=>?_);obtain ⟨x,H5,I5,r5,y5,st5,fr5⟩:=zq0;have I5':=I5.pinned (stat fr5) (T.obj _ _ st5);refine wpAny_passesOwn hp (thn (hg _ s5 U3 H5 x u _ I5' r5 (step x H5 y5)) λ_ s6 zq0=>?_);obtain ⟨U6,H6,I6,q6⟩:=zq0;refine wpAny_passesOwn hp (thn (hb _ s6 U6 H6 _ I6 q6) λf s7 q7=>?_);have again:∀{U7:St} {H7:Hp},Inv X (Px++l7 fp s5.heap) U7 H7 s7->N U7 H7->∃ m,m<n/\∃ i U' H',Inv X Px U' H' s7/\tn i s7.heap/\(∀ b∈fp,H' b=none)/\W i m U' H':=λ{U7 H7} I7 n7=>by
      obtain ⟨m',hm,w7⟩:=hN U7 H7 n7;refine #[m',hm,i+1,U7,H7,I7.unpinned,T.keep _ _ _ st5 λb hb o e=>(I7.pin (b,o) (fc _ (fc _ (oK hb e)))).1,λb hb=>?_,w7];obtain ⟨o,e,d⟩:=T.obj _ _ st5 b hb;exact (I7.pin (b,o) (fc _ (fc _ (oK hb e)))).2.1
    cases f with
    | next=>obtain ⟨U7,H7,I7,n7⟩:=q7;exact again I7 n7
    | cont=>obtain ⟨U7,H7,I7,n7⟩:=q7;exact again I7 n7
    | brk=>obtain ⟨U7,H7,I7,q7⟩:=q7;exact #[U7,H7,I7.unpinned,q7]
    | ret v=>obtain ⟨x7,U7,H7,I7,r7,q7⟩:=q7;exact #[x7,U7,H7,I7.unpinned,r7,q7]
end
def iz {K:Frag}{a:Addr}{g:TG}{tb:TS}{D:Ends}{U:St}{H:Hp}(Pv:Nat->St->Hp->Prop)(h0:Pv 0 U H)(hl:∀ i U H,i<=xs.length->Pv i U H->SqL K H a xs)
    (hs:∀ i x U H,xs[i]?=some x->Pv i U H->g x U H λU2 H2=>tb { D with nx:=Pv (i+1),ct:=Pv (i+1),bk:=D.nx } U2 H2) (hd:∀ U H,Pv xs.length U H->D.nx U H) :
    ∃ W:Nat->Nat->St->Hp->Prop,(∃ m,W 0 m U H)/\∀ i m U H,W i m U H->
      ((Itl K a).stop i H/\D.nx U H)\/((Itl K a).go i H/\∃ N:St->Hp->Prop,(∀ U' H',N U' H'->∃ m',m'<m/\W (i+1) m' U' H')/\∀ x H',(Itl K a).yld i H x H'->g x U H' λU2 H2=>tb { D with nx:=N,ct:=N,bk:=D.nx } U2 H2):=by
  refine #[λi m U H=>m=xs.length-i/\i<=xs.length/\Pv i U H,#[xs.length,by simp,cf _,h0],?_];rintro i m U H ⟨rfl,hi,p⟩;have q:=hl i U H hi p;by_cases hlt:i<xs.length
  · refine .inr #[#[xs,xs[i],q,by simp[hlt]],Pv (i+1),λU' H' p'=>#[xs.length-(i+1),by lia,rfl,hlt,p'],λx H' y=>?_]
    obtain ⟨e,y⟩:=y;subst e;exact hs i x U _ (y xs q) p
  · have e:i=xs.length:=by lia
    subst e;exact .inl #[#[xs,q,aj _],hd U H p]
def uE {K:Frag}{a:Addr}{g:TG}{tb:TS}{D:Ends}{U:St}{H:Hp}(Pv:Nat->St->Hp->Prop)(h0:Pv 0 U H)(hl:∀ i U H,i<=xs.length->Pv i U H->SqT K H a xs)
    (hs:∀ i x U H,xs[i]?=some x->Pv i U H->g x U H λU2 H2=>tb { D with nx:=Pv (i+1),ct:=Pv (i+1),bk:=D.nx } U2 H2) (hd:∀ U H,Pv xs.length U H->D.nx U H) :
    ∃ W:Nat->Nat->St->Hp->Prop,(∃ m,W 0 m U H)/\∀ i m U H,W i m U H->
      ((Itt K a).stop i H/\D.nx U H)\/((Itt K a).go i H/\∃ N:St->Hp->Prop,(∀ U' H',N U' H'->∃ m',m'<m/\W (i+1) m' U' H')/\∀ x H',(Itt K a).yld i H x H'->g x U H' λU2 H2=>tb { D with nx:=N,ct:=N,bk:=D.nx } U2 H2):=by
  refine #[λi m U H=>m=xs.length-i/\i<=xs.length/\Pv i U H,#[xs.length,by simp,cf _,h0],?_];rintro i m U H ⟨rfl,hi,p⟩;have q:=hl i U H hi p;by_cases hlt:i<xs.length
  · refine .inr #[#[xs,xs[i],q,by simp[hlt]],Pv (i+1),λU' H' p'=>#[xs.length-(i+1),by lia,rfl,hlt,p'],λx H' y=>?_]
    obtain ⟨e,y⟩:=y;subst e;exact hs i x U _ (y xs q) p
  · have e:i=xs.length:=by lia
    subst e;exact .inl #[#[xs,q,aj _],hd U H p]
def ff {lo:Int}{n:Nat}{g:TG}{tb:TS}{D:Ends}{U:St}{H:Hp}(Pv:Nat->St->Hp->Prop)(h0:Pv 0 U H)
    (hs:∀ i U H,i<n->Pv i U H->g (.int (lo+i)) U H λU2 H2=>tb { D with nx:=Pv (i+1),ct:=Pv (i+1),bk:=D.nx } U2 H2) (hd:∀ U H,Pv n U H->D.nx U H) :
    ∃ W:Nat->Nat->St->Hp->Prop,(∃ m,W 0 m U H)/\∀ i m U H,W i m U H->
      ((Itr lo n).stop i H/\D.nx U H)\/((Itr lo n).go i H/\∃ N:St->Hp->Prop,(∀ U' H',N U' H'->∃ m',m'<m/\W (i+1) m' U' H')/\∀ x H',(Itr lo n).yld i H x H'->g x U H' λU2 H2=>tb { D with nx:=N,ct:=N,bk:=D.nx } U2 H2):=by
  refine #[λi m U H=>m=n-i/\i<=n/\Pv i U H,#[n,by simp,cf _,h0],?_];rintro i m U H ⟨rfl,hi,p⟩;by_cases hlt:i<n
  · refine .inr #[hlt,Pv (i+1),λU' H' p'=>#[n-(i+1),by lia,rfl,hlt,p'],λx H' y=>?_]
    obtain ⟨e,y⟩:=y;subst e y;exact hs i U _ hlt p
  · have e:i=n:=by lia
    subst e;exact .inl #[aj _,hd U H p]
def Fu {c:TT}{tb:TS}{D:Ends}{U:St}{H:Hp}(Pv:St->Hp->Prop)(μ:St->Hp->Nat)(h0:Pv U H)
    (hs:∀ U H,Pv U H->c U H λb H1=>if b=true then tb { D with nx:=λU' H'=>Pv U' H'/\μ U' H'<μ U H,ct:=λU' H'=>Pv U' H'/\μ U' H'<μ U H,bk:=D.nx } U H1 else D.nx U H1)
    (mono:∀ U H Q Q',(∀ b H1,Q b H1->Q' b H1)->c U H Q->c U H Q'):uD c tb D U H:=by
  refine #[λm U H=>m=μ U H/\Pv U H,#[_,rfl,h0],?_];rintro m U H ⟨rfl,p⟩;refine mono U H _ _ (λb H1 q=>?_) (hs U H p);cases b with
  | true=>exact #[_,λU' H' ⟨p',l⟩=>#[_,l,rfl,p'],q]
  | false=>exact q
abbrev R2:=V->V->Hp->VK->Prop
def OpR (X:Cx)(f:Value->Value->Sem Value)(r:R2):Prop:=
  ∀(Px:List (Addr×Obj)) (s:Shared) (U:St) (H:Hp) (x y:V) (v u:Value) (Q:VK),Inv X Px U H s->RelV x v->RelV y u->r x y H Q->
    wpAny (model X.prog X.w) X.A (f v u) (EP X Px U Q) X.xe s
def UnR (X:Cx)(f:Value->Sem Value)(r:V->Hp->VK->Prop):Prop:=
  ∀(Px:List (Addr×Obj)) (s:Shared) (U:St) (H:Hp) (x:V) (v:Value) (Q:VK),Inv X Px U H s->RelV x v->r x H Q->
    wpAny (model X.prog X.w) X.A (f v) (EP X Px U Q) X.xe s
def cQ (X:Cx)(f:Value)(r:List V->Hp->VK->Prop):Prop:=
  ∀(Px:List (Addr×Obj)) (s:Shared) (U:St) (H:Hp) (xs:List V) (us:List Value) (Q:VK),Inv X Px U H s->Vals xs us->r xs H Q->
    wpAny (model X.prog X.w) X.A (call f us) (EP X Px U Q) X.xe s
def tOp (r:R2)(ta tb:TE):TE:=λU H Q=>ta U H λx H1=>tb U H1 λy H2=>r x y H2 Q
def tUn (r:V->Hp->VK->Prop)(ta:TE):TE:=λU H Q=>ta U H λx H1=>r x H1 Q
inductive rI (C:Int->Int->Prop)(g:Int->Int->V)(x:V)(y:V)(H:Hp)(Q:VK):Prop
  | c:∀ i j,x=.int i->y=.int j->C i j->Q (g i j) H->rI C g x y H Q
inductive rI0 (g:Int->Int->V)(x:V)(y:V)(H:Hp)(Q:VK):Prop
  | c:∀ i j,x=.int i->y=.int j->Q (g i j) H->rI0 g x y H Q
inductive rU (g:Int->V)(x:V)(H:Hp)(Q:VK):Prop
  | c:∀ i,x=.int i->Q (g i) H->rU g x H Q
section
variable {X:Cx}{a b c:Expr}{ta tb tc:TE}{pos:Pos}
def binT (ha:PE X a ta)(hb:PE X b tb){R:V->V->Hp->Prop}(I:Inv X Px U H s)
    (h:ta U H λx H1=>tb U H1 λy H2=>R x y H2) {Q:Value->Shared->Prop} {f:Value->Value->Sem Value}
    (hf:∀ v u s2 x y H2,Inv X Px U H2 s2->RelV x v->RelV y u->R x y H2->wpAny (model X.prog X.w) X.A (f v u) Q X.xe s2) :
    wpAny (model X.prog X.w) X.A (eval a X.env) (λv s₁=>wpAny (model X.prog X.w) X.A (eval b X.env) (λu s₂=>wpAny (model X.prog X.w) X.A (f v u) Q X.xe s₂) X.xe s₁) X.xe s:=by
  refine thn (ha Px s U H _ I h) λv s1 zq0=>?_;obtain ⟨x,H1,I1,r1,q1⟩:=zq0;refine thn (hb Px s1 U H1 _ I1 q1) λu s2 zq0=>?_;obtain ⟨y,H2,I2,r2,q2⟩:=zq0;exact hf v u s2 x y H2 I2 r1 r2 q2
def aG {op:Operator}(ho:OpR X (binaryOp op) r)(ha:PE X a ta)(hb:PE X b tb):PE X (.BinOp a op b pos) (tOp r ta tb):=by
  intro Px s U H Q I h;exact wpAny_BinOp (binT ha hb I h λv u s2 x y H2 I2 rx ry q=>ho Px s2 U H2 x y v u Q I2 rx ry q)
def iA {op:UnaryOp}(ho:UnR X (unaryOp op) r)(ha:PE X a ta):PE X (.UnaryOp op a pos) (tUn r ta):=by
  intro Px s U H Q I h;exact UnaryOp_ (thn (ha Px s U H _ I h) λv s1 zq0=>(by obtain ⟨x,H1,I1,r1,q1⟩:=zq0;exact ho Px s1 U H1 x v Q I1 r1 q1))
def opI {f:Value->Value->Sem Value}{C:Int->Int->Prop}{g:Int->Int->Int}
    (rule:∀(i j:Int) (t u:Tok) (s:Shared) (Q:Value->Shared->Prop) (E:Value->Shared->Prop),C i j->Q (.int (g i j) s.toks) { s with toks:=s.toks+1 }->wpAny (model X.prog X.w) X.A (f (.int i t) (.int j u)) Q E s) :
    OpR X f (rI C λi j=>.int (g i j)):=by
  intro Px s U H x y v u Q I rx ry h;obtain ⟨i,j,rfl,rfl,hc,q⟩:=h;obtain ⟨t,rfl⟩:=rx;obtain ⟨t',rfl⟩:=ry;exact rule i j t t' s _ _ hc #[.int (g i j),H,I.tok _,#[_,rfl],q]
def opI0 {f:Value->Value->Sem Value}{g:Int->Int->Int}
    (rule:∀(i j:Int) (t u:Tok) (s:Shared) (Q:Value->Shared->Prop) (E:Value->Shared->Prop),Q (.int (g i j) s.toks) { s with toks:=s.toks+1 }->wpAny (model X.prog X.w) X.A (f (.int i t) (.int j u)) Q E s) :
    OpR X f (rI0 λi j=>.int (g i j)):=by
  intro Px s U H x y v u Q I rx ry h;obtain ⟨i,j,rfl,rfl,q⟩:=h;obtain ⟨t,rfl⟩:=rx;obtain ⟨t',rfl⟩:=ry;exact rule i j t t' s _ _ #[.int (g i j),H,I.tok _,#[_,rfl],q]
def opB0 {f:Value->Value->Sem Value}{g:Int->Int->Bool}
    (rule:∀(i j:Int) (t u:Tok) (s:Shared) (Q:Value->Shared->Prop) (E:Value->Shared->Prop),Q (.bool (g i j)) s->wpAny (model X.prog X.w) X.A (f (.int i t) (.int j u)) Q E s) :
    OpR X f (rI0 λi j=>.bl (g i j)):=by
  intro Px s U H x y v u Q I rx ry h;obtain ⟨i,j,rfl,rfl,q⟩:=h;obtain ⟨t,rfl⟩:=rx;obtain ⟨t',rfl⟩:=ry;exact rule i j t t' s _ _ #[.bl (g i j),H,I,rfl,q]
def CDiv (i j:Int):Prop:=0<j/\j<1073741824
def CPow (i j:Int):Prop:=0<=j/\j<=1000000/\i.natAbs<2^64
def CMul (i j:Int):Prop:=(-(2^64)<i/\i<2^64)\/(-(2^64)<j/\j<2^64)
def CMul.ok (h:CMul i j):IntMulOk i j:=by
  rcases h with ⟨h1,h2⟩|⟨h1,h2⟩
  · exact .of_left (intBits_le_64 h1 h2)
  · exact .of_right (intBits_le_64 h1 h2)
def Fv (k:Nat):(0:Int)<=2^k:=by
  rw[two_pow_cast];exact i5 _
def cz:OpR X (binaryOp .Add) (rI0 λi j=>.int (i+j)):=opI0 λ_ _ _ _ _ _ _ q=>add_int q
def dI:OpR X (binaryOp .Sub) (rI0 λi j=>.int (i-j)):=opI0 λ_ _ _ _ _ _ _ q=>sub_int q
def eW:OpR X (binaryOp .Mult) (rI CMul λi j=>.int (i*j)):=opI λ_ _ _ _ _ _ _ hc q=>mul_int q hc.ok
def uF:OpR X (binaryOp .FloorDiv) (rI CDiv λi j=>.int (i/j)):=opI λi j _ _ _ _ _ hc q=>by
  have h1:(0:Int)<j:=hc.1;have h2:j<1073741824:=hc.2;exact floordiv_int (by lia) (by rw[Int.fdiv_eq_ediv_of_nonneg i (by lia)];exact q) (.inl (PyProof.noPylong_small (by lia)))
def iB:OpR X (binaryOp .Mod) (rI (λ_ j=>0<j) λi j=>.int (i%j)):=opI λi j _ _ _ _ _ hc q=>by
  have h1:(0:Int)<j:=hc;exact mod_int' (by lia) (by rw[Int.fmod_eq_emod_of_nonneg i (by lia)];exact q)
def iC:OpR X (binaryOp .Pow) (rI CPow λi j=>.int (i^j.toNat)):=opI λ_ _ _ _ _ _ _ hc q=>pow_int_small hc.1 hc.2.1 hc.2.2 q
def Fx:OpR X (binaryOp .RShift) (rI (λ_ j=>0<=j) λi j=>.int (i/2^j.toNat)):=opI λi j _ _ _ _ _ hc q=>
  rshift_int hc (by rw[Int.fdiv_eq_ediv_of_nonneg i (Fv _)];exact q)
def zW:OpR X (binaryOp .BitAnd) (rI0 λi j=>.int (Builtin.bitAnd i j)):=opI0 λ_ _ _ _ _ _ _ q=>and_int q
def Fy:OpR X (binaryOp .BitXor) (rI0 λi j=>.int (Builtin.bitXor i j)):=opI0 λ_ _ _ _ _ _ _ q=>xor_int q
def unI {f:Value->Sem Value}{g:Int->Int}
    (rule:∀(i:Int) (t:Tok) (s:Shared) (Q:Value->Shared->Prop) (E:Value->Shared->Prop),Q (.int (g i) s.toks) { s with toks:=s.toks+1 }->wpAny (model X.prog X.w) X.A (f (.int i t)) Q E s) :
    UnR X f (rU λi=>.int (g i)):=by
  intro Px s U H x v Q I rx h;obtain ⟨i,rfl,q⟩:=h;obtain ⟨t,rfl⟩:=rx;exact rule i t s _ _ #[.int (g i),H,I.tok _,#[_,rfl],q]
def iD:UnR X (unaryOp .USub) (rU λi=>.int (-i)):=unI λ_ _ _ _ _ q=>neg_int q
end
def scal:V->V->Bool
  | .non,.non=>true|.non,.int _=>true|.int _,.non=>true|.non,.bl _=>true|.bl _,.non=>true|.non,.str _=>true|.str _,.non=>true
  | .int _,.int _=>true|.bl _,.bl _=>true|.str _,.str _=>true|.byt _,.byt _=>true
  | .int _,.str _=>true|.str _,.int _=>true|.bl _,.str _=>true|.str _,.bl _=>true
  | _,_=>false
inductive rEq (x:V)(y:V)(H:Hp)(Q:VK):Prop
  | c:scal x y=true->Q (.bl (decide (x=y))) H->rEq x y H Q
inductive rNe (x:V)(y:V)(H:Hp)(Q:VK):Prop
  | c:scal x y=true->Q (.bl (!decide (x=y))) H->rNe x y H Q
def zX {i j:Int}:decide (V.int i=V.int j)=(i==j):=by
  rw[nO];simp
def zY {i j:Bool}:decide (V.bl i=V.bl j)=(i==j):=by
  rw[nO];simp
def zZ {i j:Str}:decide (V.str i=V.str j)=(i==j):=by
  rw[nO];simp
def z4 {i j:Array UInt8}:decide (V.byt i=V.byt j)=(i.toList==j.toList):=by
  rw[nO];cases i
  cases j
  simp
section
variable {X:Cx}{a b c:Expr}{ta tb tc:TE}{pos:Pos}
def bT {Q:VK}{k k':Bool}(I:Inv X Px U H s)(q:Q (.bl k) H)(e:k=k'):EP X Px U Q (.bool k') s:=by
  subst e;exact #[.bl k,H,I,rfl,q]
def d9:OpR X (compareOp .Eq) rEq:=by
  intro Px s U H x y v u Q I rx ry h;obtain ⟨hs,q⟩:=h;cases x with
  | non=>
    cases rx
    cases y with
    | non=>cases ry;exact PySem.EqNone.eq_none_none (bT I q (by simp))
    | bl j=>cases ry;exact PySem.EqNone.eq_none_bool (bT I q (by simp))
    | int j=>obtain ⟨t',rfl⟩:=ry;exact PySem.EqNone.eq_none_int (bT I q (by simp))
    | str j=>obtain ⟨t',rfl⟩:=ry;exact PySem.EqNone.eq_none_str (bT I q (by simp))
    | _=>exact absurd (show false=true from hs) cK
  | bl i=>
    cases rx
    cases y with
    | non=>cases ry;exact PySem.EqNone.eq_bool_none (bT I q (by simp))
    | bl j=>cases ry;exact eq_bool (bT I q zY)
    | str j=>obtain ⟨t',rfl⟩:=ry;exact PySem.EqMixed.eq_bool_str (bT I q (by simp))
    | _=>exact absurd (show false=true from hs) cK
  | int i=>
    obtain ⟨t,rfl⟩:=rx;cases y with
    | non=>cases ry;exact PySem.EqNone.eq_int_none (bT I q (by simp))
    | int j=>obtain ⟨t',rfl⟩:=ry;exact eq_int (bT I q zX)
    | str j=>obtain ⟨t',rfl⟩:=ry;exact PySem.EqMixed.eq_int_str (bT I q (by simp))
    | _=>exact absurd (show false=true from hs) cK
  | str i=>
    obtain ⟨t,rfl⟩:=rx;cases y with
    | non=>cases ry;exact PySem.EqNone.eq_str_none (bT I q (by simp))
    | bl j=>cases ry;exact PySem.EqMixed.eq_str_bool (bT I q (by simp))
    | int j=>obtain ⟨t',rfl⟩:=ry;exact PySem.EqMixed.eq_str_int (bT I q (by simp))
    | str j=>obtain ⟨t',rfl⟩:=ry;exact eq_str (bT I q zZ)
    | _=>exact absurd (show false=true from hs) cK
  | byt i=>
    obtain ⟨t,rfl⟩:=rx;cases y with
    | byt j=>obtain ⟨t',rfl⟩:=ry;exact W.eq_bytes (bT I q z4)
    | _=>exact absurd (show false=true from hs) cK
  | _=>cases y<;>exact absurd (show false=true from hs) cK
def l8:OpR X (compareOp .NotEq) rNe:=by
  intro Px s U H x y v u Q I rx ry h;obtain ⟨hs,q⟩:=h;cases x with
  | non=>
    cases rx
    cases y with
    | non=>cases ry;exact PySem.EqNone.ne_none_none (bT I q (by simp))
    | bl j=>cases ry;exact PySem.EqNone.ne_none_bool (bT I q (by simp))
    | int j=>obtain ⟨t',rfl⟩:=ry;exact PySem.EqNone.ne_none_int (bT I q (by simp))
    | str j=>obtain ⟨t',rfl⟩:=ry;exact PySem.EqNone.ne_none_str (bT I q (by simp))
    | _=>exact absurd (show false=true from hs) cK
  | bl i=>
    cases rx
    cases y with
    | non=>cases ry;exact PySem.EqNone.ne_bool_none (bT I q (by simp))
    | bl j=>cases ry;exact ne_bool (bT I q (congrArg not zY))
    | str j=>obtain ⟨t',rfl⟩:=ry;exact PySem.EqMixed.ne_bool_str (bT I q (by simp))
    | _=>exact absurd (show false=true from hs) cK
  | int i=>
    obtain ⟨t,rfl⟩:=rx;cases y with
    | non=>cases ry;exact PySem.EqNone.ne_int_none (bT I q (by simp))
    | int j=>obtain ⟨t',rfl⟩:=ry;exact ne_int (bT I q (congrArg not zX))
    | str j=>obtain ⟨t',rfl⟩:=ry;exact PySem.EqMixed.ne_int_str (bT I q (by simp))
    | _=>exact absurd (show false=true from hs) cK
  | str i=>
    obtain ⟨t,rfl⟩:=rx;cases y with
    | non=>cases ry;exact PySem.EqNone.ne_str_none (bT I q (by simp))
    | bl j=>cases ry;exact PySem.EqMixed.ne_str_bool (bT I q (by simp))
    | int j=>obtain ⟨t',rfl⟩:=ry;exact PySem.EqMixed.ne_str_int (bT I q (by simp))
    | str j=>obtain ⟨t',rfl⟩:=ry;exact ne_str (bT I q (congrArg not zZ))
    | _=>exact absurd (show false=true from hs) cK
  | byt i=>
    obtain ⟨t,rfl⟩:=rx;cases y with
    | byt j=>obtain ⟨t',rfl⟩:=ry;exact W.ne_bytes (bT I q (congrArg not z4))
    | _=>exact absurd (show false=true from hs) cK
  | _=>cases y<;>exact absurd (show false=true from hs) cK
def eL:OpR X (compareOp .Lt) (rI0 λi j=>.bl (decide (i<j))):=opB0 λ_ _ _ _ _ _ _ q=>lt_int q
def jm:OpR X (compareOp .LtE) (rI0 λi j=>.bl (decide (i<=j))):=opB0 λ_ _ _ _ _ _ _ q=>le_int q
def gK:OpR X (compareOp .Gt) (rI0 λi j=>.bl (decide (j<i))):=opB0 λ_ _ _ _ _ _ _ q=>gt_int q
def ma:OpR X (compareOp .GtE) (rI0 λi j=>.bl (decide (j<=i))):=opB0 λ_ _ _ _ _ _ _ q=>ge_int q
def z5:OpR X (compareOp .IsNot) (λx y H Q=>y=.non/\Q (.bl (!decide (x=.non))) H):=by
  intro Px s U H x y v u Q I rx ry h;obtain ⟨rfl,q⟩:=h;cases ry
  refine isnot_none_gen (bT I q ?_);cases x<;>first
    | (cases rx;rfl)
    | (obtain ⟨t,rfl⟩:=rx;rfl)
def aY (b:Expr){op:CmpOp}(h:op≠.In:=by decide)(h2:op≠.NotIn:=by decide):behindInMarks op b=false:=by
  have e1:(op==CmpOp.In)=false:=by cases op<;>first|rfl|exact absurd rfl h
  have e2:(op==CmpOp.NotIn)=false:=by cases op<;>first|rfl|exact absurd rfl h2
  cases b<;>simp[behindInMarks,e1,e2]
def iE {op:CmpOp}(ho:OpR X (compareOp op) r)(ha:PE X a ta)(hb:PE X b tb)(hm:behindInMarks op b=false):PE X (.Compare a [op] [b] pos) (tOp r ta tb):=by
  intro Px s U H Q I h;exact wpAny_Compare1 (binT ha hb I h λv u s2 x y H2 I2 rx ry q=>ho Px s2 U H2 x y v u Q I2 rx ry q) hm
inductive z6 (Q:Bool->Hp->Prop)(x:V)(H':Hp):Prop
  | c:∀ k,x=.bl k->Q k H'->z6 Q x H'
def uG (t:TE):TT:=λU H Q=>t U H λx H'=>z6 Q x H'
def aV {op:CmpOp}(ho:OpR X (compareOp op) r)(ha:PE X a ta)(hb:PE X b tb)(hm:behindInMarks op b=false):PT X (.Compare a [op] [b] pos) (uG (tOp r ta tb)):=by
  intro Px s U H Q I h;refine wpAny_isTrue_Compare1 (thn (ha Px s U H _ I h) λv s1 ⟨x,H1,I1,r1,q1⟩=>thn (hb Px s1 U H1 _ I1 q1) λu s2 ⟨y,H2,I2,r2,q2⟩=>
    thn (ho Px s2 U H2 x y v u _ I2 r1 r2 q2) λc s3 ⟨z,H3,I3,r3,k,e,q3⟩=>?_) hm
  subst e;cases r3
  exact wpAny_truthy_bool #[H3,I3,q3]
inductive z7 (r':R2)(tc:TE)(U:St)(Q:VK)(y:V)(z:V)(H3:Hp):Prop
  | c:∀ k,z=.bl k->(if k=true then tc U H3 λw' H4=>r' y w' H4 Q else Q (.bl false) H3)->z7 r' tc U Q y z H3
def Aa (r r':R2)(ta tb tc:TE):TE:=λU H Q=>ta U H λx H1=>tb U H1 λy H2=>r x y H2 λz H3=>z7 r' tc U Q y z H3
def Ab {op op':CmpOp}(ho:OpR X (compareOp op) r)(ho':OpR X (compareOp op') r')(ha:PE X a ta)(hb:PE X b tb)(hc:PE X c tc)
    (hm:lastMarks [op,op'] [b,c]=false:=by with_unfolding_all rfl):PE X (.Compare a [op,op'] [b,c] pos) (Aa r r' ta tb tc):=by
  intro Px s U H Q I h;refine Compare_chain (thn (ha Px s U H _ I h) λv s1 ⟨x,H1,I1,r1,q1⟩=>chain_link (thn (hb Px s1 U H1 _ I1 q1) λu s2 ⟨y,H2,I2,r2,q2⟩=>
    thn (ho Px s2 U H2 x y v u _ I2 r1 r2 q2) λd s3 ⟨z,H3,I3,r3,k,e,q3⟩=>?_)) hm
  subst e;cases r3
  refine wpAny_truthy_bool ?_;cases k with
  | false=>exact ite_ff #[.bl false,H3,I3,rfl,q3]
  | true=>exact ite_tt (chain_last (thn (hc Px s3 U H3 _ I3 q3) λw' s4 ⟨z',H4,I4,r4,q4⟩=>ho' Px s4 U H4 y z' u w' Q I4 r2 r4 q4))
def Ac {op op':CmpOp}(ho:OpR X (compareOp op) r)(ho':OpR X (compareOp op') r')(ha:PE X a ta)(hb:PE X b tb)(hc:PE X c tc)
    (hm:lastMarks [op,op'] [b,c]=false:=by with_unfolding_all rfl):PT X (.Compare a [op,op'] [b,c] pos) (uG (Aa r r' ta tb tc)):=by
  intro Px s U H Q I h;refine isTrue_chain (thn (ha Px s U H _ I h) λv s1 ⟨x,H1,I1,r1,q1⟩=>test_link (thn (hb Px s1 U H1 _ I1 q1) λu s2 ⟨y,H2,I2,r2,q2⟩=>
    thn (ho Px s2 U H2 x y v u _ I2 r1 r2 q2) λd s3 ⟨z,H3,I3,r3,k,e,q3⟩=>?_)) hm
  subst e;cases r3
  refine wpAny_truthy_bool ?_;cases k with
  | false=>
    obtain ⟨k',e',q'⟩:=q3;cases e'
    exact ite_ff #[H3,I3,q']
  | true=>
    refine ite_tt (test_last (thn (hc Px s3 U H3 _ I3 q3) λw' s4 zq0=>?_));obtain ⟨z',H4,I4,r4,q4⟩:=zq0;refine thn (ho' Px s4 U H4 y z' u w' _ I4 r2 r4 q4) λd' s5 zq1=>?_;obtain ⟨z2,H5,I5,r5,k2,e2,q5⟩:=zq1;subst e2;cases r5
    exact wpAny_truthy_bool #[H5,I5,q5]
def oM:(sizeLine:Nat)<2^63:=by rw[sizeLine_eq];decide
def eX {x:V}{us:List Value}(r:Vals [x] us):∃ u,us=[u]/\RelV x u:=by
  cases r with
  | cons r1 r2=>cases r2;exact #[_,rfl,r1]
def fX {x y:V}{us:List Value}(r:Vals [x,y] us):∃ u w',us=[u,w']/\RelV x u/\RelV y w':=by
  cases r with
  | cons r1 r2=>
    cases r2 with
    | cons r3 r4=>cases r4;exact #[_,_,rfl,r1,r3]
def uH:cQ X (.builtin "abs") (λxs H Q=>∃ i,xs=[.int i]/\Q (.int (if i<0 then -i else i)) H):=by
  intro Px s U H xs us Q I r h;obtain ⟨i,rfl,q⟩:=h;obtain ⟨u,rfl,t,rfl⟩:=eX r;exact call_abs_int λu tk=>#[.int (if i<0 then -i else i),H,I.tok _,#[_,rfl],q]
def uI (hc:X.calm=true):cQ X (.builtin "max") (λxs H Q=>∃ i j,xs=[.int i,.int j]/\Q (.int (if j>i then j else i)) H):=by
  intro Px s U H xs us Q I r h;obtain ⟨i,j,rfl,q⟩:=h;obtain ⟨u,w',rfl,⟨t,rfl⟩,⟨t',rfl⟩⟩:=fX r;refine max_two_ints (I.ok.hd hc) λh' tk k=>#[_,H,I.kept k,?_,q];by_cases hj:j>i
  · rw[aq hj,aq hj];exact #[_,rfl]
  · rw[ak hj,ak hj];exact #[_,rfl]
def Ad (hc:X.calm=true):cQ X (.builtin "min") (λxs H Q=>∃ i j,xs=[.int i,.int j]/\Q (.int (if j<i then j else i)) H):=by
  intro Px s U H xs us Q I r h;obtain ⟨i,j,rfl,q⟩:=h;obtain ⟨u,w',rfl,⟨t,rfl⟩,⟨t',rfl⟩⟩:=fX r;refine min_two_ints (I.ok.hd hc) λh' tk k=>#[_,H,I.kept k,?_,q];by_cases hj:j<i
  · rw[aq hj,aq hj];exact #[_,rfl]
  · rw[ak hj,ak hj];exact #[_,rfl]
end
structure ObjM (h:Heap)(x dx C:Addr)(mA:Str->Option Value):Prop where
  obj:h.get? x=some (W.instObj C dx)
  ns:h.Ns1 dx mA
  ne:dx≠x
def Fz {h:Heap}{dx:Addr}{mA:Str->Option Value}(n:h.Ns1 dx mA):∃ od,h.get? dx=some od/\∀ name,W.lookIn name od=some (mA name):=by
  obtain ⟨o,es,ep,ho,hd,hk,_,hm⟩:=n;refine #[o,ho,λname=>?_];have e:=hm name;unfold nsFind findBy at e;rw[<-Array.find?_toList]at e;unfold W.lookIn;rw[hd];dsimp only;split
  · rename_i y q
    rw[q]at e;exact congrArg some e
  · rename_i q
    rw[q]at e;have a:es.toList.any (·.refKey)=false:=by
      rw[List.any_eq_false];intro y hy;obtain ⟨z,t,hkey⟩:=hk y (Array.mem_toList_iff.mp hy);simp[DictEntry.refKey,hkey]
    have a':¬ es.toList.any (·.refKey)=true:=by rw[a];exact cK
    rw[ak a'];exact congrArg some e
def ObjM.look (I:ObjM h x dx C mA):∃ od,W.InstAt h x (W.instObj C dx) C (some od)/\∀ name,W.lookIn name od=some (mA name):=
  let ⟨od,ho,hl⟩:=Fz I.ns
  #[od,#[I.obj,rfl,rfl,ho],hl]
section
variable {prog:Program}{w:World}{A:Around}{E:Value->Shared->Prop}{s:Shared}{K:Frag}{x dx C f:Addr}{mA:Str->Option Value}{name:Str}{v:Value}
def FB {expr:Bool}{Q:Value->Shared->Prop}(X:K.In s.heap)(I:ObjM s.heap x dx C mA)(hg:W.plainGet K C name=true)(hh:W.hasDictIn K C=true)
    (ha:findIn K (.ref C) name=some none) (hv:mA name=some v) (hv':W.handedIn v=true) (h:Q v { s with toks:=s.toks+1 }) :
    wpAny (model prog w) A (getAttr (.ref x) name expr) Q E s:=by
  obtain ⟨od,J,hl⟩:=I.look;exact W.get_value X J (W.plainGet_of hg).1 (W.findObj_own hh ha rfl (by rw[hl,hv])) hv' h
def FD {pl:Sem Bool}{Q:Value×List Value->Shared->Prop}(X:K.In s.heap)(I:ObjM s.heap x dx C mA)(hg:W.plainGet K C name=true)
    (hf:findIn K (.ref C) name=some (some (.ref f))) (ht:W.isFn K (.ref f)=true) (hv:mA name=none) (h:Q (.ref f,[.ref x]) s) :
    wpAny (model prog w) A (getMethod (.ref x) name pl) Q E s:=by
  obtain ⟨od,J,hl⟩:=I.look;exact W.method_fn X J (W.plainGet_of hg).1 (W.plainGet_of hg).2 hf (beq_iff_eq.mp ht) (by show (W.lookIn name od).map (·.isSome)=some false;rw[hl,hv];rfl) h
def FE {ns:List Str}{Q:Unit->Shared->Prop}(X:K.In s.heap)(I:ObjM s.heap x dx C mA)
    (hs:findIn K (.ref C) "__setattr__" = some (some (.builtin "object.__setattr__"))) (hp:W.plainOver K C=true) (ht:W.takerIn K C name=some none) (hh:W.hasDictIn K C=true)
    (hw:PySem.Within mA ns) (hsz:ns.length<=sizeLine)
    (h:∀ h',ObjM h' x dx C (λy=>if y=name then some v else mA y)->Heap.SameBut dx s.heap h'->Q () { s with heap:=h',toks:=s.toks+2 }) :
    wpAny (model prog w) A (setAttr (.ref x) name v) Q E s:=by
  obtain ⟨od,J,hl⟩:=I.look;refine W.set_plain X J hs (W.osa_open (s:={ s with toks:=s.toks+1 }) (r:=none) X J hp ht λb=>?_);obtain ⟨cd,hc,hd'⟩:=W.any_some hh;have hx:s.heap.get? x=some #[.ref C,some dx,.plain,(List.toArray [])]:=I.obj;refine ay (aS (ay (ay (wpAny_loadPart hx (ay (W.Looks.here (s:={ s with toks:=s.toks+1 }) (W.looks_clsIn X hc) ?_))))));rw[hd'];refine aS (a:=some dx) (ay (aS (ay ?_)));refine wpAny_nsSet1 (s:={ s with toks:=s.toks+1 }) I.ns λh' hn2 hs2=>?_;obtain ⟨oD,esD,epD,hoD,hdD,hcD⟩:=hn2.count (PySem.Within.cons name v hw);refine ay (wpAny_lookBehind hoD (by rw[hdD];exact pastItsLine_dict (bS hcD (by rw[cS];lia))) ?_);exact aS (h _ #[(hs2.2 _ (bf I.ne)).trans I.obj,hn2,I.ne] hs2)
def FF {R:Result->Shared->Prop}{vs:List Value}{kw:List (Str×Value)}(X:K.In s.heap)(hm:W.makesIn K C=true)
    (hi:findIn K (.ref C) "__init__" = some (some (.ref f))) (hf:W.typeIn K (.ref f)=some (.type "function"))
    (h:codeAny (model prog w) (A.under (.builtin "type.__call__" #[.ref C::vs,kw])) (.call (.ref f) #[.ref (s.heap.objs.size+1)::vs,kw]) (W.InitBack (s.heap.objs.size+1) R)
      { s with heap:=(s.heap.push W.emptyDict).push (W.instObj C s.heap.objs.size) }) :
    codeAny (model prog w) A (.call (.ref C) #[vs,kw]) R s:=by
  obtain ⟨hh,g,d,t,os⟩:=s;exact W.make_core (W.makes_of X hm) (W.looks_findIn X hi) (λself=>W.bind_fn X self hf) (.inl rfl) h
end
def putF (f:Str)(v:V):List (Str×V)->List (Str×V)
  | []=>[(f,v)]
  | (g,x)::r=>if g=f then (g,v)::r else (g,x)::putF f v r
def Ae (f g:Str)(v:V):∀ fs:List (Str×V),(putF f v fs).lookup g=if g=f then some v else fs.lookup g
  | []=>by
    show List.lookup g [(f,v)]=_;by_cases h:g=f
    · have hb:(g==f)=true:=beq_iff_eq.mpr h
      simp only[List.lookup,hb,aq h]
    · have hb:(g==f)=false:=beq_eq_false_iff_ne.mpr h
      simp only[List.lookup,hb,ak h]
  | (k,x)::r=>by
    have ih:=Ae f g v r;rw[show putF f v ((k,x)::r)=(if k=f then (k,v)::r else (k,x)::putF f v r) from rfl]
    by_cases hk:k=f
    · rw[aq hk]
      by_cases h:g=k
      · have hb:(g==k)=true:=beq_iff_eq.mpr h
        simp only[List.lookup,hb,aq (h.trans hk)]
      · have hb:(g==k)=false:=beq_eq_false_iff_ne.mpr h
        simp only[List.lookup,hb,ak (λe:g=f=>h (e.trans hk.symm))]
    · rw[ak hk]
      by_cases h:g=k
      · have hb:(g==k)=true:=beq_iff_eq.mpr h
        simp only[List.lookup,hb,ak (λe:g=f=>hk (h.symm.trans e))]
      · have hb:(g==k)=false:=beq_eq_false_iff_ne.mpr h
        simp only[List.lookup,hb];exact ih
def uJ (f:Str)(v:V):∀ fs:List (Str×V),f∈(putF f v fs).map (·.1)/\∀ g,g∈fs.map (·.1)->g∈(putF f v fs).map (·.1)
  | []=>#[by simp[putF],λg h=>by simp at h]
  | (k,x)::r=>by
    obtain ⟨i1,i2⟩:=uJ f v r;rw[show putF f v ((k,x)::r)=(if k=f then (k,v)::r else (k,x)::putF f v r) from rfl]
    by_cases hk:k=f
    · rw[aq hk]
      subst hk;exact #[by simp,λg h=>by simpa using h]
    · rw[ak hk]
      refine #[?_,λg h=>?_]
      · rw[bK]
        exact bV _ i1
      · rw[bK]at h ⊢
        rcases aW.mp h with e|e
        · exact aW.mpr (.inl e)
        · exact bV _ (i2 g e)
def Af (f:Str)(v:V):∀ fs:List (Str×V),(putF f v fs).length<=fs.length+1
  | []=>by simp[putF]
  | (k,x)::r=>by
    have ih:=Af f v r;rw[show putF f v ((k,x)::r)=(if k=f then (k,v)::r else (k,x)::putF f v r) from rfl]
    by_cases hk:k=f
    · rw[aq hk,cS,cS];lia
    · rw[ak hk,cS,cS];lia
def RelO.some_of {v:V}{o:Option Value}(r:RelO (some v) o):∃ u,o=some u/\RelV v u:=by
  cases o with
  | none=>exact (show False from r).elim
  | some u=>exact #[u,rfl,r]
def RelO.none_of {o:Option Value}(r:RelO none o):o=none:=by
  cases o with
  | none=>rfl
  | some u=>exact (show False from r).elim
def FG {v:V}{u:Value}(r:RelV v u):W.handedIn u=true:=by
  cases v with
  | non=>cases (show u=Value.none from r);rfl
  | bl b=>cases (show u=Value.bool b from r);rfl
  | int i=>obtain ⟨t,e⟩:=(show ∃ t,u=Value.int i t from r);cases e;rfl
  | str x=>obtain ⟨t,e⟩:=(show ∃ t,u=Value.str x t from r);cases e;rfl
  | byt b=>obtain ⟨t,e⟩:=(show ∃ t,u=Value.bytes b t from r);cases e;rfl
  | flt b=>obtain ⟨t,e⟩:=(show ∃ t,u=Value.float b t from r);cases e;rfl
  | ref a=>cases (show u=Value.ref a from r);rfl
  | ty n=>cases (show u=Value.type n from r);rfl
section
variable {P:Program}{w:World}{H H':Hp}{h h':Heap}{a C dx:Addr}{fs fs':List (Str×V)}
def oN (hok:HOk P w H h)(e:H a=some (.ins C dx fs)):∃ mA,ObjM h a dx C mA/\(∀ f,RelO (fs.lookup f) (mA f))/\PySem.Within mA (fs.map (·.1))/\fs.length<=1000/\H dx=some (.own a):=by
  obtain ⟨d,z,ne,ob,mA,n,r,q⟩:=(show bN P w H h a (.ins C dx fs) from hok a _ e);exact #[mA,#[ob,n,ne],r,q,z,d]
end
structure Cls (K:Frag)(C:Addr):Prop where
  pg:W.plainGet K C Str.empty=true
  hd:W.hasDictIn K C=true
  po:W.plainOver K C=true
  sa:findIn K (.ref C) "__setattr__" = some (some (.builtin "object.__setattr__"))
def Cls.get {K:Frag}{C:Addr}(c:Cls K C)(f:Str):W.plainGet K C f=true:=c.pg
def iF (K:Frag)(C:Addr)(f:Str):Prop:=findIn K (.ref C) f=some none
def iF.taker {K:Frag}{f:Str}(n:iF K C f):W.takerIn K C f=some none:=by
  unfold W.takerIn;rw[show findIn K (.ref C) f=some none from n];rfl
structure Meth (K:Frag)(C:Addr)(m:Str)(f:Addr):Prop where
  at_:findIn K (.ref C) m=some (some (.ref f))
  fn:W.isFn K (.ref f)=true
  kp:keepIn K (.ref f)=true
section
variable {X:Cx}{Px:List (Addr×Obj)}{U:St}{H:Hp}{s:Shared}{a C dx:Addr}{fs:List (Str×V)}{f:Str}{v:V}{A:Around}{E:Value->Shared->Prop}
def FH {b:Bool}{Q:Value->Shared->Prop}(I:Inv X Px U H s)(e:H a=some (.ins C dx fs))(c:Cls X.K C)(n:iF X.K C f)(l:fs.lookup f=some v)
    (h:∀ u s',Inv X Px U H s'->RelV v u->Q u s'):wpAny (model X.prog X.w) A (getAttr (.ref a) f b) Q E s:=by
  obtain ⟨mA,O,r,_,_,_⟩:=oN I.hok e;obtain ⟨u,hu,ru⟩:=RelO.some_of (v:=v) (o:=mA f) (by rw[<-l];exact r f);exact FB I.kIn O (c.get f) c.hd n hu (FG ru) (h u _ (I.tok _) ru)
def Ag {pl:Sem Bool}{Q:Value×List Value->Shared->Prop}(I:Inv X Px U H s)(e:H a=some (.ins C dx fs))(c:Cls X.K C)(k:Meth X.K C m g)(l:fs.lookup m=none)
    (h:Q (.ref g,[.ref a]) s):wpAny (model X.prog X.w) A (getMethod (.ref a) m pl) Q E s:=by
  obtain ⟨mA,O,r,_,_,_⟩:=oN I.hok e;have hn:mA m=none:=RelO.none_of (by rw[<-l];exact r m);exact FD I.kIn O (c.get m) k.at_ k.fn hn h
def FJ {y:V}{u:Value}{Q:Unit->Shared->Prop}(I:Inv X Px U H s)(e:H a=some (.ins C dx fs))(c:Cls X.K C)(n:iF X.K C f)(hl:fs.length<1000)(ry:RelV y u)
    (h:∀ s',Inv X Px U (upd H a (.ins C dx (putF f y fs))) s'->Q () s'):wpAny (model X.prog X.w) A (setAttr (.ref a) f u) Q E s:=by
  obtain ⟨mA,O,r,wi,_,ho⟩:=oN I.hok e;have hz:(fs.map (·.1)).length<=sizeLine:=by rw[ai,sizeLine_eq];lia
  refine FE I.kIn O c.sa c.po n.taker c.hd wi hz λh' O' sb=>h _ ?_;have hd:∃ o,h'.get? dx=some o:=let ⟨o,_,_,e',_⟩:=O'.ns;#[o,e'];refine I.write (x:=a) (e:=dx) (by rw[e];exact True.intro) (.inr ho) (λb q hb z=>(sb.2 b hb).trans z) hd ?_;refine #[by rw[ah O.ne];exact ho,?_,O.ne,O'.obj,_,O'.ns,λg=>?_,λg hg=>?_]
  · have:=Af f y fs;lia
  · show RelO ((putF f y fs).lookup g) (if g=f then some u else mA g)
    rw[Ae];by_cases q:g=f
    · rw[aq q,aq q];exact ry
    · rw[ak q,ak q];exact r g
  · by_cases q:g=f
    · rw[q];exact (uJ f y fs).1
    · refine (uJ f y fs).2 g (wi g λz=>hg ?_)
      show (if g=f then some u else mA g)=none
      rw[ak q];exact z
def Inv.made (I:Inv X Px U H s):Inv X Px U (upd (upd H s.heap.objs.size (.own (s.heap.objs.size+1))) (s.heap.objs.size+1) (.ins C s.heap.objs.size []))
    { s with heap:=(s.heap.push W.emptyDict).push (W.instObj C s.heap.objs.size) }:=by
  have e1:(s.heap.push W.emptyDict).get? s.heap.objs.size=some W.emptyDict:=bZ s.heap rfl;have e2:((s.heap.push W.emptyDict).push (W.instObj C s.heap.objs.size)).get? (s.heap.objs.size+1)=some (W.instObj C s.heap.objs.size):=by
    have:=bZ (s.heap.push W.emptyDict) (o:=W.instObj C s.heap.objs.size) rfl;rwa[lN]at this
  have e3:(s.heap.push W.emptyDict).Ns s.heap.objs.size (λ_=>none):=#[W.emptyDict,(List.toArray []),_,e1,rfl,(λe he=>absurd he (by simp)),λ_=>rfl];have I1:=I.laid (a:=s.heap.objs.size) (o:=.own (s.heap.objs.size+1)) (h':=s.heap.push W.emptyDict) (t':=s.toks) (λb u q=>aX _ q) (aj _) #[_,e1];refine I1.laid (a:=s.heap.objs.size+1) (o:=.ins C s.heap.objs.size []) (t':=s.toks) (λb u q=>aX _ q) (lO (lN _ _)) ?_;have ne:s.heap.objs.size≠s.heap.objs.size+1:=bL (lP _);refine #[by rw[ah ne,af],cf _,ne,e2,λ_=>none,(Heap.Ns1.of_empty e3).at λo q=>aX _ q,λ_=>True.intro,λy hy=>absurd rfl hy]
def FK {prog:Program}{w:World}{env:Env}{e:Expr}{f:Str}{pos:Pos}{s:Shared}{Q:Value->Shared->Prop}(hb:attributeBase e f env (eval e env)=eval e env)
    (h:wpAny (model prog w) A (eval e env) (λo s₁=>wpAny (model prog w) A (getAttr o f true) Q E s₁) E s):wpAny (model prog w) A (eval (.Attribute e f pos) env) Q E s:=
  Attribute_any_ h (by rw[arm_eval_Attribute,hb])
end
inductive Ah (K:Frag)(f:Str)(Q:VK)(x:V)(H1:Hp):Prop
  | c:∀ a C dx fs v,x=.ref a->H1 a=some (.ins C dx fs)->Cls K C->iF K C f->fs.lookup f=some v->Q v H1->Ah K f Q x H1
def tFld (K:Frag)(ta:TE)(f:Str):TE:=λU H Q=>ta U H λx H1=>Ah K f Q x H1
inductive Ai (K:Frag)(f:Str)(D:Ends)(U:St)(y:V)(x:V)(H2:Hp):Prop
  | c:∀ a C dx fs,x=.ref a->H2 a=some (.ins C dx fs)->Cls K C->iF K C f->fs.length<1000->D.nx U (upd H2 a (.ins C dx (putF f y fs)))->Ai K f D U y x H2
def sFld (K:Frag)(ta tv:TE)(f:Str):TS:=λD U H=>tv U H λy H1=>ta U H1 λx H2=>Ai K f D U y x H2
section
variable {X:Cx}{o e value:Expr}{f:Str}{pos pos' tpos:Pos}{ta tv:TE}
def eN (he:PE X e ta)(hb:attributeBase e f X.env (eval e X.env)=eval e X.env):PE X (.Attribute e f pos) (tFld X.K ta f):=by
  intro Px s U H Q I h;refine FK hb (thn (he Px s U H _ I h) λu s1 zq0=>?_);obtain ⟨x,H1,I1,rx,a,C,dx,fs,v,ex,ea,c,n,l,q⟩:=zq0;subst ex;obtain rfl:u=Value.ref a:=rx;exact FH I1 ea c n l λu' s2 I2 ru=>#[v,H1,I2,ru,q]
def oO (ha:PE X o ta)(hv:PE X value tv)(hs:swapsWith value (some (.Attribute o f pos')) pos.line X.env=pure false):PS X (.Assign [.Attribute o f pos'] value pos) (sFld X.K ta tv f):=by
  intro Px s U H D I h;refine plainObj_wpAny_Assign_Attribute (thn (hv Px s U H _ I h) λu s1 zq0=>?_) hs;obtain ⟨y,H1,I1,ry,q⟩:=zq0;refine thn (ha Px s1 U H1 _ I1 q) λov s2 zq1=>?_;obtain ⟨x,H2,I2,rx,a,C,dx,fs,ex,ea,c,n,l,q2⟩:=zq1;subst ex;obtain rfl:ov=Value.ref a:=rx;exact FJ I2 ea c n l ry λs3 I3=>#[U,_,I3,q2]
end
section
variable {X:Cx}{Px:List (Addr×Obj)}{U:St}{H:Hp}{s:Shared}{A:Around}{E:Value->Shared->Prop}{Q:Value->Shared->Prop}{c:Value}{b:Bool}
inductive TyOf (K:Frag)(H:Hp):V->Value->Prop where
  | non:TyOf K H .non (.type "NoneType")
  | bl (x:Bool):TyOf K H (.bl x) (.type "bool")
  | int (i:Int):TyOf K H (.int i) (.type "int")
  | str (x:Str):TyOf K H (.str x) (.type "str")
  | flt (x:UInt64):TyOf K H (.flt x) (.type "float")
  | lst {a:Addr} {xs:List V} (e:H a=some (.lst xs)):TyOf K H (.ref a) (.type "list")
  | frz {a:Addr} {o:Obj} {xs:List V} (e:H a=some (.frz o (.lst xs))):TyOf K H (.ref a) (.type "list")
  | tup {a:Addr} {xs:List V} (e:H a=some (.tup xs)):TyOf K H (.ref a) (.type "tuple")
  | dK {a:Addr} {kvs:List (Key×V)} (e:H a=some (.dK kvs)):TyOf K H (.ref a) (.type "dict")
  | dT {a:Addr} {kvs:List (List Key×V)} (e:H a=some (.dT kvs)):TyOf K H (.ref a) (.type "dict")
  | ins {a C dx:Addr} {fs:List (Str×V)} (e:H a=some (.ins C dx fs)) (cl:Cls K C) (ha:findIn K (.ref C) "__class__" = some (some (.builtin "object.__class__")))
      (hn:W.specialIn K (.builtin "object.__class__") "__get__" = some (some (.builtin "getset_descriptor.__get__"))) (htk:W.takesIn K (.builtin "object.__class__")=some true)
      (hm:mroIn K C (.type "object")=some true):TyOf K H (.ref a) (.ref C)
def FL {x:V}{u t:Value}(I:Inv X Px U H s)(rx:RelV x u)(ty:TyOf X.K H x t)(e:kitOne X.K t c=some b)(h:∀ tk,Q (.bool b) { s with toks:=tk }) :
    wpAny (model X.prog X.w) A (call (.builtin "isinstance") [u,c]) Q E s:=by
  cases ty with
  | non=>cases (show u=Value.none from rx);exact W.kia_one W.kitx_none I.kIn True.intro e nofun h
  | bl y=>cases (show u=Value.bool y from rx);exact W.kia_one W.kitx_bool I.kIn True.intro e nofun h
  | int i=>obtain ⟨t,q⟩:=(show ∃ t,u=Value.int i t from rx);cases q;exact W.kia_one W.kitx_int I.kIn True.intro e nofun h
  | str y=>obtain ⟨t,q⟩:=(show ∃ t,u=Value.str y t from rx);cases q;exact W.kia_one W.kitx_str I.kIn True.intro e nofun h
  | flt y=>obtain ⟨t,q⟩:=(show ∃ t,u=Value.float y t from rx);cases q;exact W.kia_one W.kitx_float I.kIn True.intro e nofun h
  | @lst a xs ea=>
    cases (show u=Value.ref a from rx)
    obtain ⟨_,_,n,_,h1⟩:=(show bN X.prog X.w H s.heap a (.lst xs) from I.hok a _ ea);exact W.kia_one W.kitx_list I.kIn #[_,h1,rfl] e nofun h
  | @frz a ob xs ea=>
    cases (show u=Value.ref a from rx)
    obtain ⟨_,_,_,n,_,h1⟩:=(show bN X.prog X.w H s.heap a (.frz ob (.lst xs)) from I.hok a _ ea);exact W.kia_one W.kitx_list I.kIn #[_,h1,rfl] e nofun h
  | @tup a xs ea=>
    cases (show u=Value.ref a from rx)
    obtain ⟨_,_,_,p⟩:=(show bN X.prog X.w H s.heap a (.tup xs) from I.hok a _ ea);obtain ⟨o,h1,h2,_⟩:=p;exact W.kia_one W.kitx_tuple I.kIn #[o,h1,h2] e nofun h
  | @dK a kvs ea=>
    cases (show u=Value.ref a from rx)
    obtain ⟨_,_,vs,_,p⟩:=(show bN X.prog X.w H s.heap a (.dK kvs) from I.hok a _ ea);obtain ⟨o,es,ep,h1,h2,_⟩:=p;exact W.kia_one W.kitx_dict I.kIn #[o,h1,h2.1] e nofun h
  | @dT a kvs ea=>
    cases (show u=Value.ref a from rx)
    obtain ⟨_,_,xs,_,o,es,ep,h1,h2,_⟩:=(show bN X.prog X.w H s.heap a (.dT kvs) from I.hok a _ ea);exact W.kia_one W.kitx_dict I.kIn #[o,h1,h2.1] e nofun h
  | @ins a C dx fs ea cl ha hn htk hm=>
    cases (show u=Value.ref a from rx)
    obtain ⟨mA,O,_⟩:=oN I.hok ea;obtain ⟨od,J,_⟩:=O.look;exact W.kia_one (W.kitx_own (cl.get _) cl.hd ha hn htk hm) I.kIn J e nofun h
end
structure Room (k:Nat)(A:Around):Prop where
  hd:A.handled=none
  dp:A.depth+3*k+5<recursionLimit
  un:A.units+16*k+200<cLine
  gd:A.guards=some []
def Room.mono {j k:Nat}{A:Around}(r:Room k A)(h:j<=k):Room j A:=#[r.hd,by have:=r.dp;lia,by have:=r.un;lia,r.gd]
def Room.deeper {k:Nat}{A:Around}(r:Room (k+1) A)(env:Env):Room k (A.deeper env):=
  #[r.hd,by have:=r.dp;show A.depth+1+3*k+5<_;lia,by have:=r.un;show A.units+3+16*k+200<_;lia,r.gd]
def FN {A:Around}{C:Addr}{us:List Value}{kw:List (Str×Value)}:(A.under (.builtin "type.__call__" #[.ref C::us,kw])).depth=A.depth+1:=by
  first|rfl|simp[Around.under,Code.weight,Code.isCreation,Code.isGuard,Code.isCaller,Code.frames,Code.isFrame,guardIds]
def FO {A:Around}{C:Addr}{us:List Value}{kw:List (Str×Value)}:(A.under (.builtin "type.__call__" #[.ref C::us,kw])).units=A.units+1:=by
  first|rfl|simp[Around.under,Code.cUnits,Code.frames,Code.isFrame]
def Room.make {k:Nat}{A:Around}(r:Room (k+1) A)(C:Addr)(us:List Value)(kw:List (Str×Value)):Room k (A.under (.builtin "type.__call__" #[.ref C::us,kw])):=
  #[r.hd,by have:=r.dp;rw[FN];lia,by have:=r.un;rw[FO];lia,by have h:=r.gd;simp[Around.under,Code.guards,Code.isGuard,guardIds,pushGuards,h]]
def Room.depth {k:Nat}{A:Around}(r:Room k A):A.depth<recursionLimit:=by have:=r.dp;lia
def Room.units {k:Nat}{A:Around}(r:Room k A):A.units+64<cLine:=by have:=r.un;lia
def tNil:TA:=λ_ H Q=>Q [] H
def oP (ta:TE)(tr:TA):TA:=λU H Q=>ta U H λx H1=>tr U H1 λxs H2=>Q (x::xs) H2
section
variable {X:Cx}{e:Expr}{es:List Expr}{te:TE}{t:TA}{pos:Pos}
def ab:PA X [] tNil:=λ_ _ _ _ H Q I h=>Calls.spliced_nil #[[],H,I,.nil,h]
def aa (ha:PE X e te)(hr:PA X es t)(hs:starEach (e::es) X.env=(false,eval e X.env)::starEach es X.env:=by rfl):PA X (e::es) (oP te t):=by
  intro pos Px s U H Q I h;rw[hs];show wpAny _ _ (spliced ((false,eval e X.env)::backTo pos (starEach es X.env))) _ _ s;refine Calls.spliced_cons (thn (ha Px s U H _ I h) λu s1 zq0=>?_);obtain ⟨x,H1,I1,r1,q1⟩:=zq0;exact thn (hr pos Px s1 U H1 _ I1 q1) λus s2 zq0=>(by obtain ⟨xs,H2,I2,r2,q2⟩:=zq0;exact #[x::xs,H2,I2,.cons r1 r2,q2])
inductive Aj (Q:VK)(xs:List V)(H1:Hp):Prop
  | c:xs.length<=sizeLine->(∀ p,H1 p=none->Q (.ref p) (upd H1 p (.tup xs)))->Aj Q xs H1
def tTup (t:TA):TE:=λU H Q=>t U H λxs H1=>Aj Q xs H1
inductive Ak (Q:VK)(xs:List V)(H1:Hp):Prop
  | c:xs.length<=sizeLine->(∀ p,H1 p=none->Q (.ref p) (upd H1 p (.lst xs)))->Ak Q xs H1
def tLst (t:TA):TE:=λU H Q=>t U H λxs H1=>Ak Q xs H1
def cm {x1}(h:PA X es t):PE X (.Tuple es x1 pos) (tTup t):=by
  intro Px s U H Q I hq;refine wpAny_Tuple_spliced (thn (h pos Px s U H _ I hq) λus s1 zq0=>?_);obtain ⟨xs,H1,I1,r,z,q⟩:=zq0;refine #[by rw[<-r.length];exact z,?_];have hf:H1 s1.heap.objs.size=none:=I1.hok.fresh (aj _);refine #[.ref s1.heap.objs.size,upd H1 s1.heap.objs.size (.tup xs),I1.laid (t':=s1.toks) (λb u e=>aX _ e) (aj _) ?_,rfl,q _ hf];exact #[z,us,r,#[_,bZ _ rfl,rfl,_,rfl]]
def cR (h:PA X es t):PE X (.List es pos) (tLst t):=by
  intro Px s U H Q I hq;refine wpAny_List_spliced (thn (h pos Px s U H _ I hq) λus s1 zq0=>?_);obtain ⟨xs,H1,I1,r,z,q⟩:=zq0;refine #[by rw[<-r.length];exact z,?_];have hf:H1 s1.heap.objs.size=none:=I1.hok.fresh (aj _);refine #[.ref s1.heap.objs.size,upd H1 s1.heap.objs.size (.lst xs),I1.laid (t':=s1.toks) (λb u e=>aX _ e) (aj _) ?_,rfl,q _ hf];exact #[z,us,0,r,bZ _ rfl]
end
abbrev Sp:=List V->Hp->VK->XK->Prop
abbrev CXT:=List Env->Hp->Shared->XK->Value->Shared->Prop
structure Env0 (P:Program)(w:World)(K:Frag)(mg:Str->Option Value)(base:Heap)(A:Around)(outer:List Env)(s:Shared)(H:Hp):Prop where
  frames:A.frames=some outer
  mod:Mod K mg base
  bs:∀ b o,base.get? b=some o->s.heap.get? b=some o/\H b=none
  bsz:base.objs.size<=s.heap.objs.size
  funs:s.heap.FunFrames base outer
  frf:∀ b∈frs outer,H b=none
  hok:HOk P w H s.heap
  bare:AllBare s.gens
def CE (outer:List Env)(P:Program)(w:World)(H:Hp)(s:Shared)(Q:VK)(u:Value)(s':Shared):Prop:=
  ∃ v H',s'.os=s.os/\AllBare s'.gens/\Un (frs outer) [] H H' s.heap s'.heap/\HOk P w H' s'.heap/\RelV v u/\Q v H'
def CR (CX:CXT)(outer:List Env)(P:Program)(w:World)(H:Hp)(s:Shared)(Q:VK)(E:XK)(r:Result)(s':Shared):Prop:=
  match r with
  | .ok (.ret u)=>CE outer P w H s Q u s'
  | .ok _=>False
  | .error e=>CX outer H s E e s'
structure FnOk (P:Program)(w:World)(K:Frag)(mg:Str->Option Value)(base:Heap)(CX:CXT)(k:Nat)(f:Addr)(fd:FuncData)(ps:List Str)(sp:Sp):Prop where
  len:∀ vs H Q E,sp vs H Q E->vs.length=ps.length
  run:∀(A:Around) (outer:List Env) (s:Shared) (H:Hp) (args:Args) (us:List Value) (vs:List V) (Q:VK) (E:XK),Room k A->Env0 P w K mg base A outer s H->BindsTo s fd args (ps.zip us)->Vals vs us->sp vs H Q E->
    codeAny (model P w) A (.call (.ref f) args) (CR CX outer P w H s Q E) s
def FnOk.mono {w:World}{K:Frag}{mg:Str->Option Value}{base:Heap}{k:Nat}{f:Addr}{fd:FuncData}(F:FnOk P w K mg base CX j f fd ps sp)(h:j<=k) :
    FnOk P w K mg base CX k f fd ps sp:=#[F.len,λA outer s H args us vs Q E hr=>F.run A outer s H args us vs Q E (hr.mono h)]
def Env0.make {w:World}{K:Frag}{mg:Str->Option Value}{base:Heap}{A:Around}{outer:List Env}{s:Shared}(e:Env0 P w K mg base A outer s H)(C:Addr)(us:List Value)(kw:List (Str×Value)) :
    Env0 P w K mg base (A.under (.builtin "type.__call__" #[.ref C::us,kw])) outer s H:=#[by first|exact e.frames|(simpa [Around.under,Code.envs,Code.isFrame,pushEnvs] using e.frames),e.mod,e.bs,e.bsz,e.funs,e.frf,e.hok,e.bare]
section
variable {X:Cx}{Px:List (Addr×Obj)}{U:St}{H:Hp}{s s':Shared}
def Inv.env0 (I:Inv X Px U H s):Env0 X.prog X.w X.K X.mg X.base X.A X.stack s H:=
  #[I.ok.frames,I.ok.mod,I.bs,bS I.ok.bsz I.sz,I.stack,I.stkFree,I.hok,I.bare]
def Inv.after (I:Inv X Px U H s)(h:CE X.stack X.prog X.w H s Q u s'):EP X Px U Q u s':=by
  obtain ⟨v,H',os,bare,un,hok,r,q⟩:=h;obtain ⟨hh,g,d,t,os'⟩:=s';obtain rfl:os'=s.os:=os;exact #[v,H',I.call (h':=hh) (g':=g) (d':=d) (t':=t) (ch:=[]) un hok bare (λb z=>absurd z (by simp)),r,q]
end
def Al (sp:Sp)(dvs:List V)(E:XK)(t:TA):TE:=λU H Q=>t U H λvs H1=>sp (vs++dvs) H1 Q E
inductive Am (C:Addr)(m:Str)(sp:Sp)(dvs:List V)(E:XK)(t:TA)(U:St)(Q:VK)(x:V)(H1:Hp):Prop
  | c:∀ a dx fs,x=.ref a->H1 a=some (.ins C dx fs)->fs.lookup m=none->(t U H1 λvs H2=>sp (x::(vs++dvs)) H2 Q E)->Am C m sp dvs E t U Q x H1
def oQ (C:Addr)(m:Str)(sp:Sp)(dvs:List V)(E:XK)(ta:TE)(t:TA):TE:=λU H Q=>ta U H λx H1=>Am C m sp dvs E t U Q x H1
def An (C:Addr)(sp:Sp)(dvs:List V)(E:XK)(t:TA):TE:=λU H Q=>t U H λvs H1=>∀ x dx,H1 x=none->H1 dx=none->dx≠x->
  sp (.ref x::(vs++dvs)) (upd (upd H1 dx (.own x)) x (.ins C dx [])) (λv H2=>v=.non/\Q (.ref x) H2) E
def dJ (K:Frag)(fd:FuncData)(ps:List Str)(ds:List Value):Prop:=
  ∀(s:Shared) (us:List Value),K.In s.heap->(us++ds).length=ps.length->BindsTo s fd #[us,[]] (ps.zip (us++ds))
def dJ.all {K:Frag}{fd:FuncData}{ps:List Str}(h:∀ us:List Value,us.length=ps.length->bindArgs fd #[us,[]]=pure (ps.zip us)):dJ K fd ps []:=λs us _ hl=>by
  rw[cB]at hl ⊢;exact .of_eq (h us hl)
def jn (CX:CXT)(X:Cx)(E:XK):Prop:=∀(Px:List (Addr×Obj)) (U:St) (H:Hp) (s:Shared) (e:Value) (s':Shared),Inv X Px U H s->CX X.stack H s E e s'->X.xe e s'
section
variable {X:Cx}{CX:CXT}{k:Nat}{f C:Addr}{fd:FuncData}{ps:List Str}{sp:Sp}{dvs:List V}{ds:List Value}{E:XK}{x m:Str}{p pos apos:Pos}{e o:Expr}{es:List Expr}{ta:TE}{t:TA}
def oR {Q:VK}{us:List Value}{vs:List V}(F:FnOk X.prog X.w X.K X.mg X.base CX k f fd ps sp)(hr:Room k X.A)(hb:dJ X.K fd ps ds)(hd:Vals dvs ds)(hx:jn CX X E)
    (I:Inv X Px U H s) (r:Vals vs us) (h:sp (vs++dvs) H Q E):wpAny (model X.prog X.w) X.A (call (.ref f) us) (EP X Px U Q) X.xe s:=by
  have r2:Vals (vs++dvs) (us++ds):=r.append hd;have hl:(us++ds).length=ps.length:=by rw[<-r2.length];exact F.len _ _ _ _ h
  refine wpAny_call (codeAny_mono (F.run X.A X.stack s H #[us,[]] (us++ds) (vs++dvs) Q E hr I.env0 (hb s us I.kIn hl) r2 h) λr s' hq=>?_);cases r with
  | error e=>exact hx Px U H s e s' I hq
  | ok fl=>
    cases fl with
    | ret u=>exact I.after hq
    | next=>exact False.elim hq
    | brk=>exact False.elim hq
    | cont=>exact False.elim hq
def FP (F:FnOk X.prog X.w X.K X.mg X.base CX k f fd ps sp)(hr:Room k X.A)(hg:Gl X x)(hm:X.mg x=some (.ref f))(hk:keepIn X.K (.ref f)=true)(hb:dJ X.K fd ps ds)(hd:Vals dvs ds)(hx:jn CX X E)
    (ha:PA X (e::es) t) (hdb:(x==("__debug__" : Str))=false:=by decide) (he:starEach (e::es) X.env=(false,eval e X.env)::starEach es X.env:=by rfl) (hpl:(backTo pos (starEach es X.env)).any (·.1)=false:=by rfl) :
    PE X (.Call (.Name x p) (e::es) [] pos) (Al sp dvs E t):=by
  intro Px s U H Q I h;refine wpAny_Call_Name_kw (ji I hg hm ?_ hdb);refine W.callWith_K (h₀:=X.base) I.ok.mod.kin hk (thn (ha pos Px s U H _ I h) λus s1 zq0=>?_) he hpl;obtain ⟨vs,H1,I1,r,q⟩:=zq0;refine #[I1.kIn,?_];exact oR F hr hb hd hx I1 r q
def FQ {pl:Sem Bool}(he:PE X o ta)(c:Cls X.K C)(hm:Meth X.K C m f)(F:FnOk X.prog X.w X.K X.mg X.base CX k f fd ps sp)(hr:Room k X.A)(hb:dJ X.K fd ps ds)(hd:Vals dvs ds)(hx:jn CX X E)(ha:PA X (e::es) t)
    (hst:starEach (e::es) X.env=(false,eval e X.env)::starEach es X.env:=by rfl) (hpl:(backTo pos (starEach es X.env)).any (·.1)=false:=by rfl)
    (ht:eval (.Call (.Attribute o m apos) (e::es) [] pos) X.env=(do
      let ov <-eval o X.env
      standAt apos.atName
      let (f,first) <-holding [ov] (getMethod ov m pl)
      callWith pos f first (backTo pos (starEach (e::es) X.env)) (backToKw pos (keywordEach [] X.env))):=by rfl) :
    PE X (.Call (.Attribute o m apos) (e::es) [] pos) (oQ C m sp dvs E ta t):=by
  intro Px s U H Q I h;refine W.methodCall_KW (pl:=pl) (thn (he Px s U H _ I h) λu s1 zq0=>?_) ht;obtain ⟨x,H1,I1,rx,a,dx,fs,ex,ea,l,q⟩:=zq0;subst ex;obtain rfl:u=Value.ref a:=rx;refine Ag I1 ea c hm l ?_;refine W.callWith_K (first:=[.ref a]) (h₀:=X.base) I.ok.mod.kin hm.kp (thn (ha pos Px s1 U H1 _ I1 q) λus s2 zq0=>?_) hst hpl
  obtain ⟨vs,H2,I2,r,q2⟩:=zq0;refine #[I2.kIn,?_];exact oR (us:=.ref a::us) (vs:=.ref a::vs) F hr hb hd hx I2 (.cons rfl r) q2
def FR {pl:Sem Bool}(he:PE X o ta)(c:Cls X.K C)(hm:Meth X.K C m f)(F:FnOk X.prog X.w X.K X.mg X.base CX k f fd ps sp)(hr:Room k X.A)(hb:dJ X.K fd ps ds)(hd:Vals dvs ds)(hx:jn CX X E)
    (ht:eval (.Call (.Attribute o m apos) [] [] pos) X.env=(do
      let ov <-eval o X.env
      standAt apos.atName
      let (f,first) <-holding [ov] (getMethod ov m pl)
      callWith pos f first (backTo pos (starEach [] X.env)) (backToKw pos (keywordEach [] X.env))):=by rfl) :
    PE X (.Call (.Attribute o m apos) [] [] pos) (oQ C m sp dvs E ta tNil):=by
  intro Px s U H Q I h;refine W.methodCall_KW (pl:=pl) (thn (he Px s U H _ I h) λu s1 zq0=>?_) ht;obtain ⟨x,H1,I1,rx,a,dx,fs,ex,ea,l,q⟩:=zq0;subst ex;obtain rfl:u=Value.ref a:=rx;refine Ag I1 ea c hm l ?_;exact W.callWith_K0 (first:=[.ref a]) I1.kIn hm.kp (oR (us:=[.ref a]) (vs:=[.ref a]) F hr hb hd hx I1 (.cons rfl .nil) q)
structure Mk (K:Frag)(C f:Addr):Prop where
  makes:W.makesIn K C=true
  init:findIn K (.ref C) "__init__" = some (some (.ref f))
  fn:W.isFn K (.ref f)=true
  kp:keepIn K (.ref C)=true
def FS {Q:VK}{us:List Value}{vs:List V}(M:Mk X.K C f)(F:FnOk X.prog X.w X.K X.mg X.base CX k f fd ps sp)(hr:Room (k+1) X.A)(hb:dJ X.K fd ps ds)(hd:Vals dvs ds)
    (hx:jn CX X E) (I:Inv X Px U H s) (r:Vals vs us)
    (h:∀ x dx,H x=none->H dx=none->dx≠x->sp (.ref x::(vs++dvs)) (upd (upd H dx (.own x)) x (.ins C dx [])) (λv H2=>v=.non/\Q (.ref x) H2) E) :
    wpAny (model X.prog X.w) X.A (call (.ref C) us) (EP X Px U Q) X.xe s:=by
  have hq:=h (s.heap.objs.size+1) s.heap.objs.size (I.hok.fresh (ij _)) (I.hok.fresh (aj _)) (bL (lP _));have I2:=Inv.made (C:=C) I;have r2:Vals (V.ref (s.heap.objs.size+1)::(vs++dvs)) (Value.ref (s.heap.objs.size+1)::(us++ds)):=.cons rfl (r.append hd);have hl:(Value.ref (s.heap.objs.size+1)::us++ds).length=ps.length:=by
    have e:=r2.length;rw[F.len _ _ _ _ hq]at e;exact e.symm
  refine wpAny_call (FF (f:=f) I.kIn M.makes M.init (beq_iff_eq.mp M.fn) (codeAny_mono (F.run _ X.stack _ _ #[Value.ref (s.heap.objs.size+1)::us,[]] (Value.ref (s.heap.objs.size+1)::(us++ds)) _ _ E (hr.make C us [])
    (I2.env0.make C us []) (hb _ (Value.ref (s.heap.objs.size+1)::us) I2.kIn hl) r2 hq) λr s' hq'=>?_))
  cases r with
  | error e=>exact hx Px U _ _ e s' I2 hq'
  | ok fl=>
    cases fl with
    | ret u=>
      obtain ⟨v,H',I3,rv,ev,q3⟩:=I2.after hq';subst ev;exact #[rv,#[V.ref (s.heap.objs.size+1),H',I3,rfl,q3]]
    | next=>exact False.elim hq'
    | brk=>exact False.elim hq'
    | cont=>exact False.elim hq'
def FT (M:Mk X.K C f)(F:FnOk X.prog X.w X.K X.mg X.base CX k f fd ps sp)(hr:Room (k+1) X.A)(hg:Gl X x)(hm:X.mg x=some (.ref C))(hb:dJ X.K fd ps ds)(hd:Vals dvs ds)(hx:jn CX X E)
    (ha:PA X (e::es) t) (hdb:(x==("__debug__" : Str))=false:=by decide) (he:starEach (e::es) X.env=(false,eval e X.env)::starEach es X.env:=by rfl) (hpl:(backTo pos (starEach es X.env)).any (·.1)=false:=by rfl) :
    PE X (.Call (.Name x p) (e::es) [] pos) (An C sp dvs E t):=by
  intro Px s U H Q I h;refine wpAny_Call_Name_kw (ji I hg hm ?_ hdb);refine W.callWith_K (h₀:=X.base) I.ok.mod.kin M.kp (thn (ha pos Px s U H _ I h) λus s1 zq0=>?_) he hpl;obtain ⟨vs,H1,I1,r,q⟩:=zq0;refine #[I1.kIn,?_];exact FS M F hr hb hd hx I1 r q
end
structure aK (N P:List Str)(sc:Scope):Prop where
  kind:sc.kind=.function
  co:sc.isCoroutine=false
  gen:sc.isGenerator=false
  nd:N.Nodup
  pre:N.take P.length=P
  par:∀ x∈P,sc.names.lookup x=some .local\/sc.names.lookup x=some .cell
  nofree:∀ y∈sc.names,y.2≠.free
def Ao {kindOf:Str->Option NameKind}{x:Str}:∀{binds:List (Str×Value)} {m:Str->Option Value},(∀ v,(x,v)∉binds)->bindL kindOf binds m x=m x
  | [],_,_=>rfl
  | (n,v)::r,m,h=>by
    unfold bindL;rw[Ao λw hw=>h w (bV _ hw)];split
    · have:x≠n:=by rintro rfl;exact h v cb
      simp[this]
    · rfl
def Ap {kindOf:Str->Option NameKind}{x:Str}:∀{binds:List (Str×Value)} {m:Str->Option Value},(∀ v,(x,v)∉binds)->bindC kindOf binds m x=m x
  | [],_,_=>rfl
  | (n,v)::r,m,h=>by
    unfold bindC;rw[Ap λw hw=>h w (bV _ hw)];split
    · rfl
    · have:x≠n:=by rintro rfl;exact h v cb
      simp[this]
def Aq {kindOf:Str->Option NameKind}{x:Str}{v:Value}:∀{P:List Str} {vs:List Value} {i:Nat} {m:Str->Option Value},P.Nodup->P[i]?=some x->vs[i]?=some v->kindOf x=some .local->
    bindL kindOf (P.zip vs) m x=some v
  | [],_,_,_,_,h,_,_=>by simp at h
  | _::_,[],_,_,_,_,h,_=>by simp at h
  | p::P,w::vs,0,m,nd,h1,h2,hk=>by
    simp at h1 h2;subst h1;subst h2;show bindL kindOf ((p,w)::P.zip vs) m p=_;unfold bindL;rw[Ao λv hv=>(cZ.mp nd).1 (lQ hv).1,aq hk];simp
  | p::P,w::vs,i+1,m,nd,h1,h2,hk=>by
    show bindL kindOf ((p,w)::P.zip vs) m x=_;unfold bindL;exact Aq (i:=i) (cZ.mp nd).2 (by simpa using h1) (by simpa using h2) hk
def Ar {kindOf:Str->Option NameKind}{x:Str}{v:Value}:∀{P:List Str} {vs:List Value} {i:Nat} {m:Str->Option Value},P.Nodup->P[i]?=some x->vs[i]?=some v->kindOf x≠some .local->
    bindC kindOf (P.zip vs) m x=some v
  | [],_,_,_,_,h,_,_=>by simp at h
  | _::_,[],_,_,_,_,h,_=>by simp at h
  | p::P,w::vs,0,m,nd,h1,h2,hk=>by
    simp at h1 h2;subst h1;subst h2;show bindC kindOf ((p,w)::P.zip vs) m p=_;unfold bindC;rw[Ap λv hv=>(cZ.mp nd).1 (lQ hv).1,ak hk];simp
  | p::P,w::vs,i+1,m,nd,h1,h2,hk=>by
    show bindC kindOf ((p,w)::P.zip vs) m x=_;unfold bindC;exact Ar (i:=i) (cZ.mp nd).2 (by simpa using h1) (by simpa using h2) hk
def cV (N:List Str)(vs:List V):St:=vs.map some++List.replicate (N.length-vs.length) none
def cxOf (CX:CXT)(P:Program)(w:World)(K:Frag)(mg:Str->Option Value)(base:Heap)(N:List Str)(qual:Str)(scope:Scope)(f:Addr)(cd:Value)(A:Around)(outer:List Env)(s:Shared)(H:Hp)(E:XK):Cx where
  prog:=P
  w:=w
  K:=K
  mg:=mg
  base:=base
  A:=A.deeper (envOfC qual scope s.heap.objs.size f cd)
  N:=N
  s₀:=s
  H₀:=H
  env:=envOfC qual scope s.heap.objs.size f cd
  outer:=outer
  stack:=envOfC qual scope s.heap.objs.size f cd::outer
  ex:=[]
  calm:=true
  fn:=λ_=>true
  pn:=[]
  xe:=λe s'=>wpAny (model P w) (A.deeper (envOfC qual scope s.heap.objs.size f cd)) (leaving (envOfC qual scope s.heap.objs.size f cd) e) (λ_ s''=>CX outer H s E e s'') (λe' s''=>CX outer H s E e' s'') s'
def As {sc:Scope}{n:Nat}{x:Str}(h:sc.names.lookup x=some .cell):∃ c,(cellsFrom n sc.names []).lookup x=some c:=by
  have q:=W.cellsFrom_some sc.names n [] (.inl h);exact uf.mp q
def FU {K:Frag}{qual:Str}{f:Addr}{cd:Value}{A:Around}{s1:Shared}{us:List Value}{vs:List V}
    (S:aK N ps scope) (hd:A.handled=none) (e0:Env0 P w K mg base A outer s H) (hl:vs.length=ps.length) (r:Vals vs us)
    (x:InCallC s s.heap.objs.size (bindL (envOfC qual scope s.heap.objs.size f cd).kindOf (ps.zip us) λ_=>none) (cellsFrom (s.heap.objs.size+1) scope.names []) (bindC (envOfC qual scope s.heap.objs.size f cd).kindOf (ps.zip us) λ_=>none) s1) :
    Inv (cxOf CX P w K mg base N qual scope f cd A outer s H E) [] (cV N vs) H s1:=by
  have hpl:ps.length<=N.length:=by have:=congrArg List.length S.pre;rw[bw]at this;lia
  obtain ⟨h1,tk,rfl,hk⟩:=x.done;have noA:∀ b:Addr,b∉(cxOf CX P w K mg base N qual scope f cd A outer s H E).ex:=λb z=>absurd (show b∈([]:List Addr) from z) (by simp);refine #[#[e0.mod,S.kind,rfl,rfl,aj _,λy z c h1 h2=>?_,λy hy=>?_,λy c _ h=>?_,λ_=>hd,Around.frames_deeper e0.frames,.inr #[rfl,rfl],λb z=>absurd z (noA b),e0.bs,e0.bsz,λb _ _=>noA b,λb z=>absurd z (noA b),e0.funs,e0.frf],
    rfl,e0.bare,Un.kept hk,#[_,x.toInCall.ns,λi y v h1 h2 h3=>?_],λy c h=>#[_,x.cell y c h],e0.hok.fresh (aj _),λy c h=>?_,λp hp=>absurd (show p∈([]:List (Addr×Obj)) from hp) (by simp),e0.hok.kept hk,?_]
  · exact name_of_addr x.apart (PySem.mem_of_lookup h1) (PySem.mem_of_lookup h2)
  · have hy:scope.names.lookup y=some .cell\/scope.names.lookup y=some .free:=hy
    rcases hy with hy|hy
    · exact As hy
    · exact absurd rfl (S.nofree _ (PySem.mem_of_lookup hy))
  · exact eE (x.above y c (PySem.mem_of_lookup h))
  · have hi:i<vs.length:=by
      unfold cV at h2;by_cases hi:i<vs.length
      · exact hi
      · rw[gy (by simpa using hi)]at h2
        rw[List.getElem?_replicate]at h2;split at h2<;>cases h2
    have ha:vs[i]?=some v:=by
      unfold cV at h2;rw[jN (by simpa using hi),bj]at h2;cases e:vs[i]? with
      | none=>rw[e]at h2;cases h2
      | some a=>rw[e]at h2;cases h2;rfl
    obtain ⟨u,hu,rv⟩:=r.get ha;have hp:ps[i]?=some y:=by
      rw[<-S.pre,List.getElem?_take_of_lt (by lia)];exact h1
    have ndP:ps.Nodup:=by rw[<-S.pre];exact S.nd.sublist (List.take_sublist _ _)
    refine #[u,rv,?_];rcases S.par y (dF hp) with k|k
    · exact .inl #[k,Aq ndP hp hu k]
    · obtain ⟨c,e⟩:=As (n:=s.heap.objs.size+1) k
      refine .inr #[.inl k,c,e,?_];have q:=x.cell y c e;rw[Ar ndP hp hu (by show scope.names.lookup y≠_;rw[k];decide)]at q;exact q
  · exact e0.hok.fresh (eE (x.above y c (PySem.mem_of_lookup h)))
  · unfold cV
    show _=N.length;rw[bg,ai,gA];lia
def Au {K:Frag}{k:Nat}{f:Addr}{name qual:Str}{params:Arguments}{body:List Stmt}{scope:Scope}{dV kV doc pm cdv ct oc:Value}{an od:Option Addr}
    {osl:Array (Option Value)}  {sp:Sp} (lk:K.lookup f=some #[oc,od,.func (fnOf name qual params body scope dV kV doc pm an cdv ct),osl]) (hcd:codeIn K cdv qual=true) (S:aK N ps scope)
    (len:∀ vs H Q E,sp vs H Q E->vs.length=ps.length)
    (hbody:∀(A:Around) (outer:List Env) (s:Shared) (H:Hp) (vs:List V) (Q:VK) (E:XK),Room k (A.deeper (envOfC qual scope s.heap.objs.size f cdv))->sp vs H Q E->
      ∃ t,PSs (cxOf CX P w K mg base N qual scope f cdv A outer s H E) body t/\t { nx:=λ_ H'=>Q .non H',rt:=Q } (cV N vs) H) :
    FnOk P w K mg base CX (k+1) f (fnOf name qual params body scope dV kV doc pm an cdv ct) ps sp:=by
  refine #[len,λA outer s H args us vs Q E hr e0 hb r hsp=>?_];have hl:=len _ _ _ _ hsp;have KX:K.In s.heap:=e0.mod.kin.keeps λb o e=>(e0.bs b o e).1;have lim:s.heap.NoLimit:=e0.mod.nolimit.keeps λb o e=>(e0.bs b o e).1;have hkind:∀ y∈ps.zip us,scope.names.lookup y.1=some .local\/(scope.names.lookup y.1=some .cell/\((cellsFrom (s.heap.objs.size+1) scope.names []).lookup y.1).isSome=true):=λ⟨n,v⟩ hy=>by
    rcases S.par n (lQ hy).1 with q|q
    · exact .inl q
    · exact .inr #[q,W.cellsFrom_some _ _ _ (.inl q)]
  refine codeAny_call_function hr.depth (KX _ _ lk) rfl S.co S.gen rfl (W.codeRec_of KX hcd) (hb _ _ _ _ ?_);refine wpAny_newFunctionEnv_cells S.kind hkind λenv he s1 x=>?_;subst he;refine #[lim.keeps x.toInCall.keep,codeAny_func ?_];obtain ⟨t,ht,hq⟩:=hbody A outer s H vs Q E (hr.deeper _) hsp;have I:Inv (cxOf CX P w K mg base N qual scope f cdv A outer s H E) [] (cV N vs) H s1:=FU S hr.hd e0 hl r x;refine dS (ht [] s1 (cV N vs) H _ I hq) (λfl s' hs=>?_) λe s' hs=>hs;have fin:∀{U':St} {H':Hp} {v:V} {u:Value},Inv (cxOf CX P w K mg base N qual scope f cdv A outer s H E) [] U' H' s'->RelV v u->Q v H'->CE outer P w H s Q u s':=
    λ{U' H' v u} J rv q=>#[v,H',J.os,J.bare,J.base,J.hok,rv,q]
  cases fl with
  | ret u=>
    obtain ⟨v,U',H',J,rv,q⟩:=hs;exact fin J rv q
  | next=>
    obtain ⟨U',H',J,q⟩:=hs;exact fin (v:=V.non) (u:=Value.none) J rfl q
  | brk=>
    obtain ⟨_,_,_,q⟩:=hs;exact False.elim q
  | cont=>
    obtain ⟨_,_,_,q⟩:=hs;exact False.elim q
section
variable {X:Cx}{x:Str}{p pos:Pos}{e:Expr}{es:List Expr}{t:TA}{id T:String}{r:List V->Hp->VK->Prop}
def tCB (r:List V->Hp->VK->Prop)(t:TA):TE:=λU H Q=>t U H λvs H1=>r vs H1 Q
def aP (hc:cQ X (.builtin id) r)(hg:Gl X x)(hm:X.mg x=none)(hv:bootBuiltins x=some (.builtin id))(ha:PA X (e::es) t)(hn:x ≠ "__name__":=by decide)(hdb:(x==("__debug__" : Str))=false:=by decide)
    (he:starEach (e::es) X.env=(false,eval e X.env)::starEach es X.env:=by rfl) (hpl:(backTo pos (starEach es X.env)).any (·.1)=false:=by rfl):PE X (.Call (.Name x p) (e::es) [] pos) (tCB r t):=by
  intro Px s U H Q I h;refine wpAny_Call_Name_kw (fV I hg hm hv ?_ hn hdb);exact PyProof.Rows.callWith_builtin1 (thn (ha pos Px s U H _ I h) λus s1 zq0=>(by obtain ⟨vs,H1,I1,r1,q1⟩:=zq0;exact hc Px s1 U H1 vs us Q I1 r1 q1)) he hpl
def c9 (hc:cQ X (.type T) r)(hg:Gl X x)(hm:X.mg x=none)(hv:bootBuiltins x=some (.type T))(ha:PA X (e::es) t)(hn:x ≠ "__name__":=by decide)(hdb:(x==("__debug__" : Str))=false:=by decide)
    (he:starEach (e::es) X.env=(false,eval e X.env)::starEach es X.env:=by rfl) (hpl:(backTo pos (starEach es X.env)).any (·.1)=false:=by rfl):PE X (.Call (.Name x p) (e::es) [] pos) (tCB r t):=by
  intro Px s U H Q I h;refine wpAny_Call_Name_kw (fV I hg hm hv ?_ hn hdb);exact PyProof.Rows.callWith_type1 (thn (ha pos Px s U H _ I h) λus s1 zq0=>(by obtain ⟨vs,H1,I1,r1,q1⟩:=zq0;exact hc Px s1 U H1 vs us Q I1 r1 q1)) he hpl
end
end L2
namespace HT
open PySem PyProof.Rows
section
variable {prog:Program}{w:World}{A:Around}{E:Value->Shared->Prop}{s:Shared}
def cat_tup {t b:Addr}{vs ws:List Value}{Q:Value->Shared->Prop}(ht:IsTup s.heap t vs.toArray)(hb:IsTup s.heap b ws.toArray)(hv:vs≠[])
    (h1:ws=[]->Q (.ref t) s) (h2:ws≠[]->Q (.ref s.heap.objs.size) { s with heap:=s.heap.push { cls:=.type "tuple",data:=.seq (vs++ws).toArray } })
    (hsz:vs.length+ws.length<=sizeLine):wpAny (model prog w) A (binaryOp .Add (.ref t) (.ref b)) Q E s:=by
  obtain ⟨⟨cls,dd,data,sl⟩,ho,hc,n,hd⟩:=id ht;obtain ⟨⟨cls2,dd2,data2,sl2⟩,ho2,hc2,n2,hd2⟩:=id hb;simp only at hc hd hc2 hd2;subst hc hd hc2 hd2;have e:vs.toArray++ws.toArray=(vs++ws).toArray:=by simp
  by_cases hw:ws=[]
  · exact concat_meets #[_,ho,rfl] #[_,ho2,rfl] noFill_tuple_add seq_tuple_add PySem.F.slot_tuple_add PySem.F.entry_tuple_add (PySem.F.args_tuple_add_2 _ _)
      (tuple_addW1 t b vs.toArray ws.toArray n n2 dd dd2 sl sl2 (by simpa using hv) (by simp[hw])) #[ho,ho2,h1 hw]
  · refine concat_meets #[_,ho,rfl] #[_,ho2,rfl] noFill_tuple_add seq_tuple_add PySem.F.slot_tuple_add PySem.F.entry_tuple_add (PySem.F.args_tuple_add_2 _ _)
      (tuple_addW2 t b vs.toArray ws.toArray n n2 dd dd2 sl sl2 (by simpa using hv) (by simpa using hw) (by rw[bO,bO];exact hsz)) #[ho,ho2,?_]
    rw[e];exact h2 hw
def sIx (n d:Nat):Option Int->Nat
  | none=>d
  | some v=>if v<0 then (v+(n:Int)).toNat else min v.toNat n
def fY (n d k:Nat):sIx n d (some (k:Int))=min k n:=by
  show (if (k:Int)<0 then ((k:Int)+(n:Int)).toNat else min (k:Int).toNat n)=min k n
  rw[ak (by lia),fR]
def FW (n d:Nat)(hd:d<=n)(o:Option Int):sIx n d o<=n:=by
  cases o with
  | none=>exact hd
  | some v=>
    show (if v<0 then (v+(n:Int)).toNat else min v.toNat n)<=n
    by_cases hv:v<0
    · rw[aq hv];lia
    · rw[ak hv];exact Nat.min_le_right _ _
def Aw (v:Int)(n d:Nat):(if v<0 then max (v+(n:Int)) 0 else min v (n:Int))=((sIx n d (some v):Nat):Int):=by
  show (if v<0 then max (v+(n:Int)) 0 else min v (n:Int))=(((if v<0 then (v+(n:Int)).toNat else min v.toNat n):Nat):Int)
  by_cases hv:v<0
  · simp only[aq hv];lia
  · simp only[ak hv];lia
def FX (lo hi:Option Int)(n:Nat):Builtin.Slice.sliceAdjust lo hi 1 (n:Int)=(((sIx n 0 lo:Nat):Int),((sIx n n hi:Nat):Int)):=by
  have h1:¬ ((1:Int)<0):=by lia
  unfold Builtin.Slice.sliceAdjust;simp only[h1,if_false];refine Prod.ext ?_ ?_
  · cases lo with
    | none=>rfl
    | some v=>exact Aw v n 0
  · cases hi with
    | none=>rfl
    | some v=>exact Aw v n n
def FY (i j:Nat):Builtin.Slice.slicePlaces (i:Int) (j:Int) 1=j-i:=by
  unfold Builtin.Slice.slicePlaces;have h1:(1:Int)>0:=by lia
  simp only[h1,if_true,Int.ediv_one];split<;>lia
def Ax {v:Value}{o:Option Int}{Q:Option Int->Shared->Prop}(p:IsPart v o)(h:Q o s):wpAny (model prog w) A (Builtin.Slice.slicePartIndex v) Q E s:=by
  cases p with
  | none=>exact slicePart_none h
  | int i t=>exact slicePart_int h
def Ay {sl:Addr}{vl vu:Value}{lo hi:Option Int}{Q:Int×Int×Nat->Shared->Prop}(hs:s.heap.IsSliceOf sl vl vu .none)(pl:IsPart vl lo)(pu:IsPart vu hi)
    (h:Q (((sIx n 0 lo:Nat):Int),1,sIx n n hi-sIx n 0 lo) s):wpAny (model prog w) A (Builtin.Slice.sliceApplied (.ref sl) (pure (n:Int))) Q E s:=by
  obtain ⟨os,hos,hcs,hds⟩:=id hs;unfold Builtin.Slice.sliceApplied Builtin.Slice.sliceFields;refine ay (ay (wpAny_field hos hds (x:=vl) rfl (ay (wpAny_field hos hds (x:=vu) rfl (ay (wpAny_field hos hds (x:=.none) rfl (aS ?_)))))));refine ay (slicePart_none ?_);show wpAny _ _ (if ((1:Int)==0)=true then _ else _) _ _ s
  rw[ak (by decide)];refine ay (Ax pl (ay (Ax pu (ay (aS ?_)))));show wpAny _ _ (match Builtin.Slice.sliceAdjust lo hi 1 (n:Int) with|(lo,hi)=>pure (lo,(1:Int),Builtin.Slice.slicePlaces lo hi 1)) _ _ s
  rw[FX lo hi n];show wpAny _ _ (pure (((sIx n 0 lo:Nat):Int),(1:Int),Builtin.Slice.slicePlaces ((sIx n 0 lo:Nat):Int) ((sIx n n hi:Nat):Int) 1)) _ _ s;rw[FY];exact aS h
def FZ (xs:Array Value)(i k:Nat):((List.range k).filterMap λ(m:Nat)=>xs[((i:Int)+(m:Int)*1).toNat]?).toArray=((xs.toList.drop i).take k).toArray:=by
  have e:(λ(m:Nat)=>xs[((i:Int)+(m:Int)*1).toNat]?)=λm=>xs[i+m]?:=by
    funext m
    have:((i:Int)+(m:Int)*1).toNat=i+m:=by lia
    rw[this]
  rw[e];have:=pick_run xs i k;rw[List.filterMap_map]at this;have e2:((λx=>xs[x]?) ∘ λx=>i+x)=λm=>xs[i+m]?:=rfl;rw[e2]at this;rw[this]
def getItem_tuple_cut {t sl:Addr}{items:Array Value}{vl vu:Value}{lo hi:Option Int}{Q:Value->Shared->Prop}(ht:IsTup s.heap t items)(hs:s.heap.IsSliceOf sl vl vu .none)(pl:IsPart vl lo)(pu:IsPart vu hi)
    (hw:¬ (sIx items.size 0 lo=0/\sIx items.size items.size hi=items.size))
    (h:Q (.ref s.heap.objs.size) { s with heap:=s.heap.push { cls:=.type "tuple",data:=.seq ((items.toList.drop (sIx items.size 0 lo)).take (sIx items.size items.size hi-sIx items.size 0 lo)).toArray } })
    (hsz:items.size<=sizeLine):wpAny (model prog w) A (getItem (.ref t) (.ref sl)) Q E s:=by
  have htake:sizeOk (.seq ((items.toList.drop (sIx items.size 0 lo)).take (sIx items.size items.size hi-sIx items.size 0 lo)).toArray):=by
    show ((items.toList.drop (sIx items.size 0 lo)).take (sIx items.size items.size hi-sIx items.size 0 lo)).toArray.size<=sizeLine;rw[bO,bw,d8,ie];lia
  have hj:sIx items.size items.size hi<=items.size:=FW _ _ (aj _) hi;obtain ⟨os,hos,hcs,hds⟩:=id hs;have hTs:s.TypeIs (.ref sl) "slice":=#[os,hos,hcs];unfold getItem
  try with_reducible refine wpAny_holding ?_
  first|refine ay (aS ?_)|skip
  refine ay (wpAny_sequenceKey ht.typeIs (by decide) ?_);refine ay (wpAny_callSpecial?_slot (name:=Str.ofString "__getitem__") ht.typeIs PyProof.Rows.slot_tuple_getitem
    (wpAny_call_entry PyProof.Rows.slot_tuple_getitem ht.typeIs entry_tuple_getitem ?_ (args_tuple_getitem _ _)))
  show wpAny _ _ (Builtin.Tuple.tupleItemsOf (.ref t) >>= _) _ _ s;refine ay (tupleItemsOf_ ht ?_);refine ay (wpAny_typeOf hTs ?_);rw[aq (by decide)];refine ay (Ay hs pl pu ?_);have hno:¬ ((((sIx items.size 0 lo:Nat):Int)==0&&(1:Int)==1&&(sIx items.size items.size hi-sIx items.size 0 lo)==items.size)=true):=by
    intro q;rw[il,il]at q;have q1:((sIx items.size 0 lo:Nat):Int)=0:=eq_of_beq q.1.1;have q2:sIx items.size items.size hi-sIx items.size 0 lo=items.size:=eq_of_beq q.2;exact hw #[by lia,by lia]
  show wpAny _ _ (if (((sIx items.size 0 lo:Nat):Int)==0&&(1:Int)==1&&(sIx items.size items.size hi-sIx items.size 0 lo)==items.size)=true then _ else _) _ _ s
  rw[ak hno,FZ]
  first
    | exact ay (m:=Builtin.Tuple.tupleExact _) (wpAny_newObj_type (aS ⟨_,rfl,aS h⟩) htake)
    | exact ay (m:=Builtin.Tuple.tupleExact _) (wpAny_newObj_type (ay (aS (aS ⟨_,rfl,aS h⟩))) htake)
    | exact ay (ay (m:=Builtin.Tuple.tupleExact _) (wpAny_newObj_type (aS (aS ⟨_,rfl,aS h⟩)) htake))
    | exact ay (ay (m:=Builtin.Tuple.tupleExact _) (wpAny_newObj_type (aS ⟨_,rfl,aS h⟩) htake))
end
end HT
namespace L2
open PySem PySem.Spec PyProof.Rows
abbrev TO:=St->Hp->(Option Int->Hp->Prop)->Prop
def PO (X:Cx)(e:Option Expr)(t:TO):Prop:=
  ∀(Px:List (Addr×Obj)) (s:Shared) (U:St) (H:Hp) (Q:Option Int->Hp->Prop),Inv X Px U H s->t U H Q->
    wpAny (model X.prog X.w) X.A (evalPart e X.env) (λu s'=>∃ o H',Inv X Px U H' s'/\IsPart u o/\Q o H') X.xe s
def uK:TO:=λ_ H Q=>Q none H
inductive Az (Q:Option Int->Hp->Prop)(x:V)(H1:Hp):Prop
  | c:∀ i,x=.int i->Q (some i) H1->Az Q x H1
def F0 (t:TE):TO:=λU H Q=>t U H λx H1=>Az Q x H1
section
variable {X:Cx}{e:Expr}{te:TE}{lo hi:Option Expr}{tl th:TO}{pos p2:Pos}
def iG:PO X none uK:=by
  intro Px s U H Q I h;rw[evalPart_none];exact aS #[none,H,I,.none,h]
def fg (h:PE X e te):PO X (some e) (F0 te):=by
  intro Px s U H Q I hw;rw[evalPart_some];refine thn (h Px s U H _ I hw) λu s1 zq0=>?_;obtain ⟨x,H1,I1,r1,q1⟩:=zq0;obtain ⟨i,rfl,q⟩:=q1;obtain ⟨t,rfl⟩:=r1;exact #[some i,H1,I1,.int i t,q]
def SlR (X:Cx)(r:V->Option Int->Option Int->Hp->VK->Prop):Prop:=
  ∀(Px:List (Addr×Obj)) (s:Shared) (U:St) (H:Hp) (x:V) (v vl vu:Value) (lo hi:Option Int) (sl:Addr) (Q:VK),Inv X Px U H s->RelV x v->s.heap.IsSliceOf sl vl vu .none->IsPart vl lo->IsPart vu hi->r x lo hi H Q->
    ∃ T id,typeLookup (.type T) "__getitem__" = pure (some (.builtin id))/\s.TypeIs v T/\wpAny (model X.prog X.w) X.A (getItem v (.ref sl)) (EP X Px U Q) X.xe s
def tSl (r:V->Option Int->Option Int->Hp->VK->Prop)(te:TE)(tl th:TO):TE:=λU H Q=>te U H λx H1=>tl U H1 λl H2=>th U H2 λu H3=>r x l u H3 Q
def fZ (hr:SlR X r)(he:PE X e te)(hl:PO X lo tl)(hu:PO X hi th):PE X (.Subscript e (.Slice lo hi none p2) pos) (tSl r te tl th):=by
  intro Px s U H Q I h;refine Subscript_ (thn (he Px s U H _ I h) λv s1 zq0=>?_);obtain ⟨x,H1,I1,r1,q1⟩:=zq0;refine wpAny_Slice (thn (hl Px s1 U H1 _ I1 q1) λvl s2 zq0=>?_);obtain ⟨l,H2,I2,pl,q2⟩:=zq0;refine thn (hu Px s2 U H2 _ I2 q2) λvu s3 zq1=>?_;obtain ⟨u,H3,I3,pu,q3⟩:=zq1;rw[evalPart_none];refine aS ?_;have I4:Inv X Px U H3 { s3 with heap:=s3.heap.push { cls:=.type "slice",data:=.fields (List.toArray [vl,vu,.none]) } }:=I3.kept (t':=s3.toks) λb ob q=>aX _ q;obtain ⟨T,id,hT,ht,hg⟩:=hr Px { s3 with heap:=s3.heap.push { cls:=.type "slice",data:=.fields (List.toArray [vl,vu,.none]) } } U H3 x v vl vu l u s3.heap.objs.size Q I4 r1 (Heap.IsSliceOf.new ..) pl pu q3;show wpAny (model X.prog X.w) X.A (subscriptTail e (.Slice lo hi none p2) v (.ref s3.heap.objs.size)) (EP X Px U Q) X.xe { s3 with heap:=s3.heap.push { cls:=.type "slice",data:=.fields (List.toArray [vl,vu,.none]) } };exact tail_any (ops:=[.ref s3.heap.objs.size,v]) ht hT hg (by with_unfolding_all rfl)
def cutV (xs:List V)(lo hi:Option Int):List V:=(xs.drop (HT.sIx xs.length 0 lo)).take (HT.sIx xs.length xs.length hi-HT.sIx xs.length 0 lo)
def AA (xs:List V)(lo hi:Option Int):(cutV xs lo hi).length<=xs.length:=by
  unfold cutV;rw[bw,d8];lia
inductive rSlT (K:Frag)(x:V)(lo:Option Int)(hi:Option Int)(H:Hp)(Q:VK):Prop
  | c:∀ a xs,x=.ref a->SqT K H a xs->¬ (HT.sIx xs.length 0 lo=0/\HT.sIx xs.length xs.length hi=xs.length)->(∀ p,H p=none->Q (.ref p) (upd H p (.tup (cutV xs lo hi))))->rSlT K x lo hi H Q
def F1:SlR X (rSlT X.K):=by
  intro Px s U H x v vl vu lo hi sl Q I rx hs pl pu h;obtain ⟨a,xs,rfl,hx,hw,q⟩:=h;cases rx
  obtain ⟨its,r,ht,hz⟩:=I.tuple hx;have hlen:its.toArray.size=xs.length:=by rw[bO];exact r.length.symm
  refine #["tuple",_,PyProof.Rows.slot_tuple_getitem.lookup,ht.typeIs,?_];refine HT.getItem_tuple_cut ht hs pl pu (by rw[hlen];exact hw) ?_ (by rw[hlen];exact hz);rw[hlen];refine #[.ref s.heap.objs.size,_,I.laid (t':=s.toks) (o:=.tup (cutV xs lo hi)) (λb ob q=>aX _ q) (aj _) ?_,rfl,q _ (I.hok.fresh (aj _))];exact #[bS (AA xs lo hi) hz,_,(r.drop (HT.sIx xs.length 0 lo)).take (HT.sIx xs.length xs.length hi-HT.sIx xs.length 0 lo),IsTup.new _ _]
inductive oS (K:Frag)(x:V)(y:V)(H:Hp)(Q:VK):Prop
  | c:∀ a b xs ys,x=.ref a->y=.ref b->SqT K H a xs->SqT K H b ys->xs≠[]->xs.length+ys.length<=sizeLine->(ys=[]->Q (.ref a) H)->(ys≠[]->∀ p,H p=none->Q (.ref p) (upd H p (.tup (xs++ys))))->oS K x y H Q
def Vals.nil_iff {xs:List V}{us:List Value}(r:Vals xs us):us=[]↔xs=[]:=by
  cases r with
  | nil=>simp
  | cons _ _=>simp
def oT:OpR X (binaryOp .Add) (oS X.K):=by
  intro Px s U H x y v u Q I rx ry h;obtain ⟨a,b,xs,ys,rfl,rfl,ha,hb,hx,hz,q1,q2⟩:=h;cases rx
  cases ry
  obtain ⟨its,r1,p1,_⟩:=I.tuple ha;obtain ⟨its2,r2,p2,_⟩:=I.tuple hb;refine HT.cat_tup p1 p2 (λz=>hx (r1.nil_iff.mp z)) (λz=>#[.ref a,H,I,rfl,q1 (r2.nil_iff.mp z)]) (λz=>?_) (by rw[<-r1.length,<-r2.length];exact hz);refine #[.ref s.heap.objs.size,_,I.laid (t':=s.toks) (o:=.tup (xs++ys)) (λb ob q=>aX _ q) (aj _) ?_,rfl,q2 (λw=>z (r2.nil_iff.mpr w)) _ (I.hok.fresh (aj _))];exact #[by rw[bg];exact hz,_,r1.append r2,IsTup.new _ _]
end
def ixN (n:Nat)(i:Int):Option Nat:=if 0<=i then (if i<n then some i.toNat else none) else if -(n:Int)<=i then some (i+n).toNat else none
def atI {α:Type}(xs:List α)(i:Int):Option α:=(ixN xs.length i).bind λj=>xs[j]?
def AB {j:Nat}(h:ixN n i=some j):seqIndex? i n=some j/\j<n/\-(n:Int)<=i/\i<n:=by
  unfold ixN at h;by_cases h0:0<=i
  · rw[aq h0]at h
    by_cases h1:i<n
    · rw[aq h1]at h
      have e:i.toNat=j:=aM h;exact #[by rw[seqIndex_of h0 h1,e],by lia,by lia,h1]
    · rw[ak h1]at h;cases h
  · rw[ak h0]at h
    by_cases h1:-(n:Int)<=i
    · rw[aq h1]at h
      have e:(i+n).toNat=j:=aM h;exact #[by rw[seqIndex_neg (by lia) h1,e],by lia,h1,by lia]
    · rw[ak h1]at h;cases h
def AC {α:Type}{xs:List α}{v:α}(h:atI xs i=some v):∃ j,seqIndex? i xs.length=some j/\xs[j]?=some v/\j<xs.length/\-(xs.length:Int)<=i/\i<xs.length:=by
  unfold atI at h;cases e:ixN xs.length i with
  | none=>rw[e]at h;cases h
  | some j=>
    rw[e]at h;obtain ⟨h1,h2,h3,h4⟩:=AB e;exact #[j,h1,h,h2,h3,h4]
def cG {α:Type}{xs:List α}{j:Nat}{v:α}(h:xs[j]?=some v):atI xs (j:Int)=some v:=by
  have hj:j<xs.length:=(aZ.mp h).1;have e:ixN xs.length (j:Int)=some j:=by
    unfold ixN;rw[aq (by lia),aq (by lia)];simp
  unfold atI;rw[e];exact h
def F6 (b:Expr):Prop:=∀ o i,subscripted b false o i=operate [o,i] (getItem o i)
def IxR (X:Cx)(r:R2):Prop:=
  ∀(value slice:Expr) (Px:List (Addr×Obj)) (s:Shared) (U:St) (H:Hp) (x y:V) (v u:Value) (Q:VK),Inv X Px U H s->RelV x v->RelV y u->r x y H Q->
    subscripted slice false v u=operate [v,u] (getItem v u)->wpAny (model X.prog X.w) X.A (subscriptTail value slice v u) (EP X Px U Q) X.xe s
def MtR (X:Cx)(id:String)(r:V->List V->Hp->VK->Prop):Prop:=
  ∀(Px:List (Addr×Obj)) (s:Shared) (U:St) (H:Hp) (x:V) (xs:List V) (v:Value) (us:List Value) (Q:VK),Inv X Px U H s->RelV x v->Vals xs us->r x xs H Q->
    wpAny (model X.prog X.w) X.A (call (.builtin id) (v::us)) (EP X Px U Q) X.xe s
section
variable {X:Cx}{a b:Expr}{ta tb:TE}{pos:Pos}
def ax (hr:IxR X r)(ha:PE X a ta)(hb:PE X b tb)(hs:F6 b):PE X (.Subscript a b pos) (tOp r ta tb):=by
  intro Px s U H Q I h;exact Subscript_ (binT ha hb I h λv u s2 x y H2 I2 rx ry q=>hr a b Px s2 U H2 x y v u Q I2 rx ry q (hs _ _))
inductive rIxL (K:Frag)(x:V)(y:V)(H:Hp)(Q:VK):Prop
  | c:∀ p xs i v,x=.ref p->y=.int i->SqL K H p xs->atI xs i=some v->Q v H->rIxL K x y H Q
inductive rIxT (K:Frag)(x:V)(y:V)(H:Hp)(Q:VK):Prop
  | c:∀ p xs i v,x=.ref p->y=.int i->SqT K H p xs->atI xs i=some v->Q v H->rIxT K x y H Q
def F7:IxR X (rIxL X.K):=by
  intro value slice Px s U H x y v u Q I rx ry h hs;obtain ⟨p,xs,i,z,rfl,rfl,hq,he,q⟩:=h;cases rx
  obtain ⟨t,rfl⟩:=ry;obtain ⟨its,r,pl,hz⟩:=I.list hq;obtain ⟨j,h1,h2,h3,h4,h5⟩:=AC he;obtain ⟨w,ew,rw'⟩:=r.get h2;have hl:=r.length;have hn:=oM;have fin:EP X Px U Q w s:=#[z,H,I,rw',q];by_cases h0:0<=i
  · have hj:i.toNat=j:=by
      rw[seqIndex_of h0 h5]at h1;exact aM h1
    exact item_listR pl.isList h0 (by lia) (by rw[hj];simpa using ew) fin hs
  · have hj:(i+(its.toArray.size:Int)).toNat=j:=by
      rw[seqIndex_neg (by lia) h4]at h1;rw[bO,<-hl];exact aM h1
    exact subscriptTail_builtinR (x:=w) pl.isList.typeIs slot_list_getitem.lookup
      (wpAny_getItem_list_neg (Q:=λr s'=>r=w/\EP X Px U Q r s') pl.isList (by lia) (by rw[bO]<;>lia) (by lia) (by rw[hj];simpa using ew) #[rfl,fin]) hs
def Ga:IxR X (rIxT X.K):=by
  intro value slice Px s U H x y v u Q I rx ry h hs;obtain ⟨p,xs,i,z,rfl,rfl,hq,he,q⟩:=h;cases rx
  obtain ⟨t,rfl⟩:=ry;obtain ⟨its,r,pl,hz⟩:=I.tuple hq;obtain ⟨j,h1,h2,h3,h4,h5⟩:=AC he;obtain ⟨w,ew,rw'⟩:=r.get h2;have hl:=r.length;have hn:=oM;have fin:EP X Px U Q w s:=#[z,H,I,rw',q];exact subscriptTail_builtinR (x:=w) pl.typeIs slot_tuple_getitem.lookup
    (getItem_tuple (j:=j) (Q:=λr s'=>r=w/\EP X Px U Q r s') pl (by lia) (by lia) (by rw[bO,<-hl];exact h1) (by simpa using ew) #[rfl,fin]) hs
def Gb (its:List Value)(n j:Nat)(u:Value):Obj.mapSeq (·.setIfInBounds j u) { cls:=.type "list",data:=.seq its.toArray n }={ cls:=.type "list",data:=.seq (its.set j u).toArray n }:=by
  simp[Obj.mapSeq]
def Inv.lst {Px:List (Addr×Obj)}{U:St}{H:Hp}{s:Shared}{p:Addr}{xs:List V}(I:Inv X Px U H s)(h:H p=some (.lst xs)) :
    ∃(its:List Value) (n:Nat),Vals xs its/\s.heap.get? p=some { cls:=.type "list",data:=.seq its.toArray n }/\xs.length<=sizeLine:=by
  obtain ⟨z,its,n,r,e⟩:=I.hok p _ h;exact #[its,n,r,e,z]
def Inv.lstUpd {s:Shared}{p:Addr}{xs ys:List V}{its its':List Value}{n n':Nat}{f:Obj->Obj}(I:Inv X Px U H s)(h:H p=some (.lst xs))
    (ho:s.heap.get? p=some { cls:=.type "list",data:=.seq its.toArray n }) (hf:f { cls:=.type "list",data:=.seq its.toArray n }={ cls:=.type "list",data:=.seq its'.toArray n' }) (r:Vals ys its') (hz:ys.length<=sizeLine) (t:Nat) :
    Inv X Px U (upd H p (.lst ys)) { s with heap:=s.heap.update p f,toks:=t }:=by
  have e:(s.heap.update p f).get? p=some { cls:=.type "list",data:=.seq its'.toArray n' }:=by
    rw[Heap.get?_update_self f ho (by rw[hf]<;>rfl),hf]
  refine I.write (x:=p) (e:=p) (by rw[h];trivial) (.inl rfl) (λb u hb q=>(ja _ _ (bf hb)).trans q) #[_,e] ?_;exact #[hz,its',n',r,e]
inductive AE (o:V)(i:V)(v:V)(H:Hp)(Q:Hp->Prop):Prop
  | c:∀ p xs k j,o=.ref p->i=.int k->H p=some (.lst xs)->ixN xs.length k=some j->Q (upd H p (.lst (xs.set j v)))->AE o i v H Q
def md:PSet X AE:=by
  intro Px s U H o i v ov iv u Q I ro ri rv h;obtain ⟨p,xs,k,j,rfl,rfl,hp,hj,q⟩:=h;cases ro
  obtain ⟨t,rfl⟩:=ri;obtain ⟨its,n,r,ho,hz⟩:=I.lst hp;obtain ⟨h1,h2,h3,h4⟩:=AB hj;have hl:=r.length;have hn:=oM;have I':Inv X Px U (upd H p (.lst (xs.set j v))) { s with heap:=s.heap.update p (Obj.mapSeq (·.setIfInBounds j u)) }:=
    I.lstUpd hp ho (Gb its n j u) (r.set rv j) (by rw[nQ];exact hz) s.toks
  by_cases h0:0<=k
  · have hk:k.toNat=j:=by
      rw[seqIndex_of h0 h4]at h1;exact aM h1
    exact W.ki_setAt ho h0 (by lia) (by rw[bO,<-hl];exact h4) (by rw[hk];exact #[_,I',q])
  · have hk:(k+(its.toArray.size:Int)).toNat=j:=by
      rw[seqIndex_neg (by lia) h3]at h1;rw[bO,<-hl];exact aM h1
    exact W.ki_setBack ho (by lia) (by rw[bO,<-hl];exact h3) (by lia) (by rw[hk];exact #[_,I',q])
def Gc (lo hi:Option Int)(n:Nat):(sliceBounds lo hi none n).1=((HT.sIx n 0 lo:Nat):Int)/\(sliceBounds lo hi none n).2.1=((HT.sIx n n hi:Nat):Int)/\(sliceBounds lo hi none n).2.2=1:=by
  refine #[?_,?_,rfl]
  · cases lo with
    | none=>simp[sliceBounds,HT.sIx]
    | some i=>
      simp only[sliceBounds,HT.sIx,Option.getD_none,show (1:Int)>0 by decide,if_true];by_cases h:i<0
      · simp only[h,if_true]<;>lia
      · simp only[h,if_false]<;>lia
  · cases hi with
    | none=>simp[sliceBounds,HT.sIx]
    | some i=>
      simp only[sliceBounds,HT.sIx,Option.getD_none,show (1:Int)>0 by decide,if_true];by_cases h:i<0
      · simp only[h,if_true]<;>lia
      · simp only[h,if_false]<;>lia
def Gd (its:List Value)(lo hi:Option Int):slicePick its.toArray lo hi none=((its.drop (HT.sIx its.length 0 lo)).take (HT.sIx its.length its.length hi-HT.sIx its.length 0 lo)).toArray:=by
  obtain ⟨h1,h2,h3⟩:=Gc lo hi its.toArray.size;unfold slicePick;rw[h1,h2,h3];simp only[sliceRange_one,pick_run,bO]<;>rfl
inductive rSlL (K:Frag)(x:V)(lo:Option Int)(hi:Option Int)(H:Hp)(Q:VK):Prop
  | c:∀ a xs,x=.ref a->SqL K H a xs->(∀ p,H p=none->Q (.ref p) (upd H p (.lst (cutV xs lo hi))))->rSlL K x lo hi H Q
def Ge:SlR X (rSlL X.K):=by
  intro Px s U H x v vl vu lo hi sl Q I rx hs pl pu h;obtain ⟨a,xs,rfl,hx,q⟩:=h;cases rx
  obtain ⟨its,r,ht,hz⟩:=I.list hx;have hlen:=r.length;refine #["list",_,slot_list_getitem.lookup,ht.isList.typeIs,?_];refine wpAny_getItem_list_slice ht.isList hs pl pu .none (by simp) ?_ (by rw[bO]<;>lia)
  rw[Gd,<-hlen];refine #[.ref s.heap.objs.size,_,I.laid (t':=s.toks) (o:=.lst (cutV xs lo hi)) (λb ob q=>aX _ q) (aj _) ?_,rfl,q _ (I.hok.fresh (aj _))];exact #[bS (AA xs lo hi) hz,_,0,(r.drop (HT.sIx xs.length 0 lo)).take (HT.sIx xs.length xs.length hi-HT.sIx xs.length 0 lo),bZ _ rfl]
def eY:V->Bool
  | .non=>true
  | .bl _=>true
  | .int _=>true
  | .str _=>true
  | _=>false
def eqV:V->V->Bool
  | .non,.non=>true
  | .bl a,.bl b=>a==b
  | .bl a,.int b=>(if a then 1 else 0)==b
  | .int a,.bl b=>a==(if b then 1 else 0)
  | .int a,.int b=>a==b
  | .str a,.str b=>a==b
  | _,_=>false
def Gf {A:Around}{s:Shared}{y x:V}{u v:Value}(ry:RelV y u)(rx:RelV x v)(fy:eY y=true)(fx:eY x=true):SeqAt.EqAt A s u v (eqV y x):=by
  cases y with
  | non=>
    cases ry
    cases x with
    | non=>cases rx;exact SeqAt.EqAt.same _
    | bl b=>cases rx;exact SeqAt.EqAt.none_bool b
    | int b=>obtain ⟨t,rfl⟩:=rx;exact SeqAt.EqAt.none_int b t
    | str b=>obtain ⟨t,rfl⟩:=rx;exact SeqAt.EqAt.none_str b t
    | _=>exact absurd (show false=true from fx) cK
  | bl a=>
    cases ry
    cases x with
    | non=>cases rx;exact SeqAt.EqAt.bool_none a
    | bl b=>cases rx;exact SeqAt.EqAt.bool_bool a b
    | int b=>obtain ⟨t,rfl⟩:=rx;exact SeqAt.EqAt.bool_int a b t
    | str b=>obtain ⟨t,rfl⟩:=rx;exact SeqAt.EqAt.bool_str a b t
    | _=>exact absurd (show false=true from fx) cK
  | int a=>
    obtain ⟨t',rfl⟩:=ry;cases x with
    | non=>cases rx;exact SeqAt.EqAt.int_none a t'
    | bl b=>cases rx;exact SeqAt.EqAt.int_bool a t' b
    | int b=>obtain ⟨t,rfl⟩:=rx;exact SeqAt.EqAt.int_int a t' b t
    | str b=>obtain ⟨t,rfl⟩:=rx;exact SeqAt.EqAt.int_str a t' b t
    | _=>exact absurd (show false=true from fx) cK
  | str a=>
    obtain ⟨t',rfl⟩:=ry;cases x with
    | non=>cases rx;exact SeqAt.EqAt.str_none a t'
    | bl b=>cases rx;exact SeqAt.EqAt.str_bool a t' b
    | int b=>obtain ⟨t,rfl⟩:=rx;exact SeqAt.EqAt.str_int a t' b t
    | str b=>obtain ⟨t,rfl⟩:=rx;exact SeqAt.EqAt.str_str a t' b t
    | _=>exact absurd (show false=true from fx) cK
  | _=>exact absurd (show false=true from fy) cK
def eqU (x:V)(u:Value):Bool:=match u with
  | .none=>eqV .non x
  | .bool b=>eqV (.bl b) x
  | .int i _=>eqV (.int i) x
  | .str z _=>eqV (.str z) x
  | _=>false
def AG {y:V}{u:Value}(r:RelV y u)(f:eY y=true):eqU x u=eqV y x:=by
  cases y with
  | non=>cases r;rfl
  | bl b=>cases r;rfl
  | int i=>obtain ⟨t,rfl⟩:=r;rfl
  | str z=>obtain ⟨t,rfl⟩:=r;rfl
  | _=>exact absurd (show false=true from f) cK
def mf :∀{xs:List V} {us:List Value},Vals xs us->xs.all eY=true->us.any (eqU x)=xs.any λy=>eqV y x
  | _,_,.nil,_=>rfl
  | y::xs,u::us,.cons r t,f=>by
    rw[lR,il]at f;rw[gB,gB,AG r f.1,mf t f.2]
def mh {A:Around}{s:Shared}{x:V}{v:Value}(rx:RelV x v)(fx:eY x=true):∀{xs:List V} {us:List Value},Vals xs us->xs.all eY=true->∀ u∈us,SeqAt.EqAt A s u v (eqU x u)
  | _,_,.nil,_=>λu hu=>by cases hu
  | y::xs,u::us,.cons r t,f=>λu' hu=>by
    rw[lR,il]at f;rcases aW.mp hu with rfl|hu
    · rw[AG r f.1];exact Gf r rx f.1 fx
    · exact mh rx fx t f.2 u' hu
def inV (x:V)(xs:List V):Bool:=xs.any λy=>eqV y x
inductive rIn (K:Frag)(neg:Bool)(x:V)(y:V)(H:Hp)(Q:VK):Prop
  | c:∀ p xs,y=.ref p->(SqL K H p xs\/SqT K H p xs)->eY x=true->xs.all eY=true->Q (.bl (if neg then !inV x xs else inV x xs)) H->rIn K neg x y H Q
def Gg:OpR X (compareOp .In) (rIn X.K false):=by
  intro Px s U H x y v u Q I rx ry h;obtain ⟨p,xs,rfl,hq,fx,fs,q⟩:=h;cases ry
  rcases hq with hq|hq
  · obtain ⟨its,r,pl,hz⟩:=I.list hq
    refine SeqAt.in_listAt (eqU x) pl.isList (λw hw=>mh rx fx r fs w (by simpa using hw)) #[.bl _,H,I,rfl,?_];rw[show its.toArray.any (eqU x)=its.any (eqU x) by simp,mf r fs];exact q
  · obtain ⟨its,r,pl,hz⟩:=I.tuple hq
    refine SeqAt.in_tupleAt (eqU x) pl (λw hw=>mh rx fx r fs w (by simpa using hw)) #[.bl _,H,I,rfl,?_];rw[show its.toArray.any (eqU x)=its.any (eqU x) by simp,mf r fs];exact q
def Gh:OpR X (compareOp .NotIn) (rIn X.K true):=by
  intro Px s U H x y v u Q I rx ry h;obtain ⟨p,xs,rfl,hq,fx,fs,q⟩:=h;cases ry
  rcases hq with hq|hq
  · obtain ⟨its,r,pl,hz⟩:=I.list hq
    refine SeqAt.notIn_listAt (eqU x) pl.isList (λw hw=>mh rx fx r fs w (by simpa using hw)) #[.bl _,H,I,rfl,?_];rw[show its.toArray.any (eqU x)=its.any (eqU x) by simp,mf r fs];exact q
  · obtain ⟨its,r,pl,hz⟩:=I.tuple hq
    refine SeqAt.notIn_tupleAt (eqU x) pl (λw hw=>mh rx fx r fs w (by simpa using hw)) #[.bl _,H,I,rfl,?_];rw[show its.toArray.any (eqU x)=its.any (eqU x) by simp,mf r fs];exact q
def Gi:cQ X (.builtin "len") (λxs H Q=>∃ p ys,xs=[.ref p]/\(SqL X.K H p ys\/SqT X.K H p ys)/\Q (.int ys.length) H):=by
  intro Px s U H xs us Q I r h;obtain ⟨p,ys,rfl,hq,q⟩:=h;obtain ⟨u,rfl,rx⟩:=eX r;cases rx
  have hn:=oM;rcases hq with hq|hq
  · obtain ⟨its,r',pl,hz⟩:=I.list hq
    have hlen:=r'.length;exact Calls.call_len_list pl.isList (by simp only[bO]<;>lia) #[.int ys.length,H,I.tok _,#[s.toks+1,by rw[bO,hlen]],q]
  · obtain ⟨its,r',pl,hz⟩:=I.tuple hq
    have hlen:=r'.length;exact len_tuple pl (by simp only[bO]<;>lia) #[.int ys.length,H,I.tok _,#[s.toks+1,by rw[bO,hlen]],q]
def Gj:cQ X (.type "list") (λxs H Q=>∃ p ys,xs=[.ref p]/\(SqL X.K H p ys\/SqT X.K H p ys)/\∀ l,H l=none->Q (.ref l) (upd H l (.lst ys))):=by
  intro Px s U H xs us Q I r h;obtain ⟨p,ys,rfl,hq,q⟩:=h;obtain ⟨u,rfl,rx⟩:=eX r;cases rx
  have fin:∀(its:List Value),Vals ys its->ys.length<=sizeLine->∀(h':Heap) (c':Nat),(∀ b o',s.heap.get? b=some o'->h'.get? b=some o')->
      h'.get? s.heap.objs.size=some { cls:=.type "list",dict:=none,data:=.seq its.toArray c',slots:=(List.toArray []) }->EP X Px U Q (.ref s.heap.objs.size) { s with heap:=h' }:=λits r' hz h' c' kp e=>
    #[.ref s.heap.objs.size,_,I.laid (t':=s.toks) kp (aj _) (show bN X.prog X.w _ h' _ (.lst ys) from #[hz,its,c',r',e]),rfl,q _ (I.hok.fresh (aj _))]
  rcases hq with hq|hq
  · obtain ⟨its,r',pl,hz⟩:=I.list hq
    have hlen:=r'.length;obtain ⟨o,ho,hc,n,hd⟩:=pl.isList;exact call_list_seq p (.inl rfl) ho hc hd (λh' c' kp e=>fin its r' hz h' c' kp e) (by simp only[bO]<;>lia)
  · obtain ⟨its,r',pl,hz⟩:=I.tuple hq
    have hlen:=r'.length;obtain ⟨o,ho,hc,n,hd⟩:=pl;exact call_list_seq p (.inr rfl) ho hc hd (λh' c' kp e=>fin its r' hz h' c' kp e) (by simp only[bO]<;>lia)
def Gk:cQ X (.type "tuple") (λxs H Q=>∃ p ys,xs=[.ref p]/\((SqL X.K H p ys/\∀ l,H l=none->Q (.ref l) (upd H l (.tup ys)))\/(SqT X.K H p ys/\Q (.ref p) H))):=by
  intro Px s U H xs us Q I r h;obtain ⟨p,ys,rfl,h⟩:=h;obtain ⟨u,rfl,rx⟩:=eX r;cases rx
  rcases h with ⟨hq,q⟩|⟨hq,q⟩
  · obtain ⟨its,r',pl,hz⟩:=I.list hq
    have hlen:=r'.length;refine call_tuple_list pl.isList (λh' kp=>?_) (by simp only[bO]<;>lia)
    have I1:Inv X Px U H { s with heap:=h' }:=I.kept (t':=s.toks) kp;have I2:Inv X Px U (upd H h'.objs.size (.tup ys)) { s with heap:=h'.push { cls:=.type "tuple",data:=.seq its.toArray } }:=
      I1.laid (t':=s.toks) (λb o e=>aX _ e) (aj _) (show bN X.prog X.w _ _ _ (.tup ys) from #[hz,its,r',IsTup.new _ _])
    exact #[.ref h'.objs.size,_,I2,rfl,q _ (I1.hok.fresh (aj _))]
  · obtain ⟨its,r',pl,hz⟩:=I.tuple hq
    exact call_tuple_same pl #[.ref p,H,I,rfl,q]
def tyV (K:Frag)(T:String)(x:V)(H:Hp):Prop:=match x with
  | .str _=>T = "str"
  | .int _=>T = "int"
  | .ref p=>(T = "list"/\∃ xs,SqL K H p xs)\/(T = "tuple"/\∃ o,K.lookup p=some o/\o.cls=.type "tuple"/\o.dict=none)\/
      (T = "dict"/\((∃ kvs,H p=some (.dK kvs))\/∃ kvs,H p=some (.dT kvs)))\/(T = "set"/\∃ S n,H p=some (.set S n))
  | _=>False
def AH {x:V}{v:Value}(I:Inv X Px U H s)(r:RelV x v)(ty:tyV X.K T x H) :
    s.TypeIs v T/\∀ a,v=.ref a->∃ ob,s.heap.get? a=some ob/\ob.dict=none:=by
  cases x with
  | str z=>
    obtain ⟨t,rfl⟩:=r;cases (show T = "str" from ty)
    exact #[typeIs_str s z t,λ_ e=>nomatch e]
  | int i=>
    obtain ⟨t,rfl⟩:=r;cases (show T = "int" from ty)
    exact #[typeIs_int s i t,λ_ e=>nomatch e]
  | ref p=>
    cases r
    rcases ty with ⟨rfl,xs,hq⟩|⟨rfl,o,hk,hc,hd⟩|⟨rfl,hk⟩|⟨rfl,S,n,hk⟩
    · obtain ⟨its,_,pl,_⟩:=I.list hq
      refine #[pl.isList.typeIs,λa e=>?_];cases e
      obtain ⟨o,n,e,c,hd,_⟩:=pl;exact #[o,e,hd]
    · refine #[#[o,I.kIn p o hk,hc],λa e=>?_]
      cases e
      exact #[o,I.kIn _ o hk,hd]
    · have z:∃ o,s.heap.get? p=some o/\o.ExactDict:=by
        rcases hk with ⟨kvs,hk⟩|⟨kvs,hk⟩
        · obtain ⟨_,_,_,_,o,_,_,e,ex,_⟩:=I.hok p _ hk
          exact #[o,e,ex]
        · obtain ⟨_,_,_,_,o,_,_,e,ex,_⟩:=I.hok p _ hk
          exact #[o,e,ex]
      obtain ⟨o,e,ex⟩:=z;refine #[#[o,e,ex.1],λa e2=>?_];cases e2
      exact #[o,e,ex.2.1]
    · obtain ⟨o,_,_,_,e,ex,_⟩:=I.hok p _ hk
      refine #[#[o,e,ex.1],λa e2=>?_];cases e2
      exact #[o,e,ex.2.1]
  | _=>exact False.elim ty
inductive AI (K:Frag)(T:String)(r:V->List V->Hp->VK->Prop)(Q:VK)(x:V)(H1:Hp):Prop
  | c:tyV K T x H1->r x [] H1 Q->AI K T r Q x H1
def tBM0 (K:Frag)(T:String)(r:V->List V->Hp->VK->Prop)(to:TE):TE:=λU H Q=>to U H λx H1=>AI K T r Q x H1
inductive GtBM (K:Frag)(T:String)(r:V->List V->Hp->VK->Prop)(t:TA)(U:St)(Q:VK)(x:V)(H1:Hp):Prop
  | c:tyV K T x H1->(t U H1 λxs H2=>r x xs H2 Q)->GtBM K T r t U Q x H1
def tBM (K:Frag)(T:String)(r:V->List V->Hp->VK->Prop)(to:TE)(t:TA):TE:=λU H Q=>to U H λx H1=>GtBM K T r t U Q x H1
variable {o e:Expr}{es:List Expr}{to:TE}{t:TA}{name:Str}{apos cpos:Pos}{T id:String}{r:V->List V->Hp->VK->Prop}
def uL (pa:PlainAttrs T)(slot:Slot T name id)(hty:typeOf (.builtin id)=pure (.type "method_descriptor"))(hm:MtR X id r)(ho:PE X o to)
    (hbase:attributeBase o name X.env (eval o X.env)=eval o X.env:=by rfl) (hline:(apos.endLine==cpos.line)=true:=by rfl):PE X (.Call (.Attribute o name apos) [] [] cpos) (tBM0 X.K T r to):=by
  intro Px s U H Q I h;refine wpAny_Call_method0_late hbase hline (thn (ho Px s U H _ I h) λv s1 zq0=>?_);obtain ⟨x,H1,I1,r1,ty,q1⟩:=zq0;obtain ⟨h1,h2⟩:=AH I1 r1 ty;exact #[T,id,pa,slot,hty,h1,h2,Calls.callWith_builtin rfl (PySem.evalArgs_none (hm Px s1 U H1 x [] v [] Q I1 r1 .nil q1))]
def dY (pa:PlainAttrs T)(slot:Slot T name id)(hty:typeOf (.builtin id)=pure (.type "method_descriptor"))(hm:MtR X id r)(ho:PE X o to)(ha:PA X (e::es) t)
    (hbase:attributeBase o name X.env (eval o X.env)=eval o X.env:=by rfl)
    (hfew:((backTo cpos (starEach (e::es) X.env)).all (λx=>!x.1) && (backToKw cpos (keywordEach [] X.env)).all (λx=>x.1.isSome)
      && decide ((e::es).length+([]:List Keyword).length+(if ([]:List Keyword).isEmpty then 0 else 1)<30))=true:=by rfl)
    (hline:(apos.endLine==cpos.line)=true:=by rfl) (hs:starEach (e::es) X.env=(false,eval e X.env)::starEach es X.env:=by rfl) (hplain:(backTo cpos (starEach es X.env)).any (·.1)=false:=by rfl) :
    PE X (.Call (.Attribute o name apos) (e::es) [] cpos) (tBM X.K T r to t):=by
  intro Px s U H Q I h;refine wpAny_Call_method_late hbase hfew hline rfl (thn (ho Px s U H _ I h) λv s1 zq0=>?_);obtain ⟨x,H1,I1,r1,ty,q1⟩:=zq0;obtain ⟨h1,h2⟩:=AH I1 r1 ty;refine #[T,id,pa,slot,hty,h1,h2,?_];have hA:=ha cpos Px s1 U H1 _ I1 q1;rw[hs]at hA ⊢;refine Calls.callWith_builtin (by show (false||(backTo cpos (starEach es X.env)).any (·.1))=false;rw[hplain]<;>rfl) (Calls.evalArgs_plain ?_)
  exact thn hA λus s2 zq0=>(by obtain ⟨vs,H2,I2,r2,q2⟩:=zq0;exact hm Px s2 U H2 x vs v us Q I2 r1 r2 q2)
end
def MtM (X:Cx)(id:String)(r:V->List V->Hp->VK->Prop):Prop:=
  ∀(Px:List (Addr×Obj)) (s:Shared) (U:St) (H:Hp) (x:V) (xs:List V) (v:Value) (us:List Value) (Q:VK),Inv X Px U H s->RelV x v->Vals xs us->r x xs H Q->
    wpAny (model X.prog X.w) X.A (call (.builtin id) (v::us)) (EP X Px U Q) X.xe s
def Vals.one:∀{x:V} {us:List Value},Vals [x] us->∃ u,us=[u]/\RelV x u
  | _,_,.cons r .nil=>#[_,rfl,r]
def Vals.zero:∀{us:List Value},Vals [] us->us=[]
  | _,.nil=>rfl
section
variable {X:Cx}{Px:List (Addr×Obj)}{U:St}{H:Hp}{s:Shared}{l b:Addr}{xs ys zs:List V}
def Inv.lset {its its':List Value}{n:Nat}{f:Array Value->Array Value}{t':Nat}(I:Inv X Px U H s)(hH:H l=some (.lst xs))
    (e:s.heap.get? l=some { cls:=.type "list",data:=.seq its.toArray n }) (hf:f its.toArray=its'.toArray) (hv:Vals ys its') (hz:ys.length<=sizeLine) :
    Inv X Px U (upd H l (.lst ys)) { s with heap:=s.heap.update l (Obj.mapSeq f),toks:=t' }:=by
  have q:=PySem.IsL.update e f;rw[hf]at q;refine I.write (x:=l) (e:=l) (by rw[hH];exact trivial) (.inl rfl) (λb' u hb hu=>(ja s.heap (Obj.mapSeq f) (bf hb)).trans hu) #[_,q] ?_;exact #[hz,its',_,hv,q]
def Inv.lnew {its:List Value}{t':Nat}(I:Inv X Px U H s)(hv:Vals ys its)(hz:ys.length<=sizeLine) :
    Inv X Px U (upd H s.heap.objs.size (.lst ys)) { s with heap:=s.heap.push { cls:=.type "list",data:=.seq its.toArray },toks:=t' }:=
  I.laid (λ_ _ q=>aX _ q) (aj _) #[hz,its,0,hv,bZ _ rfl]
def Inv.fresh (I:Inv X Px U H s):H s.heap.objs.size=none:=I.hok.fresh (aj _)
def Inv.lstM (I:Inv X Px U H s)(hH:H l=some (.lst xs)):xs.length<=sizeLine/\∃(its:List Value) (n:Nat),Vals xs its/\xs.length=its.length/\s.heap.get? l=some { cls:=.type "list",data:=.seq its.toArray n }:=by
  obtain ⟨z,its,n,r,e⟩:=I.hok l _ hH;exact #[z,its,n,r,r.length,e]
def Gm {n:Nat}(h:n<=sizeLine):Builtin.List.listTooLong n=false:=by
  unfold Builtin.List.listTooLong;exact aU (by lia)
end
section
variable {X:Cx}
inductive AJ (x:V)(vs:List V)(H:Hp)(Q:VK):Prop
  | c:∀ l xs y,x=.ref l->vs=[y]->H l=some (.lst xs)->xs.length<sizeLine->Q .non (upd H l (.lst (xs++[y])))->AJ x vs H Q
def dZ:MtM X "list.append" AJ:=by
  intro Px s U H x vs v us Q I rx rv h;obtain ⟨l,xs,y,rfl,rfl,hH,hz,q⟩:=h;cases rx
  obtain ⟨u,rfl,ru⟩:=rv.one;obtain ⟨z,its,n,r,hl,e⟩:=I.lstM hH;refine call_meets F.slot_list_append #[_,e,rfl] F.entry_list_append (F.args_list_append_2 _ _) (PySem.list_append l its.toArray n u (by rw[bO];lia)) #[e,?_];refine #[.non,_,I.lset (its':=its++[u]) hH e (by simp) (r.append (.cons ru .nil)) ?_,rfl,q];rw[bg,cT];lia
inductive AK (x:V)(vs:List V)(H:Hp)(Q:VK):Prop
  | c:∀ l b xs zs,x=.ref l->vs=[.ref b]->H l=some (.lst xs)->H b=some (.lst zs)->xs.length+zs.length<=sizeLine->Q .non (upd H l (.lst (xs++zs)))->AK x vs H Q
def Gn:MtM X "list.extend" AK:=by
  intro Px s U H x vs v us Q I rx rv h;obtain ⟨l,b,xs,zs,rfl,rfl,hH,hB,hz,q⟩:=h;cases rx
  obtain ⟨u,rfl,ru⟩:=rv.one;cases ru
  obtain ⟨z,its,n,r,hl,e⟩:=I.lstM hH;obtain ⟨z2,its2,n2,r2,hl2,e2⟩:=I.lstM hB;have hsz:its.toArray.size+its2.toArray.size<=sizeLine:=by rw[bO,bO];lia
  have hlong:¬ (!its.toArray.isEmpty&&Builtin.List.listTooLong (its.toArray.size+its2.toArray.size))=true:=by
    rw[Gm hsz,jc];exact cK
  refine call_meets F.slot_list_extend #[_,e,rfl] F.entry_list_extend (F.args_list_extend_2 _ _)
    (AutoSeq1.list_extend_list_list_0 l its.toArray n b its2.toArray n2 hlong (by rw[bO];lia) (by lia)) #[e,e2,?_]
  refine #[.non,_,I.lset (its':=its++its2) hH e (by simp) (r.append r2) ?_,rfl,q];rw[bg];lia
inductive AL (x:V)(vs:List V)(H:Hp)(Q:VK):Prop
  | c:∀ l xs,x=.ref l->vs=[]->H l=some (.lst xs)->Q .non (upd H l (.lst []))->AL x vs H Q
def AN:MtM X "list.clear" AL:=by
  intro Px s U H x vs v us Q I rx rv h;obtain ⟨l,xs,rfl,rfl,hH,q⟩:=h;cases rx
  have hus:=rv.zero;subst hus;obtain ⟨z,its,n,r,hl,e⟩:=I.lstM hH;refine call_meets F.slot_list_clear #[_,e,rfl] F.entry_list_clear (F.args_list_clear_1 _) (AutoSeq1.list_clear_list_0 l its.toArray n (by rw[bO];lia)) #[e,?_];exact #[.non,_,I.lset (its':=[]) (ys:=[]) hH e rfl .nil (cf _),rfl,q]
inductive rCat (x:V)(y:V)(H:Hp)(Q:VK):Prop
  | c:∀ l b xs zs,x=.ref l->y=.ref b->H l=some (.lst xs)->H b=some (.lst zs)->xs.length+zs.length<=sizeLine->(∀ p,H p=none->Q (.ref p) (upd H p (.lst (xs++zs))))->rCat x y H Q
def Gp:OpR X (binaryOp .Add) rCat:=by
  intro Px s U H x y v u Q I rx ry h;obtain ⟨l,b,xs,zs,rfl,rfl,hH,hB,hz,q⟩:=h;cases rx
  cases ry
  obtain ⟨z,its,n,r,hl,e⟩:=I.lstM hH;obtain ⟨z2,its2,n2,r2,hl2,e2⟩:=I.lstM hB;refine PySem.P.add_list e e2 ?_ (by rw[bO,bO];lia);have ea:its.toArray++its2.toArray=(its++its2).toArray:=by simp
  rw[ea];exact #[.ref _,_,I.lnew (t':=s.toks) (r.append r2) (by rw[bg];lia),rfl,q _ I.fresh]
end
section
variable {κ:Type}[DecidableEq κ]
def valV (kvs:List (κ×V))(k:κ):Option V:=(kvs.find? λkv=>decide (kv.1=k)).map (·.2)
def putK (kvs:List (κ×V))(k:κ)(v:V):List (κ×V):=
  if (kvs.any λkv=>decide (kv.1=k))=true then kvs.map (λkv=>if kv.1=k then (kv.1,v) else kv) else kvs++[(k,v)]
def dM {p:κ×V}{r:List (κ×V)}{k:κ}(e:p.1=k):valV (p::r) k=some p.2:=by simp[valV,jO,e]
def cW {p:κ×V}{r:List (κ×V)}{k:κ}(e:¬ p.1=k):valV (p::r) k=valV r k:=by simp[valV,jO,e]
def mi (k:κ):∀ kvs:List (κ×V),(kvs.any λkv=>decide (kv.1=k))=(valV kvs k).isSome
  | []=>rfl
  | p::r=>by
    rw[gB];by_cases e:p.1=k
    · simp only[dM e,aO e,Bool.true_or,Option.isSome_some]
    · rw[cW e,aU e,nR];exact mi k r
def AO (k j:κ)(y:V):∀ kvs:List (κ×V),valV (kvs.map λkv=>if kv.1=k then (kv.1,y) else kv) j=(valV kvs j).map λx=>if j=k then y else x
  | []=>rfl
  | p::r=>by
    have ih:=AO k j y r;rw[bK];by_cases h:p.1=k
    · rw[aq h]
      by_cases e:p.1=j
      · rw[dM (p:=(p.1,y)) e,dM e,jP,aq (e.symm.trans h)]
      · rw[cW (p:=(p.1,y)) e,cW e,ih]
    · rw[ak h]
      by_cases e:p.1=j
      · rw[dM (p:=p) e,dM e,jP,ak (λz=>h (e.trans z))]
      · rw[cW (p:=p) e,cW e,ih]
def AQ (k j:κ)(y:V):∀ kvs:List (κ×V),valV kvs k=none->valV (kvs++[(k,y)]) j=if j=k then some y else valV kvs j
  | [],_=>by
    by_cases e:k=j
    · rw[aq e.symm];exact dM (p:=(k,y)) e
    · rw[ak (λz=>e z.symm)];exact cW (p:=(k,y)) e
  | p::r,hn=>by
    rw[List.cons_append];have hk:¬ p.1=k:=λz=>by rw[dM z]at hn;cases hn
    rw[cW hk]at hn;have ih:=AQ k j y r hn;by_cases e:p.1=j
    · rw[dM e,dM e,ak (λz=>hk (e.trans z))]
    · rw[cW e,cW e,ih]
def Gq (kvs:List (κ×V))(k j:κ)(y:V):valV (putK kvs k y) j=if j=k then some y else valV kvs j:=by
  unfold putK;by_cases a:(kvs.any λkv=>decide (kv.1=k))=true
  · rw[aq a,AO]
    rw[mi]at a;by_cases e:j=k
    · obtain ⟨x,hx⟩:=uf.mp a
      rw[aq e,e,hx,jP,aq rfl]
    · rw[ak e]
      cases valV kvs j with
      | none=>rfl
      | some x=>rw[jP,ak e]
  · rw[ak a]
    refine AQ k j y kvs ?_;rw[mi]at a;cases q:valV kvs k with
    | none=>rfl
    | some x=>rw[q]at a;exact (a rfl).elim
def oU (kvs:List (κ×V))(k:κ)(v:V):(putK kvs k v).length<=kvs.length+1:=by
  unfold putK;split
  · rw[ai];lia
  · rw[bg,cS,gC];lia
def iH {kvs:List (κ×V)}{k:κ}(v:V)(h:valV kvs k=none):putK kvs k v=kvs++[(k,v)]:=by
  unfold putK;rw[mi,h];exact ak (by decide)
def RelO.isSome_eq {o:Option V}{u:Option Value}(r:RelO o u):o.isSome=u.isSome:=by
  cases o with
  | none=>cases u with
    | none=>rfl
    | some _=>exact (show False from r).elim
  | some _=>cases u with
    | none=>exact (show False from r).elim
    | some _=>rfl
def RelO.getD {o:Option V}{u:Option Value}{d:V}{d':Value}(r:RelO o u)(rd:RelV d d'):RelV (o.getD d) (u.getD d'):=by
  cases o with
  | none=>cases u with
    | none=>exact rd
    | some _=>exact (show False from r).elim
  | some _=>cases u with
    | none=>exact (show False from r).elim
    | some _=>exact r
def KV.val {kvs:List (κ×V)}{vs:List (κ×Value)}(r:KV kvs vs)(k:κ):RelO (valV kvs k) (valueAt vs k):=by
  unfold KV at r
  induction r with
  | nil=>exact True.intro
  | @cons p q ps qs h t ih=>
    obtain ⟨h1,h2⟩:=h;by_cases e:p.1=k
    · have e':q.1=k:=h1.symm.trans e
      have b:valueAt (q::qs) k=some q.2:=by simp[valueAt,jO,e']
      rw[dM e,b];exact h2
    · have e':¬ q.1=k:=λz=>e (h1.trans z)
      have b:valueAt (q::qs) k=valueAt qs k:=by simp[valueAt,jO,e']
      rw[cW e,b];exact ih
def KV.any {kvs:List (κ×V)}{vs:List (κ×Value)}(r:KV kvs vs)(k:κ):(kvs.any λkv=>decide (kv.1=k))=vs.any λkv=>decide (kv.1=k):=by
  unfold KV at r
  induction r with
  | nil=>rfl
  | cons h t ih=>rw[gB,gB,ih,h.1]
def KV.repl {kvs:List (κ×V)}{vs:List (κ×Value)}(r:KV kvs vs)(k:κ){y:V}{u:Value}(ry:RelV y u) :
    KV (kvs.map λkv=>if kv.1=k then (kv.1,y) else kv) (vs.map λkv=>if kv.1=k then (kv.1,u) else kv):=by
  unfold KV at r ⊢
  induction r with
  | nil=>exact .nil
  | @cons p q ps qs h t ih=>
    rw[bK,bK];refine .cons ?_ ih;obtain ⟨h1,h2⟩:=h;by_cases e:p.1=k
    · rw[aq e,aq (h1.symm.trans e)];exact #[h1,ry]
    · rw[ak e,ak (λz=>e (h1.trans z))];exact #[h1,h2]
def KV.put {kvs:List (κ×V)}{vs:List (κ×Value)}(r:KV kvs vs)(k:κ){y:V}{u:Value}(ry:RelV y u):KV (putK kvs k y) (stored vs k u):=by
  unfold putK stored;rw[r.any k];by_cases e:(vs.any λkv=>decide (kv.1=k))=true
  · rw[aq e,aq e];exact r.repl k ry
  · rw[ak e,ak e];exact Paired.snoc r #[rfl,ry]
def KV.length {kvs:List (κ×V)}{vs:List (κ×Value)}(r:KV kvs vs):kvs.length=vs.length:=Paired.length r
end
def iI {k:Key}{u:Value}(r:RelV (kV k) u):(bX P w).is k u=true:=by
  cases k with
  | inl i=>obtain ⟨t,e⟩:=(show ∃ t,u=Value.int i t from r);subst e;exact E7 P w i t
  | inr x=>obtain ⟨t,e⟩:=(show ∃ t,u=Value.str x t from r);subst e;exact E8 P w x t
def AR :∀{ks:List Key} {us:List Value},Vals (ks.map kV) us->ItemsAre (bX P w) ks us
  | [],_,r=>by rw[jQ]at r;cases r;exact .nil
  | k::ks,_,r=>by
    rw[bK]at r;cases r with
    | cons h t=>exact .cons (iI h) (AR t)
abbrev KT (H:Hp):List (List Key×V)->List (List Key×Addr×Value)->Prop:=Paired λp q=>p.1=q.1/\H q.2.1=some (.tup (p.1.map kV))/\RelV p.2 q.2.2
def KT.val {kvs:List (List Key×V)}{xs:List (List Key×Addr×Value)}(r:KT H kvs xs)(k:List Key):RelO (valV kvs k) ((atKey xs k).map (·.2)):=by
  induction r with
  | nil=>exact True.intro
  | @cons p q ps qs h t ih=>
    obtain ⟨h1,_,h2⟩:=h;by_cases e:p.1=k
    · have e':q.1=k:=h1.symm.trans e
      have b:atKey (q::qs) k=some q.2:=by simp[atKey,jO,e']
      rw[dM e,b];exact h2
    · have e':¬ q.1=k:=λz=>e (h1.trans z)
      have b:atKey (q::qs) k=atKey qs k:=by simp[atKey,jO,e']
      rw[cW e,b];exact ih
def KT.repl {kvs:List (List Key×V)}{xs:List (List Key×Addr×Value)}(r:KT H kvs xs)(k:List Key){y:V}{u:Value}(ry:RelV y u) :
    KT H (kvs.map λkv=>if kv.1=k then (kv.1,y) else kv) (xs.map (putAt k u)):=by
  induction r with
  | nil=>exact .nil
  | @cons p q ps qs h t ih=>
    rw[bK,bK];refine .cons ?_ ih;obtain ⟨h1,h2,h3⟩:=h;unfold putAt;by_cases e:p.1=k
    · rw[aq e,aq (h1.symm.trans e)];exact #[h1,h2,ry]
    · rw[ak e,ak (λz=>e (h1.trans z))];exact #[h1,h2,h3]
def KT.put {kvs:List (List Key×V)}{xs:List (List Key×Addr×Value)}(r:KT H kvs xs)(k:List Key){b:Addr}{y:V}{u:Value}(hb:H b=some (.tup (k.map kV)))(ry:RelV y u) :
    KT H (putK kvs k y) (storedH xs k b u):=by
  have e:(kvs.any λkv=>decide (kv.1=k))=(atKey xs k).isSome:=by
    rw[mi,(r.val k).isSome_eq,Option.isSome_map]
  unfold putK storedH;rw[e];by_cases q:(atKey xs k).isSome=true
  · rw[aq q,aq q];exact r.repl k ry
  · rw[ak q,ak q];exact Paired.snoc r #[rfl,hb,ry]
def KT.keeps {H':Hp}{kvs:List (List Key×V)}{xs:List (List Key×Addr×Value)}(r:KT H kvs xs)(ht:∀ b ys,H b=some (.tup ys)->H' b=some (.tup ys)):KT H' kvs xs:=
  Paired.mapP r λ_ _ z=>#[z.1,ht _ _ z.2.1,z.2.2]
section
variable {P:Program}{w:World}{H:Hp}{h:Heap}{a:Addr}
def AS (ok:HOk P w H h)(e:Rd H a u):bN P w H h a u:=e.ok ok
def jq {kvs:List (Key×V)}(ok:HOk P w H h)(e:Rd H a (.dK kvs)):kvs.length<=sizeLine/\(a==sysModules)=false/\∃ vs,KV kvs vs/\h.DictOf (bX P w) a vs:=
  show bN P w H h a (.dK kvs) from AS ok e
def uM {kvs:List (Key×V)}(ok:HOk P w H h)(e:H a=some (.dK kvs)):kvs.length<=sizeLine/\(a==sysModules)=false/\∃ vs,KV kvs vs/\h.DictOf (bX P w) a vs:=jq ok (.inl e)
def j7 {ks:List Key}(ok:HOk P w H h)(e:H a=some (.tup (ks.map kV))):(tupleKind (bX P w)).is h ks a:=by
  obtain ⟨_,its,r,o,h1,h2,n,h3⟩:=(show bN P w H h a (.tup (ks.map kV)) from ok a _ e);exact #[o,its.toArray,n,h1,h2,h3,by simpa using AR r]
def jr {kvs:List (List Key×V)}(ok:HOk P w H h)(e:Rd H a (.dT kvs)):kvs.length<=sizeLine/\(a==sysModules)=false/\
    ∃ xs,KT H kvs xs/\h.DictOfH (tupleKind (bX P w)) a xs:=by
  obtain ⟨z,y,xs,r,o,es,ep,h1,h2,h3,h4,h5⟩:=(show bN P w H h a (.dT kvs) from AS ok e);refine #[z,y,xs,r,o,es,ep,h1,h2,h3,h4,λx hx=>?_,h5];have all:∀{l:List (List Key×V)} {m:List (List Key×Addr×Value)},KT H l m->∀ x∈m,(tupleKind (bX P w)).is h x.1 x.2.1:=by
    intro l m q
    induction q with
    | nil=>intro x hx;exact nomatch hx
    | @cons p q ps qs hq t ih=>
      intro x hx;rcases aW.mp hx with e|hx
      · subst e
        exact j7 ok (by rw[<-hq.1];exact hq.2.1)
      · exact ih x hx
  exact all r x hx
def Gr {kvs:List (List Key×V)}(ok:HOk P w H h)(e:H a=some (.dT kvs)):kvs.length<=sizeLine/\(a==sysModules)=false/\
    ∃ xs,KT H kvs xs/\h.DictOfH (tupleKind (bX P w)) a xs:=jr ok (.inl e)
end
def DGet (H:Hp)(a:Addr)(y:V)(r:Option V):Prop:=
  (∃ kvs k,Rd H a (.dK kvs)/\y=kV k/\r=valV kvs k)\/∃ kvs k b,Rd H a (.dT kvs)/\y=.ref b/\H b=some (.tup (k.map kV))/\r=valV kvs k
def DPut (H:Hp)(a:Addr)(y v:V)(H':Hp):Prop:=
  (∃ kvs k,H a=some (.dK kvs)/\y=kV k/\kvs.length<sizeLine/\H'=upd H a (.dK (putK kvs k v)))\/
  ∃ kvs k b,H a=some (.dT kvs)/\y=.ref b/\H b=some (.tup (k.map kV))/\kvs.length<sizeLine/\H'=upd H a (.dT (putK kvs k v))
def DGet.k {H:Hp}{a:Addr}{kvs:List (Key×V)}{k:Key}(e:H a=some (.dK kvs)):DGet H a (kV k) (valV kvs k):=.inl #[kvs,k,.inl e,rfl,rfl]
def DGet.t {H:Hp}{a b:Addr}{kvs:List (List Key×V)}{k:List Key}(e:H a=some (.dT kvs))(eb:H b=some (.tup (k.map kV))):DGet H a (.ref b) (valV kvs k):=.inr #[kvs,k,b,.inl e,rfl,eb,rfl]
def DPut.k {H:Hp}{a:Addr}{kvs:List (Key×V)}{k:Key}(e:H a=some (.dK kvs))(hl:kvs.length<sizeLine):DPut H a (kV k) v (upd H a (.dK (putK kvs k v))):=.inl #[kvs,k,e,rfl,hl,rfl]
def DPut.t {H:Hp}{a b:Addr}{kvs:List (List Key×V)}{k:List Key}(e:H a=some (.dT kvs))(eb:H b=some (.tup (k.map kV)))(hl:kvs.length<sizeLine) :
    DPut H a (.ref b) v (upd H a (.dT (putK kvs k v))):=.inr #[kvs,k,b,e,rfl,eb,hl,rfl]
section
variable {X:Cx}{Px:List (Addr×Obj)}{U:St}{H:Hp}{s:Shared}{a:Addr}{y v:V}{u r:Value}{o:Option V}{A:Around}{E:Value->Shared->Prop}
def Inv.big (I:Inv X Px U H s):sysModules<s.heap.objs.size:=by
  have h:mainGlobals<s.heap.objs.size:=(I.mod.glob.keeps I.bk).lt;exact Nat.lt_trans (by decide) h
def Gs {Q:Value->Shared->Prop}(hu:A.units+1<cLine)(I:Inv X Px U H s)(g:DGet H a y (some v))(ry:RelV y u)(h:∀ w' s',Inv X Px U H s'->RelV v w'->Q w' s') :
    wpAny (model X.prog X.w) A (getItem (.ref a) u) Q E s:=by
  rcases g with ⟨kvs,k,e,ey,l⟩|⟨kvs,k,b,e,ey,eb,l⟩
  · subst ey
    obtain ⟨z,hd,vs,rel,dd⟩:=jq I.hok e;obtain ⟨w',hw,rw'⟩:=RelO.some_of (v:=v) (o:=valueAt vs k) (by rw[l];exact rel.val k);exact wpAny_getItem_of (iI ry) dd.mapOf hw (h w' _ (I.tok _) rw')
  · subst ey
    cases (show u=Value.ref b from ry)
    obtain ⟨z,hd,xs,rel,dd⟩:=jr I.hok e;obtain ⟨w',hw,rw'⟩:=RelO.some_of (v:=v) (o:=(atKey xs k).map (·.2)) (by rw[l];exact rel.val k);obtain ⟨p,hp,hp2⟩:=fS.mp hw;refine wpAny_getItem_heap (tupleKind_room_in1 hu) (j7 I.hok eb) dd hp ?_;rw[hp2];exact h w' _ (I.tok _) rw'
def d_in {Q:Value->Shared->Prop}(hu:A.units+1<cLine)(I:Inv X Px U H s)(g:DGet H a y o)(ry:RelV y u)(h:∀ s',Inv X Px U H s'->Q (.bool o.isSome) s') :
    wpAny (model X.prog X.w) A (compareOp .In u (.ref a)) Q E s:=by
  rcases g with ⟨kvs,k,e,ey,l⟩|⟨kvs,k,b,e,ey,eb,l⟩
  · subst ey
    obtain ⟨z,hd,vs,rel,dd⟩:=jq I.hok e;refine wpAny_in_of (iI ry) hd dd.mapOf ?_;rw[<-(rel.val k).isSome_eq,<-l];exact h _ (I.tok _)
  · subst ey
    cases (show u=Value.ref b from ry)
    obtain ⟨z,hd,xs,rel,dd⟩:=jr I.hok e;refine wpAny_in_heap (tupleKind_room_in1 hu) (j7 I.hok eb) hd dd ?_;have q:=(rel.val k).isSome_eq;rw[Option.isSome_map]at q;rw[<-q,<-l];exact h _ (I.tok _)
def Gu {Q:Value->Shared->Prop}(hu:A.units+1<cLine)(I:Inv X Px U H s)(g:DGet H a y o)(ry:RelV y u)(h:∀ s',Inv X Px U H s'->Q (.bool (!o.isSome)) s') :
    wpAny (model X.prog X.w) A (compareOp .NotIn u (.ref a)) Q E s:=by
  rcases g with ⟨kvs,k,e,ey,l⟩|⟨kvs,k,b,e,ey,eb,l⟩
  · subst ey
    obtain ⟨z,hd,vs,rel,dd⟩:=jq I.hok e;refine wpAny_notIn_of (iI ry) hd dd.mapOf ?_;rw[<-(rel.val k).isSome_eq,<-l];exact h _ (I.tok _)
  · subst ey
    cases (show u=Value.ref b from ry)
    obtain ⟨z,hd,xs,rel,dd⟩:=jr I.hok e;refine wpAny_notIn_heap (tupleKind_room_in1 hu) (j7 I.hok eb) hd dd ?_;have q:=(rel.val k).isSome_eq;rw[Option.isSome_map]at q;rw[<-q,<-l];exact h _ (I.tok _)
def uN {h':Heap}{t':Nat}(I:Inv X Px U H s)(mu:Mut (H a))(hs:Heap.SameBut a s.heap h')(he:∃ q,h'.get? a=some q)(new:bN X.prog X.w (upd H a ob) h' a ob) :
    Inv X Px U (upd H a ob) { s with heap:=h',toks:=t' }:=
  I.write (x:=a) (e:=a) mu (.inl rfl) (λb q hb z=>(hs.2 b hb).trans z) he new
def AU {h':Heap}{kvs:List (Key×V)}{vs:List (Key×Value)}(z:kvs.length<=sizeLine)(hd:(a==sysModules)=false)(rel:KV kvs vs)(dd:h'.DictOf (bX P w) a vs) :
    bN P w H' h' a (.dK kvs):=#[z,hd,vs,rel,dd]
def Gv {Q:Unit->Shared->Prop}(hu:A.units+1<cLine)(I:Inv X Px U H s)(g:DPut H a y v H')(ry:RelV y u)(rv:RelV v r)(h:∀ s',Inv X Px U H' s'->Q () s') :
    wpAny (model X.prog X.w) A (setItem (.ref a) u r) Q E s:=by
  rcases g with ⟨kvs,k,e,ey,l,eH⟩|⟨kvs,k,b,e,ey,eb,l,eH⟩
  · subst ey eH
    obtain ⟨z,hd,vs,rel,dd⟩:=uM I.hok e;have hz:vs.length<=sizeLine:=by rw[<-rel.length];exact z
    have hl:(putK kvs k v).length<=sizeLine:=by have:=oU kvs k v;lia
    refine wpAny_setItem_pairs (hsz:=hz) (iI ry) dd λh' dd' hs=>h _ ?_;have he:∃ q,h'.get? a=some q:=let ⟨q,_,_,hq,_⟩:=dd';#[q,hq];exact uN I (by rw[e];exact True.intro) hs he (AU hl hd (rel.put k rv) dd')
  · subst ey eH
    cases (show u=Value.ref b from ry)
    obtain ⟨z,hd,xs,rel,dd⟩:=Gr I.hok e;have hz:xs.length<=sizeLine:=by rw[<-Paired.length rel];exact z
    have hl:(putK kvs k v).length<=sizeLine:=by have:=oU kvs k v;lia
    refine wpAny_setItem_heap (hsz:=hz) (tupleKind_room_in1 hu) (j7 I.hok eb) dd λh' dd' hs=>h _ ?_;obtain ⟨q,es,ep,hq,h2,h3,h4,_,h5⟩:=dd';refine uN I (by rw[e];exact True.intro) hs #[q,hq] #[hl,hd,_,(rel.put k eb rv).keeps λc ys ec=>?_,q,es,ep,hq,h2,h3,h4,h5];rw[ah (zH ec e nofun)];exact ec
end
def NoSl (i:Expr):Prop:=∀ ov iv,subscripted i false ov iv=operate [ov,iv] (getItem ov iv)
def Gw {prog:Program}{w:World}{A:Around}{E:Value->Shared->Prop}{s:Shared}{env:Env}{value:Expr}{pos:Pos}{T id:String}{Q:Value->Shared->Prop}
    (hl:typeLookup (.type T) "__getitem__" = pure (some (.builtin id))) (hs:NoSl slice)
    (h:wpAny (model prog w) A (eval value env) (λo s₁=>wpAny (model prog w) A (eval slice env) (λi s₂=>s₂.TypeIs o T/\wpAny (model prog w) A (getItem o i) Q E s₂) E s₁) E s) :
    wpAny (model prog w) A (eval (.Subscript value slice pos) env) Q E s:=by
  refine Subscript_ (dS h (λo s₁ h₁=>dS h₁ (λi s₂ h₂=>?_) λ_ _ x=>x) λ_ _ x=>x);obtain ⟨hT,h₂⟩:=h₂;unfold subscriptTail;refine ay ?_;rw[getitemInPython_of_ne hT.not_modules];refine ay (wpAny_specialOf hT hl ?_);have fin:wpAny (model prog w) A (subscripted slice false o i) (λr s₃=>wpAny (model prog w) A (letTemporaryGo value o r >>= λ_=>pure r) Q E s₃) E s₂:=by
    rw[hs o i];exact wpAny_operating (dS h₂ (λr s₃ h₃=>ay (wpAny_letTemporaryGo (aS h₃))) λ_ _ x=>x)
  first
    | exact aS (ay fin)
    | exact ay (aS (ay fin))
    | exact ay fin
def Gx {a:Addr}(I:Inv X Px U H s)(g:DGet H a y o):s.TypeIs (.ref a) "dict":=by
  rcases g with ⟨kvs,k,e,_,_⟩|⟨kvs,k,b,e,_,_,_⟩
  · obtain ⟨_,_,vs,_,dd⟩:=jq I.hok e
    exact dd.typeIs
  · obtain ⟨_,_,xs,_,dd⟩:=jr I.hok e
    exact dd.typeIs
inductive AV (Q:VK)(x:V)(y:V)(H2:Hp):Prop
  | c:∀ a v,x=.ref a->DGet H2 a y (some v)->Q v H2->AV Q x y H2
def Gy (td ty:TE):TE:=λU H Q=>td U H λx H1=>ty U H1 λy H2=>AV Q x y H2
inductive AW (D:Ends)(U:St)(v:V)(x:V)(y:V)(H3:Hp):Prop
  | c:∀ a H4,x=.ref a->DPut H3 a y v H4->D.nx U H4->AW D U v x y H3
def Gz (td ty tv:TE):TS:=λD U H=>tv U H λv H1=>td U H1 λx H2=>ty U H2 λy H3=>AW D U v x y H3
section
variable {X:Cx}{o i e value:Expr}{pos pos' tpos:Pos}{td ty tv:TE}
def gM (hu:X.A.units+1<cLine)(ho:PE X o td)(hi:PE X i ty)(hs:NoSl i):PE X (.Subscript o i pos) (Gy td ty):=by
  intro Px s U H Q I h;refine Gw PySem.F.slot_dict_getitem.lookup hs (thn (ho Px s U H _ I h) λu s1 zq0=>?_);obtain ⟨x,H1,I1,rx,q1⟩:=zq0;refine thn (hi Px s1 U H1 _ I1 q1) λiv s2 zq1=>?_;obtain ⟨y,H2,I2,ry,a,v,ex,g,q2⟩:=zq1;subst ex;obtain rfl:u=Value.ref a:=rx;exact #[Gx I2 g,Gs hu I2 g ry λw' s3 I3 rw'=>#[v,H2,I3,rw',q2]]
def iJ (hu:X.A.units+1<cLine)(ho:PE X o td)(hi:PE X i ty)(hv:PE X value tv)(hs:swapsWith value (some (.Subscript o i pos')) pos.line X.env=pure false) :
    PS X (.Assign [.Subscript o i pos'] value pos) (Gz td ty tv):=by
  intro Px s U H D I h;refine wpAny_Assign_Subscript (thn (hv Px s U H _ I h) λr s1 zq0=>?_) hs;obtain ⟨v,H1,I1,rv,q1⟩:=zq0;refine thn (ho Px s1 U H1 _ I1 q1) λu s2 zq1=>?_;obtain ⟨x,H2,I2,rx,q2⟩:=zq1;refine thn (hi Px s2 U H2 _ I2 q2) λiv s3 zq2=>?_;obtain ⟨y,H3,I3,ry,a,H4,ex,g,q3⟩:=zq2;subst ex;obtain rfl:u=Value.ref a:=rx;exact Gv hu I3 g ry rv λs4 I4=>#[U,H4,I4,q3]
end
def AX (h:Heap)(hb:sysModules<h.objs.size):bN P w H (h.push { cls:=.type "dict",data:=.dict (List.toArray []) }) h.objs.size (.dK []):=
  #[cf _,beq_eq_false_iff_ne.mpr (bf (bL hb)),[],.nil,Heap.DictOf.new h]
def GA (h:Heap)(hb:sysModules<h.objs.size):bN P w H (h.push { cls:=.type "dict",data:=.dict (List.toArray []) }) h.objs.size (.dT []):=
  #[cf _,beq_eq_false_iff_ne.mpr (bf (bL hb)),[],.nil,_,(List.toArray []),0,bZ _ rfl,#[rfl,rfl,rfl],rfl,rfl,jR]
def GB:TE:=λ_ H Q=>∀ p,H p=none->Q (.ref p) (upd H p (.dK []))
def GC:TE:=λ_ H Q=>∀ p,H p=none->Q (.ref p) (upd H p (.dT []))
section
variable {X:Cx}{pos:Pos}
def AY:PE X (.Dict [] [] pos) GB:=λPx s U H Q I h=>
  wpAny_Dict_empty #[.ref s.heap.objs.size,_,I.laid (a:=s.heap.objs.size) (o:=.dK []) (t':=s.toks) (λ_ _ q=>aX _ q) (aj _) (AX s.heap I.big),rfl,h _ (I.hok.fresh (aj _))]
def AZ:PE X (.Dict [] [] pos) GC:=λPx s U H Q I h=>
  wpAny_Dict_empty #[.ref s.heap.objs.size,_,I.laid (a:=s.heap.objs.size) (o:=.dT []) (t':=s.toks) (λ_ _ q=>aX _ q) (aj _) (GA s.heap I.big),rfl,h _ (I.hok.fresh (aj _))]
end
def uO:List (TE×TE)->St->Hp->(List (V×V)->Hp->Prop)->Prop
  | [],_,H,Q=>Q [] H
  | (tk,tv)::r,U,H,Q=>tk U H λx H1=>tv U H1 λy H2=>uO r U H2 λps H3=>Q ((x,y)::ps) H3
abbrev VV:List (V×V)->List (Value×Value)->Prop:=Paired λp q=>RelV p.1 q.1/\RelV p.2 q.2
def PPs (X:Cx)(pos:Pos)(keys:List (Option Expr))(values:List Expr)(trs:List (TE×TE)):Prop:=
  ∀(Px:List (Addr×Obj)) (s:Shared) (U:St) (H:Hp) (Q:List (V×V)->Hp->Prop),Inv X Px U H s->uO trs U H Q->
    wpAny (model X.prog X.w) X.A (evalPairs (pairTrees keys values X.env pos)) (λvs s'=>∃ ps H',Inv X Px U H' s'/\VV ps vs/\Q ps H') X.xe s
def A0 :PPs X pos [] [] []:=λPx s U H Q I h=>pairTrees_nil_walk #[[],H,I,.nil,h]
def oV {k:Expr}(hk:PE X k tk)(hv:PE X v tv)(hr:PPs X pos ks vs trs) :
    PPs X pos (some k::ks) (v::vs) ((tk,tv)::trs):=λPx s U H Q I h=>
  pairTrees_cons_walk (thn (hk Px s U H _ I h) λu s1 ⟨x,H1,I1,rx,q1⟩=>thn (hv Px s1 U H1 _ I1 q1) λw2 s2 ⟨y,H2,I2,ry,q2⟩=>
    thn (hr Px s2 U H2 _ I2 q2) λws s3 ⟨ps,H3,I3,rel,q3⟩=>#[(x,y)::ps,H3,I3,.cons #[rx,ry] rel,q3])
def fG (kvs more:List (Key×V)):List (Key×V):=more.foldl (λacc kv=>putK acc kv.1 kv.2) kvs
def KV.merge:∀{more:List (Key×V)} {rs:List (Key×Value)} {kvs:List (Key×V)} {vs:List (Key×Value)},KV more rs->KV kvs vs->KV (fG kvs more) (merged vs rs):=by
  intro more rs kvs vs r;unfold KV at r
  induction r generalizing kvs vs with
  | nil=>intro q;exact q
  | @cons p q ps qs h t ih=>
    intro r0;have e:KV (putK kvs p.1 p.2) (stored vs q.1 q.2):=by
      have:=r0.put p.1 h.2;rw[<-h.1];exact this
    exact ih e
def A2:∀(more kvs:List (Key×V)),(fG kvs more).length<=kvs.length+more.length
  | [],kvs=>by show kvs.length<=kvs.length+0;lia
  | p::r,kvs=>by
    have h1:=A2 r (putK kvs p.1 p.2);have h2:=oU kvs p.1 p.2;show (fG (putK kvs p.1 p.2) r).length<=_;rw[cS];lia
def A3 :∀{kvs:List (Key×V)} {ws:List (Value×Value)},VV (kvs.map λkv=>(kV kv.1,kv.2)) ws->∃ rs,Carries (bX P w) ws rs/\KV kvs rs
  | [],_,r=>by rw[jQ]at r;cases r;exact #[[],True.intro,.nil]
  | p::kvs,_,r=>by
    rw[bK]at r;cases r with
    | @cons a b as bs h t=>
      obtain ⟨rs,c,q⟩:=A3 (P:=P) (w:=w) t;obtain ⟨b1,b2⟩:=b;exact #[(p.1,b2)::rs,#[iI h.1,rfl,c],.cons #[rfl,h.2] q]
def GD (trs:List (TE×TE)):TE:=λU H Q=>∀ p,H p=none->uO trs U (upd H p (.dK [])) λps H2=>H2 p=some (.dK [])/\∃ kvs:List (Key×V),ps=kvs.map (λkv=>(kV kv.1,kv.2))/\kvs.length<=15/\Q (.ref p) (upd H2 p (.dK (fG [] kvs)))
def A4 (h:PPs X pos keys values trs)(hall:keys.all (·.isSome)=true)(hl:keys.length=values.length)(h0:keys≠[])
    (h15:keys.length<=15):PE X (.Dict keys values pos) (GD trs):=by
  intro Px s U H Q I q;have hn:=I.hok.fresh (aj s.heap.objs.size);have I1:=I.laid (a:=s.heap.objs.size) (o:=.dK []) (h':=s.heap.push { cls:=.type "dict",data:=.dict (List.toArray []) }) (t':=s.toks) (λ_ _ q=>aX _ q) (aj _) (AX s.heap I.big);refine wpAny_Dict_walk (knd:=bX X.prog X.w) hall hl h0 h15 (thn (h Px _ U _ _ I1 (q _ hn)) λws s2 zq0=>?_);obtain ⟨ps,H2,I2,rel,e,kvs,ep,lk,q2⟩:=zq0;subst ep;obtain ⟨rs,c,rk⟩:=A3 (P:=X.prog) (w:=X.w) rel;obtain ⟨z,hd,vs0,r0,dd⟩:=uM I2.hok e;cases r0
  refine #[rs,c,dd,λh' dd' hs=>#[.ref s.heap.objs.size,_,?_,rfl,q2]];have hz:(fG [] kvs).length<=sizeLine:=by
    have h1:=A2 kvs [];rw[gC]at h1;rw[sizeLine_eq];lia
  have he:∃ q,h'.get? s.heap.objs.size=some q:=let ⟨q,_,_,hq,_⟩:=dd';#[q,hq];exact uN I2 (by rw[e];exact True.intro) hs he (AU hz hd (rk.merge .nil) dd')
structure M2 (X:Cx)(o:Expr)(m:Str)(apos:Pos)(e f:Expr)(cpos:Pos):Prop where
  base:attributeBase o m X.env (eval o X.env)=eval o X.env
  few:((backTo cpos (starEach [e,f] X.env)).all (λx=>!x.1) && (backToKw cpos (keywordEach [] X.env)).all (λx=>x.1.isSome)
    && decide (([e,f]:List Expr).length+([]:List Keyword).length+(if ([]:List Keyword).isEmpty then 0 else 1)<30))=true
  line:(apos.endLine==cpos.line)=true
  trees:backTo cpos (starEach [e,f] X.env)=[(false,eval e X.env),(false,eval f X.env)]
def IsD (H:Hp)(a:Addr):Prop:=(∃ kvs,Rd H a (.dK kvs))\/∃ kvs,Rd H a (.dT kvs)
def GE {a:Addr}(I:Inv X Px U H s)(d:IsD H a) :
    s.TypeIs (.ref a) "dict"/\(∀ b,Value.ref a=.ref b->∃ ob,s.heap.get? b=some ob/\ob.dict=none)/\(a==sysModules)=false:=by
  rcases d with ⟨kvs,e⟩|⟨kvs,e⟩
  · obtain ⟨_,hd,vs,_,dd⟩:=jq I.hok e
    refine #[dd.typeIs,λb q=>?_,hd];cases q
    obtain ⟨ob,_,_,h1,h2,_⟩:=dd;exact #[ob,h1,h2.2.1]
  · obtain ⟨_,hd,xs,_,dd⟩:=jr I.hok e
    refine #[dd.typeIs,λb q=>?_,hd];cases q
    obtain ⟨ob,_,_,h1,h2,_⟩:=dd;exact #[ob,h1,h2.2.1]
section
variable {X:Cx}{Px:List (Addr×Obj)}{U:St}{H:Hp}{s:Shared}{a:Addr}{y d:V}{u r:Value}{o:Option V}{A:Around}{E:Value->Shared->Prop}
def GF {Q:Value->Shared->Prop}(hu:A.units+1<cLine)(I:Inv X Px U H s)(g:DGet H a y o)(ry:RelV y u)(rd:RelV d r)(h:∀ w' s',Inv X Px U H s'->RelV (o.getD d) w'->Q w' s') :
    wpAny (model X.prog X.w) A (call (.builtin "dict.get") [.ref a,u,r]) Q E s:=by
  rcases g with ⟨kvs,k,e,ey,l⟩|⟨kvs,k,b,e,ey,eb,l⟩
  · subst ey
    obtain ⟨z,hd,vs,rel,dd⟩:=jq I.hok e;refine call_meetsIn PySem.F.slot_dict_get dd.typeIs PySem.F.entry_dict_get (PySem.F.args_dict_get_3 _ _ _) (meets_dict_get_default (bX X.prog X.w) a (iI ry) hd r) #[_,dd.mapOf,h _ _ (I.tok _) ?_];rw[l];exact (rel.val k).getD rd
  · subst ey
    cases (show u=Value.ref b from ry)
    obtain ⟨z,hd,xs,rel,dd⟩:=jr I.hok e;refine call_meetsIn PySem.F.slot_dict_get dd.typeIs PySem.F.entry_dict_get (PySem.F.args_dict_get_3 _ _ _) (meetsH_dict_get_default (tupleKind (bX X.prog X.w)) a b hd r) #[tupleKind_room_in1 hu,k,xs,j7 I.hok eb,dd,h _ _ (I.tok _) ?_];rw[l];exact (rel.val k).getD rd
end
inductive A5 (ty:TE)(tx:TE)(U:St)(Q:VK)(x:V)(H1:Hp):Prop
  | c:∀ a,x=.ref a->IsD H1 a->(ty U H1 λy H2=>tx U H2 λz H3=>∃ o,DGet H3 a y o/\Q (o.getD z) H3)->A5 ty tx U Q x H1
def GG (td ty tx:TE):TE:=λU H Q=>td U H λx H1=>A5 ty tx U Q x H1
section
variable {X:Cx}{o e f:Expr}{apos cpos:Pos}{td ty tx:TE}
def GH (hu:X.A.units+1<cLine)(ho:PE X o td)(he:PE X e ty)(hf:PE X f tx)(m:M2 X o "get" apos e f cpos):PE X (.Call (.Attribute o "get" apos) [e,f] [] cpos) (GG td ty tx):=by
  intro Px s U H Q I h;refine wpAny_Call_method m.base m.few m.line PySem.F.plainAttrs_dict PySem.F.slot_dict_get PySem.F.type_dict_get (thn (ho Px s U H _ I h) λu s1 zq0=>?_);obtain ⟨x,H1,I1,rx,a,ex,d,q1⟩:=zq0;subst ex;obtain rfl:u=Value.ref a:=rx;obtain ⟨t1,t2,_⟩:=GE I1 d;refine #[t1,t2,?_];rw[m.trees];refine Calls.callWith_builtin rfl (Calls.evalArgs_plain (Calls.spliced_cons (thn (he Px s1 U H1 _ I1 q1) λiv s2 ⟨y,H2,I2,ry,q2⟩=>
    Calls.spliced_cons (thn (hf Px s2 U H2 _ I2 q2) λfv s3 ⟨z,H3,I3,rz,ov,g,q3⟩=>Calls.spliced_nil ?_))))
  exact GF hu I3 g ry rz λw' s4 I4 rw'=>#[_,H3,I4,rw',q3]
end
end L2
namespace Att
open PySem PySem.W PySem.Calls PyProof.Rows
def GI {P:Params}{h:Heap}:∀(ns:List Int) (vs:List Value),WellAll P h vs (ns.map WData.int)->IntsAre vs ns:=by
  intro ns
  induction ns with
  | nil=>
    intro vs w;rw[jQ]at w;cases w
    exact .nil
  | cons n ns ih=>
    intro vs w;rw[bK]at w;cases w with
    | cons a b=>
      cases a
      exact .cons _ _ (ih _ b)
def GJ {l:OpenLaw}{n:Nat}(hn:l.most=some n){P:Params}{h:Heap}{args:List WData}{vals:List Value}
    (hpre:l.row.toRowW.claim.pre args=true) (hwl:WellAll P h vals args) :
    ∃ a vs ns,vals=[Value.ref a]/\args=[WData.list (ns.map WData.int)]/\h.get? a=some { cls:=.type "list",data:=.seq vs.toArray }/\IntsAre vs ns/\ns.length<=n:=by
  have hsh:WShape.hasAll [] args [.list .int]=true:=(pre_splitW hpre).1;have hc:l.pre.holds [] { args:=args }=true:=(pre_splitW hpre).2;obtain ⟨d,r,rfl,h1,h2⟩:=hasAllW_cons hsh;obtain rfl:=hasAllW_nil h2;obtain ⟨xs,rfl,h3⟩:=hasW_list h1;obtain ⟨ns,rfl⟩:=items_int h3;have hlen:ns.length<=n:=by
    unfold OpenLaw.pre at hc;have h4:(WTm.not (.lt (.lit (.int (n:Int))) (.len (.arg 0)))).holds [] { args:=[.list (ns.map .int)] }=true:=by
      have h4:=(holds_andW hc).1;rw[hn]at h4;exact h4
    have h5:=condW_of h4 (w_not (w_lt w_lit (w_len_list (w_arg rfl))));rw[ai]at h5;refine jd λq=>?_;have q':(n:Int)<((ns.length:Nat):Int):=by lia
    first
      | (rw[aO q']at h5;exact absurd h5 (by decide))
      | (simp at h5;lia)
  cases hwl with
  | cons w1 w2=>
    cases w2
    cases w1 with
    | list ho hall=>exact #[_,_,ns,rfl,rfl,ho,GI ns _ hall,hlen]
def GK (l:OpenLaw)(args:List WData):l.row.toRowW.claim.post args (.bool true) args=true:=
  postW_of (r:=l.row.toRowW) (X:=(true==true))
    (show WShape.has [] (.bool true) .bool=true by first|rfl|decide|simp[WShape.has,WShape.arms,WShape.armsAll])
    (show (WTm.eq .res (.lit (.bool true))).value [] { args:=args,res:=some (.bool true),after:=args }=some (.bool (true==true)) from w_eq_bool (w_res rfl) w_lit) rfl
def attach_call {l:OpenLaw}{n:Nat}{q:Program}{loose:List Str}{XP:(Str->Option Value)->Heap->Prop}{YP:World->Heap->Prop}{d:DefRec}
    (hn:l.most=some n) (hdf:d.params.defaults=[])
    (call:∀(w:World) (s₀ s₁:Shared) (mg mb:Str->Option Value) (fa:Addr) (o:Obj) (pm cd doc:Value) (a:Addr) (vs:List Value) (ns:List Int),
      Ground q loose [] XP w s₀ mg mb s₁.heap->YP w s₁.heap->
      s₁.heap.get? fa=some o->o.data=.func (docDef d.name d.params d.body d.scope pm cd doc)->s₁.heap.CodeRec cd d.name->mg d.name=some (.ref fa)->
      s₁.heap.get? a=some { cls:=.type "list",data:=.seq vs.toArray }->IntsAre vs ns->ns.length<=n->s₁.gens=(List.toArray [])->
      codeAny (model l.prog w) callerA (.call (.ref fa) #[[.ref a],[]]) (λr s'=>r=.ok (.ret (.bool true))/\OldK s₁.heap s'.heap/\s'.os=s₁.os/\AllBare s'.gens) s₁) :
    WalkO q loose XP YP l.row.toRowW d [] (λf vs=>PySem.call f vs):=by
  intro w s₀ s₁ mg mb G Y fa o pm cd doc dV kV ho hd hcd hD hmg hg args vals as hpre hlay hrd hwl hlo;obtain rfl:dV=.none:=Dflts.none hD hdf;obtain rfl:kV=.none:=Dflts.noKw hD;obtain ⟨a,vs,ns,rfl,rfl,hobj,hints,hlen⟩:=GJ hn hpre hwl;refine enter_call (codeAny_mono (call w s₀ s₁ mg mb fa o pm cd doc a vs ns G Y ho (fd_plain hd) hcd hmg hobj hints hlen hg) λr s' hq=>?_);obtain ⟨rfl,h2,h3,h4⟩:=hq;exact #[.inl #[.bool true,.bool true,[],rfl,λ_=>rfl,.bool true,GK l _,λ_=>#[List.Pairwise.nil,λ_ hm=>(nomatch hm)]],h2,h3,h4]
end Att
namespace L2
open PySem PySem.Spec PyProof.Rows
def A6:∀{vs:List Value} {ns:List Int},IntsAre vs ns->Vals (ns.map V.int) vs
  | _,_,.nil=>.nil
  | _,_,.cons n t h=>.cons #[t,rfl] (A6 h)
def gN (s:Stmt)(j:Nat):Stmt:=match s with
  | .ClassDef _ _ _ body _ _ _ _ _ _ _=>body.getD j (.Pass #[0,0,0,0])
  | _=>.Pass #[0,0,0,0]
def eO (s:Stmt):Arguments:=match s with
  | .FunctionDef _ a _ _ _ _ _ _ _ _=>a
  | _=>{ posonlyargs:=[],args:=[],vararg:=none,kwonlyargs:=[],kw_defaults:=[],kwarg:=none,defaults:=[] }
def dk (s:Stmt):List Stmt:=match s with
  | .FunctionDef _ _ b _ _ _ _ _ _ _=>b
  | _=>[]
def aB (s:Stmt):Scope:=match s with
  | .FunctionDef _ _ _ _ _ _ sc _ _ _=>sc
  | _=>{ kind:=.function,names:=[],isGenerator:=false,isCoroutine:=false }
abbrev CX0:CXT:=λ_ _ _ _ _ _=>False
abbrev E0:XK:=λ_ _ _=>False
def mj :jn CX0 X E0:=λ_ _ _ _ _ _ _ h=>h.elim
structure Fun (K:Frag)(x qual:Str)(st:Stmt)(f:Addr)(fd:FuncData):Prop where
  ex:∃(oc:Value) (od:Option Addr) (kV doc pm:Value) (an:Option Addr) (cdv ct:Value) (osl:Array (Option Value)),
    fd=fnOf x qual (eO st) (dk st) (aB st) .none kV doc pm an cdv ct/\K.lookup f=some #[oc,od,.func fd,osl]/\codeIn K cdv qual=true
  kp:keepIn K (.ref f)=true
section
variable {P:Program}{w:World}{K:Frag}{mg:Str->Option Value}{base:Heap}
def Fun.ok {st:Stmt}{f:Addr}{fd:FuncData}{N:List Str}{k:Nat}{sp:Sp}(F:Fun K x qual st f fd)(S:aK N ps (aB st))(len:∀ vs H Q E,sp vs H Q E->vs.length=ps.length)
    (hbody:∀(cdv:Value) (A:Around) (outer:List Env) (s:Shared) (H:Hp) (vs:List V) (Q:VK) (E:XK),Room k (A.deeper (envOfC qual (aB st) s.heap.objs.size f cdv))->sp vs H Q E->
      ∃ t,PSs (cxOf CX0 P w K mg base N qual (aB st) f cdv A outer s H E).nox (dk st) t/\t { nx:=λ_ H'=>Q .non H',rt:=Q } (cV N vs) H):FnOk P w K mg base CX0 (k+1) f fd ps sp:=by
  obtain ⟨oc,od,kV,doc,pm,an,cdv,ct,osl,rfl,lk,hcd⟩:=F.ex;refine Au lk hcd S len λA outer s H vs Q E hr hsp=>?_;obtain ⟨t,h,q⟩:=hbody cdv A outer s H vs Q E hr hsp;exact #[t,h.nox,q]
def Fun.binds {st:Stmt}{f:Addr}{fd:FuncData}{ps:List Str}(F:Fun K x qual st f fd)
    (h:∀(kV doc pm:Value) (an:Option Addr) (cdv ct:Value) (us:List Value),us.length=ps.length->bindArgs (fnOf x qual (eO st) (dk st) (aB st) .none kV doc pm an cdv ct) #[us,[]]=pure (ps.zip us)):dJ K fd ps []:=by
  obtain ⟨oc,od,kV,doc,pm,an,cdv,ct,osl,rfl,lk,hcd⟩:=F.ex;exact .all (h kV doc pm an cdv ct)
def jt {x qual:Str}{st:Stmt}{f:Addr}{oc:Value}{od an:Option Addr}{osl:Array (Option Value)}{kV doc pm cdv ct:Value}(l:K.lookup f=some #[oc,od,.func (fnOf x qual (eO st) (dk st) (aB st) .none kV doc pm an cdv ct),osl])
    (c:codeIn K cdv qual=true) (k:keepIn K (.ref f)=true):Fun K x qual st f (fnOf x qual (eO st) (dk st) (aB st) .none kV doc pm an cdv ct):=#[#[oc,od,kV,doc,pm,an,cdv,ct,osl,rfl,l,c],k]
end
def da {k:Nat}(hr:Room k A):A.units+1<cLine:=eF (ug (by decide:1<=64) _) hr.units
def a0 {n:Nat}(h:n<=1000):n<sizeLine:=eF h (by decide)
section
variable {X:Cx}
def pv (i:Nat){x:Str}{pos:Pos}(hN:X.N[i]?=some x:=by rfl)(hv:Vis X.env.scope x:=by first|exact av rfl|exact fQ (av rfl)|exact fQ (fQ rfl))(hd:(x==("__debug__" : Str))=false:=by decide)
    (hcd:(x==("__classdict__" : Str))=false:=by decide):PE X (.Name x pos) (tVar i):=Ff hN hv hd hcd
end
def iteF {A B:Prop}(h:B):if false=true then A else B:=by
  rw[ak cK];exact h
def iteT {A B:Prop}(h:A):if true=true then A else B:=by
  rw[aq rfl];exact h
def ite2 {c A B:Prop}[Decidable c](h1:c->A)(h2:¬ c->B):if c then A else B:=by
  by_cases h:c
  · rw[aq h]
    exact h1 h
  · rw[ak h]
    exact h2 h
def fh {c A B:Prop}[Decidable c](hc:c)(h:B):if (!decide c)=true then A else B:=by
  rw[aO hc];exact iteF h
def Same (H H':Hp):Prop:=∀ b o,H b=some o->H' b=some o
def Same.trans (a:Same H H1)(b:Same H1 H2):Same H H2:=λc o h=>b c o (a c o h)
def Same.free (e:Same H H'){l:Addr}(h:H' l=Option.none):H l=Option.none:=by
  cases q:H l with
  | none=>rfl
  | some o=>
    rw[e l o q]at h;cases h
def Same.seq {K:Frag}{a:Addr}(e:Same H H')(h:SqL K H a xs):SqL K H' a xs:=by
  rcases h with (h|⟨o,h⟩)|h
  · exact .inl (.inl (e _ _ h))
  · exact .inl (.inr #[o,e _ _ h])
  · exact .inr h
end L2
namespace Tim
open PySem PyProof.Rows
section
variable {prog:Program}{w:World}{A:Around}{E:Value->Shared->Prop}{s:Shared}{κ:KeyKind}{kd:SortKind}{a₀:Array Keyed}
def LtG (prog:Program)(w:World)(A:Around)(s:Shared)(κ:KeyKind)(kd:SortKind):Prop:=
 ∀(E:Value->Shared->Prop) (x y:Value) (a b:κ.α) (Q:Bool->Shared->Prop),κ.keyOf x=some a->κ.keyOf y=some b->Q (κ.blt a b) s->wpAny (model prog w) A (keyLt' kd x y) Q E s
def ky (κ:KeyKind)(p:Keyed):κ.α:=(κ.keyOf p.1).getD κ.dflt
def Keyd (κ:KeyKind)(p:Keyed):Prop:=∃ a,κ.keyOf p.1=some a
structure TB (κ:KeyKind)(kd:SortKind)(n:Nat)(st:SortSt):Prop where
 kind:kindOf st=kd
 keys:∀ p∈(arrOf st).toList,Keyd κ p
 failed:failedOf st=none
 size:(arrOf st).size=n
def kAt (κ:KeyKind)(xs:Array Keyed)(i:Nat):κ.α:=match xs[i]? with
 | some p=>ky κ p
 | none=>κ.dflt
def uP {xs:Array Keyed}{i:Nat}(h:i<xs.size):kAt κ xs i=ky κ xs[i]:=by
 unfold kAt;rw[Array.getElem?_eq_getElem h]
def Up (κ:KeyKind)(xs:Array Keyed)(lo hi:Nat):Prop:=∀ i j,lo<=i->i<=j->j<hi->κ.kle (kAt κ xs i) (kAt κ xs j)
end
end Tim
namespace Tim
open PySem PyProof.Rows
section
variable {κ:KeyKind}
def le (κ:KeyKind)(x y:Keyed):Prop:=κ.kle (ky κ x) (ky κ y)
abbrev SL (κ:KeyKind)(l:List Keyed):Prop:=l.Pairwise (le κ)
def GL {xs:Array Keyed}(h:Up κ xs 0 xs.size):SL κ xs.toList:=by
 rw[SL,eV];intro i j hi hj hij;have hi':i<xs.size:=by simpa using hi
 have hj':j<xs.size:=by simpa using hj
 have:=h i j (cf _) (by lia) hj';rw[uP hi',uP hj']at this;simpa [le] using this
variable {a b out:Array Keyed}{ia ib:Nat}
end
end Tim
namespace Tim
open PySem PyProof.Rows
section
variable {κ:KeyKind}
def back (xs:Array Keyed)(lo:Nat)(m:Array Keyed):Array Keyed:=m.toList.zipIdx.foldl (λa (q:Keyed×Nat)=>a.setIfInBounds (lo+q.2) q.1) xs
end
end Tim
namespace Tim
open PySem PyProof.Rows
section
variable {prog:Program}{w:World}{A:Around}{E:Value->Shared->Prop}{s:Shared}{κ:KeyKind}{kd:SortKind}
def mn (a:Addr)(h h':Heap):Prop:=∀ b o,b≠a->h.get? b=some o->h'.get? b=some o
def keyV (κ:KeyKind)(v:Value):κ.α:=(κ.keyOf v).getD κ.dflt
def uQ:∀ vs:List Value,vs.zip vs=vs.map λv=>(v,v)
 | []=>rfl
 | v::vs=>by rw[uh,uQ vs,bK]
def A8 {vs:List Value}{p:Keyed}(h:p∈(pairsOf vs).toList):p.1=p.2/\p.1∈vs:=by
 have e:(pairsOf vs).toList=vs.zip vs:=by
  unfold pairsOf;simp
 rw[e]at h;rw[uQ]at h;obtain ⟨v,hv,rfl⟩:=cC.mp h;exact #[rfl,hv]
def GM (vs:List Value):(pairsOf vs).toList.map (·.2)=vs:=by
 have e:(pairsOf vs).toList=vs.zip vs:=by
  unfold pairsOf;simp
 rw[e,uQ,fA];have z:((λx:Keyed=>x.2) ∘ λv:Value=>(v,v))=id:=rfl
 first
  | rw[z,List.map_id]
  | exact List.map_id vs
def GN {vs:List Value}{xs:Array Keyed}(hp:xs.Perm (pairsOf vs))(hU:Up κ xs 0 (pairsOf vs).size) :
  (xs.toList.map (·.2)).Perm vs/\(xs.toList.map (·.2)).Pairwise (λx y=>κ.kle (keyV κ x) (keyV κ y)):=by
 have hpl:=ui.mp hp;refine #[?_,?_]
 .have:=hpl.map (·.2);rwa[GM]at this
 .have hs:SL κ xs.toList:=GL (by rw[hp.size_eq];exact hU);refine ip.mpr (hs.imp_of_mem λ{a b} ha hb hab=>?_);have ea:=(A8 (hpl.mem_iff.mp ha)).1;have eb:=(A8 (hpl.mem_iff.mp hb)).1;unfold le ky at hab;unfold keyV;rw[<-ea,<-eb];exact hab
def GO {h:Heap}{a:Addr}{vs out:List Value}{n:Nat}(ho:h.get? a=some (seqObj "list" vs.toArray n)):mn a h (sortedHeap h a vs out.toArray)/\∃ c,(sortedHeap h a vs out.toArray).get? a=some (seqObj "list" out.toArray c):=by
 unfold sortedHeap;refine #[λb o hb e=>(ja _ _ (bf hb)).trans (aX _ (aX _ ((ja _ _ (bf hb)).trans e))),?_];exact #[_,get?_update_seq (aX _ (aX _ (get?_update_seq ho (λ_=>(List.toArray []))))) λ_=>out.toArray]
end
end Tim
namespace L2
open PySem PySem.Spec PyProof.Rows
structure DF (K:Frag)(mg:Str->Option Value)(x:Str)(st:Stmt)(ps:List Str):Prop where
 ex:∃ f fd,Fun K x x st f fd/\dJ K fd ps []/\mg x=some (.ref f)
structure FC (P:Program)(w:World)(K:Frag)(mg:Str->Option Value)(base:Heap)(k:Nat)(x:Str)(ps:List Str)(sp:Sp):Prop where
 ex:∃ f fd,FnOk P w K mg base CX0 k f fd ps sp/\dJ K fd ps []/\keepIn K (.ref f)=true/\mg x=some (.ref f)/\∃ oc od osl,K.lookup f=some #[oc,od,.func fd,osl]
def FC.at {w:World}{K:Frag}{mg:Str->Option Value}{base:Heap}{k:Nat}{f:Addr}{fd:FuncData}{oc:Value}{od:Option Addr}{osl:Array (Option Value)}(F:FC P w K mg base k x ps sp)(m:mg x=some (.ref f))(l:K.lookup f=some #[oc,od,.func fd,osl]):FnOk P w K mg base CX0 k f fd ps sp:=by
 obtain ⟨f',fd',ok,_,_,m',oc',od',osl',l'⟩:=F.ex;rw[m]at m';cases m'
 rw[l]at l';cases l'
 exact ok
def DF.ok {w:World}{K:Frag}{mg:Str->Option Value}{base:Heap}{st:Stmt}{N:List Str}{k:Nat}{sp:Sp}(D:DF K mg x st ps)(S:aK N ps (aB st))(len:∀ vs H Q E,sp vs H Q E->vs.length=ps.length)
  (hbody:∀(f:Addr) (cdv:Value) (A:Around) (outer:List Env) (s:Shared) (H:Hp) (vs:List V) (Q:VK) (E:XK),Room k (A.deeper (envOfC x (aB st) s.heap.objs.size f cdv))->sp vs H Q E->
   ∃ t,PSs (cxOf CX0 P w K mg base N x (aB st) f cdv A outer s H E).nox (dk st) t/\t { nx:=λ_ H'=>Q .non H',rt:=Q } (cV N vs) H):FC P w K mg base (k+1) x ps sp:=by
 obtain ⟨f,fd,F,b,m⟩:=D.ex;exact #[f,fd,F.ok S len λcdv A outer s H vs Q E hr h=>hbody f cdv A outer s H vs Q E hr h,b,F.kp,m,by
  obtain ⟨oc,od,kV,doc,pm,an,cdv,ct,osl,rfl,lk,hcd⟩:=F.ex;exact #[oc,od,osl,lk]]
def az {X:Cx}{k:Nat}{e:Expr}{es:List Expr}{t:TA}{p pos:Pos}(F:FC X.prog X.w X.K X.mg X.base j x ps sp)(hr:Room k X.A)(ha:PA X (e::es) t)(hjk:j<=k:=by decide)(hg:Gl X x:=by rfl)
  (hdb:(x==("__debug__" : Str))=false:=by decide) (he:starEach (e::es) X.env=(false,eval e X.env)::starEach es X.env:=by rfl) (hpl:(backTo pos (starEach es X.env)).any (·.1)=false:=by rfl):PE X (.Call (.Name x p) (e::es) [] pos) (Al sp [] E0 t):=by
 obtain ⟨f,fd,ok,b,kp,m,_⟩:=F.ex;exact FP ok (hr.mono hjk) hg m kp b .nil mj ha hdb he hpl
def GP (t u:TS):TS:=λD U H=>∃ M:St->Hp->Prop,t { D with nx:=M } U H/\∀ U' H',M U' H'->u D U' H'
def cn {st:Stmt}{rest:List Stmt}{t:TS}(h1:PS X st t)(h2:PSs X rest u):PSs X (st::rest) (GP t u):=by
 intro Px s U H D I h;obtain ⟨M,h,hM⟩:=h;refine wpAny_execs_cons (thn (h1 Px s U H { D with nx:=M } I h) λf s1 q=>?_);cases f with
 | next=>
  obtain ⟨U',H',I',q⟩:=q;exact h2 Px s1 U' H' D I' (hM U' H' q)
 | ret v=>exact q
 | brk=>exact q
 | cont=>exact q
def GQ (i j:Int):Prop:=0<j/\j<2^4000
section
variable {X:Cx}
def kitO (a b:String):Option Bool:=if (Value.type a==Value.type b)=true then some true else if W.kitMeta b=true then (PySem.fastBuiltinMro a).map (·.contains (.type b)) else none
def GR {K:Frag}{a:String}:kitOne K (.type a) (.type b)=kitO a b:=rfl
inductive rIsi (K:Frag)(xs:List V)(H:Hp)(Q:VK):Prop
 | c:∀ x n t b,xs=[x,.ty n]->TyOf K H x (.type t)->kitO t n=some b->Q (.bl b) H->rIsi K xs H Q
def GS:cQ X (.builtin "isinstance") (rIsi X.K):=by
 intro Px s U H xs us Q I r h;obtain ⟨x,n,t,b,e,ty,ki,q⟩:=h;subst e;obtain ⟨u,w',e,r1,r2⟩:=fX r;subst e;cases r2
 exact FL I r1 ty (GR.trans ki) λtk=>#[.bl b,H,I.tok tk,rfl,q]
def GT:kitO "int" "int" = some true:=by decide +kernel
def GU:kitO "int" "bool" = some false:=by decide +kernel
def A9:kitO "list" "list" = some true:=by decide +kernel
def GV:kitO "bool" "bool" = some true:=by decide +kernel
inductive Ba (x:V)(xs:List V)(H:Hp)(Q:VK):Prop
 | c:∀ i,x=.int i->xs=[]->Q (.int (Builtin.Int.intBits i:Nat)) H->Ba x xs H Q
def GW:MtR X "int.bit_length" Ba:=by
 intro Px s U H x xs v us Q I rx rv h;obtain ⟨i,rfl,rfl,q⟩:=h;obtain ⟨t,rfl⟩:=rx;cases rv
 exact call_int_bit_length #[.int _,H,I.tok _,#[_,rfl],q]
end
def oW {c A B:Prop}[Decidable c](hc:¬ c)(h:B):if decide c=true then A else B:=by
 rw[aU hc];exact iteF h
def Bb {c A B:Prop}[Decidable c](hc:c)(h:A):if decide c=true then A else B:=by
 rw[aO hc];exact iteT h
def dn (L:Addr)(a l:Int):HO:=.dK [(.inr "script",.ref L),(.inr "at",.int a),(.inr "left",.int l)]
def Keep (d:Addr)(H H':Hp):Prop:=∀ b o,b≠d->H b=some o->H' b=some o
def Keep.refl (d:Addr)(H:Hp):Keep d H H:=λ_ _ _ h=>h
def Keep.trans (a:Keep d H H1)(b:Keep d H1 H2):Keep d H H2:=λc o n h=>b c o n (a c o n h)
def Same.keep (s:Same H H'):Keep d H H':=λb o _ h=>s b o h
structure LS (K:Frag)(L d:Addr)(H:Hp):Prop where
 ex:∃(ns:List Int) (a l:Int),H d=some (dn L a l)/\SqL K H L (ns.map V.int)
def oX {K:Frag}{H:Hp}{d:Addr}{a:Int}(hd:H d=some (dn L' a l))(k:Keep d H H')(h:SqL K H L xs):SqL K H' L xs:=by
 have ne:∀ o,H L=some o->(∀ kvs,o≠.dK kvs)->L≠d:=λo e n z=>by
  rw[z,hd]at e;cases e
  exact n _ rfl
 rcases h with (h|⟨o,h⟩)|h
 .exact .inl (.inl (k L _ (ne _ h nofun) h))
 .exact .inl (.inr #[o,k L _ (ne _ h nofun) h])
 .exact .inr h
def LS.set {K:Frag}{d:Addr}{H:Hp}{ns:List Int}{a l:Int}(hd:H d=some (dn L a l))(h:SqL K H L (ns.map V.int)):LS K L d (upd H d (dn L a' l'))/\Keep d H (upd H d (dn L a' l')):=by
 have k:Keep d H (upd H d (dn L a' l')):=λb o n e=>by rw[ah n];exact e
 exact #[#[ns,a',l',af,oX hd k h],k]
def LS.same {K:Frag}(s:LS K L d H)(k:Same H H'):LS K L d H':=by
 obtain ⟨ns,a,l,e,q⟩:=s.ex;exact #[ns,a,l,k _ _ e,k.seq q]
def aD {H:Hp}{p:Addr}(h:H p=none)(o:HO):Same H (upd H p o):=λb u q=>by rw[ah (au q h)];exact q
def LS.put {K:Frag}{p:Addr}{H2:Hp}{o:HO}(s:LS K L d H0)(hp:H0 p=none)(k:∀ b o,b≠d->b≠p->H0 b=some o->H2 b=some o)(s2:LS K L d H2):LS K L d (upd H2 p o):=by
 obtain ⟨ns,a,l,e,q⟩:=s.ex;obtain ⟨ns2,a2,l2,e2,_⟩:=s2.ex;have hdp:d≠p:=au e hp;have go:∀ u,H0 L=some u->(∀ kvs,u≠.dK kvs)->upd H2 p o L=some u:=λu hu hn=>by
  have h1:L≠p:=au hu hp;have h2:L≠d:=λz=>by
   rw[z,e]at hu;cases hu
   exact hn _ rfl
  rw[ah h1];exact k L u h2 h1 hu
 refine #[ns,a2,l2,by rw[ah hdp];exact e2,?_];rcases q with (h|⟨ob,h⟩)|h
 .exact .inl (.inl (go _ h nofun))
 .exact .inl (.inr #[ob,go _ h nofun])
 .exact .inr h
section
variable {H:Hp}{d L:Addr}{a l:Int}
def f6 {x y:Str}(h:x≠y):(Sum.inr x:Key)≠Sum.inr y:=λz=>h (Sum.inr.inj z)
def GX (h:H d=some (dn L a l)):DGet H d (.str "script") (some (.ref L)):=.inl #[_,.inr "script",.inl h,rfl,by rw[dM rfl]]
def GY (h:H d=some (dn L a l)):DGet H d (.str "at") (some (.int a)):=.inl #[_,.inr "at",.inl h,rfl,by rw[cW (f6 (show ("script" : Str) ≠ "at" by decide +kernel)),dM rfl]]
def uR (h:H d=some (dn L a l)):DGet H d (.str "left") (some (.int l)):=.inl #[_,.inr "left",.inl h,rfl,by rw[cW (f6 (show ("script" : Str) ≠ "left" by decide +kernel)),cW (f6 (show ("at" : Str) ≠ "left" by decide +kernel)),dM rfl]]
def Bc {k:Key}{kvs kvs':List (Key×V)}(h:H d=some (.dK kvs))(hl:kvs.length<sizeLine)(e:putK kvs k v=kvs'):DPut H d (kV k) v (upd H d (.dK kvs')):=by
 subst e;exact DPut.k h hl
def GZ (h:H d=some (dn L a l)):DPut H d (.str "at") (.int a') (upd H d (dn L a' l)):=
 Bc (k:=.inr "at") h (by show 3 < sizeLine;decide) (by
  unfold putK;rw[aq (by simp)];simp only[bK,jQ,ak (f6 (show ("script" : Str) ≠ "at" by decide +kernel)),ak (f6 (show ("left" : Str) ≠ "at" by decide +kernel)),if_true])
def Bd (h:H d=some (dn L a l)):DPut H d (.str "left") (.int l') (upd H d (dn L a l')):=
 Bc (k:=.inr "left") h (by show 3 < sizeLine;decide) (by
  unfold putK;rw[aq (by simp)];simp only[bK,jQ,ak (f6 (show ("script" : Str) ≠ "left" by decide +kernel)),ak (f6 (show ("at" : Str) ≠ "left" by decide +kernel)),if_true])
end
inductive f9 (K:Frag)(vs:List V)(H:Hp)(Q:VK)(w_1:XK):Prop
 | c:∀(d L:Addr) (m:Int),vs=[.ref d,.int m]->(0<m/\m<1073741824)->LS K L d H->(∀(v:Int) (H':Hp),0<=v->v<m->Keep d H H'->LS K L d H'->Q (.int v) H')->f9 K vs H Q w_1
inductive uS (vs:List V)(H:Hp)(Q:VK)(w_1:XK):Prop
 | c:∀(c k:Int),vs=[.int c,.int k]->(∀ v:Int,Q (.int v) H)->uS vs H Q w_1
inductive uT (K:Frag)(vs:List V)(H:Hp)(Q:VK)(w_1:XK):Prop
 | c:∀(L:Addr) (ns:List Int),vs=[.ref L]->SqL K H L (ns.map V.int)->(∀(d:Addr) (H':Hp),H d=none->Same H H'->LS K L d H'->Q (.ref d) H')->uT K vs H Q w_1
def G0 {ns:List Int}{k:Int}(h:0<ns.length):∃ v:Int,atI (ns.map V.int) (k%(((ns.map V.int).length:Nat):Int))=some (.int v):=by
 have e:(ns.map V.int).length=ns.length:=ai _;have h1:(0:Int)<(((ns.map V.int).length:Nat):Int):=by rw[e];lia
 have z0:=nS k (Int.ne_of_gt h1);have z1:=nU k h1;generalize hj:k%(((ns.map V.int).length:Nat):Int)=j at z0 z1;rw[e]at z1;have hk:j.toNat<ns.length:=by lia
 obtain ⟨n,rfl⟩:∃ n:Nat,j=(n:Int):=#[j.toNat,by lia];have hn:n<ns.length:=by lia
 exact #[ns[n],cG (by rw[bj,aC hn];rfl)]
end L2
namespace L2
open PySem PySem.Spec PyProof.Rows PySem.SeqAt
def Ext (H H':Hp):Prop:=∀ b o,H b=some o->(∀ kvs,o≠.dK kvs)->H' b=some o
def Same.ext (s:Same H H'):Ext H H':=λb o h _=>s b o h
def Keep.ext {a l:Int}(k:Keep d H H')(h:H d=some (dn L a l)):Ext H H':=λb o e n=>k b o (λz=>by
 rw[z,h]at e;cases e
 exact n _ rfl) e
def LS.ext {K:Frag}(s:LS K L d H)(k:Keep d H H'):Ext H H':=by
 obtain ⟨ns,a,l,e,_⟩:=s.ex;exact k.ext e
def LS.of_new {K:Frag}(s:LS K L d H){p:Addr}(hp:H p=none)(o:HO):LS K L d (upd H p o):=s.same (aD hp o)
def SqL.ext {K:Frag}{a:Addr}(e:Ext H H')(h:SqL K H a xs):SqL K H' a xs:=by
 rcases h with (h|⟨o,h⟩)|h
 .exact .inl (.inl (e _ _ h nofun))
 .exact .inl (.inr #[o,e _ _ h nofun])
 .exact .inr h
def SqT.ext {K:Frag}{a:Addr}(e:Ext H H')(h:SqT K H a xs):SqT K H' a xs:=by
 rcases h with (h|⟨o,h⟩)|h
 .exact .inl (.inl (e _ _ h nofun))
 .exact .inl (.inr #[o,e _ _ h nofun])
 .exact .inr h
class Rep (α:Type) where
 dec:DecidableEq α
 depth:Nat
 has:Frag->Hp->α->V->Prop
 mono:∀{K:Frag} {H H':Hp} {a:α} {v:V},Ext H H'->has K H a v->has K H' a v
 inj:∀{X:Cx} {Px:List (Addr×Obj)} {U:St} {H:Hp} {s:Shared} {a b:α} {v:V},Inv X Px U H s->has X.K H a v->has X.K H b v->a=b
 rc:∀{X:Cx} {Px:List (Addr×Obj)} {U:St} {H:Hp} {s:Shared} {A:Around} {a b:α} {x y:V} {u v:Value},Inv X Px U H s->A.units+depth<cLine->has X.K H a x->has X.K H b y->RelV x u->RelV y v->RcAt A s u v (dec a b).decide
 rn:∀{X:Cx} {Px:List (Addr×Obj)} {U:St} {H:Hp} {s:Shared} {A:Around} {a b:α} {x y:V} {u v:Value},Inv X Px U H s->A.units+depth<cLine->has X.K H a x->has X.K H b y->RelV x u->RelV y v->RcNeAt A s u v (!(dec a b).decide)
 eq:∀{X:Cx} {Px:List (Addr×Obj)} {U:St} {H:Hp} {s:Shared} {A:Around} {a b:α} {x y:V} {u v:Value},Inv X Px U H s->A.units+depth<cLine->has X.K H a x->has X.K H b y->RelV x u->RelV y v->EqAt A s u v (dec a b).decide
instance (priority:=low) repDec {α:Type} [Rep α]:DecidableEq α:=Rep.dec
def uU {i j:Int}:(i==j)=(Int.instDecidableEq i j).decide:=by
 by_cases h:i=j
 .subst h;simp
 .rw[beq_eq_false_iff_ne.mpr h];exact (aU h).symm
instance:Rep Int where
 dec:=Int.instDecidableEq
 depth:=0
 has:=λ_ _ i v=>v=.int i
 mono:=λ_ h=>h
 inj:=λ_ h1 h2=>V.int.inj (h1.symm.trans h2)
 rc:=λ_ _ h1 h2 r1 r2=>by
  subst h1 h2;obtain ⟨t,rfl⟩:=r1;obtain ⟨t',rfl⟩:=r2;rw[<-uU];exact RcAt.int_int _ _ _ _
 rn:=λ_ _ h1 h2 r1 r2=>by
  subst h1 h2;obtain ⟨t,rfl⟩:=r1;obtain ⟨t',rfl⟩:=r2;rw[<-uU];exact RcNeAt.int_int _ _ _ _
 eq:=λ_ _ h1 h2 r1 r2=>by
  subst h1 h2;obtain ⟨t,rfl⟩:=r1;obtain ⟨t',rfl⟩:=r2;rw[<-uU];exact EqAt.int_int _ _ _ _
def pImp {α β:Type}{R S:α->β->Prop}(h:∀ a b,R a b->S a b){as:List α}{bs:List β}(p:Paired R as bs):Paired S as bs:=by
 induction p with
 | nil=>exact .nil
 | cons a _ ih=>exact .cons (h _ _ a) ih
def pApp {α β:Type}{R:α->β->Prop}{as cs:List α}{bs ds:List β}(p:Paired R as bs)(q:Paired R cs ds):Paired R (as++cs) (bs++ds):=by
 induction p with
 | nil=>exact q
 | cons a _ ih=>exact .cons a ih
def aA {α:Type}[Rep α](K:Frag)(H:Hp):List α->List V->Prop:=Paired (Rep.has K H)
section
variable {α:Type}[Rep α]{K:Frag}{H H':Hp}
def aA.mono (e:Ext H H'){as:List α}{xs:List V}(h:aA K H as xs):aA K H' as xs:=pImp (λ_ _=>Rep.mono e) h
def aA.length {as:List α}{xs:List V}(h:aA K H as xs):as.length=xs.length:=Paired.length h
def aA.get:∀{as:List α} {xs:List V} {i:Nat} {x:V},aA K H as xs->xs[i]?=some x->∃ a,as[i]?=some a/\Rep.has K H a x
 | _,_,_,_,.nil,e=>by simp at e
 | _,_,0,_,.cons h _,e=>by simp at e;subst e;exact #[_,rfl,h]
 | _,_,i+1,x,.cons _ t,e=>by
  obtain ⟨a,h1,h2⟩:=aA.get (i:=i) (x:=x) t (by simpa using e);exact #[a,by simpa using h1,h2]
def aA.append {as bs:List α}{xs ys:List V}(h:aA K H as xs)(g:aA K H bs ys):aA K H (as++bs) (xs++ys):=pApp h g
def aA.one {a:α}{x:V}(h:Rep.has K H a x):aA K H [a] [x]:=.cons h .nil
def aA.ints:∀{ns:List Int},aA K H ns (ns.map V.int)
 | []=>.nil
 | _::_=>.cons rfl aA.ints
def aA.toInts {ns:List Int}{xs:List V}(h:aA K H ns xs):xs=ns.map V.int:=by
 unfold aA at h
 induction h with
 | nil=>rfl
 | cons h _ ih=>
  have e:_=V.int _:=h;rw[e,ih];rfl
def aA.inj {s:Shared}(I:Inv X Px U H s){as bs:List α}{xs:List V}(h:aA X.K H as xs)(g:aA X.K H bs xs):as=bs:=by
 unfold aA at h g
 induction h generalizing bs with
 | nil=>cases g;rfl
 | cons h _ ih=>
  cases g with
  | cons h' t'=>rw[Rep.inj I h h',ih t']
end
def uV {α:Type}[DecidableEq α]:∀(as bs:List α),as.length=bs.length->((List.range as.length).all λj=>decide (as[j]?=bs[j]?))=decide (as=bs):=by
 intro as bs hl;by_cases h:as=bs
 .subst h;simp
 .rw[aU h,List.all_eq_false]
  false_or_by_contra
  rename_i z;apply h;apply gE;intro i;by_cases hi:i<as.length
  .false_or_by_contra
   rename_i q;exact z #[i,eU.mpr hi,by simpa using q]
  .rw[eG (by lia),eG (by lia)]
section
variable {α:Type}[r:Rep α]
def iK {A:Around}:A.in1.units<=A.units+1:=by
 first
  | exact aj _
  | (unfold Around.in1;simp)
def oY {A:Around}{as bs:List α}{xs ys:List V}{us vs:List Value}(I:Inv X Px U H s)(hu:A.units+Rep.depth α<cLine)
  (h1:aA X.K H as xs) (h2:aA X.K H bs ys) (r1:Vals xs us) (r2:Vals ys vs):∀ j (q1:j<us.toArray.size) (q2:j<vs.toArray.size),EqAt A s us.toArray[j] vs.toArray[j] (decide (as[j]?=bs[j]?)):=by
 intro j q1 q2;have l1:=r1.length;have l2:=r2.length;have m1:=h1.length;have m2:=h2.length;have j1:j<us.length:=by simpa using q1
 have j2:j<vs.length:=by simpa using q2
 obtain ⟨a,ea,ha⟩:=h1.get (i:=j) (aC (by lia));obtain ⟨b,eb,hb⟩:=h2.get (i:=j) (aC (by lia));obtain ⟨u,eu,ru⟩:=r1.get (i:=j) (aC (by lia));obtain ⟨v,ev,rv⟩:=r2.get (i:=j) (aC (by lia));have gu:us.toArray[j]=u:=by
  have:us[j]?=some us[j]:=aC j1;rw[eu]at this;simpa using (aM this).symm
 have gv:vs.toArray[j]=v:=by
  have:vs[j]?=some vs[j]:=aC j2;rw[ev]at this;simpa using (aM this).symm
 rw[gu,gv,ea,eb];have e:decide (some a=some b)=(Rep.dec a b).decide:=by
  by_cases z:a=b
  .subst z;simp
  .rw[aU (λq=>z (aM q))];exact (aU z).symm
 rw[e];exact Rep.eq I hu ha hb ru rv
end
inductive hasL {α:Type}[Rep α](K:Frag)(H:Hp)(as:List α)(v:V):Prop
 | c:∀ a xs,v=.ref a->SqL K H a xs->aA K H as xs->hasL K H as v
section
variable {α:Type}[r:Rep α]{X:Cx}{Px:List (Addr×Obj)}{U:St}{H:Hp}{s:Shared}{A:Around}{as bs:List α}{x y:V}{u v:Value}
def G1 (I:Inv X Px U H s)(h1:hasL X.K H as x)(h2:hasL X.K H bs x):as=bs:=by
 obtain ⟨a,xs,rfl,q1,h1⟩:=h1;obtain ⟨b,ys,e,q2,h2⟩:=h2;cases e
 rw[I.list_inj q2 q1]at h2;exact h1.inj I h2
def Be (I:Inv X Px U H s)(hu:A.units+(Rep.depth α+1)<cLine)(h1:hasL X.K H as x)(h2:hasL X.K H bs y)(r1:RelV x u)(r2:RelV y v):RcAt A s u v (decide (as=bs)):=by
 obtain ⟨a,xs,rfl,q1,h1⟩:=h1;obtain ⟨b,ys,rfl,q2,h2⟩:=h2;cases r1
 cases r2
 obtain ⟨us,ru,pu,_⟩:=I.list q1;obtain ⟨vs,rv,pv,_⟩:=I.list q2;have l1:=ru.length;have l2:=rv.length;have m1:=h1.length;have m2:=h2.length;have hin:A.in1.units+Rep.depth α<cLine:=eF (iq iK _) (by lia);by_cases hl:as.length=bs.length
 .have e:=uV as bs hl;rw[<-e];have z:as.length=us.toArray.size:=by simp;lia
  rw[z];exact RcAt.lists pu.isList pv.isList (by simp;lia) (by lia) (oY I hin h1 h2 ru rv)
 .rw[aU (λz=>hl (by rw[z]))];exact RcAt.lists_lengths pu.isList pv.isList (by simp;lia) (by lia)
def G2 (I:Inv X Px U H s)(hu:A.units+(Rep.depth α+1)<cLine)(h1:hasL X.K H as x)(h2:hasL X.K H bs y)(r1:RelV x u)(r2:RelV y v):RcNeAt A s u v (!decide (as=bs)):=by
 obtain ⟨a,xs,rfl,q1,h1⟩:=h1;obtain ⟨b,ys,rfl,q2,h2⟩:=h2;cases r1
 cases r2
 obtain ⟨us,ru,pu,_⟩:=I.list q1;obtain ⟨vs,rv,pv,_⟩:=I.list q2;have l1:=ru.length;have l2:=rv.length;have m1:=h1.length;have m2:=h2.length;have hin:A.in1.units+Rep.depth α<cLine:=eF (iq iK _) (by lia);by_cases hl:as.length=bs.length
 .have e:=uV as bs hl;rw[<-e];have z:as.length=us.toArray.size:=by simp;lia
  rw[z];exact RcNeAt.lists pu.isList pv.isList (by simp;lia) (by lia) (oY I hin h1 h2 ru rv)
 .rw[aU (λz=>hl (by rw[z])),Bool.not_false];exact RcNeAt.lists_lengths pu.isList pv.isList (by simp;lia) (by lia)
def G3 (I:Inv X Px U H s)(hu:A.units+(Rep.depth α+1)<cLine)(h1:hasL X.K H as x)(h2:hasL X.K H bs y)(r1:RelV x u)(r2:RelV y v):EqAt A s u v (decide (as=bs)):=by
 have rc:=Be (A:=A) I hu h1 h2 r1 r2;obtain ⟨a,xs,rfl,q1,h1⟩:=h1;obtain ⟨b,ys,rfl,q2,h2⟩:=h2;cases r1
 cases r2
 by_cases hab:a=b
 .subst hab;rw[I.list_inj q2 q1]at h2;rw[aO (h1.inj I h2)];exact EqAt.same _
 .exact EqAt.of_refs hab rc
end
instance {α:Type} [Rep α]:Rep (List α) where
 dec:=inferInstance
 depth:=Rep.depth α+1
 has:=hasL
 mono:=λe ⟨a,xs,h1,h2,h3⟩=>#[a,xs,h1,h2.ext e,h3.mono e]
 inj:=λI h1 h2=>G1 I h1 h2
 rc:=λI hu h1 h2 r1 r2=>Be I hu h1 h2 r1 r2
 rn:=λI hu h1 h2 r1 r2=>G2 I hu h1 h2 r1 r2
 eq:=λI hu h1 h2 r1 r2=>G3 I hu h1 h2 r1 r2
inductive hasP {α β:Type}[Rep α][Rep β](K:Frag)(H:Hp)(p:α×β)(v:V):Prop
 | c:∀ a x y,v=.ref a->H a=some (.tup [x,y])->Rep.has K H p.1 x->Rep.has K H p.2 y->hasP K H p v
section
variable {α β:Type}[ra:Rep α][rb:Rep β]{X:Cx}{Px:List (Addr×Obj)}{U:St}{H:Hp}{s:Shared}{A:Around}{p q:α×β}{x y:V}{u v:Value}
def Bf (I:Inv X Px U H s)(h1:hasP X.K H p x)(h2:hasP X.K H q x):p=q:=by
 obtain ⟨a,x1,x2,rfl,q1,e1,e2⟩:=h1;obtain ⟨b,y1,y2,e,q2,f1,f2⟩:=h2;cases e
 have z:=I.tuple_inj (SqT.of q2) (SqT.of q1);cases z
 have g1:=Rep.inj I e1 f1;have g2:=Rep.inj I e2 f2;obtain ⟨p1,p2⟩:=p;obtain ⟨s1,s2⟩:=q;cases g1
 cases g2
 rfl
def Bg (I:Inv X Px U H s)(hu:A.units+(Rep.depth α+Rep.depth β+1)<cLine)(h1:hasP X.K H p x)(h2:hasP X.K H q y)(r1:RelV x u)(r2:RelV y v):RcAt A s u v (decide (p=q)):=by
 obtain ⟨a,x1,x2,rfl,q1,e1,e2⟩:=h1;obtain ⟨b,y1,y2,rfl,q2,f1,f2⟩:=h2;cases r1
 cases r2
 obtain ⟨us,ru,pu,_⟩:=I.tuple (SqT.of q1);obtain ⟨vs,rv,pv,_⟩:=I.tuple (SqT.of q2);obtain ⟨u1,u2,rfl,ru1,ru2⟩:=fX ru;obtain ⟨v1,v2,rfl,rv1,rv2⟩:=fX rv;have hin:∀ n,n<=Rep.depth α+Rep.depth β->A.in1.units+n < cLine:=λn hn=>eF (iq iK _) (by lia);have c1:=Rep.eq (A:=A.in1) I (hin _ (by lia)) e1 f1 ru1 rv1;have c2:=Rep.eq (A:=A.in1) I (hin _ (by lia)) e2 f2 ru2 rv2;have:=RcAt.tuples (A:=A) (s:=s) (l:=a) (b:=b) (items:=(List.toArray [u1,u2])) (items2:=(List.toArray [v1,v2])) (e:=λj=>if j=0 then (Rep.dec p.1 q.1).decide else (Rep.dec p.2 q.2).decide) pu pv (by lia) (by
  intro j h1 h2;have h1':j<2:=h1;have z:j=0\/j=1:=by lia
  rcases z with rfl|rfl
  .exact c1
  .exact c2)
 have e:((List.range (min ((List.toArray [u1,u2]):Array Value).size ((List.toArray [v1,v2]):Array Value).size)).all (λj=>if j=0 then (Rep.dec p.1 q.1).decide else (Rep.dec p.2 q.2).decide)&&((List.toArray [u1,u2]):Array Value).size==((List.toArray [v1,v2]):Array Value).size)=decide (p=q):=by
  obtain ⟨p1,p2⟩:=p;obtain ⟨s1,s2⟩:=q;show (((List.range 2).all λj=>if j=0 then (Rep.dec p1 s1).decide else (Rep.dec p2 s2).decide)&&true)=_
  rw[show List.range 2=[0,1] from rfl];simp only[lR,List.all_nil,nW,if_true];rw[ak (by decide)];by_cases z1:p1=s1
  .by_cases z2:p2=s2
   .subst z1 z2;simp
   .subst z1;simp[z2]
  .simp[z1]
 rw[e]at this;exact this
def G4 (I:Inv X Px U H s)(hu:A.units+(Rep.depth α+Rep.depth β+1)<cLine)(h1:hasP X.K H p x)(h2:hasP X.K H q y)(r1:RelV x u)(r2:RelV y v):RcNeAt A s u v (!decide (p=q)):=by
 obtain ⟨a,x1,x2,rfl,q1,e1,e2⟩:=h1;obtain ⟨b,y1,y2,rfl,q2,f1,f2⟩:=h2;cases r1
 cases r2
 obtain ⟨us,ru,pu,_⟩:=I.tuple (SqT.of q1);obtain ⟨vs,rv,pv,_⟩:=I.tuple (SqT.of q2);obtain ⟨u1,u2,rfl,ru1,ru2⟩:=fX ru;obtain ⟨v1,v2,rfl,rv1,rv2⟩:=fX rv;have hin:∀ n,n<=Rep.depth α+Rep.depth β->A.in1.units+n < cLine:=λn hn=>eF (iq iK _) (by lia);have c1:=Rep.eq (A:=A.in1) I (hin _ (by lia)) e1 f1 ru1 rv1;have c2:=Rep.eq (A:=A.in1) I (hin _ (by lia)) e2 f2 ru2 rv2;have:=RcNeAt.tuples (A:=A) (s:=s) (l:=a) (b:=b) (items:=(List.toArray [u1,u2])) (items2:=(List.toArray [v1,v2])) (e:=λj=>if j=0 then (Rep.dec p.1 q.1).decide else (Rep.dec p.2 q.2).decide) pu pv (by lia) (by
  intro j h1 h2;have h1':j<2:=h1;have z:j=0\/j=1:=by lia
  rcases z with rfl|rfl
  .exact c1
  .exact c2)
 have e:((List.range (min ((List.toArray [u1,u2]):Array Value).size ((List.toArray [v1,v2]):Array Value).size)).all (λj=>if j=0 then (Rep.dec p.1 q.1).decide else (Rep.dec p.2 q.2).decide)&&((List.toArray [u1,u2]):Array Value).size==((List.toArray [v1,v2]):Array Value).size)=decide (p=q):=by
  obtain ⟨p1,p2⟩:=p;obtain ⟨s1,s2⟩:=q;show (((List.range 2).all λj=>if j=0 then (Rep.dec p1 s1).decide else (Rep.dec p2 s2).decide)&&true)=_
  rw[show List.range 2=[0,1] from rfl];simp only[lR,List.all_nil,nW,if_true];rw[ak (by decide)];by_cases z1:p1=s1
  .by_cases z2:p2=s2
   .subst z1 z2;simp
   .subst z1;simp[z2]
  .simp[z1]
 rw[e]at this;exact this
def G5 (I:Inv X Px U H s)(hu:A.units+(Rep.depth α+Rep.depth β+1)<cLine)(h1:hasP X.K H p x)(h2:hasP X.K H q y)(r1:RelV x u)(r2:RelV y v):EqAt A s u v (decide (p=q)):=by
 have rc:=Bg (A:=A) I hu h1 h2 r1 r2;have h1':=id h1;have h2':=id h2;obtain ⟨a,x1,x2,rfl,q1,e1,e2⟩:=h1;obtain ⟨b,y1,y2,rfl,q2,f1,f2⟩:=h2;cases r1
 cases r2
 by_cases hab:a=b
 .subst hab;rw[aO (Bf I h1' h2')];exact EqAt.same _
 .exact EqAt.of_refs hab rc
end
instance {α β:Type} [Rep α] [Rep β]:Rep (α×β) where
 dec:=inferInstance
 depth:=Rep.depth α+Rep.depth β+1
 has:=hasP
 mono:=λe ⟨a,x,y,h1,h2,h3,h4⟩=>#[a,x,y,h1,e _ _ h2 nofun,Rep.mono e h3,Rep.mono e h4]
 inj:=λI h1 h2=>Bf I h1 h2
 rc:=λI hu h1 h2 r1 r2=>Bg I hu h1 h2 r1 r2
 rn:=λI hu h1 h2 r1 r2=>G4 I hu h1 h2 r1 r2
 eq:=λI hu h1 h2 r1 r2=>G5 I hu h1 h2 r1 r2
def huD {k:Nat}{α:Type}[Rep α](hr:Room k A)(h:Rep.depth α<=64:=by decide):A.units+Rep.depth α<cLine:=eF (ug h _) hr.units
inductive rNeD (α:Type)[Rep α](K:Frag)(x:V)(y:V)(H:Hp)(Q:VK):Prop
 | c:∀(a b:α),Rep.has K H a x->Rep.has K H b y->Q (.bl (!decide (a=b))) H->rNeD α K x y H Q
section
variable {X:Cx}
def iL (α:Type)[Rep α](hu:X.A.units+Rep.depth α<cLine):OpR X (compareOp .NotEq) (rNeD α X.K):=by
 intro Px s U H x y v u Q I rx ry h;obtain ⟨a,b,ha,hb,q⟩:=h;refine Rep.rn I hu ha hb rx ry X.prog X.w X.xe _ #[.bl _,H,I,rfl,?_];have e:(Rep.dec a b).decide=decide (a=b):=rfl;rw[e];exact q
end
end L2
namespace L2
open PySem PySem.Spec PyProof.Rows
section
variable {X:Cx}{Px:List (Addr×Obj)}{U:St}{H:Hp}{s:Shared}{h':Heap}
def Inv.turnedNew {t':Nat}{fp:List Addr}{p:Addr}(I:Inv X Px U H s)(k:∀ b ob,b∉fp->s.heap.get? b=some ob->h'.get? b=some ob)(hf:∀ b∈fp,FpOk X Px H b)
  (hp:s.heap.objs.size<=p) (new:bN X.prog X.w (upd H p o) h' p o):Inv X Px U (upd H p o) { s with heap:=h',toks:=t' }:=by
 have hn:H p=none:=I.hok.fresh hp;have nfp:∀ b u,H b=some u->b∉fp:=λb u e z=>by rw[(hf b z).1]at e;cases e
 have nep:∀ b ob,s.heap.get? b=some ob->b≠p:=λb ob e=>bL (cA (aT e) hp);refine I.step (g':=s.gens) (d':=s.drawn) (ch:=fp) (λb hb=>?_) (λb ob _ _ hc e _=>k b ob hc e) (λb ob _ _ hc e _=>#[ob.slots,k b ob hc e]) (λb ob _ e n=>by rw[ah (nep b ob e)];exact n)
  (λb ob hc e=>#[ob,k b ob hc e]) (λb xs e=>by rw[ah (au e hn)];exact e) (λb ob u e=>by rw[ah (au e hn)];exact e) (λb ps e=>#[(List.toArray []),by rw[ah (au e hn),e];simp]) (λm hm=>?_) (λb u e=>?_) I.bare
 .obtain ⟨_,h2,_,h4,h5,h6⟩:=hf b hb;exact #[h4,h2,h5,h6]
 .obtain ⟨ob,es,ep,ho,r⟩:=hm;exact #[ob,es,ep,k _ ob (λz=>(hf _ z).2.1 rfl) ho,r]
 .by_cases hb:b=p
  .subst hb;rw[af]at e;cases e;exact new
  .rw[ah hb]at e;refine (I.hok b u e).stay (λc v hc q=>k c v ?_ q) (λc q=>by rw[ah (au q hn)];exact q) λc xs q=>by rw[ah (au q hn)];exact q
   rcases hc with z|z
   .rw[z];exact nfp b u e
   .exact nfp c _ z
def Bh {h:Heap}{p:Addr}{x y:V}{u v:Value}(rx:RelV x u)(ry:RelV y v)(e:h.get? p=some { cls:=.type "tuple",data:=.seq (List.toArray [u,v]) }):bN P w H h p (.tup [x,y]):=
 #[by show 2<=sizeLine;decide,[u,v],.cons rx (.cons ry .nil),_,e,rfl,0,rfl]
end
def Ite (K:Frag)(a:Addr):It:=
 #[λi H=>∃ xs x,SqL K H a xs/\xs[i]?=some x,λi H x H'=>∃ p y,x=.ref p/\H p=none/\(∀ xs,SqL K H a xs->xs[i]?=some y)/\H'=upd H p (.tup [.int i,y]),λi H=>∃ xs,SqL K H a xs/\xs.length<=i]
def G6 {K:Frag}{es:List Expr}{k0}{pos:Pos}(a it e:Addr)(hne:e≠it):Turn P w K (.Tuple es k0 pos) (Ite K a) [e,it] e (λi h=>(∃ old,IsEnum h e it i old)/\h.IsListIter it a i) where
 mem:=by simp
 obj:=λi h st b hb=>by
  obtain ⟨⟨old,he⟩,o,ho,c,d⟩:=st;rcases aW.mp hb with z|z
  .subst z;exact #[_,he,λv z=>by cases z]
  .have z:=bP.mp z;subst z;exact #[o,ho,λv z=>by rw[d]at z;cases z]
 keep:=λi h h' st k=>by
  obtain ⟨⟨old,he⟩,hi⟩:=st;exact #[#[old,k e (by simp) _ he],hi.at λo q=>k it (by simp) o q]
 item:=by
  intro X hP hw hK hc i Px s U H E I hf st hg;subst hP hw hK;obtain ⟨⟨old,he⟩,hi⟩:=st;obtain ⟨xs,x,hq,hx⟩:=hg;obtain ⟨its,rv,p,hz⟩:=I.list hq;obtain ⟨u,hu,ru⟩:=rv.get hx;refine wpAny_pyNext_enum_item he hi p.isList (x:=u) (by simpa using hu) hne λh1 he1 hi1 ht1 _ k1=>?_;refine #[_,rfl,wpAny_letOwnedTupleGo_enum (s:={ s with heap:=h1,toks:=s.toks+1 }) he1 λh2 he2 sb=>?_];have np:s.heap.objs.size≠e:=ig (aT he);have ht2:h2.get? s.heap.objs.size=some { cls:=.type "tuple",data:=.seq (List.toArray [.int i s.toks,u]) }:=(sb.2 _ np).trans ht1;have I2:Inv X Px U (upd H s.heap.objs.size (.tup [.int i,x])) { s with heap:=h2,toks:=s.toks+1 }:=
   I.turnedNew (fp:=[e,it]) (λb ob hb q=>(sb.2 b (λz=>hb (by simp[z]))).trans (k1 b ob (λz=>hb (by simp[z])) (λz=>hb (by simp[z])) q)) hf (aj _) (Bh #[_,rfl] ru ht2)
  refine #[.ref s.heap.objs.size,_,I2,rfl,#[_,x,rfl,I.hok.fresh (aj _),λys hy=>by rw[I.list_inj hy hq];exact hx,rfl],#[#[u,?_],?_],λb hb=>?_]
  .have z:IsEnum h2 e it ((i:Int)+1) u:=he2;exact z
  .exact hi1.at λo q=>(sb.2 it (bf hne)).trans q
  .have z:=(hf b hb).1;rw[ah ?_]
   .exact z
   .rcases aW.mp hb with q|q
    .rw[q];exact bf np
    .rw[bP.mp q];obtain ⟨o,ho,_⟩:=hi;exact bL (aT ho)
 done:=by
  intro X hP hw hK hc i Px s U H E I hf st hg;subst hP hw hK;obtain ⟨⟨old,he⟩,hi⟩:=st;obtain ⟨xs,hq,hx⟩:=hg;obtain ⟨its,rv,p,hz⟩:=I.list hq;obtain ⟨f0,f1,f2,f3,f4,f5⟩:=hf it (by simp);have hl:=rv.length;exact wpAny_pyNext_enum_end (I.ok.hd hc) he hi p.isList (by simp;lia) λh' eb=>#[rfl,I.turned (t':=s.toks) (λb o hb q=>eb b o hb q) f0 f1 f3 f4 f5]
 self:=λ_ _ _ _ _ st h=>by
  obtain ⟨⟨old,he⟩,_⟩:=st;exact wpAny_pyIter_enum he h
inductive Bi (K:Frag)(R:It->Hp->Prop)(vs:List V)(H1:Hp):Prop
 | c:∀ a,vs=[.ref a]->(∃ xs,SqL K H1 a xs)->R (Ite K a) H1->Bi K R vs H1
def G7 (K:Frag)(ta:TA):TI:=λU H R=>ta U H λvs H1=>Bi K R vs H1
section
variable {X:Cx}
def uW {es:List Expr}{k0}{tp:Pos}{a:Expr}{p pos:Pos}(hg:Gl X "enumerate")(hm:X.mg "enumerate" = none)(ha:PA X [a] ta)(hs:starEach [a] X.env=[(false,eval a X.env)]:=by rfl):PI X (.Tuple es k0 tp) (.Call (.Name "enumerate" p) [a] [] pos) (G7 X.K ta):=by
 intro Px s U H R I h;refine Call_ (fV I hg hm boot_enumerate (PyProof.Rows.callWith_type1 (thn (ha pos Px s U H _ I h) λus s1 zq0=>?_) hs rfl));obtain ⟨vs,H1,I1,r1,q1⟩:=zq0;obtain ⟨l,e,⟨xs,hq⟩,q⟩:=q1;subst e;cases r1 with
 | cons r rr=>
  cases rr
  cases r
  obtain ⟨its,rv,pl,hz⟩:=I1.list hq;refine call_enumerate_list pl.isList λh' he hi _ hk=>?_;have I2:Inv X Px U H1 { s1 with heap:=h' }:=I1.kept (t':=s1.toks) hk;refine wpAny_pyIter_enum (s:={ s1 with heap:=h' }) he #[_,[s1.heap.objs.size+1,s1.heap.objs.size],_,_,H1,rfl,I2,G6 l s1.heap.objs.size (s1.heap.objs.size+1) (Nat.succ_ne_self _),#[#[_,he],hi],λb hb=>?_,q];have hb':s1.heap.objs.size<=b:=by
   rcases aW.mp hb with z|z
   .rw[z];exact ij _
   .rw[bP.mp z];exact aj _
  exact I1.fpOk hb' (I1.hok.fresh hb')
end
def uX {K:Frag}{a:Addr}{g:TG}{tb:TS}{D:Ends}{U:St}{H:Hp}(Pv:Nat->St->Hp->Prop)(h0:Pv 0 U H)(hl:∀ i U H,i<=xs.length->Pv i U H->SqL K H a xs)
  (hs:∀ i x U H p,xs[i]?=some x->Pv i U H->H p=none->g (.ref p) U (upd H p (.tup [.int i,x])) λU2 H2=>tb { D with nx:=Pv (i+1),ct:=Pv (i+1),bk:=D.nx } U2 H2) (hd:∀ U H,Pv xs.length U H->D.nx U H) :
  ∃ W:Nat->Nat->St->Hp->Prop,(∃ m,W 0 m U H)/\∀ i m U H,W i m U H->((Ite K a).stop i H/\D.nx U H)\/((Ite K a).go i H/\∃ N:St->Hp->Prop,(∀ U' H',N U' H'->∃ m',m'<m/\W (i+1) m' U' H')/\∀ x H',(Ite K a).yld i H x H'->g x U H' λU2 H2=>tb { D with nx:=N,ct:=N,bk:=D.nx } U2 H2):=by
 refine #[λi m U H=>i+m=xs.length/\Pv i U H,#[xs.length,by lia,h0],λi m U H zq0=>?_];obtain ⟨e,pv⟩:=zq0;have hS:=hl i U H (by lia) pv;by_cases hi:i<xs.length
 .refine .inr #[#[xs,xs[i],hS,aC hi],Pv (i+1),λU' H' q=>#[m-1,by lia,by lia,q],λx H' y=>?_];obtain ⟨p,z,rfl,hp,hz,rfl⟩:=y;exact hs i z U H p (hz xs hS) pv hp
 .have:i=xs.length:=by lia
  subst this;exact .inl #[#[xs,hS,aj _],hd U H pv]
def Itz (K:Frag)(a b:Addr):It:=
 #[λi H=>∃ xs ys x y,SqL K H a xs/\SqL K H b ys/\xs[i]?=some x/\ys[i]?=some y,λi H x H'=>∃ p y z,x=.ref p/\H p=none/\(∀ xs,SqL K H a xs->xs[i]?=some y)/\(∀ xs,SqL K H b xs->xs[i]?=some z)/\H'=upd H p (.tup [y,z]),λi H=>∃ xs ys,SqL K H a xs/\SqL K H b ys/\(xs.length<=i\/ys.length<=i)]
def G8 {K:Frag}{es:List Expr}{k0}{pos:Pos}{a b z TI TO i1 i2:Addr}(D:ZipApart z TI TO i1 i2 a b):Turn P w K (.Tuple es k0 pos) (Itz K a b) [z,TI,TO,i1,i2] z
  (λi h=>IsZip h z TI TO .none/\IsPair h TI (.ref i1) (.ref i2)/\(∃ u v,IsPair h TO u v)/\h.IsListIter i1 a i/\h.IsListIter i2 b i) where
 mem:=by simp
 obj:=λi h st c hc=>by
  obtain ⟨hz,hTI,⟨u,v,hTO⟩,⟨o1,e1,_,d1⟩,⟨o2,e2,_,d2⟩⟩:=st;simp only[aW,bR,or_false]at hc;rcases hc with rfl|rfl|rfl|rfl|rfl
  .exact #[_,hz,λv q=>by cases q]
  .exact #[_,hTI,λv q=>by cases q]
  .exact #[_,hTO,λv q=>by cases q]
  .exact #[o1,e1,λv q=>by rw[d1]at q;cases q]
  .exact #[o2,e2,λv q=>by rw[d2]at q;cases q]
 keep:=λi h h' st k=>by
  obtain ⟨hz,hTI,⟨u,v,hTO⟩,h1,h2⟩:=st;exact #[k z (by simp) _ hz,k TI (by simp) _ hTI,#[u,v,k TO (by simp) _ hTO],h1.at λo q=>k i1 (by simp) o q,h2.at λo q=>k i2 (by simp) o q]
 item:=by
  intro X hP hw hK hc i Px s U H E I hf st hg;subst hP hw hK;obtain ⟨hz,hTI,⟨u0,v0,hTO⟩,h1,h2⟩:=st;obtain ⟨xs,ys,x,y,hqa,hqb,hx,hy⟩:=hg;obtain ⟨its,rv,p,_⟩:=I.list hqa;obtain ⟨jts,rw',p',_⟩:=I.list hqb;obtain ⟨u,hu,ru⟩:=rv.get hx;obtain ⟨v,hv,rv'⟩:=rw'.get hy;refine wpAny_pyNext_zip_item D hz hTI hTO h1 h2 p.isList p'.isList (x:=u) (y:=v) (by simpa using hu) (by simpa using hv) λh1' hz1 hTO1 hi1 hi2 ht1 _ k1=>?_;refine #[_,rfl,wpAny_letOwnedTupleGo_zip (s:={ s with heap:=h1' }) hz1 λh2' hz2 sb=>?_];have np:s.heap.objs.size≠z:=ig (aT hz);have ht2:h2'.get? s.heap.objs.size=some { cls:=.type "tuple",data:=.seq (List.toArray [u,v]) }:=(sb.2 _ np).trans ht1;have I2:Inv X Px U (upd H s.heap.objs.size (.tup [x,y])) { s with heap:=h2',toks:=s.toks }:=
   I.turnedNew (fp:=[z,TI,TO,i1,i2]) (λc ob hb q=>(sb.2 c (λr=>hb (by simp[r]))).trans (k1 c ob (λr=>hb (by simp[r])) (λr=>hb (by simp[r])) (λr=>hb (by simp[r])) (λr=>hb (by simp[r])) q)) hf (aj _) (Bh ru rv' ht2)
  refine #[.ref s.heap.objs.size,_,I2,rfl,#[_,x,y,rfl,I.hok.fresh (aj _),λys hy'=>by rw[I.list_inj hy' hqa];exact hx,λys hy'=>by rw[I.list_inj hy' hqb];exact hy,rfl],#[hz2,(sb.2 _ D.TIz).trans (k1 TI _ D.TIz D.TITO D.TIi1 D.TIi2 hTI),#[_,_,(sb.2 _ D.TOz).trans hTO1],hi1.at λo q=>(sb.2 i1 D.i1z).trans q,hi2.at λo q=>(sb.2 i2 D.i2z).trans q],λc hb=>?_];have zf:=(hf c hb).1;have lt:c<s.heap.objs.size:=by
   simp only[aW,bR,or_false]at hb;obtain ⟨o1,e1,_⟩:=h1;obtain ⟨o2,e2,_⟩:=h2;rcases hb with rfl|rfl|rfl|rfl|rfl
   .exact aT hz
   .exact aT hTI
   .exact aT hTO
   .exact aT e1
   .exact aT e2
  rw[ah (bL lt)];exact zf
 done:=by
  intro X hP hw hK hc i Px s U H E I hf st hg;subst hP hw hK;obtain ⟨hz,hTI,⟨u0,v0,hTO⟩,h1,h2⟩:=st;obtain ⟨xs,ys,hqa,hqb,hend⟩:=hg;obtain ⟨its,rv,p,_⟩:=I.list hqa;obtain ⟨jts,rw',p',_⟩:=I.list hqb;have l1:=rv.length;have l2:=rw'.length;refine wpAny_pyNext_zip_end (I.ok.hd hc) D hz hTI hTO h1 h2 p.isList p'.isList (by
   rcases hend with q|q
   .left;simp;lia
   .right;simp;lia) λh' kk=>#[rfl,?_]
  refine I.step (g':=s.gens) (d':=s.drawn) (t':=s.toks) (ch:=[z,TI,TO,i1,i2]) (λc hb=>?_) (λc ob _ _ hn q _=>kk c ob (λr=>hn (by simp[r])) (λr=>hn (by simp[r])) (λr=>hn (by simp[r])) (λr=>hn (by simp[r])) q)
   (λc ob _ _ hn q _=>#[ob.slots,kk c ob (λr=>hn (by simp[r])) (λr=>hn (by simp[r])) (λr=>hn (by simp[r])) (λr=>hn (by simp[r])) q]) (λ_ _ _ _ n=>n)
   (λc ob hn q=>#[ob,kk c ob (λr=>hn (by simp[r])) (λr=>hn (by simp[r])) (λr=>hn (by simp[r])) (λr=>hn (by simp[r])) q]) (λ_ _ q=>q) (λ_ _ _ q=>q) (λc ps q=>#[(List.toArray []),by rw[q];simp]) (λm hm=>?_) (λc u e=>?_) I.bare
  .obtain ⟨_,q2,_,q4,q5,q6⟩:=hf c hb;exact #[q4,q2,q5,q6]
  .obtain ⟨ob,es,ep,ho,r⟩:=hm;have nL:∀ c∈[z,TI,TO,i1,i2],X.env.locals≠c:=λc hc=>bf (hf c hc).2.1;exact #[ob,es,ep,kk _ ob (nL z (by simp)) (nL TO (by simp)) (nL i1 (by simp)) (nL i2 (by simp)) ho,r]
  .have nf:∀ c' u,H c'=some u->∀ q∈[z,TI,TO,i1,i2],c'≠q:=λc' u e q hq r=>by rw[r,(hf q hq).1]at e;cases e
   refine (I.hok c u e).stay (λc' v hc' q=>?_) (λ_ q=>q) λ_ _ q=>q;have go:∀ u',H c'=some u'->h'.get? c'=some v:=λu' e'=>kk c' v (nf c' _ e' z (by simp)) (nf c' _ e' TO (by simp)) (nf c' _ e' i1 (by simp)) (nf c' _ e' i2 (by simp)) q;rcases hc' with r|r
   .exact go u (by rw[r];exact e)
   .exact go _ r
 self:=λ_ _ _ _ _ st h=>wpAny_pyIter_zip st.1 h
def G9 {l l' n:Nat}(hl:l<n)(hl':l'<n):ZipApart (n+4) (n+2) (n+3) n (n+1) l l':=by
 constructor<;>(intro z;have z':(_:Nat)=_:=z;lia)
def Hc {n c:Nat}(h:c∈[n+4,n+2,n+3,n,n+1]):n<=c:=by
 simp only[aW,bR,or_false]at h;lia
inductive Bj (K:Frag)(R:It->Hp->Prop)(vs:List V)(H1:Hp):Prop
 | c:∀ a b,vs=[.ref a,.ref b]->(∃ xs,SqL K H1 a xs)->(∃ xs,SqL K H1 b xs)->R (Itz K a b) H1->Bj K R vs H1
def iZip (K:Frag)(ta:TA):TI:=λU H R=>ta U H λvs H1=>Bj K R vs H1
section
variable {X:Cx}
def oZ {es:List Expr}{k0}{tp:Pos}{a b:Expr}{p pos:Pos}(hg:Gl X "zip")(hm:X.mg "zip" = none)(ha:PA X [a,b] ta)(hs:starEach [a,b] X.env=[(false,eval a X.env),(false,eval b X.env)]:=by rfl)(hs2:starEach [b] X.env=[(false,eval b X.env)]:=by rfl):PI X (.Tuple es k0 tp) (.Call (.Name "zip" p) [a,b] [] pos) (iZip X.K ta):=by
 intro Px s U H R I h;refine Call_ (fV I hg hm boot_zip (PyProof.Rows.callWith_type1 (thn (ha pos Px s U H _ I h) λus s1 zq0=>?_) (by rw[hs,hs2]) (by rw[hs2];rfl)));obtain ⟨vs,H1,I1,r1,q1⟩:=zq0;obtain ⟨l,l',e,⟨xs,hq⟩,⟨ys,hq'⟩,q⟩:=q1;subst e;cases r1 with
 | cons r rr=>
  cases rr with
  | cons r' rr=>
   cases rr
   cases r
   cases r'
   obtain ⟨its,rv,pl,hz⟩:=I1.list hq;obtain ⟨jts,rv',pl',hz'⟩:=I1.list hq';have hl:l<s1.heap.objs.size:=by obtain ⟨o,_,e,_⟩:=pl;exact aT e
   have hl':l'<s1.heap.objs.size:=by obtain ⟨o,_,e,_⟩:=pl';exact aT e
   refine call_zip_2 pl.isList pl'.isList λh' hz hTI hTO hi hi' _ hk=>?_;have I2:Inv X Px U H1 { s1 with heap:=h' }:=I1.kept (t':=s1.toks) hk;refine wpAny_pyIter_zip (s:={ s1 with heap:=h' }) hz #[_,[s1.heap.objs.size+4,s1.heap.objs.size+2,s1.heap.objs.size+3,s1.heap.objs.size,s1.heap.objs.size+1],_,_,H1,rfl,I2,G8 (G9 hl hl'),#[hz,hTI,#[_,_,hTO],hi,hi'],λc hb=>?_,q];have hb':s1.heap.objs.size<=c:=Hc hb;exact I1.fpOk hb' (I1.hok.fresh hb')
end
def dr (X:Cx)(N:List Str)(scope:Scope)(cl:List (Str×Addr))(C:Addr)(s₂:Shared)(H₂:Hp)(fp:List Addr):Cx:=
 { X with N:=N,s₀:=s₂,H₀:=H₂,env:=compEnvC scope cl C X.env,outer:=X.stack,stack:=X.stack,ex:=fp,fn:=λ_=>false,xe:=λ_ _=>False }
structure ju (scope:Scope)(env:Env)(cl:List (Str×Addr)):Prop where
 eq:closureFor scope env=pure cl
 sub:∀ x c,cl.lookup x=some c->env.cells.lookup x=some c
 has:∀ x,(x,NameKind.free)∈scope.names->∃ c,cl.lookup x=some c
def uY {env:Env}:∀(names:List (Str×NameKind)) (cs:List (Str×Addr)),(∀ x,(x,NameKind.free)∈names->∃ c,env.cells.lookup x=some c)->(∀ x c,cs.lookup x=some c->env.cells.lookup x=some c)->
  ∃ cl:List (Str×Addr),(forIn names cs (λ(x:Str×NameKind) (r:List (Str×Addr))=>if (x.2==NameKind.free)=true then (do let c <-cellOf env x.1;pure (ForInStep.yield ((x.1,c)::r))) else pure (ForInStep.yield r)):Sem (List (Str×Addr)))=pure cl/\
   (∀ x c,cl.lookup x=some c->env.cells.lookup x=some c)/\(∀ x c,cs.lookup x=some c->∃ c',cl.lookup x=some c')/\∀ x,(x,NameKind.free)∈names->∃ c,cl.lookup x=some c
 | [],cs,_,h2=>#[cs,by rw[List.forIn_nil],h2,λx c e=>#[c,e],λ_ z=>nomatch z]
 | (n,k)::r,cs,h1,h2=>by
  by_cases hk:k=.free
  .subst hk;obtain ⟨c,hc⟩:=h1 n cb;have hn:∀ x c',((n,c)::cs).lookup x=some c'->env.cells.lookup x=some c':=λx c' e=>by
    rw[fe]at e;cases hx:x==n with
    | true=>
     rw[hx]at e;cases e
     rw[eq_of_beq hx];exact hc
    | false=>
     rw[hx]at e;exact h2 x c' e
   obtain ⟨cl,e,s1,s2,s3⟩:=uY r ((n,c)::cs) (λx hx=>h1 x (bV _ hx)) hn;have here:∃ c',cl.lookup n=some c':=s2 n c (by rw[fe,beq_self_eq_true]);refine #[cl,?_,s1,λx c' q=>?_,λx hx=>?_]
   .rw[List.forIn_cons,aq (by rfl)];have q:cellOf env n=pure c:=by unfold cellOf;rw[hc]
    rw[q];simp only[pure_bind];exact e
   .cases hxn:x==n with
    | true=>rw[eq_of_beq hxn];exact here
    | false=>exact s2 x c' (by rw[fe,hxn];exact q)
   .rcases aW.mp hx with z|z
    .cases z;exact here
    .exact s3 x z
  .obtain ⟨cl,e,s1,s2,s3⟩:=uY r cs (λx hx=>h1 x (bV _ hx)) h2;refine #[cl,?_,s1,s2,λx hx=>?_]
   .have hb:(k==NameKind.free)=false:=by simpa using hk
    rw[List.forIn_cons,ak (by rw[hb];exact cK)];simp only[pure_bind];exact e
   .rcases aW.mp hx with z|z
    .cases z;exact absurd rfl hk
    .exact s3 x z
def o4 {scope:Scope}{env:Env}(h:∀ x,(x,NameKind.free)∈scope.names->∃ c,env.cells.lookup x=some c):∃ cl,ju scope env cl:=by
 obtain ⟨cl,e,s1,_,s3⟩:=uY scope.names [] h (λ_ _ z=>nomatch z);refine #[cl,?_,s1,s3];unfold closureFor;exact (by simpa using e)
def Bk {env:Env}:∀{names:List (Str×NameKind)} {x:Str},names.lookup x=some .free->
  (names.map λ(n,k)=>if (k==NameKind.free&&env.scope.kind == .function&&env.kindOf n==some .cell) then (n,NameKind.cell) else (n,k)).lookup x=some .cell\/
  (names.map λ(n,k)=>if (k==NameKind.free&&env.scope.kind == .function&&env.kindOf n==some .cell) then (n,NameKind.cell) else (n,k)).lookup x=some .free
 | [],_,h=>by simp at h
 | (n,k)::r,x,h=>by
  have ih:=@Bk env r x;show List.lookup x ((if (k==NameKind.free&&env.scope.kind == .function&&env.kindOf n==some .cell)=true then (n,NameKind.cell) else (n,k))::_)=_\/List.lookup x ((if (k==NameKind.free&&env.scope.kind == .function&&env.kindOf n==some .cell)=true then (n,NameKind.cell) else (n,k))::_)=_
  cases hx:x==n with
  | true=>
   simp only[fe,hx]at h;cases h
   by_cases hc:(NameKind.free==NameKind.free&&env.scope.kind == .function&&env.kindOf n==some .cell)=true
   .rw[aq hc];left;simp only[fe,hx]
   .rw[ak hc];right;simp only[fe,hx]
  | false=>
   simp only[fe,hx]at h;by_cases hc:(k==NameKind.free&&env.scope.kind == .function&&env.kindOf n==some .cell)=true
   .rw[aq hc];simp only[fe,hx];exact ih h
   .rw[ak hc];simp only[fe,hx];exact ih h
def uZ {env:Env}:∀{names:List (Str×NameKind)} {x:Str} {k':NameKind},(names.map λ(n,k)=>if (k==NameKind.free&&env.scope.kind == .function&&env.kindOf n==some .cell) then (n,NameKind.cell) else (n,k)).lookup x=some k'->k'=.cell\/k'=.free->
  (∀ y∈names,y.2≠.cell)->(x,NameKind.free)∈names
 | [],_,_,h,_,_=>by simp at h
 | (n,k)::r,x,k',h,hk,hc=>by
  have ih:=@uZ env r x k';have h':List.lookup x ((if (k==NameKind.free&&env.scope.kind == .function&&env.kindOf n==some .cell)=true then (n,NameKind.cell) else (n,k))::r.map λ(n,k)=>if (k==NameKind.free&&env.scope.kind == .function&&env.kindOf n==some .cell) then (n,NameKind.cell) else (n,k))=some k':=h
  cases hx:x==n with
  | true=>
   have e:=eq_of_beq hx;subst e;by_cases hf:k=.free
   .subst hf;exact cb
   .have hb:(k==NameKind.free)=false:=by simpa using hf
    rw[ak (by rw[hb];simp),fe,hx]at h';cases h'
    rcases hk with z|z
    .exact absurd z (hc (x,k) cb)
    .exact absurd z hf
  | false=>
   refine bV _ (ih ?_ hk λy hy=>hc y (bV _ hy));by_cases hcd:(k==NameKind.free&&env.scope.kind == .function&&env.kindOf n==some .cell)=true
   .rw[aq hcd,fe,hx]at h';exact h'
   .rw[ak hcd,fe,hx]at h';exact h'
def iM (own:Nat)(cap:List Nat)(U:St):St:=List.replicate own none++cap.map λi=>(U[i]?).getD none
structure o5 (X:Cx)(scope:Scope)(N:List Str)(own:Nat)(cap:List Nat):Prop where
 kind:scope.kind=.function
 nocell:(scope.names.all λy=>y.2 != .cell)=true
 locs:(scope.names.all λy=>y.2 != .local||scope.names.lookup y.1==some .local)=true
 frees:(scope.names.all λy=>y.2 != .free||(X.env.kindOf y.1==some .cell||X.env.kindOf y.1==some .free))=true
 len:N.length=own+cap.length
 caps:((List.range cap.length).all λj=>(N[own+j]?==X.N[cap[j]!]?)&&(match N[own+j]? with|some x=>scope.names.lookup x==some .free&&(X.env.kindOf x==some .cell||X.env.kindOf x==some .free)|none=>false))=true
section
variable {prog:Program}{w:World}{A:Around}{R:Result->Shared->Prop}{s:Shared}
def Hd {elt target iter:Expr}{ifs:List Expr}{scope:Scope}{pos:Pos}{it acc:Value}{env:Env}(I:Nat->Shared->Prop)
  (turn:∀ n s,I n s->wpAny (model prog w) A (pyNext it) (λr s₁=>match r with
   | none=>R (.ok .next) s₁
   | some v=>wpAny (model prog w) A (letOwnedTupleGo target it v) (λ_ s₁'=>wpAny (model prog w) A (assign target env v) (λ_ s₂=>
     wpAny (model prog w) A (forIn ifs true λc r=>if r=true then do let ok <-isTrue c env (eval c env);pure (ForInStep.yield ok) else pure (ForInStep.yield r)) (λok s₃=>
      if ok=true then wpAny (model prog w) A (eval elt env) (λx s₄=>
       wpAny (model prog w) A (call (.builtin "list.append") [acc,x]) (λ_ s₅=>∃ m,m<n/\I m s₅) (λ_ _=>False) s₄) (λ_ _=>False) s₃
      else ∃ m,m<n/\I m s₃) (λ_ _=>False) s₂) (λ_ _=>False) s₁') (λ_ _=>False) s₁) (λ_ _=>False) s)
  (n:Nat) (h:I n s) :
  codeAny (model prog w) A (.compLoop (.ListComp elt [#[target,iter,ifs,0]] scope pos) 0 it acc env) R s:=by
 refine codeAny_loop rfl I (λn s hI=>?_) n h;show wpAny _ A ((compTurn (.ListComp elt [#[target,iter,ifs,0]] scope pos) 0 it acc env).onRaise (λx=>do noteFrame x env;theTreesLotGoes x)) _ _ s
 refine wpAny_noted ?_;rw[compTurn_list];refine ay (wpAny_standAt (ay (dS (turn n s hI) (λr s₁ h₁=>?_) λ_ _ h'=>h'.elim)));cases r with
 | none=>exact aS h₁
 | some v=>
  refine ay (dS h₁ (λ_ s₁' h₁'=>?_) λ_ _ h'=>h'.elim);refine ay (dS h₁' (λ_ s₂ h₂=>ay (dS h₂ (λok s₃ h₃=>?_) λ_ _ h'=>h'.elim)) λ_ _ h'=>h'.elim);cases ok with
  | true=>
   simp only[if_true]at h₃ ⊢;exact ay (ay (dS h₃ (λx s₄ h₄=>ay (dS h₄ (λ_ s₅ h₅=>aS (aS #[rfl,h₅])) λ_ _ h'=>h'.elim)) λ_ _ h'=>h'.elim))
  | false=>
   simp only[uj,if_false]at h₃ ⊢;exact aS #[rfl,h₃]
end
section
variable {X:Cx}
def PTs (X:Cx)(ifs:List Expr)(t:TT):Prop:=
 ∀(Px:List (Addr×Obj)) (s:Shared) (U:St) (H:Hp) (Q:Bool->Hp->Prop),Inv X Px U H s->t U H Q->
  wpAny (model X.prog X.w) X.A (forIn ifs true λc r=>if r=true then do let ok <-isTrue c X.env (eval c X.env);pure (ForInStep.yield ok) else pure (ForInStep.yield r)) (TP X Px U Q) X.xe s
def tYes:TT:=λ_ H Q=>Q true H
def dN:PTs X [] tYes:=λ_ _ _ H _ I h=>wpAny_tests_nil #[H,I,h]
def gO {t:TT}(h:PT X c t):PTs X [c] t:=λPx s U H Q I q=>wpAny_tests_one (h Px s U H Q I q)
def He {C:Addr}{fp:List Addr}{h₁:Heap}{tk:Nat}{D:Addr}
  (I:Inv X Px U H s) (c:o5 X scope N own cap) (hcl:ju scope X.env cl) (f:∀ b∈fp,FpOk X Px H b) (hD:s.heap.objs.size<=D) (hC:s.heap.objs.size<=C) (hCD:D≠C)
  (kp:∀ b o,s.heap.get? b=some o->h₁.get? b=some o) (hnew:h₁.get? D=some { cls:=.type "list",data:=.seq (List.toArray []) }) (hns:∃ m,h₁.Ns C m) (hfp:∀ b∈fp,b<s.heap.objs.size) (hcalm:X.calm=true) :
  Inv (dr X N scope cl C s H fp) Px (iM own cap U) (upd H D (.lst [])) { s with heap:=h₁,toks:=tk }:=by
 have hfr:H D=none:=I.hok.fresh hD;have hfrC:H C=none:=I.hok.fresh hC;have sz:∀ b o,s.heap.get? b=some o->b≠D/\b≠C:=λb o e=>#[bL (cA (aT e) hD),bL (cA (aT e) hC)];have cells:∀ x cc,cl.lookup x=some cc->∃ v,s.heap.IsCell cc v:=λx cc e=>I.cell x cc (hcl.sub x cc e);have cellne:∀ x cc,cl.lookup x=some cc->cc≠D/\cc≠C:=λx cc e=>by
  obtain ⟨v,o,ho,_⟩:=cells x cc e;exact sz cc o ho
 have ok:(dr X N scope cl C s H fp).Ok:=by
  refine #[I.ok.mod,c.kind,I.ok.glob,I.ok.blt,hC,λx y cc e1 e2=>I.ok.inj x y cc (hcl.sub x cc e1) (hcl.sub y cc e2),λx hx=>?_,(λx cc z _=>nomatch z),I.ok.hd,I.ok.frames,.inl rfl,λb hb=>?_,λb o e=>I.bs b o e,?_,λb o e hb=>?_,λb hb z=>?_,I.stack,λb hb=>I.stkFree b hb]
  .have hm:(x,NameKind.free)∈scope.names:=by
    rcases hx with z|z
    .exact uZ (env:=X.env) (names:=scope.names) (x:=x) (k':=.cell) z (.inl rfl) λy hy q=>by
      have:=eI.mp c.nocell y hy;rw[q]at this;exact absurd this (by decide)
    .exact uZ (env:=X.env) (names:=scope.names) (x:=x) (k':=.free) z (.inr rfl) λy hy q=>by
      have:=eI.mp c.nocell y hy;rw[q]at this;exact absurd this (by decide)
   exact hcl.has x hm
  .exact #[bL (cA (hfp b hb) hC),λx cc e z=>(f b hb).2.2.2.2.1 x cc (hcl.sub x cc e) z]
  .exact bS I.ok.bsz I.sz
  .obtain ⟨_,_,_,h4,_⟩:=f b hb;rcases h4 with z|z
   .exact I.ok.noex b o e z
   .exact absurd (cA (aT e) (bS I.ok.bsz z)) (dE _)
  .obtain ⟨_,h2,h3,_⟩:=f b hb;rcases aW.mp (I.stkSub b z) with q|q
   .exact h2 q
   .exact h3 q
 have hokN:bN X.prog X.w (upd H D (.lst [])) h₁ D (.lst []):=#[cf _,[],0,.nil,hnew];refine #[ok,I.os.symm ▸ rfl,I.bare,Un.laid kp hD hfr,?_,λx cc e=>?_,?_,λx cc e=>?_,λp hp=>?_,I.hok.laid kp hD hokN,?_]
 .obtain ⟨m,hm⟩:=hns;refine #[m,hm,λi x v e1 e2 e3=>?_];have hi:own<=i:=by
   false_or_by_contra
   rename_i z;unfold iM at e2;rw[jN (by rw[gA];lia),List.getElem?_replicate]at e2;split at e2<;>cases e2
  obtain ⟨j,rfl⟩:∃ j,i=own+j:=#[i-own,by lia];have hj:j<cap.length:=by
   have:=(aZ.mp e1).1;have z:=c.len;have this':own+j<N.length:=this;lia
  have hc:=eI.mp c.caps j (eU.mpr hj);have e1':N[own+j]?=some x:=e1;rw[e1']at hc;simp only[il,beq_iff_eq,Bool.or_eq_true]at hc;obtain ⟨hN,hf,hk⟩:=hc;have e2':U[cap[j]!]?=some (some v):=by
   unfold iM at e2;rw[gy (by rw[gA];lia),gA,show own+j-own=j by lia,bj]at e2;have g:cap[j]! = cap[j]:=by simp[hj]
   rw[aC hj,jP]at e2;rw[g];have e2:=aM e2;cases q:U[cap[j]]? with
   | none=>rw[q]at e2;cases e2
   | some z=>rw[q]at e2;exact congrArg some e2
  obtain ⟨m0,_,hl⟩:=I.loc;obtain ⟨u,ru,lk⟩:=hl (cap[j]!) x v hN.symm e2' (by
   rcases hk with z|z
   .exact .inr (.inl z)
   .exact .inr (.inr z))
  refine #[u,ru,.inr #[Bk (env:=X.env) hf,?_]];rcases lk with ⟨z,_⟩|⟨_,cc,ec,ic⟩
  .rcases hk with q|q
   .rw[q]at z;cases z
   .rw[q]at z;cases z
  ·obtain ⟨c',hc'⟩:=hcl.has x (by
    have:(x,NameKind.free)∈scope.names:=by
     have hlk:=hf;obtain ⟨l1,l2,hs,hno⟩:=List.lookup_eq_some_iff.mp hlk;rw[hs];exact fc _ cb
    exact this)
   have:=hcl.sub x c' hc';rw[ec]at this;cases this
   obtain ⟨o,ho,hd⟩:=ic;exact #[cc,hc',o,kp cc o ho,hd]
 .obtain ⟨v,o,ho,hd⟩:=cells x cc e;exact #[v,o,kp cc o ho,hd]
 .show upd H D (.lst []) C=none;rw[ah (bf hCD)];exact hfrC
 .show upd H D (.lst []) cc=none;rw[ah (cellne x cc e).1];exact I.freeC x cc (hcl.sub x cc e)
 .obtain ⟨e,n,ne,nf,d⟩:=I.pin p hp;refine #[kp _ _ e,?_,(sz _ _ e).2,λz=>?_,d]
  .show upd H D (.lst []) p.1=none;rw[ah (sz _ _ e).1];exact n
  .rcases aW.mp (I.stkSub p.1 z) with q|q
   .exact ne q
   .exact nf q
 .show (iM own cap U).length=N.length;unfold iM;rw[bg,gA,ai,c.len]
def Bl (own:Nat)(cap:List Nat)(wi:TI)(g:TG)(ts:TT)(te:TE):TE:=λU H Q=>wi U H λJ H1=>∀ D,H1 D=none->∃ W:Nat->Nat->St->Hp->Prop,(∃ m,W 0 m (iM own cap U) (upd H1 D (.lst [])))/\∀ i m U H,W i m U H->
 (J.stop i H/\Q (.ref D) H)\/(J.go i H/\∀ x H',J.yld i H x H'->g x U H' λU2 H2=>ts U2 H2 λb H3=>if b=true then te U2 H3 λy H4=>∃ xs,H4 D=some (.lst xs)/\xs.length<sizeLine/\∃ m',m'<m/\W (i+1) m' U2 (upd H4 D (.lst (xs++[y]))) else ∃ m',m'<m/\W (i+1) m' U2 H3)
def Bm {fp:List Addr}{iter:Expr}{pos:Pos}{ts:TT}{Q:VK}
  {E:Value->Shared->Prop} {RR:Value->Addr->Result->Shared->Prop}
  (hcalm:X.calm=true) (c:o5 X scope N own cap) (hcl:ju scope X.env cl)
  (hg:∀ cl C s₂ H₂ fp,PG (dr X N scope cl C s₂ H₂ fp) tg g) (hts:∀ cl C s₂ H₂ fp,PTs (dr X N scope cl C s₂ H₂ fp) ifs ts) (he:∀ cl C s₂ H₂ fp,PE (dr X N scope cl C s₂ H₂ fp) elt te)
  (I2:Inv X Px U H2 s2) (T:Turn X.prog X.w X.K tg J fp it tn) (st2:tn 0 s2.heap) (f2:∀ b∈fp,FpOk X Px H2 b)
  (rd:∀ D,H2 D=none->∃ W:Nat->Nat->St->Hp->Prop,(∃ m,W 0 m (iM own cap U) (upd H2 D (.lst [])))/\∀ i m U H,W i m U H->
   (J.stop i H/\Q (.ref D) H)\/(J.go i H/\∀ x H',J.yld i H x H'->g x U H' λU2 H2=>ts U2 H2 λb H3=>if b=true then te U2 H3 λy H4=>∃ xs,H4 D=some (.lst xs)/\xs.length<sizeLine/\∃ m',m'<m/\W (i+1) m' U2 (upd H4 D (.lst (xs++[y]))) else ∃ m',m'<m/\W (i+1) m' U2 H3))
  (hRR:∀ D C s' H',Inv X Px U H' s'->(∃ m,s'.heap.Ns C m)->FpOk X Px H' C->Q (.ref D) H'->RR (.ref D) C (.ok .next) s') :
  wpAny (model X.prog X.w) X.A (newList []) (λacc s₃=>wpAny (model X.prog X.w) X.A (newFunctionEnv scope X.env.globals cl [] X.env.qual none .none (some X.env)) (λcenv s₄=>
   codeAny (model X.prog X.w) X.A (.compStart (.ListComp elt [#[tg,iter,ifs,0]] scope pos) 0 (.ref it) acc { cenv with scope:=relabel scope X.env }) (RR acc cenv.locals) s₄) E s₃) E s2:=by
 have hcell:∀ y∈scope.names,y.2≠.cell:=λy hy q=>by
  have:=eI.mp c.nocell y hy;rw[q]at this;exact absurd this (by decide)
 have hfp:∀ b∈fp,b<s2.heap.objs.size:=λb hb=>by
  obtain ⟨o,e,_⟩:=T.obj 0 _ st2 b hb;exact aT e
 refine wpAny_newObj_type (wpAny_newFunctionEnv hcell (by intro y hy;simp at hy) (λh₁ hns₁ hsb₁=>?_) c.kind);dsimp only at hns₁ hsb₁ ⊢;generalize hHH:s2.heap.push { cls:=.type "list",dict:=none,data:=.seq ([]:List Value).toArray }=HH at hns₁ hsb₁ ⊢;have hC:HH.objs.size=s2.heap.objs.size+1:=by rw[<-hHH,lN]
 have hDC:s2.heap.objs.size≠HH.objs.size:=by rw[hC];exact bL (lP _)
 have hCle:s2.heap.objs.size<=HH.objs.size:=by rw[hC];exact ij _
 have old:∀ b o,s2.heap.get? b=some o->h₁.get? b=some o:=λb o e=>hsb₁.extBut b o (bL (by rw[hC];exact Nat.lt_succ_of_lt (aT e))) (aX _ (hHH ▸ aX _ e));have hnew:h₁.get? s2.heap.objs.size=some { cls:=.type "list",data:=.seq (List.toArray []) }:=hsb₁.extBut _ _ hDC (aX _ (hHH ▸ bZ _ rfl));have I3:∀ tk,Inv (dr X N scope cl HH.objs.size s2 H2 fp) Px (iM own cap U) (upd H2 s2.heap.objs.size (.lst [])) { s2 with heap:=h₁,toks:=tk }:=λtk=>
  He I2 c hcl f2 (aj _) hCle hDC old hnew #[_,hns₁] hfp hcalm
 obtain ⟨W,⟨m0,w0⟩,turn⟩:=rd s2.heap.objs.size (I2.hok.fresh (aj _));have st3:tn 0 h₁:=T.keep _ _ _ st2 λb _ o e=>old b o e;have fr3:∀ b∈fp,upd H2 s2.heap.objs.size (.lst []) b=none:=λb hb=>by rw[ah (bL (hfp b hb))];exact (f2 b hb).1
 have stat:∀{H':Hp},(∀ b∈fp,H' b=none)->∀ b∈fp,FpOk (dr X N scope cl HH.objs.size s2 H2 fp) Px H' b:=λhn b hb=>by
  obtain ⟨_,h2,h3,_,h5,h6⟩:=f2 b hb;refine #[hn b hb,bL (cA (hfp b hb) hCle),λz=>?_,.inl hb,λx cc e=>h5 x cc (hcl.sub x cc e),h6];rcases aW.mp (I2.stkSub b z) with q|q
  .exact h2 q
  .exact h3 q
 have loop:∀ s₃:Shared,s₃={ s2 with heap:=h₁,toks:=s2.toks+([]:List (Str×Value)).length }->
   codeAny (model X.prog X.w) X.A (.compLoop (.ListComp elt [#[tg,iter,ifs,0]] scope pos) 0 (.ref it) (.ref s2.heap.objs.size) (compEnvC scope cl HH.objs.size X.env)) (RR (.ref s2.heap.objs.size) HH.objs.size) s₃:=by
  rintro s₃ rfl;refine Hd (λn s'=>∃ i U' H',Inv (dr X N scope cl HH.objs.size s2 H2 fp) Px U' H' s'/\tn i s'.heap/\(∀ b∈fp,H' b=none)/\W i n U' H') ?_ m0 #[0,_,_,I3 _,st3,fr3,w0];rintro n s3 ⟨i,U3,H3,J3,t3,fr,w3⟩;rcases turn i n U3 H3 w3 with ⟨stop,qn⟩|⟨go,step⟩
  .refine thn (T.done (dr X N scope cl HH.objs.size s2 H2 fp) rfl rfl rfl hcalm i Px s3 U3 H3 (λ_ _=>False) J3 (stat fr) t3 stop) λr s4 zq0=>?_;obtain ⟨hr,I4⟩:=zq0;subst hr;obtain ⟨mm,hmm,_⟩:=I4.loc;refine hRR _ _ s4 H3 (I2.call' I4.os I4.base I4.hok I4.bare λb hb=>?_) #[mm,hmm] (I2.fpOk hCle I4.free) qn;obtain ⟨_,h2,_,h4,h5,h6⟩:=f2 b hb;exact #[h4,h2,h5,h6]
  .refine thn (T.item (dr X N scope cl HH.objs.size s2 H2 fp) rfl rfl rfl hcalm i Px s3 U3 H3 (λ_ _=>False) J3 (stat fr) t3 go) λr s4 zq0=>?_;obtain ⟨u,hr,h4⟩:=zq0;subst hr;refine thn h4 λ_ s5 zq0=>?_;obtain ⟨x,H5,I5,r5,y5,st5,fr5⟩:=zq0;have I5':=I5.pinned (stat fr5) (T.obj _ _ st5);have back:∀{U7:St} {H7:Hp} {s7:Shared} {m':Nat},Inv (dr X N scope cl HH.objs.size s2 H2 fp) (Px++l7 fp s5.heap) U7 H7 s7->W (i+1) m' U7 H7->∃ i U' H',Inv (dr X N scope cl HH.objs.size s2 H2 fp) Px U' H' s7/\tn i s7.heap/\(∀ b∈fp,H' b=none)/\W i m' U' H':=λ{U7 H7 s7 m'} I7 w7=>by
    refine #[i+1,U7,H7,I7.unpinned,T.keep _ _ _ st5 λb hb o e=>(I7.pin (b,o) (fc _ (fc _ (oK hb e)))).1,λb hb=>?_,w7];obtain ⟨o,e,d⟩:=T.obj _ _ st5 b hb;exact (I7.pin (b,o) (fc _ (fc _ (oK hb e)))).2.1
   refine thn (hg cl HH.objs.size s2 H2 fp _ s5 U3 H5 x u _ I5' r5 (step x H5 y5)) λ_ s6 zq0=>?_;obtain ⟨U6,H6,I6,q6⟩:=zq0;refine thn (hts cl HH.objs.size s2 H2 fp _ s6 U6 H6 _ I6 q6) λb s7 zq0=>?_;obtain ⟨H7,I7,q7⟩:=zq0;cases b with
   | false=>
    rw[ak cK]at q7 ⊢;obtain ⟨m',hm,w7⟩:=q7;exact #[m',hm,back I7 w7]
   | true=>
    rw[aq rfl]at q7 ⊢;refine thn (he cl HH.objs.size s2 H2 fp _ s7 U6 H7 _ I7 q7) λv s8 zq0=>?_;obtain ⟨y,H8,I8,r8,q8⟩:=zq0;obtain ⟨xs,hx,hz,m',hm,w8⟩:=q8;refine thn (dZ (X:=dr X N scope cl HH.objs.size s2 H2 fp) _ s8 U6 H8 (.ref s2.heap.objs.size) [y] (.ref s2.heap.objs.size) [v] (λ_ H9=>H9=upd H8 s2.heap.objs.size (.lst (xs++[y]))) I8 rfl (.cons r8 .nil) #[_,xs,y,rfl,rfl,hx,hz,rfl]) λ_ s9 zq0=>?_;obtain ⟨_,H9,I9,_,e9⟩:=zq0;subst e9;exact #[m',hm,back I9 w8]
 refine codeAny_compStart_list (loop _ rfl) ?_;exact T.self _ 0 _ _ _ st3 (loop _ rfl)
def de {pos:Pos}{ts:TT}(hcalm:X.calm=true)(hi:PI X tg iter wi)(c:o5 X scope N own cap)
  (hg:∀ cl C s₂ H₂ fp,PG (dr X N scope cl C s₂ H₂ fp) tg g) (hts:∀ cl C s₂ H₂ fp,PTs (dr X N scope cl C s₂ H₂ fp) ifs ts) (he:∀ cl C s₂ H₂ fp,PE (dr X N scope cl C s₂ H₂ fp) elt te)
  (hs:∀ x,foldedSetIterable iter X.env x=pure x:=by intro _;rfl):PE X (.ListComp elt [#[tg,iter,ifs,0]] scope pos) (Bl own cap wi g ts te):=by
 intro Px s U H Q I h;obtain ⟨cl,hcl⟩:=o4 (scope:=scope) (env:=X.env) λx hx=>I.ok.has x (by
  have:=eI.mp c.frees _ hx;simpa using this)
 rw[eval_ListComp];refine wpAny_comprehension_free (use:=none) rfl hs hcl.eq c.kind (λx hx hl=>by
  have:=eI.mp c.locs x hx;rw[hl]at this;simpa using this) (thn (hi Px s U H _ I h) λv s1 h1=>thn h1 λitv s2 h2=>?_)
 obtain ⟨it,fp,tn,J,H2,e,I2,T,st2,f2,rd⟩:=h2;subst e;refine Bm (RR:=λacc C=>compPost (model X.prog X.w) X.A X.xe none (EP X Px U Q) acc C) hcalm c hcl hg hts he I2 T st2 f2 rd ?_;intro D C s' H' I' hm fC q;obtain ⟨m,hm⟩:=hm;obtain ⟨f0,f1,f2,f3,f4,f5⟩:=fC;exact #[m,hm,λh' hsb=>#[.ref D,H',I'.turned (t':=s'.toks) (λb o hb e=>(hsb.2 b hb).trans e) f0 f1 f3 f4 f5,rfl,q]]
def j8 {i:Nat}{x:Str}{pos pos' spos:Pos}{ts:TT}(hN:X.N.Nodup)(hxi:X.N[i]?=some x)(hx:X.env.scope.names.lookup x=some .local)(hcalm:X.calm=true)(hi:PI X tg iter wi)(c:o5 X scope N own cap)
  (hg:∀ cl C s₂ H₂ fp,PG (dr X N scope cl C s₂ H₂ fp) tg g) (hts:∀ cl C s₂ H₂ fp,PTs (dr X N scope cl C s₂ H₂ fp) ifs ts) (he:∀ cl C s₂ H₂ fp,PE (dr X N scope cl C s₂ H₂ fp) elt te)
  (hsw:swapsWith (.ListComp elt [#[tg,iter,ifs,0]] scope pos) (some (.Name x pos')) spos.line X.env=pure true:=by rfl)
  (hs:∀ x,foldedSetIterable iter X.env x=pure x:=by intro _;rfl):PS X (.Assign [.Name x pos'] (.ListComp elt [#[tg,iter,ifs,0]] scope pos) spos) (tAsg (Bl own cap wi g ts te) (gI i)):=by
 intro Px s U H D I h;obtain ⟨cl,hcl⟩:=o4 (scope:=scope) (env:=X.env) λx hx=>I.ok.has x (by
  have:=eI.mp c.frees _ hx;simpa using this)
 rw[exec_Assign_Name_used _ _ _ _ hsw];refine ay (wpAny_standAt (ay ?_));show wpAny _ X.A (do let _ <-comprehension (.ListComp elt [#[tg,iter,ifs,0]] scope pos) scope X.env _ (newList []) false (eval iter X.env) (some (assign (.Name x pos') X.env))) _ _ s
 refine ay (dS (wpAny_comprehension_free (use:=some (assign (.Name x pos') X.env)) (Q:=λ_ s'=>SP X Px D .next s') rfl hs hcl.eq c.kind (λx hx hl=>by
  have:=eI.mp c.locs x hx;rw[hl]at this;simpa using this) (thn (hi Px s U H _ I h) λv s1 h1=>thn h1 λitv s2 h2=>?_)) (λ_ s' hq=>aS (aS hq)) λ_ _ e=>e)
 obtain ⟨it,fp,tn,J,H2,e,I2,T,st2,f2,rd⟩:=h2;subst e;refine Bm (RR:=λacc C=>compPost (model X.prog X.w) X.A X.xe (some (assign (.Name x pos') X.env)) (λ_ s'=>SP X Px D .next s') acc C) (Q:=λx H1=>gI i x U H1 D.nx) hcalm c hcl hg hts he I2 T st2 f2 rd ?_;intro Dd C s' H' I' hm fC q;obtain ⟨m,hm⟩:=hm;have hne:∀ a,(a=X.env.locals\/X.env.cells.lookup x=some a)->a≠C:=λa z=>by
  obtain ⟨f0,f1,f2,f3,f4,f5⟩:=fC;rcases z with z|z
  .rw[z];exact bf f1
  .exact f4 x a z
 show wpAny _ X.A (assign (.Name x pos') X.env (.ref Dd)) _ _ _;refine wpAny_assign_Name (zJ I' hN hxi (.inl hx) (v:=.ref Dd) rfl (λs'' I'' hch=>?_) (.inr hx));obtain ⟨a,hsb,ha⟩:=hch;refine #[m,hm.sameBut hsb (bf (hne a ha)),λh' hs'=>?_];obtain ⟨f0,f1,f2,f3,f4,f5⟩:=fC;exact #[_,H',I''.turned (t':=s''.toks) (λb o hb e=>(hs'.2 b hb).trans e) f0 f1 f3 f4 f5,q]
end
end L2
namespace L2
open PySem PySem.Spec PyProof.Rows PySem.SeqAt
class Srt (α:Type)[Rep α] where
 blt:α->α->Bool
 irrefl:∀ a,blt a a=false
 trans:∀ a b c,blt a b=true->blt b c=true->blt a c=true
 negTrans:∀ a b c,blt a c=true->blt a b=true\/blt b c=true
 total:∀ a b,blt a b=false->blt b a=false->a=b
 kd:SortKind
 one:α
 lt:∀{X:Cx} {Px:List (Addr×Obj)} {U:St} {H:Hp} {s:Shared} {A:Around} {a b:α} {x y:V} {u v:Value} {Q:Bool->Shared->Prop} {E:Value->Shared->Prop},Inv X Px U H s->Rep.has X.K H a x->Rep.has X.K H b y->RelV x u->RelV y v->Q (blt a b) s->wpAny (model X.prog X.w) A (keyLt' kd u v) Q E s
 kind:∀{X:Cx} {Px:List (Addr×Obj)} {U:St} {H:Hp} {s:Shared} {A:Around} {as:List α} {xs:List V} {us:List Value} {Q:SortKind->Shared->Prop} {E:Value->Shared->Prop},Inv X Px U H s->aA X.K H as xs->Vals xs us->2<=us.length->Q kd s->wpAny (model X.prog X.w) A (keyKind' us.toArray) Q E s
section
variable {α:Type}[Rep α][Srt α]
noncomputable def srtKind (α:Type)[Rep α][Srt α](K:Frag)(H:Hp):PyProof.Rows.KeyKind where
 α:=α
 blt:=Srt.blt
 irrefl:=Srt.irrefl
 trans:=Srt.trans
 negTrans:=Srt.negTrans
 total:=Srt.total
 keyOf:=λu=>open Classical in if h:∃ a:α,∃ x,RelV x u/\Rep.has K H a x then some (Classical.choose h) else none
 dflt:=Srt.one
def Hf {a:α}{x:V}{u:Value}(I:Inv X Px U H s)(r:RelV x u)(h:Rep.has X.K H a x):(srtKind α X.K H).keyOf u=some a:=by
 have e:∃ a:α,∃ x,RelV x u/\Rep.has X.K H a x:=#[a,x,r,h];unfold srtKind;dsimp only;rw[dif_pos e];obtain ⟨y,ry,hy⟩:=Classical.choose_spec e;have z:=ry.inj r;subst z;exact congrArg some (Rep.inj I hy h)
def Bn {K:Frag}{a:α}{u:Value}(h:(srtKind α K H).keyOf u=some a):∃ x,RelV x u/\Rep.has K H a x:=by
 unfold srtKind at h;dsimp only at h;split at h
 .rename_i e;cases h
  exact Classical.choose_spec e
 .cases h
def dg (as:List α):List α:=as.mergeSort λa b=>!Srt.blt b a
def jv (as:List α):(dg as).Perm as:=List.mergeSort_perm _ _
def o6 {as:List α}{a:α}:a∈dg as↔a∈as:=(jv as).mem_iff
def u7 (as:List α):(dg as).length=as.length:=(jv as).length_eq
def Hg {a b:α}(h:Srt.blt a b=true):Srt.blt b a=false:=by
 cases e:Srt.blt b a with
 | false=>rfl
 | true=>
  have:=Srt.trans _ _ _ h e;rw[Srt.irrefl]at this;cases this
def Bo (as:List α):(dg as).Pairwise λa b=>Srt.blt b a=false:=by
 have h:=List.pairwise_mergeSort (le:=λa b:α=>!Srt.blt b a) (λa b c h1 h2=>by
  simp only[nX]at h1 h2 ⊢;cases e:Srt.blt c a with
  | false=>rfl
  | true=>
   rcases Srt.negTrans c b a e with z|z
   .rw[h2]at z;cases z
   .rw[h1]at z;cases z) (λa b=>by
  cases e:Srt.blt b a with
  | false=>rfl
  | true=>rw[Hg e];rfl) as
 exact h.imp λ{a b} z=>by simpa using z
def o7 {as bs:List α}(hp:bs.Perm as)(hs:bs.Pairwise λa b=>Srt.blt b a=false):bs=dg as:=
 List.Perm.eq_of_pairwise (λa b _ _ h1 h2=>Srt.total a b h2 h1) hs (Bo as) (hp.trans (jv as).symm)
def u9 {as:List α}(hs:as.Pairwise λa b=>Srt.blt b a=false):dg as=as:=(o7 (List.Perm.refl _) hs).symm
def va {as:List α}(hn:as.Nodup):(dg as).Pairwise λa b=>Srt.blt a b=true:=by
 have h1:=Bo as;have h2:(dg as).Nodup:=(jv as).nodup_iff.mpr hn;refine (h1.and h2).imp λ{a b} z=>?_;cases e:Srt.blt a b with
 | true=>rfl
 | false=>exact absurd (Srt.total a b e z.1) z.2
def Bp {K:Frag}:∀{out:List Value},(∀ v∈out,∃ a:α,∃ x,RelV x v/\Rep.has K H a x/\(srtKind α K H).keyOf v=some a)->
  ∃(ws:List V) (bs:List α),Vals ws out/\aA K H bs ws/\bs=out.map (Tim.keyV (srtKind α K H))
 | [],_=>#[[],[],.nil,.nil,rfl]
 | v::out,h=>by
  obtain ⟨ws,bs,h1,h2,h3⟩:=Bp (out:=out) λu hu=>h u (bV _ hu);obtain ⟨a,x,r,e,k⟩:=h v cb;refine #[x::ws,a::bs,.cons r h1,.cons e h2,?_];rw[bK,<-h3];have z:Tim.keyV (srtKind α K H) v=a:=by
   unfold Tim.keyV;rw[k];rfl
  rw[z];rfl
def Bq (I:Inv X Px U H s):∀{as:List α} {xs:List V} {us:List Value},aA X.K H as xs->Vals xs us->us.map (Tim.keyV (srtKind α X.K H))=as/\∀ v∈us,∃ a:α,∃ x,RelV x v/\Rep.has X.K H a x/\(srtKind α X.K H).keyOf v=some a
 | _,_,_,.nil,.nil=>#[rfl,λ_ z=>nomatch z]
 | _,_,_,.cons e t,.cons r q=>by
  obtain ⟨h1,h2⟩:=Bq I t q;have k:=Hf I r e;refine #[?_,λv hv=>?_]
  .rw[bK,h1];unfold Tim.keyV;rw[k];rfl
  .rcases aW.mp hv with z|z
   .subst z;exact #[_,_,r,e,k]
   .exact h2 v z
end
instance:Srt Int where
 blt:=λa b=>decide (a<b)
 irrefl:=λa=>by simp
 trans:=λa b c h1 h2=>by
  simp only[decide_eq_true_eq]at *;lia
 negTrans:=λa b c h=>by
  simp only[decide_eq_true_eq]at *;lia
 total:=λa b h1 h2=>by
  simp only[decide_eq_false_iff_not]at *;lia
 kd:=oneType'
 one:=0
 lt:=λ{X Px U H s A a b x y u v Q E} _ h1 h2 r1 r2 q=>by
  have h1:x=.int a:=h1;have h2:y=.int b:=h2;subst h1 h2;obtain ⟨t,rfl⟩:=r1;obtain ⟨t',rfl⟩:=r2;exact W.kat_lt_int q
 kind:=λ{X Px U H s A as xs us Q E} _ h r hl q=>by
  have e:=aA.toInts h;subst e;have hi:IntsAre us as:=by
   clear q hl
   induction as generalizing us with
   | nil=>cases r;exact .nil
   | cons a as ih=>
    cases r with
    | cons r1 r2=>
     obtain ⟨t,rfl⟩:=r1;exact .cons a t (ih (by first|exact aA.ints|assumption) r2)
  match us,hl,hi with
  | v₁::v₂::rest,_,hi=>
   rw[keyKind_ints hi];exact aS q
def pLt (a b:Int×Int):Bool:=decide (a.1<b.1)||(decide (a.1=b.1)&&decide (a.2<b.2))
def fj {a:Int×Int}:pLt a b=true↔a.1<b.1\/(a.1=b.1/\a.2<b.2):=by
 unfold pLt;simp
def vb {a:Int×Int}:pLt a b=false↔¬ (a.1<b.1\/(a.1=b.1/\a.2<b.2)):=by
 rw[<-fj];simp
def vc {a:Int×Int}{x:V}{u:Value}(I:Inv X Px U H s)(h:Rep.has X.K H a x)(r:RelV x u) :
  ∃(p:Addr) (o:Obj) (n:Nat) (t t':Tok),u=.ref p/\s.heap.get? p=some o/\o.cls=.type "tuple"/\o.data=.seq (List.toArray [.int a.1 t,.int a.2 t']) n:=by
 obtain ⟨p,x1,x2,rfl,q,e1,e2⟩:=(show hasP X.K H a x from h);have e1:x1=.int a.1:=e1;have e2:x2=.int a.2:=e2;subst e1 e2;cases r
 obtain ⟨us,ru,pu,_⟩:=I.tuple (SqT.of q);obtain ⟨u1,u2,rfl,⟨t,rfl⟩,⟨t',rfl⟩⟩:=fX ru;obtain ⟨o,ho,hc,n,hd⟩:=pu;exact #[p,o,n,t,t',rfl,ho,hc,hd]
def mq {prog:Program}{w:World}{A:Around}{E:Value->Shared->Prop}{s:Shared}{x y:Int}{t u:Tok}{Q:Bool->Shared->Prop}(b:Bool)(h:Q (decide (x<y)) s):wpAny (model prog w) A (oneLt' b (.int x t) (.int y u)) Q E s:=by
 cases b with
 | true=>
  rw[<-keyLt'_oneType];exact W.kat_lt_int h
 | false=>exact W.kat_one _ _ (lt_int h)
instance:Srt (Int×Int) where
 blt:=pLt
 irrefl:=λa=>by rw[vb];lia
 trans:=λa b c h1 h2=>by
  rw[fj]at *;lia
 negTrans:=λa b c h=>by
  rw[fj]at *;rw[fj];lia
 total:=λa b h1 h2=>by
  rw[vb]at *;obtain ⟨a1,a2⟩:=a;obtain ⟨b1,b2⟩:=b;have:a1=b1/\a2=b2:=by dsimp only at *;lia
  rw[this.1,this.2]
 kd:=tuples' true
 one:=(0,0)
 lt:=λ{X Px U H s A a b x y u v Q E} I h1 h2 r1 r2 q=>by
  obtain ⟨p,o,n,t1,t2,rfl,ho,hc,hd⟩:=vc I h1 r1;obtain ⟨p',o',n',t3,t4,rfl,ho',hc',hd'⟩:=vc I h2 r2;refine W.kat_lt ho hd ho' hd' ?_;show W.KatLex X.prog X.w A true _ Q [(.int a.1 t1,.int b.1 t3),(.int a.2 t2,.int b.2 t4)] 0 s;refine W.kat_cons (EqAt.int_int a.1 t1 b.1 t3 _ _ _ _ (W.kat_go (λe=>W.kat_yes ?_) (λe=>W.kat_no ?_)))
  .have e1:a.1=b.1:=eq_of_beq e;refine W.kat_cons (EqAt.int_int a.2 t2 b.2 t4 _ _ _ _ (W.kat_go (λe=>W.kat_yes (W.kat_nil ?_)) (λe=>W.kat_no (mq _ ?_))))
   .have e2:a.2=b.2:=eq_of_beq e;have z:pLt a b=false:=by rw[vb];lia
    rw[z]at q;exact q
   .have z:pLt a b=decide (a.2<b.2):=by
     unfold pLt;rw[aU (by lia:¬ a.1<b.1),aO e1];rfl
    rw[z]at q;exact q
  .have e1:¬ a.1=b.1:=λz=>by rw[z]at e;simp at e
   refine mq _ ?_;have z:pLt a b=decide (a.1<b.1):=by
    unfold pLt;rw[aU e1];simp
   rw[z]at q;exact q
 kind:=λ{X Px U H s A as xs us Q E} I h r hl q=>by
  have go:∀{as:List (Int×Int)} {xs:List V} {us:List Value},aA X.K H as xs->Vals xs us->∃ fs,W.KatTups s.heap us fs/\fs.length=us.length/\∀ v∈fs,∃ i t,v=Value.int i t:=by
   intro as
   induction as with
   | nil=>
    intro xs us h r;cases h
    cases r
    exact #[[],.nil,rfl,λ_ z=>nomatch z]
   | cons a as ih=>
    intro xs us h r;cases h with
    | cons h1 h2=>
     cases r with
     | cons r1 r2=>
      obtain ⟨fs,f1,f2,f3⟩:=ih h2 r2;obtain ⟨p,o,n,t,t',rfl,ho,hc,hd⟩:=vc I h1 r1;refine #[.int a.1 t::fs,W.KatTups.cons ho hc hd rfl f1,by rw[cS,cS,f2],λv hv=>?_];rcases aW.mp hv with z|z
      .exact #[_,_,z]
      .exact f3 v z
  obtain ⟨fs,f1,f2,f3⟩:=go h r;refine W.kat_kind (T:=.type "int") f1 (by lia) (λv hv=>?_) (by decide) ?_
  .obtain ⟨i,t,rfl⟩:=f3 v hv;exact W.Looks.of_pure rfl
  .exact q
end L2
namespace L2
open PySem PySem.Spec PyProof.Rows
section
variable {X:Cx}
def jx {i:Int}{pos:Pos}(hg:Gl X x)(hm:∃ t,X.mg x=some (.int i t))(hd:(x==("__debug__" : Str))=false:=by decide):PE X (.Name x pos) (tC (.int i)):=by
 obtain ⟨t,e⟩:=hm;exact Fg hg e #[t,rfl] hd
end
def eZ {K:Frag}{a:Addr}{g:TG}{ts:TT}{te:TE}{U:St}{H:Hp}{Q:Hp->Prop}(Pv:Nat->St->Hp->Prop)(h0:Pv 0 U H)(hl:∀ i U H,i<=xs.length->Pv i U H->SqL K H a xs)
  (hs:∀ i m x U H,xs[i]?=some x->i+m=xs.length->Pv i U H->g x U H λU2 H2=>ts U2 H2 λb H3=>if b=true then te U2 H3 λy H4=>∃ zs,H4 D=some (.lst zs)/\zs.length<sizeLine/\∃ m',m'<m/\(i+1+m'=xs.length/\Pv (i+1) U2 (upd H4 D (.lst (zs++[y])))) else ∃ m',m'<m/\(i+1+m'=xs.length/\Pv (i+1) U2 H3))
  (hd:∀ U H,Pv xs.length U H->Q H) :
  ∃ W:Nat->Nat->St->Hp->Prop,(∃ m,W 0 m U H)/\∀ i m U H,W i m U H->((Itl K a).stop i H/\Q H)\/((Itl K a).go i H/\∀ x H',(Itl K a).yld i H x H'->g x U H' λU2 H2=>ts U2 H2 λb H3=>if b=true then te U2 H3 λy H4=>∃ xs,H4 D=some (.lst xs)/\xs.length<sizeLine/\∃ m',m'<m/\W (i+1) m' U2 (upd H4 D (.lst (xs++[y]))) else ∃ m',m'<m/\W (i+1) m' U2 H3):=by
 refine #[λi m U H=>i+m=xs.length/\Pv i U H,#[xs.length,by lia,h0],λi m U H zq0=>?_];obtain ⟨e,pv⟩:=zq0;have hS:=hl i U H (by lia) pv;by_cases hi:i<xs.length
 .refine .inr #[#[xs,xs[i],hS,aC hi],λx H' y=>?_];obtain ⟨e1,y⟩:=y;subst e1;exact hs i m x U _ (y xs hS) e pv
 .have:i=xs.length:=by lia
  subst this;exact .inl #[#[xs,hS,aj _],hd U H pv]
def o8 {lo:Int}{n:Nat}{g:TG}{ts:TT}{te:TE}{U:St}{H:Hp}{Q:Hp->Prop}(Pv:Nat->St->Hp->Prop)(h0:Pv 0 U H)
  (hs:∀ i m U H,i+m=n->i<n->Pv i U H->g (.int (lo+i)) U H λU2 H2=>ts U2 H2 λb H3=>if b=true then te U2 H3 λy H4=>∃ zs,H4 D=some (.lst zs)/\zs.length<sizeLine/\∃ m',m'<m/\(i+1+m'=n/\Pv (i+1) U2 (upd H4 D (.lst (zs++[y])))) else ∃ m',m'<m/\(i+1+m'=n/\Pv (i+1) U2 H3))
  (hd:∀ U H,Pv n U H->Q H) :
  ∃ W:Nat->Nat->St->Hp->Prop,(∃ m,W 0 m U H)/\∀ i m U H,W i m U H->((Itr lo n).stop i H/\Q H)\/((Itr lo n).go i H/\∀ x H',(Itr lo n).yld i H x H'->g x U H' λU2 H2=>ts U2 H2 λb H3=>if b=true then te U2 H3 λy H4=>∃ xs,H4 D=some (.lst xs)/\xs.length<sizeLine/\∃ m',m'<m/\W (i+1) m' U2 (upd H4 D (.lst (xs++[y]))) else ∃ m',m'<m/\W (i+1) m' U2 H3):=by
 refine #[λi m U H=>i+m=n/\Pv i U H,#[n,by lia,h0],λi m U H zq0=>?_];obtain ⟨e,pv⟩:=zq0;by_cases hi:i<n
 .refine .inr #[hi,λx H' y=>?_];obtain ⟨e1,y⟩:=y;subst e1 y;exact hs i m U _ e hi pv
 .have:i=n:=by lia
  subst this;exact .inl #[aj _,hd U H pv]
def metI (ns:List Int):List Int:=firstMet (λi=>ns.getD i 0) ns.length
def Hh:∀ ns:List Int,(List.range ns.length).map (λi=>ns.getD i 0)=ns:=λns=>by
 apply gE;intro i;rw[bj];by_cases h:i<ns.length
 .rw[fT h,jP,aH,aC h];rfl
 .rw[eG (by rw[cU];lia),eG (by lia)];rfl
def Br:∀(ns U:List Int),(U++ns).Nodup->ns.foldl step_dedup U=U++ns
 | [],U,_=>by simp
 | n::ns,U,h=>by
  have hn:¬ (U.any (· == n))=true:=λz=>by
   obtain ⟨x,hx,e⟩:=List.any_eq_true.mp z;have e:=eq_of_beq e;subst e;rw[fB]at h;exact h.2.2 x hx x cb rfl
  rw[List.foldl_cons];have e:step_dedup U n=U++[n]:=by
   unfold step_dedup;rw[ak hn]
  rw[e,Br ns (U++[n]) (by rw[gG];exact h),gG];rfl
def Bs {ns:List Int}(h:ns.Nodup):metI ns=ns:=by
 unfold metI firstMet;rw[Hh];exact Br ns [] h
def pb:∀{ns:List Int} {us:List Value},Vals (ns.map V.int) us->IntsAre us ns
 | [],_,.nil=>.nil
 | n::_,_,.cons ⟨t,e⟩ q=>by
  subst e;exact .cons n t (pb q)
section
variable {X:Cx}
def Hi:cQ X (.builtin "len") (λxs H Q=>∃ p S n,xs=[.ref p]/\H p=some (.set S n)/\n<=1000/\Q (.int (n:Nat)) H):=by
 intro Px s U H xs us Q I r h;obtain ⟨p,S,n,rfl,hp,hn,q⟩:=h;obtain ⟨u,rfl,rx⟩:=eX r;cases rx
 have ok:s.heap.SetOf (intKind X.prog X.w) p S n:=I.hok p _ hp;obtain ⟨o,ho,hex,es,ep,t,hd,_,_,hm,hf⟩:=ok.objOf;subst hm;exact call_len_set ho hex hd hf (by lia) #[.int _,H,I.tok _,#[_,rfl],q]
end
section
variable {X:Cx}
def Hj:OpR X (compareOp .IsNot) (λx y H Q=>∃ b c,x=.bl b/\y=.bl c/\Q (.bl (b != c)) H):=by
 intro Px s U H x y v u Q I rx ry h;obtain ⟨b,c,rfl,rfl,q⟩:=h;cases rx
 cases ry
 exact isnot_bool #[.bl _,H,I,rfl,q]
end
def Hk:kitO "tuple" "tuple" = some true:=by decide +kernel
end L2
namespace L2
def d3 {i:Nat}{x:V}{U:St}{H:Hp}{A B:St->Hp->Prop}(h:A (U.set i (some x)) H):gI i x U H λU2 H2=>tYes U2 H2 λb H3=>if b=true then A U2 H3 else B U2 H3:=by
 show (if true=true then A (U.set i (some x)) H else B (U.set i (some x)) H)
 rw[aq rfl];exact h
end L2
namespace L2
open PySem PySem.Spec PyProof.Rows
def Bt:∀{bs:List Bool} {us:List Value},Vals (bs.map V.bl) us->us=bs.map Value.bool
 | [],_,.nil=>rfl
 | b::_,_,.cons e q=>by
  have e:_=Value.bool b:=e;rw[e,Bt q];rfl
section
variable {X:Cx}
def vd (hc:X.calm=true):cQ X (.builtin "all") (λxs H Q=>∃(p:Addr) (bs:List Bool),xs=[.ref p]/\SqL X.K H p (bs.map V.bl)/\Q (.bl (bs.all id)) H):=by
 intro Px s U H xs us Q I r h;obtain ⟨p,bs,rfl,hq,q⟩:=h;obtain ⟨u,rfl,rx⟩:=eX r;cases rx
 obtain ⟨its,rv,pl,_⟩:=I.list hq;have e:=Bt rv;subst e;have hl:=pl.isList;have hlt:p<s.heap.objs.size:=by obtain ⟨_,e,_⟩:=hl;exact aT e
 refine call_all_walk (wpAny_pyIter_list hl ?_);refine #[s.heap.objs.size,[s.heap.objs.size,p],[s.heap.objs.size],(bs.map Value.bool).toArray.size,_,_,λi=>(bs[i]?).getD true,rfl,Walks.list (A:=X.A.in1) (I.ok.hd hc) _ p (bL hlt) _,
  #[#[_,bZ _ rfl,rfl,rfl],hl.push _],λi v s' Q' E' hP hQ=>?_,λh' tk hk=>?_]
 .have hP:(bs.map Value.bool)[i]?=some v:=by simpa using hP
  rw[bj]at hP;cases e:bs[i]? with
  | none=>rw[e]at hP;cases hP
  | some b=>
   rw[e]at hP;cases hP
   simp only[e,Option.getD_some]at hQ;exact wpAny_truthy_bool hQ
 .have e:((List.range (bs.map Value.bool).toArray.size).all λi=>(bs[i]?).getD true)=bs.all id:=by
   rw[bO,ai];exact PyProof.Rows.LSm.range_all bs
  rw[e];have kk:∀ b o,s.heap.get? b=some o->h'.get? b=some o:=λb o eb=>hk b o (λhm=>by rw[bP.mp hm]at eb;exact dE _ (aT eb)) (aX _ eb);have I':Inv X Px U H { s with heap:=h',toks:=tk }:=I.kept (t':=tk) kk;exact #[.bl _,H,I',rfl,q]
def Hl (hc:X.calm=true):cQ X (.builtin "sum") (λxs H Q=>∃(p:Addr) (ns:List Int),xs=[.ref p]/\SqL X.K H p (ns.map V.int)/\Q (.int ns.sum) H):=by
 intro Px s U H xs us Q I r h;obtain ⟨p,ns,rfl,hq,q⟩:=h;obtain ⟨u,rfl,rx⟩:=eX r;cases rx
 obtain ⟨its,rv,pl,_⟩:=I.list hq;have hi:=pb rv;obtain ⟨xs,hx⟩:=hi.allInts.items;have hl':s.heap.IsList p (intItems xs):=hx ▸ pl.isList;refine sum_intListG (I.ok.hd hc) hl' λh' tk t' hk=>?_;have e1:ns=xs.toList.map (·.1):=by
  rw[<-nums_intItems,<-hx];exact (show numsOf its.toArray.toList=ns from hi.numsOf).symm
 have e2:preSum (numAt xs) xs.size=ns.sum:=by
  rw[preSum_eq,bA (by simp),e1]
 rw[e2];exact #[.int _,H,Inv.kept (t':=tk) I hk,#[t',rfl],q]
end
section
variable {X:Cx}{K:Frag}
def bH (h:X.K=K:=by rfl):cQ X (.builtin "len") (λxs H Q=>∃ p ys,xs=[.ref p]/\(SqL K H p ys\/SqT K H p ys)/\Q (.int ys.length) H):=by
 subst h;exact Gi
def mr (h:X.K=K:=by rfl):cQ X (.builtin "isinstance") (rIsi K):=by
 subst h;exact GS
def bh (h:X.K=K:=by rfl):IxR X (rIxL K):=by
 subst h;exact F7
def aL (h:X.K=K:=by rfl):IxR X (rIxT K):=by
 subst h;exact Ga
def iN (h:X.K=K:=by rfl):cQ X (.type "list") (λxs H Q=>∃ p ys,xs=[.ref p]/\(SqL K H p ys\/SqT K H p ys)/\∀ l,H l=none->Q (.ref l) (upd H l (.lst ys))):=by
 subst h;exact Gj
end
def ve {c:TT}{tb:TS}{D:Ends}{U:St}{H:Hp}(Pv Pe:St->Hp->Prop)(μ:St->Hp->Nat)(h0:Pv U H)
  (hs:∀ U H,Pv U H->c U H λb H1=>if b=true then tb { D with nx:=λU' H'=>Pv U' H'/\μ U' H'<μ U H,ct:=λU' H'=>Pv U' H'/\μ U' H'<μ U H,bk:=D.nx } U H1 else Pe U H1)
  (mono:∀ U H Q Q',(∀ b H1,Q b H1->Q' b H1)->c U H Q->c U H Q') (he:∀ U H,Pe U H->D.nx U H):uD c tb D U H:=by
 refine Fu Pv μ h0 (λU H p=>mono U H _ _ (λb H1 q=>?_) (hs U H p)) mono;cases b with
 | true=>exact q
 | false=>exact he _ _ q
def vf (c:TT):Prop:=∀ U H Q Q',(∀ b H1,Q b H1->Q' b H1)->c U H Q->c U H Q'
def Bu {a:TT}(ha:vf a)(hb:vf b):vf (tAnd a b):=λU H Q Q' m h=>ha U H _ _ (λc H1 q=>by
 cases c with
 | false=>exact m _ _ q
 | true=>exact hb U H1 Q Q' m q) h
section
variable {X:Cx}{K:Frag}
def vg (h:X.K=K:=by rfl):OpR X (compareOp .In) (rIn K false):=by
 subst h;exact Gg
def pe (h:X.K=K:=by rfl):OpR X (compareOp .NotIn) (rIn K true):=by
 subst h;exact Gh
def vh {k:Nat}{t:TGs}{n:Nat}{pos:Pos}(hc:X.calm=true)(h:PGs X es t)(hK:X.K=K:=by rfl)
  (hn:(assignEach es X.env).length=n:=by rfl) (hst:(assignEach es X.env).findIdx? (·.1)=none:=by rfl):PG X (.Tuple es k pos) (gTup K n t):=by
 subst hK;exact j4 hc h hn hst
def ph (h:X.K=K:=by rfl):SlR X (rSlL K):=by
 subst h;exact Ge
end
def Bw {K:Frag}{a:Addr}{xs ys:List V}{g:TG}{ts:TT}{te:TE}{U:St}{H:Hp}{Q:Hp->Prop}(hlen:xs.length=ys.length)(Pv:Nat->St->Hp->Prop)(h0:Pv 0 U H)(hl:∀ i U H,i<=xs.length->Pv i U H->SqL K H a xs/\SqL K H b ys)
  (hs:∀ i m x y U H r,xs[i]?=some x->ys[i]?=some y->i+m=xs.length->Pv i U H->H r=none->g (.ref r) U (upd H r (.tup [x,y])) λU2 H2=>ts U2 H2 λb H3=>if b=true then te U2 H3 λy H4=>∃ zs,H4 D=some (.lst zs)/\zs.length<sizeLine/\∃ m',m'<m/\(i+1+m'=xs.length/\Pv (i+1) U2 (upd H4 D (.lst (zs++[y])))) else ∃ m',m'<m/\(i+1+m'=xs.length/\Pv (i+1) U2 H3))
  (hd:∀ U H,Pv xs.length U H->Q H) :
  ∃ W:Nat->Nat->St->Hp->Prop,(∃ m,W 0 m U H)/\∀ i m U H,W i m U H->((Itz K a b).stop i H/\Q H)\/((Itz K a b).go i H/\∀ x H',(Itz K a b).yld i H x H'->g x U H' λU2 H2=>ts U2 H2 λb H3=>if b=true then te U2 H3 λy H4=>∃ xs,H4 D=some (.lst xs)/\xs.length<sizeLine/\∃ m',m'<m/\W (i+1) m' U2 (upd H4 D (.lst (xs++[y]))) else ∃ m',m'<m/\W (i+1) m' U2 H3):=by
 refine #[λi m U H=>i+m=xs.length/\Pv i U H,#[xs.length,by lia,h0],λi m U H zq0=>?_];obtain ⟨e,pv⟩:=zq0;obtain ⟨hS,hS'⟩:=hl i U H (by lia) pv;by_cases hi:i<xs.length
 .refine .inr #[#[xs,ys,xs[i],ys[i]'(by lia),hS,hS',aC hi,aC (by lia)],λx H' y=>?_];obtain ⟨p,z,z',rfl,hp,hz,hz',rfl⟩:=y;exact hs i m z z' U H p (hz xs hS) (hz' ys hS') e pv hp
 .have:i=xs.length:=by lia
  subst this;exact .inl #[#[xs,ys,hS,hS',.inl (aj _)],hd U H pv]
section
variable {X:Cx}
def Hm (hc:X.calm=true):cQ X (.builtin "min") (λxs H Q=>∃(p:Addr) (ns:List Int),xs=[.ref p]/\SqL X.K H p (ns.map V.int)/\0<ns.length/\∀ M,M∈ns->(∀ a,a∈ns->M<=a)->Q (.int M) H):=by
 intro Px s U H xs us Q I r h;obtain ⟨p,ns,rfl,hq,hne,q⟩:=h;obtain ⟨u,rfl,rx⟩:=eX r;cases rx
 obtain ⟨its,rv,pl,_⟩:=I.list hq;have hi:=pb rv;obtain ⟨xs,hx⟩:=hi.allInts.items;have hl':s.heap.IsList p (intItems xs):=hx ▸ pl.isList;have e1:ns=xs.toList.map (·.1):=by
  rw[<-nums_intItems,<-hx];exact (show numsOf its.toArray.toList=ns from hi.numsOf).symm
 have hsz:0<xs.size:=by
  rw[e1,ai,ie]at hne;exact hne
 refine min_intList (I.ok.hd hc) hl' hsz λv h' tk hv hk=>?_;obtain ⟨t,rfl⟩:=intItems_at hv;obtain ⟨h1,h2⟩:=argBest_lt (numAt xs) (xs.size-1);refine #[.int _,H,Inv.kept (t':=tk) I hk,#[t,rfl],q _ ?_ λa ha=>?_]
 .rw[e1,numAt_eq];rw[aH,aC (by rw[ai,ie];lia)];exact cE _
 .rw[e1]at ha;obtain ⟨j,hj,rfl⟩:=mem_getD ha;rw[ai,ie]at hj;rw[<-numAt_eq];exact h2 j (by lia)
end
def jy {K:Frag}{a:Addr}{g:TG}{ts:TT}{te:TE}{U:St}{H:Hp}{Q:Hp->Prop}(Pv:Nat->St->Hp->Prop)(h0:Pv 0 U H)(hl:∀ i U H,i<=xs.length->Pv i U H->SqT K H a xs)
  (hs:∀ i m x U H,xs[i]?=some x->i+m=xs.length->Pv i U H->g x U H λU2 H2=>ts U2 H2 λb H3=>if b=true then te U2 H3 λy H4=>∃ zs,H4 D=some (.lst zs)/\zs.length<sizeLine/\∃ m',m'<m/\(i+1+m'=xs.length/\Pv (i+1) U2 (upd H4 D (.lst (zs++[y])))) else ∃ m',m'<m/\(i+1+m'=xs.length/\Pv (i+1) U2 H3))
  (hd:∀ U H,Pv xs.length U H->Q H) :
  ∃ W:Nat->Nat->St->Hp->Prop,(∃ m,W 0 m U H)/\∀ i m U H,W i m U H->((Itt K a).stop i H/\Q H)\/((Itt K a).go i H/\∀ x H',(Itt K a).yld i H x H'->g x U H' λU2 H2=>ts U2 H2 λb H3=>if b=true then te U2 H3 λy H4=>∃ xs,H4 D=some (.lst xs)/\xs.length<sizeLine/\∃ m',m'<m/\W (i+1) m' U2 (upd H4 D (.lst (xs++[y]))) else ∃ m',m'<m/\W (i+1) m' U2 H3):=by
 refine #[λi m U H=>i+m=xs.length/\Pv i U H,#[xs.length,by lia,h0],λi m U H zq0=>?_];obtain ⟨e,pv⟩:=zq0;have hS:=hl i U H (by lia) pv;by_cases hi:i<xs.length
 .refine .inr #[#[xs,xs[i],hS,aC hi],λx H' y=>?_];obtain ⟨e1,y⟩:=y;subst e1;exact hs i m x U _ (y xs hS) e pv
 .have:i=xs.length:=by lia
  subst this;exact .inl #[#[xs,hS,aj _],hd U H pv]
def Itv (K:Frag)(a:Addr)(n:Nat):It:=
 #[λi H=>i<n/\∃ xs,SqL K H a xs/\xs.length=n,λi H x H'=>H'=H/\∀ xs,SqL K H a xs->xs.length=n->xs.reverse[i]?=some x,λi _=>i=n]
def Hn {K:Frag}(a it:Addr)(n:Nat):Turn P w K tg (Itv K a n) [it] it (λi h=>h.IsRevIter it a ((n:Int)-1-(i:Int))) where
 mem:=by simp
 obj:=λi h st b hb=>by
  have e:b=it:=by simpa using hb
  subst e;obtain ⟨o,e,c,d⟩:=st;exact #[o,e,λv z=>by rw[d]at z;cases z]
 keep:=λi h h' st k=>st.at λo e=>k it (by simp) o e
 item:=by
  intro X hP hw hK hc i Px s U H E I hf st hg;subst hP hw hK;obtain ⟨hi,xs,hq,hn⟩:=hg;obtain ⟨its,rv,p,hz⟩:=I.list hq;have hx:xs[n-1-i]?=some (xs[n-1-i]'(by lia)):=aC (by lia);obtain ⟨u,hu,ru⟩:=rv.get hx;obtain ⟨f0,f1,f2,f3,f4,f5⟩:=hf it (by simp);have e1:(n:Int)-1-(i:Int)=((n-1-i:Nat):Int):=by lia
  rw[e1]at st;refine wpAny_pyNext_rev_item st p.isList (x:=u) (by simpa using hu) λh' st' sb=>?_;have e2:((n-1-i:Nat):Int)-1=(n:Int)-1-((i+1:Nat):Int):=by lia
  rw[e2]at st';have I1:Inv X Px U H { s with heap:=h' }:=I.turned (t':=s.toks) (λb o hb e=>(sb.2 b hb).trans e) f0 f1 f3 f4 f5;obtain ⟨o,e,c,d⟩:=id st';refine #[u,rfl,oJ (s:={ s with heap:=h' }) e c d (by decide) #[xs[n-1-i]'(by lia),H,I1,ru,#[rfl,λys hy hyn=>?_],st',λb hb=>(hf b hb).1]];rw[I.list_inj hy hq,uk (by lia),show xs.length-1-i=n-1-i by lia];exact hx
 done:=by
  intro X hP hw hK hc i Px s U H E I hf st hg;subst hP hw hK;have hi:i=n:=hg;subst hi;obtain ⟨f0,f1,f2,f3,f4,f5⟩:=hf it (by simp);have e1:(i:Int)-1-(i:Int) = -1:=by lia
  rw[e1]at st;exact wpAny_pyNext_rev_end (I.ok.hd hc) st λh' eb=>#[rfl,I.turned (t':=s.toks) (λb o hb e=>eb b o hb e) f0 f1 f3 f4 f5]
 self:=λ_ _ _ _ _ st h=>wpAny_pyIter_revIter st h
inductive Bx (K:Frag)(R:It->Hp->Prop)(vs:List V)(H1:Hp):Prop
 | c:∀ a xs,vs=[.ref a]->SqL K H1 a xs->R (Itv K a xs.length) H1->Bx K R vs H1
def iRev (K:Frag)(ta:TA):TI:=λU H R=>ta U H λvs H1=>Bx K R vs H1
section
variable {X:Cx}
def Ho {a:Expr}{p pos:Pos}(hg:Gl X "reversed")(hm:X.mg "reversed" = none)(ha:PA X [a] ta)(hs:starEach [a] X.env=[(false,eval a X.env)]:=by rfl):PI X tg (.Call (.Name "reversed" p) [a] [] pos) (iRev X.K ta):=by
 intro Px s U H R I h;refine Call_ (fV I hg hm boot_reversed (PyProof.Rows.callWith_type1 (thn (ha pos Px s U H _ I h) λus s1 zq0=>?_) hs rfl));obtain ⟨vs,H1,I1,r1,q1⟩:=zq0;obtain ⟨l,xs,e,hq,q⟩:=q1;subst e;cases r1 with
 | cons r rr=>
  cases rr
  cases r
  obtain ⟨its,rv,pl,hz⟩:=I1.list hq;have hl:=rv.length;refine call_reversed_list pl.isList ?_;have I2:Inv X Px U H1 { s1 with heap:=s1.heap.push (revObj l ((its.toArray.size:Int)-1)) }:=I1.kept (t':=s1.toks) λb o e=>aX _ e;have hr:(s1.heap.push (revObj l ((its.toArray.size:Int)-1))).IsRevIter s1.heap.objs.size l (((xs.length:Nat):Int)-1-((0:Nat):Int)):=by
   refine #[_,bZ _ rfl,rfl,?_];have:(its.toArray.size:Int)-1=((xs.length:Nat):Int)-1-((0:Nat):Int):=by
    rw[bO,hl];lia
   rw[this];rfl
  refine wpAny_pyIter_revIter (s:={ s1 with heap:=s1.heap.push (revObj l ((its.toArray.size:Int)-1)) }) hr #[_,[s1.heap.objs.size],_,_,H1,rfl,I2,Hn l s1.heap.objs.size xs.length,hr,λb hb=>?_,q];have e:b=s1.heap.objs.size:=by simpa using hb
  subst e;exact I1.fpOk (aj _) (I1.hok.fresh (aj _))
end
def Hq {K:Frag}{a:Addr}{g:TG}{tb:TS}{D:Ends}{U:St}{H:Hp}(Pv:Nat->St->Hp->Prop)(h0:Pv 0 U H)(hl:∀ i U H,i<=xs.length->Pv i U H->SqL K H a xs)
  (hs:∀ i x U H,xs.reverse[i]?=some x->Pv i U H->g x U H λU2 H2=>tb { D with nx:=Pv (i+1),ct:=Pv (i+1),bk:=D.nx } U2 H2) (hd:∀ U H,Pv xs.length U H->D.nx U H) :
  ∃ W:Nat->Nat->St->Hp->Prop,(∃ m,W 0 m U H)/\∀ i m U H,W i m U H->((Itv K a xs.length).stop i H/\D.nx U H)\/((Itv K a xs.length).go i H/\∃ N:St->Hp->Prop,(∀ U' H',N U' H'->∃ m',m'<m/\W (i+1) m' U' H')/\∀ x H',(Itv K a xs.length).yld i H x H'->g x U H' λU2 H2=>tb { D with nx:=N,ct:=N,bk:=D.nx } U2 H2):=by
 refine #[λi m U H=>i+m=xs.length/\Pv i U H,#[xs.length,by lia,h0],λi m U H zq0=>?_];obtain ⟨e,pv⟩:=zq0;have hS:=hl i U H (by lia) pv;by_cases hi:i<xs.length
 .refine .inr #[#[hi,xs,hS,rfl],Pv (i+1),λU' H' q=>#[m-1,by lia,by lia,q],λx H' y=>?_];obtain ⟨e1,y⟩:=y;subst e1;exact hs i x U _ (y xs hS rfl) pv
 .have:i=xs.length:=by lia
  subst this;exact .inl #[rfl,hd U H pv]
def Hr {k:Key}{u:Value}(h:(bX P w).is k u=true):RelV (kV k) u:=by
 rw[E6]at h;rcases fU h with ⟨i,t,rfl,rfl⟩|⟨x,t,rfl,rfl⟩
 .exact #[t,rfl]
 .exact #[t,rfl]
section
variable {X:Cx}
def Ht (hc:X.calm=true):cQ X (.type "list") (λxs H Q=>∃(p:Addr) (kvs:List (Key×V)),xs=[.ref p]/\H p=some (.dK kvs)/\∀ l,H l=none->Q (.ref l) (upd H l (.lst (kvs.map λkv=>kV kv.1)))):=by
 intro Px s U H xs us Q I r h;obtain ⟨p,kvs,rfl,hq,q⟩:=h;obtain ⟨u,rfl,rx⟩:=eX r;cases rx
 obtain ⟨hz,hne,vs,rel,o,es,ep,h1,h2,h3,h4,h5,h6⟩:=uM I.hok hq;have hlen:kvs.length=vs.length:=rel.length;refine W.kdl_call (W.kdl_dict (knd:=bX X.prog X.w) (kvs:=vs) (ep:=ep) hne) (I.ok.hd hc) #[o,es,h1,h2,h3,h4,h5,h6] (by lia) λh' tk acc c k e hi=>?_;have hv:Vals (kvs.map λkv=>kV kv.1) acc.toList:=by
  obtain ⟨g1,g2⟩:=hi;have key:∀(m:Nat) (kvs:List (Key×V)) (vs:List (Key×Value)) (us:List Value),KV kvs vs->us.length=vs.length->(∀(i:Nat) (v:Value),us[i]?=some v->∃ k x,vs[i]?=some (k,x)/\(bX X.prog X.w).is k v=true)->Vals (kvs.map λkv=>kV kv.1) us:=by
   intro m kvs
   induction kvs with
   | nil=>
    intro vs us r hl _;cases r
    have:us=[]:=nY hl;subst this;exact .nil
   | cons kv kvs ih=>
    intro vs us r hl hh;cases r with
    | cons a b=>
     cases us with
     | nil=>cases hl
     | cons v us=>
      refine .cons ?_ (ih _ us b (Nat.succ.inj hl) λi v e=>?_)
      .obtain ⟨k,x,e1,e2⟩:=hh 0 v rfl;cases e1
       have h9:=Hr e2;have a1:kv.1=k:=a.1;rw[<-a1]at h9;exact h9
      .have:=hh (i+1) v (by simpa using e);simpa using this
  refine key 0 kvs vs acc.toList rel (by rw[ie];exact g1) λi v e=>?_;exact g2 i v (by rw[<-um];exact e)
 refine #[.ref s.heap.objs.size,_,I.laid (a:=s.heap.objs.size) (o:=.lst (kvs.map λkv=>kV kv.1)) (t':=tk) k (aj _) #[?_,acc.toList,c,hv,by rw[n9];exact e],rfl,q _ (I.hok.fresh (aj _))];rw[ai];lia
end
inductive By (K:Frag)(R:It->Hp->Prop)(x:V)(H1:Hp):Prop
 | c:∀ a,x=.ref a->((∃ xs,SqL K H1 a xs)/\R (Itl K a) H1\/(∃ xs,SqT K H1 a xs)/\R (Itt K a) H1)->By K R x H1
def iSeq (K:Frag)(tl:TE):TI:=λU H R=>tl U H λx H1=>By K R x H1
section
variable {X:Cx}{tg:Expr}
def Hu (hl:PE X l tl):PI X tg l (iSeq X.K tl):=by
 intro Px s U H R I h;refine thn (hl Px s U H _ I h) λv s1 zq0=>?_;obtain ⟨x,H1,I1,r1,a,e,q1⟩:=zq0;subst e;cases r1
 have new:∀ b∈[s1.heap.objs.size],FpOk X Px H1 b:=λb hb=>by
  rw[bP.mp hb];exact I1.fpOk (aj _) (I1.hok.fresh (aj _))
 rcases q1 with ⟨⟨xs,hq⟩,q⟩|⟨⟨xs,hq⟩,q⟩
 .obtain ⟨its,rv,p,hz⟩:=I1.list hq;exact wpAny_pyIter_list p.isList #[s1.heap.objs.size,[s1.heap.objs.size],_,_,H1,rfl,Inv.kept (t':=s1.toks) I1 (λb o e=>aX _ e),zP a _,#[_,bZ _ rfl,rfl,rfl],new,q]
 .obtain ⟨its,rv,p,hz⟩:=I1.tuple hq;exact wpAny_pyIter_tuple (show s1.heap.IsTuple a its.toArray from p) #[s1.heap.objs.size,[s1.heap.objs.size],_,_,H1,rfl,Inv.kept (t':=s1.toks) I1 (λb o e=>aX _ e),zQ a _,#[_,bZ _ rfl,rfl,rfl],new,q]
end
section
variable {prog:Program}{w:World}{A:Around}{E:Value->Shared->Prop}{s:Shared}
def Hv {l:Addr}{vs:List Value}{Q:List Value->Shared->Prop}(hl:s.heap.IsTuple l vs.toArray)
  (h:Q vs { s with heap:=(s.heap.push (seqObj "list" (List.toArray []) 0)).update s.heap.objs.size (Obj.mapSeq (· ++ vs.toArray)) }) (hsz:vs.length<=sizeLine):wpAny (model prog w) A (collect (.ref l)) Q E s:=by
 obtain ⟨o,ho,hc,n,hd⟩:=id hl;unfold collect;refine ay (wpAny_runValue (codeAny_builtin entry_proto_collect' ?_));show wpAny _ _ (do again (.builtin "list.__iadd__" #[[<-newList [],.ref l],[]])) _ _ s
 refine ay (wpAny_newList (aS #[Code.quiet_builtin _ (by decide +kernel),codeAny_builtin entry_list_iadd' ?_]));show wpAny _ _ (Builtin.List.listExtendWith (.ref s.heap.objs.size) (.ref l) (.ref s.heap.objs.size)) _ _ { s with heap:=s.heap.push (seqObj "list" (List.toArray []) 0) };unfold Builtin.List.listExtendWith;have there:(s.heap.push (seqObj "list" (List.toArray []) 0)).get? l=some o:=aX _ ho;refine ay (wpAny_typeOf (T := "tuple") #[o,there,hc] ?_);have ht:(Value.type "tuple" == Value.type "tuple")=true:=rfl;rw[aq (by rw[ht,Bool.or_true])];refine ay (listItems_at there hd ?_);refine ay (listItems_at (xs:=(List.toArray [])) (n:=0) (bZ _ rfl) rfl ?_);rw[ak (by simp)];have fits:((List.toArray [])++vs.toArray).size<=sizeLine+1:=by
  simp only[Array.size_append,bO,gC];lia
 refine ay (listUpdate_at (xs:=(List.toArray [])) (n:=0) (bZ _ rfl) rfl ?_ (cf _) fits);refine aS ?_;show wpAny (model prog w) A (load s.heap.objs.size >>= λo=>match o.data with|.seq xs _=>pure xs.toList|_=>unsupported "internal:collect") Q E { s with heap:=(s.heap.push (seqObj "list" (List.toArray []) 0)).update s.heap.objs.size (Obj.mapSeq (· ++ vs.toArray)) }
 refine ay (wpAny_load (get?_update_seq (bZ _ rfl) _) ?_);show wpAny _ _ (pure (((List.toArray []):Array Value)++vs.toArray).toList) Q E _;have e0:(((List.toArray []):Array Value)++vs.toArray).toList=vs:=by simp
 rw[e0];exact aS h
end
section
variable {prog:Program}{w:World}{A:Around}{E:Value->Shared->Prop}{s:Shared}
def Hw:isSubtype (.type "tuple") (.type "set")=pure false:=by rw[isSubtype_type];kernel_rfl
def Hx:isSubtype (.type "tuple") (.type "frozenset")=pure false:=by rw[isSubtype_type];kernel_rfl
abbrev gP (led:Bool):Obj:={ cls:=.type "set",dict:=none,data:=.set (List.toArray []) 0 (.fresh 0 0 led) }
set_option maxRecDepth 100000 in
set_option maxHeartbeats 3200000 in
def Hy {l:Addr}{items:Array Value}{ns:List Int}{Q:Value->Shared->Prop}(hh:A.handled=none)(hl:s.heap.IsTuple l items)(hi:IntsAre items.toList ns)(hb:items.size+1<scanBound)
  (h:∀(h':Heap) (tk:Nat),h'.SetOf (intKind prog w) s.heap.objs.size (λk'=>(firstMet (λi=>ns.getD i 0) items.size).any (· == k')) (firstMet (λi=>ns.getD i 0) items.size).length->
   (∀ b o,b<s.heap.objs.size->s.heap.get? b=some o->h'.get? b=some o)->Q (.ref s.heap.objs.size) { s with heap:=h',toks:=tk }) :
  wpAny (model prog w) A (call (.type "set") [.ref l]) Q E s:=by
 obtain ⟨c,tl,hmro⟩:=F.called_set.mro;have hmade:=F.called_set.made;have hsub:=F.called_set.sub;refine wpAny_call (codeAny_of_tree ?_);show wpAny _ _ (callAny (.type "set") _) _ _ _;refine aS #[Code.quiet_builtin _ (by decide +kernel),codeAny_builtin F.entry_type_call ?_];rw[Around.under_plain (weight_type_call_type "set" [.ref l] []) rfl];have h1:=F.called_set.notType;have h2:=F.called_set.canCreate;have hct:=F.typeCall_set_1 (.ref l)
 repeat (any_goals (first|assumption|wp_step))
 refine codeAny_mono (code_set_new_1 (.ref l) (E:=E) (Q₁:=λobj s₁=>∃ led:Bool,obj=.ref s.heap.objs.size/\s₁={ s with heap:=s.heap.push (gP led) }) λled=>#[led,rfl,rfl]) λr s₁ hr=>?_;cases r with
 | error e=>exact hr
 | ok fl=>
  cases fl with
  | ret obj=>
   obtain ⟨led,rfl,rfl⟩:=hr;have hS:(s.heap.push (gP led)).get? s.heap.objs.size=some (gP led):=bZ _ rfl;have hT:Shared.TypeIs { s with heap:=s.heap.push (gP led) } (.ref s.heap.objs.size) "set":=#[_,hS,rfl];have hli:=F.called_set.init.lookup;have hbi:=F.called_set.init.bind (.ref s.heap.objs.size)
   repeat (any_goals (first|assumption|wp_step))
   refine codeAny_mono (codeAny_call_builtin (R:=wants (λr s₂=>r=.none/\∃ h' tk,s₂={ s with heap:=h',toks:=tk }/\
     h'.SetOf (intKind prog w) s.heap.objs.size (λk'=>(firstMet (λi=>ns.getD i 0) items.size).any (· == k')) (firstMet (λi=>ns.getD i 0) items.size).length/\
     (∀ b o,b<s.heap.objs.size->s.heap.get? b=some o->h'.get? b=some o)) E) F.called_set.init.plain F.entry_set_init (check_set_init_1 hT ?_)) λr₂ s₂ hr₂=>?_
   .obtain ⟨ol,hol,hcl,nl,hdl⟩:=hl;obtain ⟨ocls,odict,odata,oslots⟩:=ol;simp only at hcl hdl;subst hcl;subst hdl;have there:(s.heap.push (gP led)).get? l=some { cls:=.type "tuple",dict:=odict,data:=.seq items nl,slots:=oslots }:=aX _ hol;have hsls:=Hw;have hslf:=Hx;have hne:(Value.type "tuple" == Value.type "dict")=false:=by decide
    have hl1:(s.heap.push (gP led)).IsTuple l items:=#[_,there,rfl,nl,rfl];unfold Builtin.«set.__init__» noKeywords Builtin.Frozenset.updateFrom;generalize hPI:pyIter=PI
    wp_walk
    subst hPI;refine wpAny_pyIter_tuple hl1 ?_;refine ay (wpAny_runValue ?_);have hlS:l<s.heap.objs.size:=aT hol;have h3:A.in1.in1.in1.handled=none:=by simp[hh]
    have hsz:(s.heap.push (gP led)).objs.size=s.heap.objs.size+1:=lN ..;have hneI:l≠(s.heap.push (gP led)).objs.size:=by
     rw[hsz];exact bL (Nat.lt_succ_of_lt hlS)
    have hSf:s.heap.objs.size∉[(s.heap.push (gP led)).objs.size,l]:=by
     rw[hsz];simp only[aW,bR,or_false,not_or];exact #[bL (lP _),ig hlS]
    have hval:∀(i:Nat) (v:Value),items[i]?=some v->∃ t,v=.int ((λi=>ns.getD i 0) i) t:=λi v hv=>
     IntsAre.int_at hi i v (by rw[um];exact hv)
    refine codeAny_set_update_loopS ((Walks.tuple h3 _ l hneI items).toS) s.heap.objs.size
     hSf (λi=>ns.getD i 0) hval hb (items.size-0) 0 _ (by lia) (cf _)
     #[#[_,bZ _ rfl,rfl,rfl],(hl1.push _)] ?hS0 ?hR
    case hS0=>
     exact SetOf_congr ((setObjOf_fresh (knd:=intKind prog w) led).setOf (aX _ hS) (by unfold scanBound;lia)) (λ_=>rfl) rfl
    case hR=>
     intro s' hm hS';obtain ⟨h',g',d',tk',os'⟩:=s';have eg:g'=s.gens:=hm.gens;have ed:d'=s.drawn:=hm.drawn;have eo:os'=s.os:=hm.os;subst eg;subst ed;subst eo;show wpAny _ _ _ _ _ _;refine aS ?_;show wpAny _ _ (ret Value.none) _ _ _;refine aS #[rfl,h',tk',rfl,hS',λb o hb e=>?_];refine hm.heap b o ?_ (aX _ (aX _ e));rw[hsz];simp only[aW,bR,or_false,not_or];exact #[bL hb,bL (Nat.lt_succ_of_lt hb)]
   .cases r₂ with
    | error e=>exact hr₂
    | ok fl₂=>
     cases fl₂ with
     | ret r=>
      obtain ⟨rfl,h',tk,rfl,hS',hk'⟩:=hr₂
      repeat (any_goals (first|assumption|wp_step))
      exact h _ _ hS' hk'
     | _=>exact hr₂.elim
  | _=>exact hr.elim
end
section
variable {X:Cx}
inductive Bz (K:Frag)(xs:List V)(H:Hp)(Q:VK):Prop
 | c:∀(p:Addr) (ns:List Int),xs=[.ref p]->SqT K H p (ns.map V.int)->ns.length<=1000->(∀ l,H l=none->Q (.ref l) (upd H l (.set (λk=>(metI ns).any (· == k)) (metI ns).length)))->Bz K xs H Q
def Hz (hc:X.calm=true):cQ X (.type "set") (Bz X.K):=by
 intro Px s U H xs us Q I r h;obtain ⟨p,ns,rfl,hq,hz,q⟩:=h;obtain ⟨u,rfl,rx⟩:=eX r;cases rx
 obtain ⟨its,rv,pl,_⟩:=I.tuple hq;have hl:=rv.length;rw[ai]at hl;refine Hy (ns:=ns) (I.ok.hd hc) (show s.heap.IsTuple p its.toArray from pl) (by simpa using pb rv) (by unfold scanBound;simp only[bO];lia) λh' tk hS hk=>?_;have e:its.toArray.size=ns.length:=by simp only[bO];lia
 rw[e]at hS;exact #[.ref s.heap.objs.size,_,I.laid (a:=s.heap.objs.size) (o:=.set _ _) (t':=tk) (λb o eb=>hk b o (aT eb) eb) (aj _) hS,rfl,q _ (I.hok.fresh (aj _))]
def vi:cQ X (.builtin "isinstance") (λxs H Q=>∃ a p,xs=[.ref a,.ref p]/\H p=some (.tup [.ty "list",.ty "tuple"])/\((∃ ys,H a=some (.lst ys))\/∃ ys,H a=some (.tup ys))/\Q (.bl true) H):=by
 intro Px s U H xs us Q I r h;obtain ⟨a,p,rfl,hp,ha,q⟩:=h;obtain ⟨u,w',rfl,r1,r2⟩:=fX r;cases r1
 cases r2
 obtain ⟨_,its,rv,⟨oc,od,odt,osl⟩,h1,h2,n,h3⟩:=(show bN X.prog X.w H s.heap p (.tup [.ty "list",.ty "tuple"]) from I.hok p _ hp);have h2:oc=.type "tuple":=h2;have h3:odt=.seq its.toArray n:=h3;subst h2 h3;obtain ⟨c1,c2,rfl,e1,e2⟩:=fX rv;have e1:c1=.type "list":=e1;have e2:c2=.type "tuple":=e2;subst e1 e2;have fin:∀ tk,EP X Px U Q (Value.bool true) { s with toks:=tk }:=λtk=>#[.bl true,H,I.tok tk,rfl,q];rcases ha with ⟨ys,ha⟩|⟨ys,ha⟩
 .obtain ⟨_,_,n,_,g1⟩:=(show bN X.prog X.w H s.heap a (.lst ys) from I.hok a _ ha);exact W.kia_tup W.kitx_list I.kIn #[_,g1,rfl] h1 (b:=true) (by rfl) nofun fin
 .obtain ⟨_,_,_,o,g1,g2,_⟩:=(show bN X.prog X.w H s.heap a (.tup ys) from I.hok a _ ha);exact W.kia_tup W.kitx_tuple I.kIn #[o,g1,g2] h1 (b:=true) (by rfl) nofun fin
end
end L2
namespace HT
open PySem PySem.Spec PyProof.Rows
section
variable {prog:Program}{w:World}{A:Around}{E:Value->Shared->Prop}{s:Shared}
def getItem_tuple_all {t sl:Addr}{items:Array Value}{vl vu:Value}{lo hi:Option Int}{Q:Value->Shared->Prop}(ht:IsTup s.heap t items)(hs:s.heap.IsSliceOf sl vl vu .none)(pl:IsPart vl lo)(pu:IsPart vu hi)
  (hw:sIx items.size 0 lo=0/\sIx items.size items.size hi=items.size) (h:Q (.ref t) s):wpAny (model prog w) A (getItem (.ref t) (.ref sl)) Q E s:=by
 obtain ⟨os,hos,hcs,hds⟩:=id hs;have hTs:s.TypeIs (.ref sl) "slice":=#[os,hos,hcs];unfold getItem
 try with_reducible refine wpAny_holding ?_
 first|refine ay (aS ?_)|skip
 refine ay (wpAny_sequenceKey ht.typeIs (by decide) ?_);refine ay (wpAny_callSpecial?_slot (name:=Str.ofString "__getitem__") ht.typeIs PyProof.Rows.slot_tuple_getitem (wpAny_call_entry PyProof.Rows.slot_tuple_getitem ht.typeIs entry_tuple_getitem ?_ (args_tuple_getitem _ _)));show wpAny _ _ (Builtin.Tuple.tupleItemsOf (.ref t) >>= _) _ _ s;refine ay (tupleItemsOf_ ht ?_);refine ay (wpAny_typeOf hTs ?_);rw[aq (by decide)];refine ay (Ay hs pl pu ?_);have yes:(((sIx items.size 0 lo:Nat):Int)==0&&(1:Int)==1&&(sIx items.size items.size hi-sIx items.size 0 lo)==items.size)=true:=by
  rw[hw.1,hw.2];simp
 show wpAny _ _ (if (((sIx items.size 0 lo:Nat):Int)==0&&(1:Int)==1&&(sIx items.size items.size hi-sIx items.size 0 lo)==items.size)=true then _ else _) _ _ s
 rw[aq yes];refine ay ?_;unfold Builtin.Tuple.tupleIsExact;refine ay (wpAny_typeOf ht.typeIs ?_);refine aS ?_;rw[aq (by decide)];exact ay (wpAny_rule (aS #[_,rfl,aS h]))
end
end HT
namespace L2
open PySem PySem.Spec PyProof.Rows
section
variable {X:Cx}
inductive rSlX (K:Frag)(x:V)(lo:Option Int)(hi:Option Int)(H:Hp)(Q:VK):Prop
 | c:∀ a xs,x=.ref a->SqT K H a xs->((HT.sIx xs.length 0 lo=0/\HT.sIx xs.length xs.length hi=xs.length)->Q (.ref a) H)->(¬ (HT.sIx xs.length 0 lo=0/\HT.sIx xs.length xs.length hi=xs.length)->∀ p,H p=none->Q (.ref p) (upd H p (.tup (cutV xs lo hi))))->rSlX K x lo hi H Q
def HF:SlR X (rSlX X.K):=by
 intro Px s U H x v vl vu lo hi sl Q I rx hs pl pu h;obtain ⟨a,xs,e,hx,q1,q2⟩:=h;by_cases hw:HT.sIx xs.length 0 lo=0/\HT.sIx xs.length xs.length hi=xs.length
 .subst e;cases rx
  obtain ⟨its,r,ht,hz⟩:=I.tuple hx;have hlen:its.toArray.size=xs.length:=by rw[bO];exact r.length.symm
  refine #["tuple",_,PyProof.Rows.slot_tuple_getitem.lookup,ht.typeIs,?_];exact HT.getItem_tuple_all ht hs pl pu (by rw[hlen];exact hw) #[.ref a,H,I,rfl,q1 hw]
 .exact F1 Px s U H x v vl vu lo hi sl Q I rx hs pl pu #[a,xs,e,hx,hw,q2 hw]
def j9 {K:Frag}(h:X.K=K:=by rfl):SlR X (rSlX K):=by
 subst h;exact HF
inductive vj (K:Frag)(x:V)(y:V)(H:Hp)(Q:VK):Prop
 | c:∀ a b xs ys,x=.ref a->y=.ref b->SqT K H a xs->SqT K H b ys->ys≠[]->xs.length+ys.length<=sizeLine->(xs=[]->Q (.ref b) H)->(xs≠[]->∀ p,H p=none->Q (.ref p) (upd H p (.tup (xs++ys))))->vj K x y H Q
def vk:OpR X (binaryOp .Add) (vj X.K):=by
 intro Px s U H x y v u Q I rx ry h;obtain ⟨a,b,xs,ys,e1,e2,ha,hb,hy,hz,q1,q2⟩:=h;by_cases hx:xs=[]
 .subst e1 e2;cases rx
  cases ry
  obtain ⟨its,r1,p1,_⟩:=I.tuple ha;obtain ⟨its2,r2,p2,_⟩:=I.tuple hb;obtain ⟨⟨cls,dd,data,sl⟩,ho,hc,n,hd⟩:=id p1;obtain ⟨⟨cls2,dd2,data2,sl2⟩,ho2,hc2,n2,hd2⟩:=id p2;simp only at hc hd hc2 hd2;subst hc hd hc2 hd2;have hv:its=[]:=r1.nil_iff.mpr hx;exact concat_meets #[_,ho,rfl] #[_,ho2,rfl] noFill_tuple_add seq_tuple_add PySem.F.slot_tuple_add PySem.F.entry_tuple_add (PySem.F.args_tuple_add_2 _ _)
   (tuple_addW0 a b its.toArray its2.toArray n n2 dd dd2 sl sl2 (by simp[hv])) #[ho,ho2,.ref b,H,I,rfl,q1 hx]
 .exact oT Px s U H x y v u Q I rx ry #[a,b,xs,ys,e1,e2,ha,hb,hx,hz,λz=>absurd z hy,λ_=>q2 hx]
end
end L2
namespace L2
open PySem PySem.Spec PyProof.Rows PySem.SeqAt
def hasO (o:Option Int)(v:V):Prop:=match o with
 | none=>v=.non
 | some i=>v=.int i
instance:Rep (Option Int) where
 dec:=inferInstance
 depth:=0
 has:=λ_ _ o v=>hasO o v
 mono:=λ_ h=>h
 inj:=λ{_ _ _ _ _ a b v} _ h1 h2=>by
  cases a<;>cases b
  .rfl
  .have h1:v=.non:=h1;have h2:v=.int _:=h2;rw[h1]at h2;cases h2
  .have h1:v=.int _:=h1;have h2:v=.non:=h2;rw[h1]at h2;cases h2
  .have h1:v=.int _:=h1;have h2:v=.int _:=h2;rw[V.int.inj (h1.symm.trans h2)]
 rc:=λ{_ _ _ _ _ _ a b x y u v} _ _ h1 h2 r1 r2=>by
  cases a with
  | none=>
   have h1:x=.non:=h1;subst h1;obtain rfl:u=.none:=r1;cases b with
   | none=>
    have h2:y=.non:=h2;subst h2;obtain rfl:v=.none:=r2;exact RcAt.none_none
   | some j=>
    have h2:y=.int j:=h2;subst h2;obtain ⟨t,rfl⟩:=r2;exact RcAt.none_int _ _
  | some i=>
   have h1:x=.int i:=h1;subst h1;obtain ⟨t,rfl⟩:=r1;cases b with
   | none=>
    have h2:y=.non:=h2;subst h2;obtain rfl:v=.none:=r2;exact RcAt.int_none _ _
   | some j=>
    have h2:y=.int j:=h2;subst h2;obtain ⟨t',rfl⟩:=r2;have e:decide (some i=some j)=(i==j):=by
     by_cases z:i=j
     .subst z;simp
     .rw[aU (λq=>z (aM q)),beq_eq_false_iff_ne.mpr z]
    have:=RcAt.int_int (A:=‹Around›) (s:=‹Shared›) i t j t';rw[<-e]at this;exact this
 rn:=λ{_ _ _ _ _ _ a b x y u v} _ _ h1 h2 r1 r2=>by
  cases a with
  | none=>
   have h1:x=.non:=h1;subst h1;obtain rfl:u=.none:=r1;cases b with
   | none=>
    have h2:y=.non:=h2;subst h2;obtain rfl:v=.none:=r2;exact RcNeAt.none_none
   | some j=>
    have h2:y=.int j:=h2;subst h2;obtain ⟨t,rfl⟩:=r2;exact RcNeAt.none_int _ _
  | some i=>
   have h1:x=.int i:=h1;subst h1;obtain ⟨t,rfl⟩:=r1;cases b with
   | none=>
    have h2:y=.non:=h2;subst h2;obtain rfl:v=.none:=r2;exact RcNeAt.int_none _ _
   | some j=>
    have h2:y=.int j:=h2;subst h2;obtain ⟨t',rfl⟩:=r2;have e:decide (some i=some j)=(i==j):=by
     by_cases z:i=j
     .subst z;simp
     .rw[aU (λq=>z (aM q)),beq_eq_false_iff_ne.mpr z]
    have:=RcNeAt.int_int (A:=‹Around›) (s:=‹Shared›) i t j t';rw[<-e]at this;exact this
 eq:=λ{_ _ _ _ _ _ a b x y u v} _ _ h1 h2 r1 r2=>by
  cases a with
  | none=>
   have h1:x=.non:=h1;subst h1;obtain rfl:u=.none:=r1;cases b with
   | none=>
    have h2:y=.non:=h2;subst h2;obtain rfl:v=.none:=r2;exact EqAt.same _
   | some j=>
    have h2:y=.int j:=h2;subst h2;obtain ⟨t,rfl⟩:=r2;exact EqAt.none_int _ _
  | some i=>
   have h1:x=.int i:=h1;subst h1;obtain ⟨t,rfl⟩:=r1;cases b with
   | none=>
    have h2:y=.non:=h2;subst h2;obtain rfl:v=.none:=r2;exact EqAt.int_none _ _
   | some j=>
    have h2:y=.int j:=h2;subst h2;obtain ⟨t',rfl⟩:=r2;have e:decide (some i=some j)=(i==j):=by
     by_cases z:i=j
     .subst z;simp
     .rw[aU (λq=>z (aM q)),beq_eq_false_iff_ne.mpr z]
    have:=EqAt.int_int (A:=‹Around›) (s:=‹Shared›) i t j t';rw[<-e]at this;exact this
structure Tup (α:Type) where
 l:List α
def Tup.ext' {α:Type}{a b:Tup α}(h:a.l=b.l):a=b:=by
 cases a
 cases b
 cases h
 rfl
instance {α:Type} [DecidableEq α]:DecidableEq (Tup α):=λa b=>if h:a.l=b.l then .isTrue (Tup.ext' h) else .isFalse λz=>h (by rw[z])
inductive hasT {α:Type}[Rep α](K:Frag)(H:Hp)(t:Tup α)(v:V):Prop
 | c:∀ a xs,v=.ref a->SqT K H a xs->aA K H t.l xs->hasT K H t v
section
variable {α:Type}[r:Rep α]{X:Cx}{Px:List (Addr×Obj)}{U:St}{H:Hp}{s:Shared}{A:Around}{as bs:Tup α}{x y:V}{u v:Value}
def BD (I:Inv X Px U H s)(h1:hasT X.K H as x)(h2:hasT X.K H bs x):as=bs:=by
 obtain ⟨a,xs,rfl,q1,h1⟩:=h1;obtain ⟨b,ys,e,q2,h2⟩:=h2;cases e
 rw[I.tuple_inj q2 q1]at h2;exact Tup.ext' (h1.inj I h2)
def BE {as bs:List α}(n m:Nat)(hn:as.length=n)(hm:bs.length=m):((List.range (min n m)).all (λj=>decide (as[j]?=bs[j]?))&&n==m)=decide (as=bs):=by
 by_cases hl:as.length=bs.length
 .have e:=uV as bs hl;have z:min n m=as.length:=by lia
  rw[z,e,beq_iff_eq.mpr (by lia:n=m),nW]
 .rw[aU (λz=>hl (by rw[z])),beq_eq_false_iff_ne.mpr (by lia:n≠m),jc]
def BF:decide (as=bs)=decide (as.l=bs.l):=by
 by_cases h:as.l=bs.l
 .rw[aO h,aO (Tup.ext' h)]
 .rw[aU h,aU (λz=>h (by rw[z]))]
def BG (I:Inv X Px U H s)(hu:A.units+(Rep.depth α+1)<cLine)(h1:hasT X.K H as x)(h2:hasT X.K H bs y)(r1:RelV x u)(r2:RelV y v):RcAt A s u v (decide (as=bs)):=by
 obtain ⟨a,xs,rfl,q1,h1⟩:=h1;obtain ⟨b,ys,rfl,q2,h2⟩:=h2;cases r1
 cases r2
 obtain ⟨us,ru,pu,_⟩:=I.tuple q1;obtain ⟨vs,rv,pv,_⟩:=I.tuple q2;have l1:=ru.length;have l2:=rv.length;have m1:=h1.length;have m2:=h2.length;have hin:A.in1.units+Rep.depth α<cLine:=eF (iq iK _) (by lia);have:=RcAt.tuples (A:=A) (s:=s) (l:=a) (b:=b) (items:=us.toArray) (items2:=vs.toArray) (e:=λj=>decide (as.l[j]?=bs.l[j]?)) pu pv (by lia) (oY I hin h1 h2 ru rv);rw[BE (as:=as.l) (bs:=bs.l) us.toArray.size vs.toArray.size (by simp;lia) (by simp;lia),<-BF]at this;exact this
def HG (I:Inv X Px U H s)(hu:A.units+(Rep.depth α+1)<cLine)(h1:hasT X.K H as x)(h2:hasT X.K H bs y)(r1:RelV x u)(r2:RelV y v):RcNeAt A s u v (!decide (as=bs)):=by
 obtain ⟨a,xs,rfl,q1,h1⟩:=h1;obtain ⟨b,ys,rfl,q2,h2⟩:=h2;cases r1
 cases r2
 obtain ⟨us,ru,pu,_⟩:=I.tuple q1;obtain ⟨vs,rv,pv,_⟩:=I.tuple q2;have l1:=ru.length;have l2:=rv.length;have m1:=h1.length;have m2:=h2.length;have hin:A.in1.units+Rep.depth α<cLine:=eF (iq iK _) (by lia);have:=RcNeAt.tuples (A:=A) (s:=s) (l:=a) (b:=b) (items:=us.toArray) (items2:=vs.toArray) (e:=λj=>decide (as.l[j]?=bs.l[j]?)) pu pv (by lia) (oY I hin h1 h2 ru rv);rw[BE (as:=as.l) (bs:=bs.l) us.toArray.size vs.toArray.size (by simp;lia) (by simp;lia),<-BF]at this;exact this
def HI (I:Inv X Px U H s)(hu:A.units+(Rep.depth α+1)<cLine)(h1:hasT X.K H as x)(h2:hasT X.K H bs y)(r1:RelV x u)(r2:RelV y v):EqAt A s u v (decide (as=bs)):=by
 have rc:=BG (A:=A) I hu h1 h2 r1 r2;have h1':=id h1;have h2':=id h2;obtain ⟨a,xs,rfl,q1,h1⟩:=h1;obtain ⟨b,ys,rfl,q2,h2⟩:=h2;cases r1
 cases r2
 by_cases hab:a=b
 .subst hab;rw[aO (BD I h1' h2')];exact EqAt.same _
 .exact EqAt.of_refs hab rc
end
instance {α:Type} [Rep α]:Rep (Tup α) where
 dec:=inferInstance
 depth:=Rep.depth α+1
 has:=hasT
 mono:=λe ⟨a,xs,h1,h2,h3⟩=>#[a,xs,h1,h2.ext e,h3.mono e]
 inj:=λI h1 h2=>BD I h1 h2
 rc:=λI hu h1 h2 r1 r2=>BG I hu h1 h2 r1 r2
 rn:=λI hu h1 h2 r1 r2=>HG I hu h1 h2 r1 r2
 eq:=λI hu h1 h2 r1 r2=>HI I hu h1 h2 r1 r2
end L2
namespace L2
open PySem PySem.Spec PyProof.Rows
section
variable {X:Cx}{K:Frag}
def gQ (h:X.K=K:=by rfl):cQ X (.type "tuple") (λxs H Q=>∃ p ys,xs=[V.ref p]/\((SqL K H p ys/\∀ l,H l=none->Q (.ref l) (upd H l (.tup ys)))\/(SqT K H p ys/\Q (.ref p) H))):=by
 subst h;exact Gk
end
structure vm (scope:Scope)(ps caps:List Str):Prop where
 kind:scope.kind=.function
 co:scope.isCoroutine=false
 gen:scope.isGenerator=false
 nocell:∀ x∈scope.names,x.2≠.cell
 par:∀ x∈ps,scope.names.lookup x=some .local
 cap:∀ x∈caps,scope.names.lookup x=some .free
 nd:(ps++caps).Nodup
def gb (P:Program)(w:World)(K:Frag)(mg:Str->Option Value)(base:Heap)(N:List Str)(qual:Str)(scope:Scope)(f:Addr)(cd:Value)(cl:List (Str×Addr))(A:Around)(outer:List Env)(s:Shared)(H:Hp):Cx where
 prog:=P
 w:=w
 K:=K
 mg:=mg
 base:=base
 A:=A.deeper (W.envX qual scope s.heap.objs.size f cd cl)
 N:=N
 s₀:=s
 H₀:=H
 env:=W.envX qual scope s.heap.objs.size f cd cl
 outer:=outer
 stack:=W.envX qual scope s.heap.objs.size f cd cl::outer
 ex:=[]
 calm:=true
 fn:=λ_=>false
 pn:=[]
 xe:=λ_ _=>False
def ka (c:Addr)(q:Str):Heap->Prop:=λh=>h.CodeRec (.ref c) q
def gc (H:Hp)(c:Addr)(q:Str):Prop:=H c=some (.ext (ka c q))
def HJ (h1 h2:Heap)(x:ka c q h1)(k:∀ o,h1.get? c=some o->h2.get? c=some o):ka c q h2:=by
 obtain ⟨c',o,vs,t,e,ho,r⟩:=x;cases e
 exact #[c,o,vs,t,rfl,k o ho,r]
def gc.rec {w:World}{h:Heap}{c:Addr}(x:gc H c q)(ok:HOk P w H h):h.CodeRec (.ref c) q:=(ok c _ x).1
def BH {x:Str}{u:Value}:∀{ps:List Str} {us:List Value} {i:Nat},ps.Nodup->ps[i]?=some x->us[i]?=some u->(ps.zip us).reverse.lookup x=some u
 | [],_,_,_,e,_=>by simp at e
 | _::_,[],_,_,_,e=>by simp at e
 | p::ps,v::us,0,hn,e1,e2=>by
  have e1:p=x:=by simpa using e1
  have e2:v=u:=by simpa using e2
  subst e1 e2;rw[uh,oa,List.lookup_append];have z:(ps.zip us).reverse.lookup p=none:=by
   rw[List.lookup_eq_none_iff];intro y hy;have:=lQ (lS.mp hy);simp only[beq_eq_false_iff_ne,ne_eq,bne_iff_ne];intro q;rw[cZ]at hn
   first
    | exact hn.1 (q ▸ this.1)
    | (rw[q]at hn;exact hn.1 this.1)
  rw[z];simp
 | p::ps,v::us,i+1,hn,e1,e2=>by
  rw[cZ]at hn;have ih:=BH (ps:=ps) (us:=us) (i:=i) hn.2 (by simpa using e1) (by simpa using e2);rw[uh,oa,List.lookup_append,ih];rfl
inductive iO (n:Nat)(tb:TE)(vcs:List V)(c:Addr)(q:Str)(vs:List V)(H:Hp)(Q:VK)(w_1:XK):Prop
 | c:vs.length=n->gc H c q->tb (vs.map some++vcs.map some) H Q->iO n tb vcs c q vs H Q w_1
def BI {K:Frag}{base:Heap}{k:Nat}{f c:Addr}{name qual:Str}{params:Arguments}{body:Expr}{cl:List (Str×Addr)}{pm ctv:Value}{vcs:List V}
  (S:vm scope ps caps) (hf:base.get? f=some (W.kla_obj name qual params body scope cl pm c ctv)) (hlen:vcs.length=caps.length)
  (hcap:∀(j:Nat) (x:Str) (v:V),caps[j]?=some x->vcs[j]?=some v->∃ a u,cl.lookup x=some a/\base.IsCell a (some u)/\RelV v u)
  (hcell:∀ x a,cl.lookup x=some a->∃ v,base.IsCell a v) (hinj:∀ x y a,cl.lookup x=some a->cl.lookup y=some a->x=y) (hhas:∀ x,scope.names.lookup x=some .free->∃ a,cl.lookup x=some a)
  (hb:∀(A:Around) (outer:List Env) (s:Shared) (H:Hp),Room k (A.deeper (W.envX qual scope s.heap.objs.size f (.ref c) cl))->PE (gb P w K mg base (ps++caps) qual scope f (.ref c) cl A outer s H) body tb) :
  FnOk P w K mg base CX0 (k+1) f (W.kla_fn name qual params body scope cl pm (.ref c) ctv) ps (iO ps.length tb vcs c qual):=by
 refine #[λvs H Q E h=>h.1,λA outer s H args us vs Q E hr e0 hbind r hsp=>?_];obtain ⟨hl,hc,hq⟩:=hsp;have bk:∀ b o,base.get? b=some o->s.heap.get? b=some o:=λb o e=>(e0.bs b o e).1;have hul:us.length=ps.length:=by rw[<-r.length];exact hl
 refine W.kla_callFunE hr.depth (bk _ _ hf) rfl S.co S.gen rfl (hc.rec e0.hok) ?_;refine hbind _ _ _ _ ?_;refine wpAny_newFunctionEnv S.nocell (λy hy=>S.par _ (lQ hy).1) (λh1 hns hsb=>#[(e0.mod.nolimit.keeps bk).fresh _ hsb,?_]) S.kind;show codeAny _ _ (.expr body (W.envX qual scope s.heap.objs.size f (.ref c) cl)) _ _;have hk:∀ b o,s.heap.get? b=some o->h1.get? b=some o:=λb o e=>hsb.extBut b o (bL (aT e)) (aX _ e);have cellK:∀ a v,base.IsCell a v->h1.IsCell a v/\H a=none:=λa v ⟨o,ho,hd⟩=>#[#[o,hk _ _ (bk _ _ ho),hd],(e0.bs _ _ ho).2];have ndps:ps.Nodup:=(fB.mp S.nd).1;have noA:∀ b:Addr,b∉([]:List Addr):=λb z=>absurd z (by simp);have I:Inv (gb P w K mg base (ps++caps) qual scope f (.ref c) cl A outer s H) [] (vs.map some++vcs.map some) H { s with heap:=h1,toks:=s.toks+(ps.zip us).length }:=by
  refine #[#[e0.mod,S.kind,rfl,rfl,aj _,hinj,λy hy=>?_,λy a z _=>(by cases z),λ_=>hr.hd,Around.frames_deeper e0.frames,.inr #[rfl,rfl],λb z=>absurd z (noA b),e0.bs,e0.bsz,λb _ _=>noA b,λb z=>absurd z (noA b),e0.funs,e0.frf],
   rfl,e0.bare,Un.kept hk,#[_,hns,λi y v h1' h2 h3=>?_],λy a h=>?_,e0.hok.fresh (aj _),λy a h=>?_,λp hp=>absurd (show p∈([]:List (Addr×Obj)) from hp) (by simp),e0.hok.kept hk,?_]
  .have hy:scope.names.lookup y=some .cell\/scope.names.lookup y=some .free:=hy;rcases hy with hy|hy
   .exact absurd rfl (S.nocell _ (PySem.mem_of_lookup hy))
   .exact hhas y hy
  .have h1':(ps++caps)[i]?=some y:=h1';by_cases hi:i<ps.length
   .rw[jN hi]at h1';rw[jN (by rw[ai];lia),bj]at h2;cases e:vs[i]? with
    | none=>rw[e]at h2;cases h2
    | some v'=>
     rw[e]at h2;cases h2
     obtain ⟨u,hu,ru⟩:=r.get e;exact #[u,ru,.inl #[S.par y (dF h1'),BH ndps h1' hu]]
   .rw[gy (by lia)]at h1';rw[gy (by rw[ai];lia),ai,bj]at h2;cases e:vcs[i-vs.length]? with
    | none=>rw[e]at h2;cases h2
    | some v'=>
     rw[e]at h2;cases h2
     rw[hl]at e;obtain ⟨a,u,e1,e2,ru⟩:=hcap _ _ _ h1' e;exact #[u,ru,.inr #[.inr (S.cap y (dF h1')),a,e1,(cellK _ _ e2).1]]
  .obtain ⟨v,z⟩:=hcell y a h;exact #[v,(cellK _ _ z).1]
  .obtain ⟨v,z⟩:=hcell y a h;exact (cellK _ _ z).2
  .show (vs.map some++vcs.map some).length=(ps++caps).length;rw[bg,bg,ai,ai,hl,hlen]
 refine W.kla_codeExpr (dS (hb A outer s H (hr.deeper _) [] _ _ H Q I hq) (λu s' hu=>?_) λ_ _ z=>(show False from z).elim);obtain ⟨v,H',J,rv,q⟩:=hu;exact #[v,H',J.os,J.bare,J.base,J.hok,rv,q]
def Gro (Pt:Addr)(H H':Hp):Prop:=∀ b o,b≠Pt->H b=some o->H' b=some o
def Gro.refl (Pt:Addr)(H:Hp):Gro Pt H H:=λ_ _ _ h=>h
structure aR (H:Hp)(Pt:Addr)(pos:Pos)(q:Str):Prop where
 ex:∃ tab:Array Value,H Pt=some (.tbl tab)/\TriplesOk tab.toList/\(codeAmong pos tab.toList=none\/∃ c,codeAmong pos tab.toList=some (.ref c)/\gc H c q)
def aR.ext (x:aR H Pt pos q)(e:Ext H H'):aR H' Pt pos q:=by
 obtain ⟨tab,h1,h2,h3⟩:=x.ex;refine #[tab,e _ _ h1 nofun,h2,?_];rcases h3 with h3|⟨c,h3,h4⟩
 .exact .inl h3
 .exact .inr #[c,h3,e _ _ h4 nofun]
def aR.gro (x:aR H Pt pos q)(e:Gro P2 H H')(hne:Pt≠P2)(h2:∃ tab,H P2=some (.tbl tab)):aR H' Pt pos q:=by
 obtain ⟨tab,h1,h3,h4⟩:=x.ex;refine #[tab,e _ _ hne h1,h3,?_];rcases h4 with h4|⟨c,h4,h5⟩
 .exact .inl h4
 .refine .inr #[c,h4,e _ _ (λz=>?_) h5];obtain ⟨tab2,y⟩:=h2;rw[<-z,show H c=_ from h5]at y;cases y
def BMAt (mg:Str->Option Value)(base:Heap):Prop:=∃ bm o,mg "__builtins__" = some (.ref bm)/\bm≠builtinsNs/\bm≠mainGlobals/\base.get? bm=some o/\o.cls=.type "module"/\o.dict=some builtinsNs/\o.data=.plain
section
variable {X:Cx}{Px:List (Addr×Obj)}{U:St}{H:Hp}{s:Shared}{params:Arguments}{body:Expr}{scope:Scope}{lpos:Pos}{c Pt:Addr}{Q:Value->Shared->Prop}
def BJ {c':Addr}{q:Str}{tab more:Array Value}{h':Heap}{tk:Nat}(I:Inv X Px U H s)(hP:H Pt=some (.tbl tab))(hx:∀ b o,b≠Pt->s.heap.get? b=some o->h'.get? b=some o)(hge:s.heap.objs.size<=c')
  (hrec:h'.CodeRec (.ref c') q) (htb:h'.get? Pt=some (W.tabObj (tab++more))):Inv X Px U (upd (upd H Pt (.tbl (tab++more))) c' (.ext (ka c' q))) { s with heap:=h',toks:=tk }:=by
 have hfr:H c'=none:=I.hok.fresh hge;have nPc:Pt≠c':=au hP hfr;have low:∀ b u,H b=some u->b≠c':=λb u e=>au e hfr;have lows:∀ b o,s.heap.get? b=some o->b≠c':=λb o e=>bL (cA (aT e) hge);have nP:∀ b,H b=none->b≠Pt:=λb n z=>by rw[z,hP]at n;cases n
 refine I.un (t':=tk) #[λb o e n _ _=>hx b o (nP b n) e,λb o e n _ _=>#[o.slots,hx b o (nP b n) e],λb o e n _=>?_,λb o e _=>?_,λb xs e=>?_,λb o u e=>?_,λb ps e=>?_] λa o e=>?_
 .rw[ah (lows b o e),ah (nP b n)];exact n
 .by_cases z:b=Pt
  .exact #[_,by rw[z];exact htb]
  .exact #[o,hx b o z e]
 .rw[ah (low b _ e),ah (λz=>by rw[z,hP]at e;cases e)]
  exact e
 .rw[ah (low b _ e),ah (λz=>by rw[z,hP]at e;cases e)]
  exact e
 .by_cases z:b=Pt
  .rw[z,hP]at e;cases e
   exact #[more,by rw[z,ah nPc,af]]
  .exact #[(List.toArray []),by rw[ah (low b _ e),ah z,e];simp]
 .by_cases z:a=c'
  .subst z;rw[af]at e;cases e
   obtain ⟨c2,o2,vs,t,e2,ho2,r2⟩:=id hrec;cases e2
   exact #[hrec,#[o2,ho2],λh1 h2 x k=>HJ h1 h2 x k]
  .rw[ah z]at e;by_cases y:a=Pt
   .subst y;rw[af]at e;cases e
    exact htb
   .rw[ah y]at e;refine (I.hok a o e).stay (λb u hb q=>hx b u ?_ q) (λb q=>?_) λb xs q=>?_
    .rcases hb with rfl|hb
     .exact y
     .intro z2;rw[z2,hP]at hb;cases hb
    .rw[ah (low b _ q),ah (λz2=>by rw[z2,hP]at q;cases q)]
     exact q
    .rw[ah (low b _ q),ah (λz2=>by rw[z2,hP]at q;cases q)]
     exact q
def BK (I:Inv X Px U H s)(hdef:defaultsOf params X.env=([],[]))(hfr:∀ x,(x,NameKind.free)∈scope.names->(X.env.kindOf x=some .cell\/X.env.kindOf x=some .free))(hcode:X.env.code=.ref c)(hC:codeHdIn X.K c Pt=true)(hBM:BMAt X.mg X.base)
  (hT:aR H Pt lpos (X.env.qual ++ "<lambda>"))
  (h:∀(f c':Addr) (cl:List (Str×Addr)) (pm ctv:Value) (H':Hp) (s':Shared),ju scope X.env cl->Inv X Px U H' s'->s'.heap.get? f=some (W.kla_obj "<lambda>" (X.env.qual ++ "<lambda>") params body scope cl pm c' ctv)->H' f=none->s.heap.objs.size<=f->
   Gro Pt H H'->aR H' Pt lpos (X.env.qual ++ "<lambda>")->gc H' c' (X.env.qual ++ "<lambda>")->Q (.ref f) s') :
  wpAny (model X.prog X.w) X.A (eval (.Lambda params body scope lpos) X.env) Q X.xe s:=by
 obtain ⟨cl,hcl⟩:=o4 (scope:=scope) (env:=X.env) λx hx=>I.ok.has x (hfr x hx);obtain ⟨tab,hP,ht,hor⟩:=hT.ex;have hPo:s.heap.get? Pt=some (W.tabObj tab):=I.hok Pt _ hP;have C:W.CodeHd s.heap c Pt:=(W.codeHd_of_K I.ok.mod.kin hC).keeps I.bk;have hgl:=I.mod.glob.keeps I.bk;have hgP:mainGlobals≠Pt:=λz=>by
  obtain ⟨o,es,ep,e,_⟩:=I.mod.glob;have:=(I.bs _ _ e).2;rw[z,hP]at this;cases this
 have hb:s.heap.BuiltinsAt X.mg Pt:=by
  obtain ⟨bm,o,b1,b2,b3,b4,b5⟩:=hBM;refine #[bm,o,b1,b2,b3,λz=>?_,I.bk _ _ b4,b5];have:=(I.bs _ _ b4).2;rw[z,hP]at this;cases this
 refine W.kla_eval hdef ?_;rcases hor with hnone|⟨c',hsome,hca⟩
 .refine W.kla_makeFunction (clos:=cl) hcl.eq I.ok.glob hgl hcode C hPo ht hnone hgP hb λc' ctv h' tk hx hge hlt hrec htb=>?_;have hx':∀ o2 b o,b≠Pt->s.heap.get? b=some o->(h'.push o2).get? b=some o:=λo2 b o n e=>aX _ (hx b o n e);have I':=BJ (c':=c') (q:=X.env.qual ++ "<lambda>") (tk:=tk) I hP (hx' _) hge (hrec.push (W.kla_obj "<lambda>" (X.env.qual ++ "<lambda>") params body scope cl ((X.mg "__name__").getD .none) c' ctv)) (aX _ htb);have hsz:s.heap.objs.size<=h'.objs.size:=eE (eF hge hlt);have nPc:Pt≠c':=au hP (I.hok.fresh hge);have eT:(tab++(List.toArray [rawInt lpos.line,rawInt lpos.col,.ref c'])).toList=tab.toList++[rawInt lpos.line,rawInt lpos.col,.ref c']:=by simp
  have hTI:aR (upd (upd H Pt (.tbl (tab++(List.toArray [rawInt lpos.line,rawInt lpos.col,.ref c'])))) c' (.ext (ka c' (X.env.qual ++ "<lambda>")))) Pt lpos (X.env.qual ++ "<lambda>"):=
   #[_,by rw[ah nPc,af],by rw[eT];exact TriplesOk_snoc _ _ _ _ ht,.inr #[c',by rw[eT];exact codeAmong_snoc _ ht hnone,af]]
  refine h h'.objs.size c' cl _ ctv _ _ hcl I' (bZ _ rfl) ?_ hsz ?_ hTI af
  .rw[ah (ig hlt),ah (λz=>?_)]
   .exact I.hok.fresh hsz
   .have:=aT hPo;rw[<-z]at this;exact absurd this (Nat.not_lt.mpr hsz)
  .intro b o n e;rw[ah (au e (I.hok.fresh hge)),ah n];exact e
 .refine W.kla_makeFunctionHit (clos:=cl) hcl.eq I.ok.glob hgl hcode C hPo ht hsome hb λctv h' tk hk hsz=>?_;exact h h'.objs.size c' cl _ ctv H _ hcl (I.kept (t':=tk) λb o e=>aX _ (hk b o e)) (bZ _ rfl) (I.hok.fresh hsz) hsz (Gro.refl _ _) hT hca
end
def dy (X:Cx)(s:Shared)(H:Hp):Heap:=W.hideAll s.heap (trk s.heap H++frs X.stack)
def vn {h b1 b2:Heap}:∀{l:List Env},h.FunFrames b1 l->(∀ b∈frs l,b2.get? b=none)->h.FunFrames b2 l
 | [],_,_=>trivial
 | env::l,⟨h1,⟨L,o,h2,h3,h4,h5⟩,h6⟩,k=>by
  have m:∀ b∈frs l,b∈frs (env::l):=λb hb=>by
   unfold frs;rw[lM,h2];exact bV _ hb
  refine #[h1,#[L,o,h2,k L ?_,h4,h5],vn h6 λb hb=>k b (m b hb)];unfold frs;rw[lM,h2];exact cb
section
variable {X:Cx}{Px:List (Addr×Obj)}{U:St}{H:Hp}{s:Shared}
def mv {b:Addr}{o:Obj}(e:s.heap.get? b=some o)(n:H b=none)(hf:b∉frs X.stack):(dy X s H).get? b=some o:=
 W.hideAll_get _ e λhm=>by
  rcases cx.mp hm with z|z
  .have q:(H b).isSome=true:=(d7.mp z).2;rw[n]at q;cases q
  .exact hf z
def BL {b:Addr}{o:Obj}(e:(dy X s H).get? b=some o):s.heap.get? b=some o/\H b=none/\b∉frs X.stack:=by
 have e1:=W.of_hideAll _ e;have hm:b∉trk s.heap H++frs X.stack:=λz=>by
  unfold dy at e;rw[W.hideAll_none _ z]at e;cases e
 rw[cx,not_or]at hm;refine #[e1,?_,hm.2];cases q:H b with
 | none=>rfl
 | some u=>exact absurd (d7.mpr #[eU.mpr (aT e1),by rw[q];rfl]) hm.1
def BM (I:Inv X Px U H s):∀ b o,X.base.get? b=some o->(dy X s H).get? b=some o:=λb o e=>by
 obtain ⟨h1,h2⟩:=I.bs b o e;refine mv h1 h2 λz=>?_;have:=(I.stack.mem z).1;rw[e]at this;cases this
def BN (I:Inv X Px U H s):Env0 X.prog X.w X.K X.mg (dy X s H) X.A X.stack s H:=by
 have sub:=BM I;refine #[I.ok.frames,#[I.mod.kin.keeps sub,I.mod.glob.keeps sub,?_,I.mod.nolimit.keeps sub],λb o e=>#[(BL e).1,(BL e).2.1],lO (W.hideAll_size _ _),vn I.stack λb hb=>W.hideAll_none _ (fc _ hb),I.stkFree,I.hok,I.bare];obtain ⟨mb,h1,h2⟩:=I.mod.blt;exact #[mb,h1.keeps sub,h2]
end
structure FV (P:Program)(w:World)(K:Frag)(mg:Str->Option Value)(base:Heap)(k:Nat)(f:Addr)(ps:List Str)(sp:Sp):Prop where
 ex:∃ fd,FnOk P w K mg base CX0 k f fd ps sp/\dJ K fd ps []/\W.FnAt f base
section
variable {X:Cx}
def HK (X:Cx)(kr:Nat)(tf:TE)(t:TA):TE:=λU H Q=>tf U H λx H1=>∃ f k ps sp,x=.ref f/\FV X.prog X.w X.K X.mg X.base k f ps sp/\k<=kr/\t U H1 λvs H2=>sp vs H2 Q E0
def vo {x:Str}{e:Expr}{es:List Expr}{t:TA}{p pos:Pos}(hr:Room kr X.A)(hf:PE X (.Name x p) tf)(ha:PA X (e::es) t)
  (he:starEach (e::es) X.env=(false,eval e X.env)::starEach es X.env:=by rfl) (hpl:(backTo pos (starEach es X.env)).any (·.1)=false:=by rfl):PE X (.Call (.Name x p) (e::es) [] pos) (HK X kr tf t):=by
 intro Px s U H Q I h;refine wpAny_Call_Name_kw (thn (hf Px s U H _ I h) λu s1 zq0=>?_);obtain ⟨x1,H1,I1,r1,q1⟩:=zq0;obtain ⟨f,k,ps,sp,rfl,hF,hk,q⟩:=q1;cases r1
 obtain ⟨fd,ok,bd,oc,od,fd2,sl,ho⟩:=hF.ex;refine W.callWith_F #[oc,od,fd2,sl,I1.bk _ _ ho] (thn (ha pos Px s1 U H1 _ I1 q) λus s2 zq0=>?_) he hpl;obtain ⟨vs,H2,I2,r,q2⟩:=zq0;refine #[#[oc,od,fd2,sl,I2.bk _ _ ho],?_];exact oR ok (hr.mono hk) bd .nil mj I2 r (by rw[cB];exact q2)
structure gR (X:Cx)(params:Arguments)(body:Expr)(scope:Scope)(ps caps:List Str)(cap:List Nat):Prop where
 sc:vm scope ps caps
 frees:∀ x,(x,NameKind.free)∈scope.names->(X.env.kindOf x=some .cell\/X.env.kindOf x=some .free)
 capAt:∀(j:Nat) (x:Str),caps[j]?=some x->∃ i:Nat,cap[j]?=some i/\X.N[i]?=some x/\(X.env.kindOf x=some .cell\/X.env.kindOf x=some .free)
 dflt:defaultsOf params X.env=([],[])
 binds:∀(cl:List (Str×Addr)) (pm cdv ct:Value) (us:List Value),us.length=ps.length->bindArgs (W.kla_fn "<lambda>" (X.env.qual ++ "<lambda>") params body scope cl pm cdv ct) #[us,[]]=pure (ps.zip us)
 own:∀ x,X.fn x=true
def HL {f c':Addr}{pm ctv:Value}{vcs:List V}{k n:Nat}(I:Inv X Px U H s)(L:gR X params body scope ps caps cap)(hcl:ju scope X.env cl)
  (ho:s.heap.get? f=some (W.kla_obj "<lambda>" (X.env.qual ++ "<lambda>") params body scope cl pm c' ctv)) (hn:H f=none) (hfr:∀ b∈frs X.stack,b<n) (hge:n<=f)
  (hv:vcs.length=caps.length) (hvs:∀(j i:Nat) (v:V),cap[j]?=some i->vcs[j]?=some v->U[i]?=some (some v))
  (hb:∀(base:Heap) (f:Addr) (cd:Value) (cl:List (Str×Addr)) (A:Around) (outer:List Env) (s:Shared) (H:Hp),Room k (A.deeper (W.envX (X.env.qual ++ "<lambda>") scope s.heap.objs.size f cd cl))->PE (gb X.prog X.w X.K X.mg base (ps++caps) (X.env.qual ++ "<lambda>") scope f cd cl A outer s H) body tb) :
  FV X.prog X.w X.K X.mg (dy X s H) (k+1) f ps (iO ps.length tb vcs c' (X.env.qual ++ "<lambda>")):=by
 have nf:f∉frs X.stack:=λz=>absurd (cA (hfr f z) hge) (dE _);have hbf:=mv (X:=X) ho hn nf;have cellB:∀ x a v,X.env.cells.lookup x=some a->s.heap.IsCell a v->(dy X s H).IsCell a v:=λx a v e ⟨o,h1,h2⟩=>by
  refine #[o,mv h1 (I.freeC x a e) λz=>?_,h2];rcases aW.mp (I.stkSub a z) with y|y
  .exact I.cne x a e y
  .obtain ⟨_,o2,h3,_⟩:=I.ok.funs.mem y;exact absurd (cA (aT h3) (I.ok.cab x a (L.own x) e)) (dE _)
 refine #[_,BI L.sc hbf hv (λj x v h1 h2=>?_) (λx a e=>?_) (λx y a h1 h2=>I.ok.inj x y a (hcl.sub x a h1) (hcl.sub y a h2)) (λx e=>?_) (λA outer s H hr=>hb _ f _ cl A outer s H hr),.all (L.binds cl pm (.ref c') ctv),#[_,_,_,_,hbf]]
 ·obtain ⟨i,e1,e2,e3⟩:=L.capAt j x h1;obtain ⟨m,hm,hl⟩:=I.loc;obtain ⟨u,ru,lk⟩:=hl i x v e2 (hvs j i v e1 h2) (by
   rcases e3 with z|z
   .exact .inr (.inl z)
   .exact .inr (.inr z))
  rcases lk with ⟨z,_⟩|⟨_,a,e4,e5⟩
  .rcases e3 with y|y
   .rw[y]at z;cases z
   .rw[y]at z;cases z
  .obtain ⟨a',e6⟩:=hcl.has x (PySem.mem_of_lookup (L.sc.cap x (dF h1)));have e7:=hcl.sub x a' e6;rw[e4]at e7;cases e7
   exact #[a,u,e6,cellB x a _ e4 e5,ru]
 .obtain ⟨v,z⟩:=I.cell x a (hcl.sub x a e);exact #[v,cellB x a v (hcl.sub x a e) z]
 .exact hcl.has x (PySem.mem_of_lookup e)
def HM (X:Cx)(n kf:Nat)(ps:List Str)(cap:List Nat)(Pt:Addr)(lpos:Pos)(tb te:TE)(spH:Heap->Sp):TE:=λU H Q=>te U H λx1 H1=>aR H1 Pt lpos (X.env.qual ++ "<lambda>")/\∃ vcs:List V,vcs.length=n/\(∀(j i:Nat) (v:V),cap[j]?=some i->vcs[j]?=some v->U[i]?=some (some v))/\
 ∀(base:Heap) (f c':Addr) (H2:Hp),Gro Pt H1 H2->aR H2 Pt lpos (X.env.qual ++ "<lambda>")->gc H2 c' (X.env.qual ++ "<lambda>")->FV X.prog X.w X.K X.mg base kf f ps (iO ps.length tb vcs c' (X.env.qual ++ "<lambda>"))->spH base [x1,.ref f] H2 Q E0
def HN {q1 q2:Str}{lpos p pos:Pos}{spH:Heap->Sp}{k:Nat}{c Pt:Addr}
  (F:∀ base,FC X.prog X.w X.K X.mg base j x [q1,q2] (spH base)) (hr:Room k X.A) (h1:PE X e1 te) (L:gR X params body scope ps caps cap) (hcode:X.env.code=.ref c) (hC:codeHdIn X.K c Pt=true) (hBM:BMAt X.mg X.base)
  (hb:∀(base:Heap) (f:Addr) (cd:Value) (cl:List (Str×Addr)) (A:Around) (outer:List Env) (s:Shared) (H:Hp),Room kf (A.deeper (W.envX (X.env.qual ++ "<lambda>") scope s.heap.objs.size f cd cl))->PE (gb X.prog X.w X.K X.mg base (ps++caps) (X.env.qual ++ "<lambda>") scope f cd cl A outer s H) body tb)
  (hjk:j<=k:=by decide) (hg:Gl X x:=by rfl) (hdb:(x==("__debug__" : Str))=false:=by decide) (he:starEach [e1,.Lambda params body scope lpos] X.env=(false,eval e1 X.env)::starEach [.Lambda params body scope lpos] X.env:=by rfl)
  (he2:starEach [.Lambda params body scope lpos] X.env=[(false,eval (.Lambda params body scope lpos) X.env)]:=by rfl) (hpl:(backTo pos (starEach [.Lambda params body scope lpos] X.env)).any (·.1)=false:=by rfl) :
  PE X (.Call (.Name x p) [e1,.Lambda params body scope lpos] [] pos) (HM X caps.length (kf+1) ps cap Pt lpos tb te spH):=by
 intro Px s U H Q I h;obtain ⟨g,fd,_,_,kp,m,oc,od,osl,lk⟩:=(F X.base).ex;refine wpAny_Call_Name_kw (ji I hg m ?_ hdb);refine W.callWith_K (h₀:=X.base) I.ok.mod.kin kp ?_ he hpl;rw[he];show wpAny _ _ (spliced ((false,eval e1 X.env)::backTo pos (starEach [.Lambda params body scope lpos] X.env))) _ _ s;refine Calls.spliced_cons (thn (h1 Px s U H _ I h) λu s1 zq0=>?_);obtain ⟨x1,H1,I1,r1,q1⟩:=zq0;obtain ⟨hT,vcs,hv,hvs,q⟩:=q1;rw[he2];show wpAny _ _ (spliced ((false,eval (.Lambda params body scope lpos) X.env)::[])) _ _ s1;refine Calls.spliced_cons (BK I1 L.dflt L.frees hcode hC hBM hT λf c' cl pm ctv H2 s2 hcl I2 ho hn hge hgr hT2 hca=>?_);refine Calls.spliced_nil #[I2.kIn,?_];have hF:=HL (k:=kf) (n:=s1.heap.objs.size) I2 L hcl ho hn (λb hb=>by
  obtain ⟨_,o,e,_⟩:=I1.stack.mem hb;exact aT e) hge hv hvs hb
 have hsp:=q (dy X s2 H2) f c' H2 hgr hT2 hca hF;obtain ⟨g2,fd2,ok,bd,_,m2,_⟩:=(F (dy X s2 H2)).ex;rw[m]at m2;cases m2
 have r2:Vals [x1,.ref f] [u,.ref f]:=.cons r1 (.cons rfl .nil);refine wpAny_call (codeAny_mono (ok.run X.A X.stack s2 H2 #[[u,.ref f],[]] [u,.ref f] [x1,.ref f] Q E0 (hr.mono hjk) (BN I2) (bd s2 [u,.ref f] I2.kIn rfl) r2 hsp) λr s' hq=>?_);cases r with
 | error e=>exact False.elim hq
 | ok fl=>
  cases fl with
  | ret u=>exact I2.after hq
  | next=>exact False.elim hq
  | brk=>exact False.elim hq
  | cont=>exact False.elim hq
end
def HS {K:Frag}{mg mb:Str->Option Value}{k:Nat}{fa a:Addr}{x:Str}{s₁:Shared}{vs:List Value}{ns:List Int}{tabs:List (Addr×Addr)}
  (KX:K.In s₁.heap) (hns:s₁.heap.Ns mainGlobals mg) (hb:s₁.heap.Ns builtinsNs mb) (hbb:∀ x:Str,x ≠ "__name__"->mb x=bootBuiltins x) (hlim:s₁.heap.NoLimit) (hg:s₁.gens=(List.toArray [])) (hBM:BMAt mg s₁.heap)
  (hT:W.TabsAt tabs s₁.heap) (hKT:∀ q∈tabs,K.lookup q.2=none)
  (ha:s₁.heap.get? a=some { cls:=.type "list",data:=.seq vs.toArray }) (hi:IntsAre vs ns) (hl:ns.length<=sizeLine) (hr:Room k callerA)
  (F:∀ base:Heap,K.In base->base.Ns mainGlobals mg->BMAt mg base->FnOk P w K mg base CX k fa fd [x] sp) (hbind:∀(s:Shared) (u:Value),BindsTo s fd #[[u],[]] [(x,u)])
  (hsp:∀ H:Hp,(∀ q∈tabs,H q.2=some (.tbl (List.toArray [])))->SqL K H a (ns.map V.int)->sp [.ref a] H (λv _=>v=.bl true) λ_ _ _=>False)
  (hCX:∀ H e s',CX [] H s₁ (λ_ _ _=>False) e s'->False) :
  codeAny (model P w) callerA (.call (.ref fa) #[[.ref a],[]]) (λr s'=>r=.ok (.ret (.bool true))/\OldK s₁.heap s'.heap/\s'.os=s₁.os/\AllBare s'.gens) s₁:=by
 have rv:=A6 hi;have lenV:=hi.length;have tabO:∀ b,b∈tabs.map (·.2)->s₁.heap.get? b=some (W.tabObj (List.toArray []))/\isCodeTable s₁.heap b/\K.lookup b=none:=λb hm=>by
  obtain ⟨q,hq,rfl⟩:=cC.mp hm;exact #[(hT q hq).2,((hT q hq).1.tab (hT q hq).2).isCodeTable,hKT q hq]
 have nat:a∉tabs.map (·.2):=λz=>by
  have:=(tabO a z).1;rw[ha]at this;cases this
 have core:∀ Hs:Hp,(∀ b,Hs b=none\/(b=a/\Hs b=some (.frz { cls:=.type "list",data:=.seq vs.toArray } (.lst (ns.map V.int)))))->(∀ H:Hp,(∀ b,b∉tabs.map (·.2)->H b=Hs b)->SqL K H a (ns.map V.int))->(Hs a≠none->K.lookup a=none)->
   codeAny (model P w) callerA (.call (.ref fa) #[[.ref a],[]]) (λr s'=>r=.ok (.ret (.bool true))/\OldK s₁.heap s'.heap/\s'.os=s₁.os/\AllBare s'.gens) s₁:=by
  intro Hs hO hS hK;obtain ⟨H,hH⟩:∃ H:Hp,H=λb=>if b∈tabs.map (·.2) then some (.tbl (List.toArray [])) else Hs b:=#[_,rfl]
  have H1:∀ b,b∈tabs.map (·.2)->H b=some (.tbl (List.toArray [])):=λb z=>by rw[hH];exact aq z
  have H2:∀ b,b∉tabs.map (·.2)->H b=Hs b:=λb z=>by rw[hH];exact ak z
  have cases3:∀ b,H b=none\/(b=a/\H b=some (.frz { cls:=.type "list",data:=.seq vs.toArray } (.lst (ns.map V.int))))\/(b∈tabs.map (·.2)/\H b=some (.tbl (List.toArray []))):=λb=>by
   by_cases z:b∈tabs.map (·.2)
   .exact .inr (.inr #[z,H1 b z])
   .rcases hO b with y|⟨y1,y2⟩
    .exact .inl ((H2 b z).trans y)
    .exact .inr (.inl #[y1,(H2 b z).trans y2])
  have hok:HOk P w H s₁.heap:=λb u e=>by
   rcases cases3 b with y|⟨y1,y2⟩|⟨y1,y2⟩
   .rw[y]at e;cases e
   .rw[y2]at e;cases e
    subst y1;exact #[ha,by rw[ai];exact hl,vs,_,rv,ha]
   .rw[y2]at e;cases e
    exact (tabO b y1).1
  have base_of:∀{b:Addr} {o:Obj},s₁.heap.get? b=some o->H b=none->(hidT s₁.heap H).get? b=some o:=λe n=>Fc e n;have noD:∀{b:Addr} {o:Obj},s₁.heap.get? b=some o->(∀ xs n,o.data≠.seq xs n)->(∀ xs,o.data≠.fields xs)->H b=none:=λ{b o} e d1 d2=>by
   rcases cases3 b with y|⟨y1,y2⟩|⟨y1,y2⟩
   .exact y
   .subst y1;rw[ha]at e;cases e
    exact absurd rfl (d1 _ _)
   .rw[(tabO b y1).1]at e;cases e
    exact absurd rfl (d2 _)
  have nsK:∀{b:Addr} {m:Str->Option Value},s₁.heap.Ns b m->(hidT s₁.heap H).Ns b m:=λ{b m} ⟨o,es,ep,e,d,r⟩=>#[o,es,ep,base_of e (noD e (λ_ _ z=>by rw[d]at z;cases z) (λ_ z=>by rw[d]at z;cases z)),d,r]
  have hKb:K.In (hidT s₁.heap H):=λb o e=>base_of (KX b o e) (by
   rcases cases3 b with y|⟨y1,y2⟩|⟨y1,y2⟩
   .exact y
   .subst y1;rw[hK (by rw[<-H2 b nat,y2];exact λz=>nomatch z)]at e;cases e
   .rw[(tabO b y1).2.2]at e;cases e)
  have hM:Mod K mg (hidT s₁.heap H):=#[hKb,nsK hns,#[mb,nsK hb,hbb],let ⟨mc,h1,h2⟩:=hlim;#[mc,nsK h1,h2]];have hBMb:BMAt mg (hidT s₁.heap H):=by
   obtain ⟨bm,o,b1,b2,b3,b4,b5,b6,b7⟩:=hBM;exact #[bm,o,b1,b2,b3,base_of b4 (noD b4 (λ_ _ z=>by rw[b7]at z;cases z) (λ_ z=>by rw[b7]at z;cases z)),b5,b6,b7]
  have e0:Env0 P w K mg (hidT s₁.heap H) callerA [] s₁ H:=#[rfl,hM,λb o e=>Fd e,lO (Fb _ _),trivial,λb hb=>absurd (show b∈([]:List Addr) from hb) (by simp),hok,.of_eq hg];refine codeAny_mono ((F _ hKb (nsK hns) hBMb).run callerA [] s₁ H #[[.ref a],[]] [.ref a] [.ref a] _ _ hr e0 (hbind s₁ (.ref a)) (.cons rfl .nil) (hsp H (λq hq=>H1 _ (uo hq)) (hS H H2))) λr s' h=>?_;cases r with
  | error e=>exact (hCX H e s' h).elim
  | ok fl=>
   cases fl with
   | next=>exact False.elim h
   | brk=>exact False.elim h
   | cont=>exact False.elim h
   | ret u=>
    obtain ⟨v,H',os,bare,un,hok',r',q⟩:=h;have q':v=.bl true:=q;subst q';obtain rfl:u=Value.bool true:=r';have keep:∀ b o,H b=none->s₁.heap.get? b=some o->s'.heap.get? b=some o:=λb o n e=>un.keep b o e n (by intro z;exact absurd (show b∈([]:List Addr) from z) (by simp)) (by simp);have frz:∀ b o,b=a->H b=some (.frz { cls:=.type "list",data:=.seq vs.toArray } (.lst (ns.map V.int)))->s₁.heap.get? b=some o->s'.heap.get? b=some o:=λb o y1 y2 e=>by
     obtain ⟨e1,_⟩:=hok b _ y2;obtain ⟨e2,_⟩:=hok' b _ (un.frzs b _ _ y2);rw[e]at e1;cases e1
     exact e2
    have tbl:∀ b,H b=some (.tbl (List.toArray []))->∃ ps,s'.heap.get? b=some (W.tabObj ps):=λb y=>by
     obtain ⟨more,e⟩:=un.tbls b _ y;exact #[_,hok' b _ e]
    refine #[rfl,#[λb o e=>?_,λb o e=>?_],os,bare]
    .rcases cases3 b with y|⟨y1,y2⟩|⟨y1,y2⟩
     .exact .inl (keep b o y e)
     .exact .inl (frz b o y1 y2 e)
     .obtain ⟨ps,hp⟩:=tbl b y2;obtain ⟨t1,t2,_⟩:=tabO b y1;rw[e]at t1;cases t1
      exact .inr (.inl #[t2,rfl,(List.toArray []),ps,rfl,by rw[Array.empty_append];exact hp])
    .rcases cases3 b with y|⟨y1,y2⟩|⟨y1,y2⟩
     .exact #[o,keep b o y e]
     .exact #[o,frz b o y1 y2 e]
     .obtain ⟨ps,hp⟩:=tbl b y2;exact #[_,hp]
 cases hk:K.lookup a with
 | some o=>
  have e:=KX a o hk;rw[ha]at e;cases e
  exact core (λ_=>none) (λ_=>.inl rfl) (λH _=>.inr #[_,vs.toArray,_,hk,rfl,rfl,rfl,by rw[bO,lenV];exact hl,by simpa using rv]) λz=>absurd rfl z
 | none=>
  refine core (λb=>if b=a then some (.frz { cls:=.type "list",data:=.seq vs.toArray } (.lst (ns.map V.int))) else none) (λb=>?_) (λH h=>.inl (.inr #[{ cls:=.type "list",data:=.seq vs.toArray },by rw[h a nat];exact aq rfl])) λ_=>hk
  by_cases z:b=a
  .exact .inr #[z,aq z]
  .exact .inl (ak z)
def HU {l:OpenLaw}{n k:Nat}{q:Program}{loose:List Str}{XP:(Str->Option Value)->Heap->Prop}{YP:World->Heap->Prop}{d:DefRec}{K:Params->Frag}{sp:World->Sp}{x:Str}{tabs:List (Addr×Addr)}
  (hn:l.most=some n) (hn2:n<=sizeLine) (hdf:d.params.defaults=[]) (hr:Room k callerA)
  (hY:∀(w:World) (h:Heap),YP w h->(K w.params).In h) (hYT:∀(w:World) (h:Heap),YP w h->∀ q∈tabs,h.get? q.2=some (W.tabObj (List.toArray [])))
  (hC:∀(w:World),∀ q∈tabs,codeHdIn (K w.params) q.1 q.2=true/\(K w.params).lookup q.2=none)
  (F:∀(w:World) (mg:Str->Option Value) (fa:Addr) (h:Heap),(K w.params).In h->h.Ns mainGlobals mg->mg d.name=some (.ref fa)->
   ∃ fd:FuncData,(∀(s:Shared) (u:Value),BindsTo s fd #[[u],[]] [(x,u)])/\
    ∀ base:Heap,(K w.params).In base->base.Ns mainGlobals mg->BMAt mg base->FnOk l.prog w (K w.params) mg base CX0 k fa fd [x] (sp w))
  (hsp:∀(w:World) (H:Hp) (a:Addr) (ns:List Int),ns.length<=n->(∀ q∈tabs,H q.2=some (.tbl (List.toArray [])))->SqL (K w.params) H a (ns.map V.int)->sp w [.ref a] H (λv _=>v=.bl true) λ_ _ _=>False) :
  W.WalkO q loose XP YP l.row.toRowW d [] (λf vs=>PySem.call f vs):=by
 refine Att.attach_call hn hdf λw s₀ s₁ mg mb fa o pm cd doc a vs ns G Y ho hd hcd hmg hobj hints hlen hg=>?_;have KX:=hY w _ Y;obtain ⟨fd,hb,hF⟩:=F w mg fa _ KX G.T.g hmg;have hBM:BMAt mg s₁.heap:=by
  obtain ⟨bm,ob,b1,b2,b3,b4,b5,b6⟩:=G.T.bmain;refine #[bm,ob,b1,b2,λz=>?_,b3,b4,b5,b6];obtain ⟨o,es,ep,e,hd,_⟩:=G.T.g;rw[z,e]at b3;cases b3
  rw[hd]at b6;cases b6
 exact HS (tabs:=tabs) KX G.T.g G.T.b G.T.builtins G.T.nolimit hg hBM (λq hq=>#[W.codeHd_of_K KX (hC w q hq).1,hYT w _ Y q hq]) (λq hq=>(hC w q hq).2) hobj hints (bS hlen hn2) hr hF hb (λH hO hS=>hsp w H a ns hlen hO hS) λH e s' z=>z
structure DFT (K:Frag)(mg:Str->Option Value)(x:Str)(st:Stmt)(ps:List Str)(c Pt:Addr):Prop where
 ex:∃(f:Addr) (oc:Value) (od:Option Addr) (kV dc pm:Value) (an:Option Addr) (ct:Value) (osl:Array (Option Value)),K.lookup f=some #[oc,od,.func (fnOf x x (eO st) (dk st) (aB st) .none kV dc pm an (.ref c) ct),osl]/\
  codeIn K (.ref c) x=true/\keepIn K (.ref f)=true/\mg x=some (.ref f)/\dJ K (fnOf x x (eO st) (dk st) (aB st) .none kV dc pm an (.ref c) ct) ps []
 hd:codeHdIn K c Pt=true
def DFT.ok {w:World}{K:Frag}{mg:Str->Option Value}{base:Heap}{st:Stmt}{N:List Str}{k:Nat}{sp:Sp}{c:Addr}(D:DFT K mg x st ps c Pt)(S:aK N ps (aB st))(len:∀ vs H Q E,sp vs H Q E->vs.length=ps.length)
  (hbody:∀(f:Addr) (A:Around) (outer:List Env) (s:Shared) (H:Hp) (vs:List V) (Q:VK) (E:XK),Room k (A.deeper (envOfC x (aB st) s.heap.objs.size f (.ref c)))->sp vs H Q E->
   ∃ t,PSs (cxOf CX0 P w K mg base N x (aB st) f (.ref c) A outer s H E).nox (dk st) t/\t { nx:=λ_ H'=>Q .non H',rt:=Q } (cV N vs) H):FC P w K mg base (k+1) x ps sp:=by
 obtain ⟨f,oc,od,kV,dc,pm,an,ct,osl,lk,hcd,kp,m,bd⟩:=D.ex;refine #[f,_,Au lk hcd S len λA outer s H vs Q E hr hsp=>?_,bd,kp,m,oc,od,osl,lk];obtain ⟨t,h,q⟩:=hbody f A outer s H vs Q E hr hsp;exact #[t,h.nox,q]
def HV {K:Frag}{x:Str}{c Pt f:Addr}{oc:Value}{od:Option Addr}{fd:FuncData}{sl:Array (Option Value)}(a:nsIn K mainGlobals x=some (some (.ref f)))(l:K.lookup f=some #[oc,od,.func fd,sl])(t:tabIn K x=some (c,Pt)):fd.code=.ref c:=by
 unfold tabIn at t;rw[a]at t;dsimp only at t;rw[l]at t;dsimp only at t;split at t
 .rename_i c2 hc;split at t
  .split at t
   .cases t
    exact hc
   .cases t
  .cases t
 .cases t
def mw {X:Cx}{params:Arguments}{body:Expr}{osc:Scope}{N:List Str}{cap:List Nat}(sc:vm scope ps caps)
  (h1:∀ p∈scope.names,p.2=NameKind.free->osc.names.lookup p.1=some NameKind.cell) (h2:∀ p∈caps.zip cap,N[p.2]?=some p.1/\osc.names.lookup p.1=some NameKind.cell) (hl:caps.length=cap.length)
  (ho:X.env.scope=osc) (hN:X.N=N) (d:defaultsOf params X.env=([],[]))
  (b:∀(cl:List (Str×Addr)) (pm cdv ct:Value) (us:List Value),us.length=ps.length->bindArgs (W.kla_fn "<lambda>" (X.env.qual ++ "<lambda>") params body scope cl pm cdv ct) #[us,[]]=pure (ps.zip us))
  (o:∀ x,X.fn x=true):gR X params body scope ps caps cap:=by
 have hk:∀ x,X.env.kindOf x=osc.names.lookup x:=λx=>by
  unfold Env.kindOf;rw[ho]
 refine #[sc,λx hx=>.inl ?_,λj x hj=>?_,d,b,o]
 .rw[hk];exact h1 (x,.free) hx rfl
 .have hj':=(aZ.mp hj).1;have hc:cap[j]?=some (cap[j]'(by lia)):=aC _;have hz:(caps.zip cap)[j]?=some (x,cap[j]'(by lia)):=by
   rw[List.getElem?_zip_eq_some];exact #[hj,hc]
  obtain ⟨a1,a2⟩:=h2 _ (dF hz);refine #[_,hc,?_,.inl ?_]
  .rw[hN];exact a1
  .rw[hk];exact a2
structure Sub (K:Frag)(mg:Str->Option Value)(b1 b2:Heap):Prop where
 mod:Mod K mg b1
 get:∀ b o,b1.get? b=some o->b2.get? b=some o
 size:b1.objs.size<=b2.objs.size
section
variable {P:Program}{w:World}{K:Frag}{mg:Str->Option Value}{b1 b2:Heap}{k:Nat}{f:Addr}{ps:List Str}{sp:Sp}
def FnOk.lift {fd:FuncData}(F:FnOk P w K mg b1 CX k f fd ps sp)(S:Sub K mg b1 b2):FnOk P w K mg b2 CX k f fd ps sp:=
 #[F.len,λA outer s H args us vs Q E hr e0=>F.run A outer s H args us vs Q E hr #[e0.frames,S.mod,λb o e=>e0.bs b o (S.get b o e),bS S.size e0.bsz,vn e0.funs (λb hb=>by
  cases q:b1.get? b with
  | none=>rfl
  | some o=>
   have z:=(e0.funs.mem hb).1;rw[S.get b o q]at z;exact nomatch z),e0.frf,e0.hok,e0.bare]]
def FV.lift (F:FV P w K mg b1 k f ps sp)(S:Sub K mg b1 b2):FV P w K mg b2 k f ps sp:=by
 obtain ⟨fd,ok,bd,oc,od,fd2,sl,ho⟩:=F.ex;exact #[fd,FnOk.lift ok S,bd,oc,od,fd2,sl,S.get _ _ ho]
def BMAt.lift (h:BMAt mg b1)(S:Sub K mg b1 b2):BMAt mg b2:=by
 obtain ⟨bm,o,h1,h2,h3,h4,h5⟩:=h;exact #[bm,o,h1,h2,h3,S.get _ _ h4,h5]
end
def HY (P:Program)(w:World)(K:Frag)(mg:Str->Option Value)(base:Heap)(kr:Nat)(tf:TE)(t:TA):TE:=λU H Q=>tf U H λx H1=>∃ f k ps sp,x=.ref f/\FV P w K mg base k f ps sp/\k<=kr/\t U H1 λvs H2=>sp vs H2 Q E0
def HZ (P:Program)(w:World)(K:Frag)(mg:Str->Option Value)(base:Heap){X:Cx}{x:Str}{e:Expr}{es:List Expr}{t:TA}{p pos:Pos}(hr:Room kr X.A)(hf:PE X (.Name x p) tf)(ha:PA X (e::es) t)
  (h1:X.prog=P:=by rfl) (h2:X.w=w:=by rfl) (h3:X.K=K:=by rfl) (h4:X.mg=mg:=by rfl) (h5:X.base=base:=by rfl)
  (he:starEach (e::es) X.env=(false,eval e X.env)::starEach es X.env:=by rfl) (hpl:(backTo pos (starEach es X.env)).any (·.1)=false:=by rfl):PE X (.Call (.Name x p) (e::es) [] pos) (HY P w K mg base kr tf t):=by
 subst h1 h2 h3 h4 h5;exact vo hr hf ha he hpl
section
variable {X:Cx}{Px:List (Addr×Obj)}{U:St}{H:Hp}{s:Shared}
def mx (I:Inv X Px U H s):Sub X.K X.mg X.base (dy X s H):=#[I.ok.mod,BM I,bS I.env0.bsz (lO (W.hideAll_size _ _).symm)]
def vp (X:Cx)(n kf:Nat)(ps:List Str)(cap:List Nat)(Pt:Addr)(lpos:Pos)(tb:Heap->TE)(U:St)(H1:Hp)(q:Heap->Addr->Hp->Prop):Prop:=aR H1 Pt lpos (X.env.qual ++ "<lambda>")/\∃ vcs:List V,vcs.length=n/\(∀(j i:Nat) (v:V),cap[j]?=some i->vcs[j]?=some v->U[i]?=some (some v))/\
 ∀(base:Heap) (f c':Addr) (H2:Hp),Gro Pt H1 H2->aR H2 Pt lpos (X.env.qual ++ "<lambda>")->gc H2 c' (X.env.qual ++ "<lambda>")->Sub X.K X.mg X.base base->FV X.prog X.w X.K X.mg base kf f ps (iO ps.length (tb base) vcs c' (X.env.qual ++ "<lambda>"))->q base f H2
def BO {f c':Addr}{pm ctv:Value}{vcs:List V}{k n:Nat}(I:Inv X Px U H s)(L:gR X params body scope ps caps cap)(hcl:ju scope X.env cl)
  (ho:s.heap.get? f=some (W.kla_obj "<lambda>" (X.env.qual ++ "<lambda>") params body scope cl pm c' ctv)) (hn:H f=none) (hfr:∀ b∈frs X.stack,b<n) (hge:n<=f)
  (hv:vcs.length=caps.length) (hvs:∀(j i:Nat) (v:V),cap[j]?=some i->vcs[j]?=some v->U[i]?=some (some v))
  (hb:∀(f:Addr) (cd:Value) (cl:List (Str×Addr)) (A:Around) (outer:List Env) (s1:Shared) (H1:Hp),Room k (A.deeper (W.envX (X.env.qual ++ "<lambda>") scope s1.heap.objs.size f cd cl))->PE (gb X.prog X.w X.K X.mg (dy X s H) (ps++caps) (X.env.qual ++ "<lambda>") scope f cd cl A outer s1 H1) body tb) :
  FV X.prog X.w X.K X.mg (dy X s H) (k+1) f ps (iO ps.length tb vcs c' (X.env.qual ++ "<lambda>")):=by
 have nf:f∉frs X.stack:=λz=>absurd (cA (hfr f z) hge) (dE _);have hbf:=mv (X:=X) ho hn nf;have cellB:∀ x a v,X.env.cells.lookup x=some a->s.heap.IsCell a v->(dy X s H).IsCell a v:=λx a v e ⟨o,h1,h2⟩=>by
  refine #[o,mv h1 (I.freeC x a e) λz=>?_,h2];rcases aW.mp (I.stkSub a z) with y|y
  .exact I.cne x a e y
  .obtain ⟨_,o2,h3,_⟩:=I.ok.funs.mem y;exact absurd (cA (aT h3) (I.ok.cab x a (L.own x) e)) (dE _)
 refine #[_,BI L.sc hbf hv (λj x v h1 h2=>?_) (λx a e=>?_) (λx y a h1 h2=>I.ok.inj x y a (hcl.sub x a h1) (hcl.sub y a h2)) (λx e=>?_) (λA outer s H hr=>hb f _ cl A outer s H hr),.all (L.binds cl pm (.ref c') ctv),#[_,_,_,_,hbf]]
 ·obtain ⟨i,e1,e2,e3⟩:=L.capAt j x h1;obtain ⟨m,hm,hl⟩:=I.loc;obtain ⟨u,ru,lk⟩:=hl i x v e2 (hvs j i v e1 h2) (by
   rcases e3 with z|z
   .exact .inr (.inl z)
   .exact .inr (.inr z))
  rcases lk with ⟨z,_⟩|⟨_,a,e4,e5⟩
  .rcases e3 with y|y
   .rw[y]at z;cases z
   .rw[y]at z;cases z
  .obtain ⟨a',e6⟩:=hcl.has x (PySem.mem_of_lookup (L.sc.cap x (dF h1)));have e7:=hcl.sub x a' e6;rw[e4]at e7;cases e7
   exact #[a,u,e6,cellB x a _ e4 e5,ru]
 .obtain ⟨v,z⟩:=I.cell x a (hcl.sub x a e);exact #[v,cellB x a v (hcl.sub x a e) z]
 .exact hcl.has x (PySem.mem_of_lookup e)
def BP {tb:Heap->TE}{c Pt:Addr}{Qv:List Value->Shared->Prop}(I:Inv X Px U H s)
  (L:gR X params body scope ps caps cap) (hcode:X.env.code=.ref c) (hC:codeHdIn X.K c Pt=true) (hBM:BMAt X.mg X.base)
  (hb:∀(base:Heap) (f:Addr) (cd:Value) (cl:List (Str×Addr)) (A:Around) (outer:List Env) (s:Shared) (H:Hp),Sub X.K X.mg X.base base->Room kf (A.deeper (W.envX (X.env.qual ++ "<lambda>") scope s.heap.objs.size f cd cl))->PE (gb X.prog X.w X.K X.mg base (ps++caps) (X.env.qual ++ "<lambda>") scope f cd cl A outer s H) body (tb base))
  (hg:vp X caps.length (kf+1) ps cap Pt lpos tb U H q) (h:∀ f H2 s2,Inv X Px U H2 s2->q (dy X s2 H2) f H2->Qv [.ref f] s2):wpAny (model X.prog X.w) X.A (spliced [(false,eval (.Lambda params body scope lpos) X.env)]) Qv X.xe s:=by
 obtain ⟨hT,vcs,hv,hvs,q⟩:=hg;refine Calls.spliced_cons (BK I L.dflt L.frees hcode hC hBM hT λf c' cl pm ctv H2 s2 hcl I2 ho hn hge hgr hT2 hca=>?_);have S:=mx I2;have hF:=BO (k:=kf) (n:=s.heap.objs.size) (tb:=tb (dy X s2 H2)) I2 L hcl ho hn (λb hb=>by
  obtain ⟨_,o,e,_⟩:=I.stack.mem hb;exact aT e) hge hv hvs (λf cd cl A outer s H hr=>hb _ f cd cl A outer s H S hr)
 exact Calls.spliced_nil (h f H2 s2 I2 (q _ f c' H2 hgr hT2 hca S hF))
def vq {x:Str}{k:Nat}{g:Addr}{Q:VK}{us:List Value}{vs:List V}(I:Inv X Px U H s)(m:X.mg x=some (.ref g))(F:FC X.prog X.w X.K X.mg (dy X s H) j x qs sp)(hr:Room k X.A)(hjk:j<=k)(r:Vals vs us)(h:sp vs H Q E0) :
  wpAny (model X.prog X.w) X.A (call (.ref g) us) (EP X Px U Q) X.xe s:=by
 obtain ⟨g2,fd2,ok,bd,_,m2,_⟩:=F.ex;rw[m]at m2;cases m2
 refine wpAny_call (codeAny_mono (ok.run X.A X.stack s H #[us,[]] us vs Q E0 (hr.mono hjk) (BN I) (by simpa using bd s us I.kIn (by rw[cB,<-r.length];exact ok.len _ _ _ _ h)) r h) λr s' hq=>?_);cases r with
 | error e=>exact False.elim hq
 | ok fl=>
  cases fl with
  | ret u=>exact I.after hq
  | next=>exact False.elim hq
  | brk=>exact False.elim hq
  | cont=>exact False.elim hq
end
section
variable {X:Cx}
def Ia (X:Cx)(n kf:Nat)(ps:List Str)(cap:List Nat)(Pt:Addr)(lpos:Pos)(tb:Heap->TE)(te:TE)(spH:Heap->Sp):TE:=λU H Q=>te U H λx1 H1=>vp X n kf ps cap Pt lpos tb U H1 λbase f H2=>spH base [x1,.ref f] H2 Q E0
def Ib {lpos p pos:Pos}{tb:Heap->TE}{spH:Heap->Sp}{k:Nat}{c Pt:Addr}
  (F:∀ base,Sub X.K X.mg X.base base->FC X.prog X.w X.K X.mg base j x qs (spH base)) (hr:Room k X.A) (h1:PE X e1 te) (L:gR X params body scope ps caps cap) (hcode:X.env.code=.ref c) (hC:codeHdIn X.K c Pt=true) (hBM:BMAt X.mg X.base)
  (hb:∀(base:Heap) (f:Addr) (cd:Value) (cl:List (Str×Addr)) (A:Around) (outer:List Env) (s:Shared) (H:Hp),Sub X.K X.mg X.base base->Room kf (A.deeper (W.envX (X.env.qual ++ "<lambda>") scope s.heap.objs.size f cd cl))->PE (gb X.prog X.w X.K X.mg base (ps++caps) (X.env.qual ++ "<lambda>") scope f cd cl A outer s H) body (tb base))
  (hjk:j<=k:=by decide) (hg:Gl X x:=by rfl) (hdb:(x==("__debug__" : Str))=false:=by decide) (he:starEach [e1,.Lambda params body scope lpos] X.env=(false,eval e1 X.env)::starEach [.Lambda params body scope lpos] X.env:=by rfl)
  (he2:starEach [.Lambda params body scope lpos] X.env=[(false,eval (.Lambda params body scope lpos) X.env)]:=by rfl) (hpl:(backTo pos (starEach [.Lambda params body scope lpos] X.env)).any (·.1)=false:=by rfl) :
  PE X (.Call (.Name x p) [e1,.Lambda params body scope lpos] [] pos) (Ia X caps.length (kf+1) ps cap Pt lpos tb te spH):=by
 intro Px s U H Q I h;obtain ⟨g,fd,_,_,kp,m,oc,od,osl,lk⟩:=(F X.base #[I.ok.mod,λ_ _ e=>e,aj _]).ex;refine wpAny_Call_Name_kw (ji I hg m ?_ hdb);refine W.callWith_K (h₀:=X.base) I.ok.mod.kin kp ?_ he hpl;rw[he];show wpAny _ _ (spliced ((false,eval e1 X.env)::backTo pos (starEach [.Lambda params body scope lpos] X.env))) _ _ s;refine Calls.spliced_cons (thn (h1 Px s U H _ I h) λu s1 zq0=>?_);obtain ⟨x1,H1,I1,r1,q1⟩:=zq0;rw[he2];show wpAny _ _ (spliced [(false,eval (.Lambda params body scope lpos) X.env)]) _ _ s1;exact BP I1 L hcode hC hBM hb q1 λf H2 s2 I2 hsp=>#[I2.kIn,vq I2 m (F _ (mx I2)) hr hjk (vs:=[x1,.ref f]) (.cons r1 (.cons rfl .nil)) hsp]
def Ic (X:Cx)(n kf:Nat)(ps:List Str)(cap:List Nat)(Pt:Addr)(lpos:Pos)(tb:Heap->TE)(te te2:TE)(spH:Heap->Sp):TE:=λU H Q=>te U H λx1 H1=>te2 U H1 λx2 H2=>vp X n kf ps cap Pt lpos tb U H2 λbase f H3=>spH base [x1,x2,.ref f] H3 Q E0
def Ie {lpos p pos:Pos}{tb:Heap->TE}{spH:Heap->Sp}{k:Nat}{c Pt:Addr}
  (F:∀ base,Sub X.K X.mg X.base base->FC X.prog X.w X.K X.mg base j x qs (spH base)) (hr:Room k X.A) (h1:PE X e1 te) (h2:PE X e2 te2) (L:gR X params body scope ps caps cap) (hcode:X.env.code=.ref c) (hC:codeHdIn X.K c Pt=true) (hBM:BMAt X.mg X.base)
  (hb:∀(base:Heap) (f:Addr) (cd:Value) (cl:List (Str×Addr)) (A:Around) (outer:List Env) (s:Shared) (H:Hp),Sub X.K X.mg X.base base->Room kf (A.deeper (W.envX (X.env.qual ++ "<lambda>") scope s.heap.objs.size f cd cl))->PE (gb X.prog X.w X.K X.mg base (ps++caps) (X.env.qual ++ "<lambda>") scope f cd cl A outer s H) body (tb base))
  (hjk:j<=k:=by decide) (hg:Gl X x:=by rfl) (hdb:(x==("__debug__" : Str))=false:=by decide) (he:starEach [e1,e2,.Lambda params body scope lpos] X.env=(false,eval e1 X.env)::starEach [e2,.Lambda params body scope lpos] X.env:=by rfl)
  (he2:starEach [e2,.Lambda params body scope lpos] X.env=[(false,eval e2 X.env),(false,eval (.Lambda params body scope lpos) X.env)]:=by rfl) (hpl:(backTo pos (starEach [e2,.Lambda params body scope lpos] X.env)).any (·.1)=false:=by rfl) :
  PE X (.Call (.Name x p) [e1,e2,.Lambda params body scope lpos] [] pos) (Ic X caps.length (kf+1) ps cap Pt lpos tb te te2 spH):=by
 intro Px s U H Q I h;obtain ⟨g,fd,_,_,kp,m,oc,od,osl,lk⟩:=(F X.base #[I.ok.mod,λ_ _ e=>e,aj _]).ex;refine wpAny_Call_Name_kw (ji I hg m ?_ hdb);refine W.callWith_K (h₀:=X.base) I.ok.mod.kin kp ?_ he hpl;rw[he];show wpAny _ _ (spliced ((false,eval e1 X.env)::backTo pos (starEach [e2,.Lambda params body scope lpos] X.env))) _ _ s;refine Calls.spliced_cons (thn (h1 Px s U H _ I h) λu s1 zq0=>?_);obtain ⟨x1,H1,I1,r1,q1⟩:=zq0;rw[he2];show wpAny _ _ (spliced ((false,eval e2 X.env)::[(false,eval (.Lambda params body scope lpos) X.env)])) _ _ s1;refine Calls.spliced_cons (thn (h2 Px s1 U H1 _ I1 q1) λu2 s2 zq0=>?_);obtain ⟨x2,H2,I2,r2,q2⟩:=zq0;exact BP I2 L hcode hC hBM hb q2 λf H3 s3 I3 hsp=>#[I3.kIn,vq I3 m (F _ (mx I3)) hr hjk (vs:=[x1,x2,.ref f]) (.cons r1 (.cons r2 (.cons rfl .nil))) hsp]
end
def Ig {K:Frag}{a:Addr}{xs ys:List V}{g:TG}{tb:TS}{D:Ends}{U:St}{H:Hp}(hlen:ys.length<=xs.length)(Pv:Nat->St->Hp->Prop)(h0:Pv 0 U H)(hl:∀ i U H,i<=ys.length->Pv i U H->SqL K H a xs/\SqL K H b ys)
  (hs:∀ i x y U H p,xs[i]?=some x->ys[i]?=some y->Pv i U H->H p=none->g (.ref p) U (upd H p (.tup [x,y])) λU2 H2=>tb { D with nx:=Pv (i+1),ct:=Pv (i+1),bk:=D.nx } U2 H2) (hd:∀ U H,Pv ys.length U H->D.nx U H) :
  ∃ W:Nat->Nat->St->Hp->Prop,(∃ m,W 0 m U H)/\∀ i m U H,W i m U H->((Itz K a b).stop i H/\D.nx U H)\/((Itz K a b).go i H/\∃ N:St->Hp->Prop,(∀ U' H',N U' H'->∃ m',m'<m/\W (i+1) m' U' H')/\∀ x H',(Itz K a b).yld i H x H'->g x U H' λU2 H2=>tb { D with nx:=N,ct:=N,bk:=D.nx } U2 H2):=by
 refine #[λi m U H=>i+m=ys.length/\Pv i U H,#[ys.length,by lia,h0],λi m U H zq0=>?_];obtain ⟨e,pv⟩:=zq0;obtain ⟨hS,hS'⟩:=hl i U H (by lia) pv;by_cases hi:i<ys.length
 .refine .inr #[#[xs,ys,xs[i]'(by lia),ys[i],hS,hS',aC (by lia),aC hi],Pv (i+1),λU' H' q=>#[m-1,by lia,by lia,q],λx H' y=>?_];obtain ⟨p,z,z',rfl,hp,hz,hz',rfl⟩:=y;exact hs i z z' U H p (hz xs hS) (hz' ys hS') pv hp
 .have:i=ys.length:=by lia
  subst this;exact .inl #[#[xs,ys,hS,hS',.inr (aj _)],hd U H pv]
def Oth (p1 p2:Pos):Prop:=(((p1.line:Int)==(p2.line:Int))&&((p1.col:Int)==(p2.col:Int)))=false
def Ih {c:Value}(ho:Oth p1 p2)(l:List Value)(h:TriplesOk l):codeAmong p2 (l++[rawInt p1.line,rawInt p1.col,c])=codeAmong p2 l:=by
 fun_induction TriplesOk l with
 | case1=>
  unfold Oth at ho;simp only[List.nil_append,codeAmong,rawInt];rw[ho];rfl
 | case2 a t b u x rest ih=>
  simp only[List.cons_append,codeAmong];rw[ih h]
 | case3 l h1 h2=>exact h.elim
section
variable {X:Cx}{Px:List (Addr×Obj)}{U:St}{H:Hp}{s:Shared}{params:Arguments}{body:Expr}{scope:Scope}{lpos:Pos}{c Pt:Addr}{Q:Value->Shared->Prop}
def Ii (I:Inv X Px U H s)(hdef:defaultsOf params X.env=([],[]))(hfr:∀ x,(x,NameKind.free)∈scope.names->(X.env.kindOf x=some .cell\/X.env.kindOf x=some .free))(hcode:X.env.code=.ref c)(hC:codeHdIn X.K c Pt=true)(hBM:BMAt X.mg X.base)
  (hT:aR H Pt lpos (X.env.qual ++ "<lambda>"))
  (h:∀(f c':Addr) (cl:List (Str×Addr)) (pm ctv:Value) (H':Hp) (s':Shared),ju scope X.env cl->Inv X Px U H' s'->s'.heap.get? f=some (W.kla_obj "<lambda>" (X.env.qual ++ "<lambda>") params body scope cl pm c' ctv)->H' f=none->s.heap.objs.size<=f->
   Gro Pt H H'->aR H' Pt lpos (X.env.qual ++ "<lambda>")->gc H' c' (X.env.qual ++ "<lambda>")->(∀ p2 q2,Oth lpos p2->aR H Pt p2 q2->aR H' Pt p2 q2)->Q (.ref f) s') :
  wpAny (model X.prog X.w) X.A (eval (.Lambda params body scope lpos) X.env) Q X.xe s:=by
 obtain ⟨cl,hcl⟩:=o4 (scope:=scope) (env:=X.env) λx hx=>I.ok.has x (hfr x hx);obtain ⟨tab,hP,ht,hor⟩:=hT.ex;have hPo:s.heap.get? Pt=some (W.tabObj tab):=I.hok Pt _ hP;have C:W.CodeHd s.heap c Pt:=(W.codeHd_of_K I.ok.mod.kin hC).keeps I.bk;have hgl:=I.mod.glob.keeps I.bk;have hgP:mainGlobals≠Pt:=λz=>by
  obtain ⟨o,es,ep,e,_⟩:=I.mod.glob;have:=(I.bs _ _ e).2;rw[z,hP]at this;cases this
 have hb:s.heap.BuiltinsAt X.mg Pt:=by
  obtain ⟨bm,o,b1,b2,b3,b4,b5⟩:=hBM;refine #[bm,o,b1,b2,b3,λz=>?_,I.bk _ _ b4,b5];have:=(I.bs _ _ b4).2;rw[z,hP]at this;cases this
 refine W.kla_eval hdef ?_;rcases hor with hnone|⟨c',hsome,hca⟩
 .refine W.kla_makeFunction (clos:=cl) hcl.eq I.ok.glob hgl hcode C hPo ht hnone hgP hb λc' ctv h' tk hx hge hlt hrec htb=>?_;have hx':∀ o2 b o,b≠Pt->s.heap.get? b=some o->(h'.push o2).get? b=some o:=λo2 b o n e=>aX _ (hx b o n e);have I':=BJ (c':=c') (q:=X.env.qual ++ "<lambda>") (tk:=tk) I hP (hx' _) hge (hrec.push (W.kla_obj "<lambda>" (X.env.qual ++ "<lambda>") params body scope cl ((X.mg "__name__").getD .none) c' ctv)) (aX _ htb);have hsz:s.heap.objs.size<=h'.objs.size:=eE (eF hge hlt);have nPc:Pt≠c':=au hP (I.hok.fresh hge);have eT:(tab++(List.toArray [rawInt lpos.line,rawInt lpos.col,.ref c'])).toList=tab.toList++[rawInt lpos.line,rawInt lpos.col,.ref c']:=by simp
  have hTI:aR (upd (upd H Pt (.tbl (tab++(List.toArray [rawInt lpos.line,rawInt lpos.col,.ref c'])))) c' (.ext (ka c' (X.env.qual ++ "<lambda>")))) Pt lpos (X.env.qual ++ "<lambda>"):=
   #[_,by rw[ah nPc,af],by rw[eT];exact TriplesOk_snoc _ _ _ _ ht,.inr #[c',by rw[eT];exact codeAmong_snoc _ ht hnone,af]]
  refine h h'.objs.size c' cl _ ctv _ _ hcl I' (bZ _ rfl) ?_ hsz ?_ hTI af ?_
  .rw[ah (ig hlt),ah (λz=>?_)]
   .exact I.hok.fresh hsz
   .have:=aT hPo;rw[<-z]at this;exact absurd this (Nat.not_lt.mpr hsz)
  .intro b o n e;rw[ah (au e (I.hok.fresh hge)),ah n];exact e
  .intro p2 q2 ho x;obtain ⟨tab',x1,x2,x3⟩:=x.ex;rw[hP]at x1;cases x1
   refine #[_,by rw[ah nPc,af],by rw[eT];exact TriplesOk_snoc _ _ _ _ ht,?_];rw[eT,Ih ho _ ht];rcases x3 with x3|⟨c2,x3,x4⟩
   .exact .inl x3
   .refine .inr #[c2,x3,?_];have m1:c2≠Pt:=λz=>by
     have y:H c2=_:=x4;rw[z,hP]at y;cases y
    show upd _ _ _ c2=_;rw[ah (au x4 (I.hok.fresh hge)),ah m1];exact x4
 .refine W.kla_makeFunctionHit (clos:=cl) hcl.eq I.ok.glob hgl hcode C hPo ht hsome hb λctv h' tk hk hsz=>?_;exact h h'.objs.size c' cl _ ctv H _ hcl (I.kept (t':=tk) λb o e=>aX _ (hk b o e)) (bZ _ rfl) (I.hok.fresh hsz) hsz (Gro.refl _ _) hT hca λ_ _ _ x=>x
end
section
variable {X:Cx}{Px:List (Addr×Obj)}{U:St}{H:Hp}{s:Shared}
def BQ (X:Cx)(n kf:Nat)(ps:List Str)(cap:List Nat)(Pt:Addr)(lpos:Pos)(tb:Heap->TE)(U:St)(H1:Hp)(q:Heap->Addr->Hp->Prop):Prop:=aR H1 Pt lpos (X.env.qual ++ "<lambda>")/\∃ vcs:List V,vcs.length=n/\(∀(j i:Nat) (v:V),cap[j]?=some i->vcs[j]?=some v->U[i]?=some (some v))/\
 ∀(base:Heap) (f c':Addr) (H2:Hp),Gro Pt H1 H2->aR H2 Pt lpos (X.env.qual ++ "<lambda>")->gc H2 c' (X.env.qual ++ "<lambda>")->(∀ p2 q2,Oth lpos p2->aR H1 Pt p2 q2->aR H2 Pt p2 q2)->Sub X.K X.mg X.base base->FV X.prog X.w X.K X.mg base kf f ps (iO ps.length (tb base) vcs c' (X.env.qual ++ "<lambda>"))->q base f H2
def Ij {tb:Heap->TE}{c Pt:Addr}{Qv:List Value->Shared->Prop}(I:Inv X Px U H s)
  (L:gR X params body scope ps caps cap) (hcode:X.env.code=.ref c) (hC:codeHdIn X.K c Pt=true) (hBM:BMAt X.mg X.base)
  (hb:∀(base:Heap) (f:Addr) (cd:Value) (cl:List (Str×Addr)) (A:Around) (outer:List Env) (s:Shared) (H:Hp),Sub X.K X.mg X.base base->Room kf (A.deeper (W.envX (X.env.qual ++ "<lambda>") scope s.heap.objs.size f cd cl))->PE (gb X.prog X.w X.K X.mg base (ps++caps) (X.env.qual ++ "<lambda>") scope f cd cl A outer s H) body (tb base))
  (hg:BQ X caps.length (kf+1) ps cap Pt lpos tb U H q) (h:∀ f H2 s2,Inv X Px U H2 s2->q (dy X s2 H2) f H2->Qv [.ref f] s2):wpAny (model X.prog X.w) X.A (spliced [(false,eval (.Lambda params body scope lpos) X.env)]) Qv X.xe s:=by
 obtain ⟨hT,vcs,hv,hvs,q⟩:=hg;refine Calls.spliced_cons (Ii I L.dflt L.frees hcode hC hBM hT λf c' cl pm ctv H2 s2 hcl I2 ho hn hge hgr hT2 hca hot=>?_);have S:=mx I2;have hF:=BO (k:=kf) (n:=s.heap.objs.size) (tb:=tb (dy X s2 H2)) I2 L hcl ho hn (λb hb=>by
  obtain ⟨_,o,e,_⟩:=I.stack.mem hb;exact aT e) hge hv hvs (λf cd cl A outer s H hr=>hb _ f cd cl A outer s H S hr)
 exact Calls.spliced_nil (h f H2 s2 I2 (q _ f c' H2 hgr hT2 hca hot S hF))
end
section
variable {X:Cx}
def Ik (X:Cx)(n kf:Nat)(ps:List Str)(cap:List Nat)(Pt:Addr)(lpos:Pos)(tb:Heap->TE)(te te2:TE)(spH:Heap->Sp):TE:=λU H Q=>te U H λx1 H1=>te2 U H1 λx2 H2=>BQ X n kf ps cap Pt lpos tb U H2 λbase f H3=>spH base [x1,x2,.ref f] H3 Q E0
def BR {lpos p pos:Pos}{tb:Heap->TE}{spH:Heap->Sp}{k:Nat}{c Pt:Addr}
  (F:∀ base,Sub X.K X.mg X.base base->FC X.prog X.w X.K X.mg base j x qs (spH base)) (hr:Room k X.A) (h1:PE X e1 te) (h2:PE X e2 te2) (L:gR X params body scope ps caps cap) (hcode:X.env.code=.ref c) (hC:codeHdIn X.K c Pt=true) (hBM:BMAt X.mg X.base)
  (hb:∀(base:Heap) (f:Addr) (cd:Value) (cl:List (Str×Addr)) (A:Around) (outer:List Env) (s:Shared) (H:Hp),Sub X.K X.mg X.base base->Room kf (A.deeper (W.envX (X.env.qual ++ "<lambda>") scope s.heap.objs.size f cd cl))->PE (gb X.prog X.w X.K X.mg base (ps++caps) (X.env.qual ++ "<lambda>") scope f cd cl A outer s H) body (tb base))
  (hjk:j<=k:=by decide) (hg:Gl X x:=by rfl) (hdb:(x==("__debug__" : Str))=false:=by decide) (he:starEach [e1,e2,.Lambda params body scope lpos] X.env=(false,eval e1 X.env)::starEach [e2,.Lambda params body scope lpos] X.env:=by rfl)
  (he2:starEach [e2,.Lambda params body scope lpos] X.env=[(false,eval e2 X.env),(false,eval (.Lambda params body scope lpos) X.env)]:=by rfl) (hpl:(backTo pos (starEach [e2,.Lambda params body scope lpos] X.env)).any (·.1)=false:=by rfl) :
  PE X (.Call (.Name x p) [e1,e2,.Lambda params body scope lpos] [] pos) (Ik X caps.length (kf+1) ps cap Pt lpos tb te te2 spH):=by
 intro Px s U H Q I h;obtain ⟨g,fd,_,_,kp,m,oc,od,osl,lk⟩:=(F X.base #[I.ok.mod,λ_ _ e=>e,aj _]).ex;refine wpAny_Call_Name_kw (ji I hg m ?_ hdb);refine W.callWith_K (h₀:=X.base) I.ok.mod.kin kp ?_ he hpl;rw[he];show wpAny _ _ (spliced ((false,eval e1 X.env)::backTo pos (starEach [e2,.Lambda params body scope lpos] X.env))) _ _ s;refine Calls.spliced_cons (thn (h1 Px s U H _ I h) λu s1 zq0=>?_);obtain ⟨x1,H1,I1,r1,q1⟩:=zq0;rw[he2];show wpAny _ _ (spliced ((false,eval e2 X.env)::[(false,eval (.Lambda params body scope lpos) X.env)])) _ _ s1;refine Calls.spliced_cons (thn (h2 Px s1 U H1 _ I1 q1) λu2 s2 zq0=>?_);obtain ⟨x2,H2,I2,r2,q2⟩:=zq0;exact Ij I2 L hcode hC hBM hb q2 λf H3 s3 I3 hsp=>#[I3.kIn,vq I3 m (F _ (mx I3)) hr hjk (vs:=[x1,x2,.ref f]) (.cons r1 (.cons r2 (.cons rfl .nil))) hsp]
end
end L2
namespace L2
open PySem PySem.Spec PyProof.Rows PySem.SeqAt
structure Tri (α β γ:Type) where
 a:α
 b:β
 c:γ
def Tri.ext' {α β γ:Type}:∀{p q:Tri α β γ},p.a=q.a->p.b=q.b->p.c=q.c->p=q
 | ⟨_,_,_⟩,⟨_,_,_⟩,rfl,rfl,rfl=>rfl
instance {α β γ:Type} [DecidableEq α] [DecidableEq β] [DecidableEq γ]:DecidableEq (Tri α β γ):=λp q=>
 if h1:p.a=q.a then if h2:p.b=q.b then if h3:p.c=q.c then .isTrue (Tri.ext' h1 h2 h3) else .isFalse λz=>h3 (by rw[z]) else .isFalse λz=>h2 (by rw[z]) else .isFalse λz=>h1 (by rw[z])
def my {x y z:V}{us:List Value}(r:Vals [x,y,z] us):∃ u v w,us=[u,v,w]/\RelV x u/\RelV y v/\RelV z w:=by
 cases r with
 | cons r1 r=>
  cases r with
  | cons r2 r=>
   cases r with
   | cons r3 r=>
    cases r
    exact #[_,_,_,rfl,r1,r2,r3]
inductive has3 {α β γ:Type}[Rep α][Rep β][Rep γ](K:Frag)(H:Hp)(p:Tri α β γ)(v:V):Prop
 | c:∀ a x y z,v=.ref a->H a=some (.tup [x,y,z])->Rep.has K H p.a x->Rep.has K H p.b y->Rep.has K H p.c z->has3 K H p v
section
variable {α β γ:Type}[ra:Rep α][rb:Rep β][rc:Rep γ]{X:Cx}{Px:List (Addr×Obj)}{U:St}{H:Hp}{s:Shared}{A:Around}{p q:Tri α β γ}{x y:V}{u v:Value}
def BS (I:Inv X Px U H s)(h1:has3 X.K H p x)(h2:has3 X.K H q x):p=q:=by
 obtain ⟨a,x1,x2,x3,rfl,q1,e1,e2,e3⟩:=h1;obtain ⟨b,y1,y2,y3,e,q2,f1,f2,f3⟩:=h2;cases e
 have z:=I.tuple_inj (SqT.of q2) (SqT.of q1);cases z
 exact Tri.ext' (Rep.inj I e1 f1) (Rep.inj I e2 f2) (Rep.inj I e3 f3)
def BU {p q:Tri α β γ}:((List.range (min 3 3)).all (λj=>if j=0 then (Rep.dec p.a q.a).decide else if j=1 then (Rep.dec p.b q.b).decide else (Rep.dec p.c q.c).decide)&&(3==3))=decide (p=q):=by
 rw[show List.range (min 3 3)=[0,1,2] from rfl];simp only[lR,List.all_nil,nW,if_true,beq_self_eq_true];rw[ak (by decide),ak (by decide),ak (by decide)];have e1:(Rep.dec p.a q.a).decide=decide (p.a=q.a):=rfl;have e2:(Rep.dec p.b q.b).decide=decide (p.b=q.b):=rfl;have e3:(Rep.dec p.c q.c).decide=decide (p.c=q.c):=rfl;rw[e1,e2,e3];by_cases z1:p.a=q.a
 .by_cases z2:p.b=q.b
  .by_cases z3:p.c=q.c
   .rw[aO z1,aO z2,aO z3,aO (Tri.ext' z1 z2 z3)];rfl
   .have n:¬ p=q:=λz=>z3 (by rw[z]);rw[aU z3,aU n];simp
  .have n:¬ p=q:=λz=>z2 (by rw[z]);rw[aU z2,aU n];simp
 .have n:¬ p=q:=λz=>z1 (by rw[z]);rw[aU z1,aU n];simp
def BV (I:Inv X Px U H s){B:Around}{x1 x2 x3 y1 y2 y3:V}{u1 u2 u3 v1 v2 v3:Value}(hin:∀ n,n<=Rep.depth α+Rep.depth β+Rep.depth γ->B.units+n<cLine)
  (e1:Rep.has X.K H p.a x1) (e2:Rep.has X.K H p.b x2) (e3:Rep.has X.K H p.c x3) (f1:Rep.has X.K H q.a y1) (f2:Rep.has X.K H q.b y2) (f3:Rep.has X.K H q.c y3) (r1:RelV x1 u1) (r2:RelV x2 u2) (r3:RelV x3 u3) (t1:RelV y1 v1) (t2:RelV y2 v2) (t3:RelV y3 v3) :
  ∀ j (h1:j<((List.toArray [u1,u2,u3]):Array Value).size) (h2:j<((List.toArray [v1,v2,v3]):Array Value).size),EqAt B s ((List.toArray [u1,u2,u3]):Array Value)[j] ((List.toArray [v1,v2,v3]):Array Value)[j] (if j=0 then (Rep.dec p.a q.a).decide else if j=1 then (Rep.dec p.b q.b).decide else (Rep.dec p.c q.c).decide):=by
 have c1:=Rep.eq (A:=B) I (hin _ (by lia)) e1 f1 r1 t1;have c2:=Rep.eq (A:=B) I (hin _ (by lia)) e2 f2 r2 t2;have c3:=Rep.eq (A:=B) I (hin _ (by lia)) e3 f3 r3 t3;intro j h1 h2;have h1':j<3:=h1;have z:j=0\/j=1\/j=2:=by lia
 rcases z with rfl|rfl|rfl
 .exact c1
 .exact c2
 .exact c3
def BW (I:Inv X Px U H s)(hu:A.units+(Rep.depth α+Rep.depth β+Rep.depth γ+1)<cLine)(h1:has3 X.K H p x)(h2:has3 X.K H q y)(r1:RelV x u)(r2:RelV y v):RcAt A s u v (decide (p=q)):=by
 obtain ⟨a,x1,x2,x3,rfl,q1,e1,e2,e3⟩:=h1;obtain ⟨b,y1,y2,y3,rfl,q2,f1,f2,f3⟩:=h2;cases r1
 cases r2
 obtain ⟨us,ru,pu,_⟩:=I.tuple (SqT.of q1);obtain ⟨vs,rv,pv,_⟩:=I.tuple (SqT.of q2);obtain ⟨u1,u2,u3,rfl,ru1,ru2,ru3⟩:=my ru;obtain ⟨v1,v2,v3,rfl,rv1,rv2,rv3⟩:=my rv;have hin:∀ n,n<=Rep.depth α+Rep.depth β+Rep.depth γ->A.in1.units+n<cLine:=λn hn=>eF (iq iK _) (by lia);have:=RcAt.tuples (A:=A) (s:=s) (l:=a) (b:=b) (items:=(List.toArray [u1,u2,u3])) (items2:=(List.toArray [v1,v2,v3])) pu pv (by lia) (BV (p:=p) (q:=q) I hin e1 e2 e3 f1 f2 f3 ru1 ru2 ru3 rv1 rv2 rv3);rw[<-BU];exact this
def Il (I:Inv X Px U H s)(hu:A.units+(Rep.depth α+Rep.depth β+Rep.depth γ+1)<cLine)(h1:has3 X.K H p x)(h2:has3 X.K H q y)(r1:RelV x u)(r2:RelV y v):RcNeAt A s u v (!decide (p=q)):=by
 obtain ⟨a,x1,x2,x3,rfl,q1,e1,e2,e3⟩:=h1;obtain ⟨b,y1,y2,y3,rfl,q2,f1,f2,f3⟩:=h2;cases r1
 cases r2
 obtain ⟨us,ru,pu,_⟩:=I.tuple (SqT.of q1);obtain ⟨vs,rv,pv,_⟩:=I.tuple (SqT.of q2);obtain ⟨u1,u2,u3,rfl,ru1,ru2,ru3⟩:=my ru;obtain ⟨v1,v2,v3,rfl,rv1,rv2,rv3⟩:=my rv;have hin:∀ n,n<=Rep.depth α+Rep.depth β+Rep.depth γ->A.in1.units+n<cLine:=λn hn=>eF (iq iK _) (by lia);have:=RcNeAt.tuples (A:=A) (s:=s) (l:=a) (b:=b) (items:=(List.toArray [u1,u2,u3])) (items2:=(List.toArray [v1,v2,v3])) pu pv (by lia) (BV (p:=p) (q:=q) I hin e1 e2 e3 f1 f2 f3 ru1 ru2 ru3 rv1 rv2 rv3);rw[<-BU];exact this
def Im (I:Inv X Px U H s)(hu:A.units+(Rep.depth α+Rep.depth β+Rep.depth γ+1)<cLine)(h1:has3 X.K H p x)(h2:has3 X.K H q y)(r1:RelV x u)(r2:RelV y v):EqAt A s u v (decide (p=q)):=by
 have rc:=BW (A:=A) I hu h1 h2 r1 r2;have h1':=id h1;have h2':=id h2;obtain ⟨a,x1,x2,x3,rfl,q1,e1,e2,e3⟩:=h1;obtain ⟨b,y1,y2,y3,rfl,q2,f1,f2,f3⟩:=h2;cases r1
 cases r2
 by_cases hab:a=b
 .subst hab;rw[aO (BS I h1' h2')];exact EqAt.same _
 .exact EqAt.of_refs hab rc
end
instance {α β γ:Type} [Rep α] [Rep β] [Rep γ]:Rep (Tri α β γ) where
 dec:=inferInstance
 depth:=Rep.depth α+Rep.depth β+Rep.depth γ+1
 has:=has3
 mono:=λe ⟨a,x,y,z,h1,h2,h3,h4,h5⟩=>#[a,x,y,z,h1,e _ _ h2 nofun,Rep.mono e h3,Rep.mono e h4,Rep.mono e h5]
 inj:=λI h1 h2=>BS I h1 h2
 rc:=λI hu h1 h2 r1 r2=>BW I hu h1 h2 r1 r2
 rn:=λI hu h1 h2 r1 r2=>Il I hu h1 h2 r1 r2
 eq:=λI hu h1 h2 r1 r2=>Im I hu h1 h2 r1 r2
end L2
namespace L2
open PySem PySem.Spec PyProof.Rows
structure DM (K:Frag)(C:Addr)(m q:Str)(st:Stmt)(ps:List Str):Prop where
 ex:∃ f fd,Fun K m q st f fd/\dJ K fd ps []/\Meth K C m f
structure FM (P:Program)(w:World)(K:Frag)(mg:Str->Option Value)(base:Heap)(C:Addr)(k:Nat)(m:Str)(ps:List Str)(sp:Sp):Prop where
 ex:∃ f fd,FnOk P w K mg base CX0 k f fd ps sp/\dJ K fd ps []/\Meth K C m f/\∃ oc od osl,K.lookup f=some #[oc,od,.func fd,osl]
structure DI (K:Frag)(C:Addr)(q:Str)(st:Stmt)(ps:List Str):Prop where
 ex:∃ f fd,Fun K "__init__" q st f fd/\dJ K fd ps []/\Mk K C f
structure FI (P:Program)(w:World)(K:Frag)(mg:Str->Option Value)(base:Heap)(C:Addr)(k:Nat)(ps:List Str)(sp:Sp):Prop where
 ex:∃ f fd,FnOk P w K mg base CX0 k f fd ps sp/\dJ K fd ps []/\Mk K C f
section
variable {P:Program}{w:World}{K:Frag}{mg:Str->Option Value}{base:Heap}{C:Addr}{m q:Str}{st:Stmt}{N ps:List Str}{k:Nat}{sp:Sp}
def DM.ok (D:DM K C m q st ps)(S:aK N ps (aB st))(len:∀ vs H Q E,sp vs H Q E->vs.length=ps.length)
  (hbody:∀(f:Addr) (cdv:Value) (A:Around) (outer:List Env) (s:Shared) (H:Hp) (vs:List V) (Q:VK) (E:XK),Room k (A.deeper (envOfC q (aB st) s.heap.objs.size f cdv))->sp vs H Q E->
   ∃ t,PSs (cxOf CX0 P w K mg base N q (aB st) f cdv A outer s H E).nox (dk st) t/\t { nx:=λ_ H'=>Q .non H',rt:=Q } (cV N vs) H):FM P w K mg base C (k+1) m ps sp:=by
 obtain ⟨f,fd,F,b,me⟩:=D.ex;exact #[f,fd,F.ok S len λcdv A outer s H vs Q E hr h=>hbody f cdv A outer s H vs Q E hr h,b,me,by
  obtain ⟨oc,od,kV,doc,pm,an,cdv,ct,osl,rfl,lk,hcd⟩:=F.ex;exact #[oc,od,osl,lk]]
def DI.ok (D:DI K C q st ps)(S:aK N ps (aB st))(len:∀ vs H Q E,sp vs H Q E->vs.length=ps.length)
  (hbody:∀(f:Addr) (cdv:Value) (A:Around) (outer:List Env) (s:Shared) (H:Hp) (vs:List V) (Q:VK) (E:XK),Room k (A.deeper (envOfC q (aB st) s.heap.objs.size f cdv))->sp vs H Q E->
   ∃ t,PSs (cxOf CX0 P w K mg base N q (aB st) f cdv A outer s H E).nox (dk st) t/\t { nx:=λ_ H'=>Q .non H',rt:=Q } (cV N vs) H):FI P w K mg base C (k+1) ps sp:=by
 obtain ⟨f,fd,F,b,me⟩:=D.ex;exact #[f,fd,F.ok S len λcdv A outer s H vs Q E hr h=>hbody f cdv A outer s H vs Q E hr h,b,me]
end
section
variable {X:Cx}{j k:Nat}{C:Addr}{m x:Str}{ps:List Str}{sp:Sp}{o e:Expr}{es:List Expr}{ta:TE}{t:TA}{p pos apos:Pos}
def jz {pl:Sem Bool}(F:FM X.prog X.w X.K X.mg X.base C j m ps sp)(c:Cls X.K C)(hr:Room k X.A)(he:PE X o ta)(ha:PA X (e::es) t)(hjk:j<=k:=by decide)
  (hst:starEach (e::es) X.env=(false,eval e X.env)::starEach es X.env:=by rfl) (hpl:(backTo pos (starEach es X.env)).any (·.1)=false:=by rfl)
  (ht:eval (.Call (.Attribute o m apos) (e::es) [] pos) X.env=(do
   let ov <-eval o X.env
   standAt apos.atName
   let (f,first) <-holding [ov] (getMethod ov m pl)
   callWith pos f first (backTo pos (starEach (e::es) X.env)) (backToKw pos (keywordEach [] X.env))):=by rfl) :
  PE X (.Call (.Attribute o m apos) (e::es) [] pos) (oQ C m sp [] E0 ta t):=by
 obtain ⟨f,fd,ok,b,me,_⟩:=F.ex;exact FQ he c me ok (hr.mono hjk) b .nil mj ha hst hpl ht
def Io {pl:Sem Bool}(F:FM X.prog X.w X.K X.mg X.base C j m ps sp)(c:Cls X.K C)(hr:Room k X.A)(he:PE X o ta)(hjk:j<=k:=by decide)
  (ht:eval (.Call (.Attribute o m apos) [] [] pos) X.env=(do
   let ov <-eval o X.env
   standAt apos.atName
   let (f,first) <-holding [ov] (getMethod ov m pl)
   callWith pos f first (backTo pos (starEach [] X.env)) (backToKw pos (keywordEach [] X.env))):=by rfl) :
  PE X (.Call (.Attribute o m apos) [] [] pos) (oQ C m sp [] E0 ta tNil):=by
 obtain ⟨f,fd,ok,b,me,_⟩:=F.ex;exact FR he c me ok (hr.mono hjk) b .nil mj ht
def Ip (F:FI X.prog X.w X.K X.mg X.base C j ps sp)(hr:Room k X.A)(hm:X.mg x=some (.ref C))(ha:PA X (e::es) t)(hjk:j+1<=k:=by decide)(hg:Gl X x:=by rfl)
  (hdb:(x==("__debug__" : Str))=false:=by decide) (he:starEach (e::es) X.env=(false,eval e X.env)::starEach es X.env:=by rfl) (hpl:(backTo pos (starEach es X.env)).any (·.1)=false:=by rfl) :
  PE X (.Call (.Name x p) (e::es) [] pos) (An C sp [] E0 t):=by
 obtain ⟨f,fd,ok,b,me⟩:=F.ex;exact FT me ok (hr.mono hjk) hg hm b .nil mj ha hdb he hpl
end
section
variable {X:Cx}
def Iq (hu:X.A.units+1<cLine):OpR X (compareOp .In) (λx y H Q=>∃ a o,y=.ref a/\DGet H a x o/\Q (.bl o.isSome) H):=by
 intro Px s U H x y v u Q I rx ry h;obtain ⟨a,o,rfl,g,q⟩:=h;cases ry
 exact d_in hu I g rx λs' I'=>#[.bl _,H,I',rfl,q]
end
section
variable {X:Cx}
def Ir (hu:X.A.units+1<cLine):OpR X (compareOp .NotIn) (λx y H Q=>∃ a o,y=.ref a/\DGet H a x o/\Q (.bl (!o.isSome)) H):=by
 intro Px s U H x y v u Q I rx ry h;obtain ⟨a,o,rfl,g,q⟩:=h;cases ry
 exact Gu hu I g rx λs' I'=>#[.bl _,H,I',rfl,q]
def Iu {A:Around}(hu:A.units+1<cLine)(hA:X.A=A:=by rfl):OpR X (compareOp .NotIn) (λx y H Q=>∃ a o,y=.ref a/\DGet H a x o/\Q (.bl (!o.isSome)) H):=by
 subst hA;exact Ir hu
end
section
variable {X:Cx}
inductive vt (K:Frag)(x:V)(y:V)(H:Hp)(Q:VK):Prop
 | c:∀ a b xs ys,x=.ref a->y=.ref b->SqT K H a xs->SqT K H b ys->xs.length+ys.length<=sizeLine->(xs=[]->Q (.ref b) H)->(xs≠[]->(ys=[]->Q (.ref a) H)/\(ys≠[]->∀ p,H p=none->Q (.ref p) (upd H p (.tup (xs++ys)))))->vt K x y H Q
def BX:OpR X (binaryOp .Add) (vt X.K):=by
 intro Px s U H x y v u Q I rx ry h;obtain ⟨a,b,xs,ys,e1,e2,ha,hb,hz,q1,q2⟩:=h;by_cases hx:xs=[]
 .subst e1 e2;cases rx
  cases ry
  obtain ⟨its,r1,p1,_⟩:=I.tuple ha;obtain ⟨its2,r2,p2,_⟩:=I.tuple hb;obtain ⟨⟨cls,dd,data,sl⟩,ho,hc,n,hd⟩:=id p1;obtain ⟨⟨cls2,dd2,data2,sl2⟩,ho2,hc2,n2,hd2⟩:=id p2;simp only at hc hd hc2 hd2;subst hc hd hc2 hd2;have hv:its=[]:=r1.nil_iff.mpr hx;exact concat_meets #[_,ho,rfl] #[_,ho2,rfl] noFill_tuple_add seq_tuple_add PySem.F.slot_tuple_add PySem.F.entry_tuple_add (PySem.F.args_tuple_add_2 _ _)
   (tuple_addW0 a b its.toArray its2.toArray n n2 dd dd2 sl sl2 (by simp[hv])) #[ho,ho2,.ref b,H,I,rfl,q1 hx]
 .exact oT Px s U H x y v u Q I rx ry #[a,b,xs,ys,e1,e2,ha,hb,hx,hz,λz=>(q2 hx).1 z,λz=>(q2 hx).2 z]
end
end L2
namespace DictP
open PySem PySem.Spec PyProof.Rows
set_option maxRecDepth 100000
def Iv:typeLookup (.type "list") "keys" = pure none:=by rw[typeLookup_type,builtinLookup_eq_fast];kernel_rfl
section
variable {prog:Program}{w:World}{A:Around}{E:Value->Shared->Prop}{a:Addr}{o:Obj}{h:Heap}{g:Array GenState}{d:Drawn}{t:Nat}{os:OsState}{xs:Array Value}{n:Nat}{sl:Array (Option Value)}
def Iw {tk:Tok}{Q:Fin->Shared->Prop}(hh:A.handled=none)(hx:h.get? a=some { cls:=.type "list",dict:=none,data:=.seq xs n,slots:=sl })
  (q:∀ h' t' e,(∀ b u,h.get? b=some u->h'.get? b=some u)->(#[h',g,d,t',os]:Shared).TypeIs (.ref e) "AttributeError"->E (.ref e) #[h',g,d,t',os]) :
  wpAny (model prog w) A (Builtin.«object.__getattribute__» #[[.ref a,.str "keys" tk],[]]) Q E #[h,g,d,t,os]:=by
 have hT:(#[h,g,d,t,os]:Shared).TypeIs (.ref a) "list":=#[_,hx,rfl];have f4:=Iv
 repeat (any_goals (first|assumption|wp_step))
 have hm:(Str.ofString (toString "'" ++ toString ((Manifest.find? "list").elim "list" λx=>x.tpName)++toString "' object has no attribute '")++Str.ofString "keys" ++ Str.ofString "'").length<=sizeLine:=by decide +kernel
 generalize (Str.ofString (toString "'" ++ toString ((Manifest.find? "list").elim "list" λx=>x.tpName)++toString "' object has no attribute '")++Str.ofString "keys" ++ Str.ofString "'")=msg at hm ⊢;unfold raiseAttrError;refine ay (wpAny_mkStr (ay ?_) hm);unfold newExc newTuple;refine ay (wpAny_newObj_type ?_);refine ay (m:=firstArgMember _ _) (wpAny_of_eq (a:=Value.none) (by rfl) ?_);refine wpAny_newObj_type ?_;refine ay (wpAny_mkText ?_);have hX:=bZ (h.push { cls:=.type "tuple",data:=.seq (List.toArray [Value.str msg t]) }) (o:={ cls:=.type "AttributeError",data:=.fields ((List.toArray [.ref h.objs.size,.none,.none,.none,.bool false,.none])++(List.toArray [unsetMember,unsetMember])) }) rfl;have hk:∀ b u,h.get? b=some u->((h.push { cls:=.type "tuple",data:=.seq (List.toArray [Value.str msg t]) }).push { cls:=.type "AttributeError",data:=.fields ((List.toArray [.ref h.objs.size,.none,.none,.none,.bool false,.none])++(List.toArray [unsetMember,unsetMember])) }).get? b=some u:=λb u e=>aX _ (aX _ e);have hne:h.get? (h.push { cls:=.type "tuple",data:=.seq (List.toArray [Value.str msg t]) }).objs.size=none:=Heap.get?_none_of_le (by simp);show wpAny (model prog w) A (noteAttr (.ref (h.push { cls:=.type "tuple",data:=.seq (List.toArray [Value.str msg t]) }).objs.size) (.ref a) (.str "keys" (t+1)) >>= λ_=>raiseNew (.ref (h.push { cls:=.type "tuple",data:=.seq (List.toArray [Value.str msg t]) }).objs.size)) Q E #[(h.push { cls:=.type "tuple",data:=.seq (List.toArray [Value.str msg t]) }).push { cls:=.type "AttributeError",data:=.fields ((List.toArray [.ref h.objs.size,.none,.none,.none,.bool false,.none])++(List.toArray [unsetMember,unsetMember])) },g,d,t+2,os];generalize (h.push { cls:=.type "tuple",data:=.seq (List.toArray [Value.str msg t]) }).push { cls:=.type "AttributeError",data:=.fields ((List.toArray [.ref h.objs.size,.none,.none,.none,.bool false,.none])++(List.toArray [unsetMember,unsetMember])) }=h2 at hX hk ⊢;generalize (h.push { cls:=.type "tuple",data:=.seq (List.toArray [Value.str msg t]) }).objs.size=e at hX hne ⊢;generalize (Value.ref h.objs.size)=r0 at hX;unfold noteAttr;dsimp only;have hTe:(#[h2,g,d,t+2,os]:Shared).TypeIs (.ref e) "AttributeError":=#[_,hX,rfl];refine ay (ay ?_);unfold lacksNameAndObj;dsimp only;refine ay (wpAny_isInstance (T := "AttributeError") (b:=true) hTe (by rw[isSubtype_type];kernel_rfl) ?_);simp only[Bool.not_true,uj,if_false];refine ay (wpAny_load hX ?_);dsimp only;have i6:((List.toArray [r0,Value.none,Value.none,Value.none,Value.bool false,Value.none])++(List.toArray [unsetMember,unsetMember]))[6]?=some unsetMember:=by simp
 have i7:((List.toArray [r0,Value.none,Value.none,Value.none,Value.bool false,Value.none])++(List.toArray [unsetMember,unsetMember]))[7]?=some unsetMember:=by simp
 refine wpAny_ite_split (λz=>absurd z (by rw[i6,i7];decide)) (λ_=>?_);refine wpAny_ite_split (λz=>absurd z (by rw[i6,i7];decide)) (λ_=>?_);refine aS ?_;rw[aq rfl];refine ay (wpAny_rule (ay (wpAny_typeOf hTe ?_)));dsimp only;unfold layMembers;refine ay (wpAny_load hX ?_);dsimp only;refine wpAny_update (s:=#[h2,g,d,t+2,os]) hX ?_;unfold raiseNew;refine ay (wpAny_handled ?_);rw[hh]
 first
  | refine wpAny_throw ?_
  | refine ay (aS (wpAny_throw ?_))
 refine q _ _ e (λb u eb=>?_) #[_,Heap.get?_update_self _ hX (Obj.isFreed_of_fields (Obj.data_mapFields rfl _)),rfl];have nb:b≠e:=λz=>by
  rw[z,hne]at eb;cases eb
 exact (ja _ _ (bf nb)).trans (hk b u eb)
def Iy {tk:Tok}{R:Result->Shared->Prop}(hh:A.handled=none)(hx:h.get? a=some { cls:=.type "list",dict:=none,data:=.seq xs n,slots:=sl })
  (q:∀ h' t' e,(∀ b u,h.get? b=some u->h'.get? b=some u)->(#[h',g,d,t',os]:Shared).TypeIs (.ref e) "AttributeError"->R (.error (.ref e)) #[h',g,d,t',os]) :
  codeAny (model prog w) A (.call (.builtin "list.__getattribute__") #[[.ref a,.str "keys" tk],[]]) R #[h,g,d,t,os]:=
 codeAny_call_builtin F.slot_list_getattribute.plain F.entry_list_ga (F.slot_list_getattribute.check _ _ _ _ _ _ _ _ (show (#[h,g,d,t,os]:Shared).TypeIs (.ref a) "list" from #[_,hx,rfl]) (F.args_list_getattribute_2 _ _) (Iw (A:=A.in1) hh hx q))
def Iz {Q:Option Value->Shared->Prop}(hh:A.handled=none)(hx:h.get? a=some { cls:=.type "list",dict:=none,data:=.seq xs n,slots:=sl })
  (q:∀ h' t',(∀ b u,h.get? b=some u->h'.get? b=some u)->Q none #[h',g,d,t',os]):wpAny (model prog w) A (getAttr? (.ref a) "keys") Q E #[h,g,d,t,os]:=by
 have hT:(#[h,g,d,t,os]:Shared).TypeIs (.ref a) "list":=#[_,hx,rfl];have f2:=F.slot_list_getattribute.lookup;have f3:=F.slot_list_getattribute.bind (.ref a);have f5:typeLookup (.type "list") "__getattr__" = pure none:=by rw[typeLookup_type,builtinLookup_eq_fast];kernel_rfl
 unfold getAttr? getAttrBy?
 repeat (any_goals (first|assumption|wp_step))
 refine Iy hh hx λh' t' e k ty=>?_;have su:isSubtype (.type "AttributeError") (.type "AttributeError")=pure true:=by rw[isSubtype_type];kernel_rfl
 show wpAny (model prog w) A (getattributeRaised (.ref a) (.str "keys" t) (.type "list") (.ref e) none false false) _ _ _;unfold getattributeRaised;refine ay (wpAny_isInstance ty su ?_);rw[aq rfl];refine ay (?_:wpAny _ _ (typeLookup (.type "list") "__getattr__") _ _ _);rw[f5];refine aS ?_;show wpAny _ _ (throw (Value.ref e)) _ _ _;refine wpAny_throw ?_;show wpAny _ _ (do let b <-isInstance (.ref e) (.type "AttributeError");if b=true then pure none else throw (Value.ref e)) _ _ _
 refine ay (wpAny_isInstance ty su ?_);exact aS (q h' t' k)
end
end DictP
namespace DictP
open PySem PySem.Spec PyProof.Rows L2
set_option maxRecDepth 100000
def BY:entryFor table "dict.update.loop" = some Builtin.«dict.update.loop»:=entryFor_of_tree (by kernel_rfl)
def pj:plainId "dict.update.loop" = true:=by decide +kernel
def IA {K:Type}[DecidableEq K]{kvs:List (K×Value)}{k:K}{v:Value}(h:k∉kvs.map (·.1)):stored kvs k v=kvs++[(k,v)]:=by
 unfold stored;rw[ak λz=>?_];obtain ⟨kv,h1,h2⟩:=List.any_eq_true.mp z;exact h (cC.mpr #[kv,h1,bW h2])
section
variable {prog:Program}{w:World}{A:Around}{R:Result->Shared->Prop}{I:Addr}{fp wr:List Addr}{G:Array GenState->Array GenState->Prop}{n:Nat}{P:Nat->Value->Prop}{St:Nat->Shared->Prop}
def IB {h0:Heap}(W:WalksS prog w A.in1 I fp wr G n P St)(d:Addr)(hdf:d∉fp)(res:Value)(kvs:List (Key×Value))(hn:n=kvs.length)(hnd:(kvs.map (·.1)).Nodup)
  (hP:∀ i v,P i v->∃ tp key k val,v=.ref tp/\tp≠d/\tp∉wr/\h0.IsTuple tp (List.toArray [key,val])/\(bX prog w).is k key=true/\kvs[i]?=some (k,val)) (hz:kvs.length<=sizeLine) :
  ∀(j i:Nat) (s:Shared) (tk:Tok),n-i=j->i<=n->St i s->(∀ b o,b≠d->b∉wr->h0.get? b=some o->s.heap.get? b=some o)->s.heap.DictOf (bX prog w) d (kvs.take i)->
   (∀ s',Moved (d::wr) G s s'->s'.heap.DictOf (bX prog w) d kvs->R (.ok (.ret res)) s')->codeAny (model prog w) A (.builtin "dict.update.loop" #[[.ref d,.ref I,.int i tk,res],[]]) R s:=by
 have hdw:d∉wr:=λh=>hdf (W.sub _ h);have up:∀ b∈wr,b∈d::wr:=λb hb=>bV _ hb;intro j
 induction j with
 | zero=>
  intro i s tk hj hi st hk hd q;have e:i=n:=by lia
  subst e;refine codeAny_builtin BY ?_;rw[Around.under_plainId pj _];show wpAny _ A.in1 (pyNext (.ref I) >>= _) _ _ s;refine ay (W.done s _ _ st λs' hm=>?_);refine ay (?_:wpAny _ A.in1 (Builtin.Dict.addKeywords d []) _ _ s');refine aS (aS (q s' (hm.mono up) ?_));obtain ⟨o,es,ep,ho,r⟩:=hd;rw[hn,List.take_length]at r;exact #[o,es,ep,hm.heap d o hdw ho,r]
 | succ j ih=>
  intro i s tk hj hi st hk hd q;have hlt:i<n:=by lia
  refine codeAny_builtin BY ?_;rw[Around.under_plainId pj _];show wpAny _ A.in1 (pyNext (.ref I) >>= _) _ _ s;refine ay (W.item i s _ _ hlt st λv s' hPi st' hm=>?_);obtain ⟨tp,key,k,val,rfl,ntd,ntw,ht,hkey,hkv⟩:=hP i v hPi;obtain ⟨ot,o1,o2,nt,o3⟩:=ht;have g1:=hm.heap tp ot ntw (hk tp ot ntd ntw o1);have hd':s'.heap.DictOf (bX prog w) d (kvs.take i):=by
   obtain ⟨o,es,ep,ho,r⟩:=hd;exact #[o,es,ep,hm.heap d o hdw ho,r]
  obtain ⟨hik,hek⟩:=aZ.mp hkv;have hnew:k∉(kvs.take i).map (·.1):=λz=>by
   rw[lT]at z;obtain ⟨m,hm1,hm2⟩:=uq.mp z;have h2:m<(kvs.map (·.1)).length:=by lia
   have h3:i<(kvs.map (·.1)).length:=by rw[ai];exact hik
   have:=eV.mp hnd m i h2 h3 (by lia);apply this;rw[hm2,List.getElem_map,hek]
  refine ay (wpAny_holding (ay (wpAny_tryCatch ?_)));unfold Builtin.Dict.pairItems;refine ay (wpAny_typeOf (T := "tuple") #[_,g1,o2] ?_);rw[aq (by decide)];unfold seqItems?;refine ay (ay (wpAny_load g1 ?_));rw[o3];refine aS (aS ?_);show wpAny _ A.in1 (holding [key,val] (dictSet d key val)) _ _ s';refine wpAny_holding (wpAny_dictSet_pairs hkey hd' (λh' hd2 sb=>?_) (by rw[bw];lia));rw[IA hnew]at hd2;have tk1:kvs.take (i+1)=kvs.take i++[(k,val)]:=by
   rw[cy hik,hek]
  rw[<-tk1]at hd2;refine aS #[plainId_quiet pj _,ih (i+1) _ 0 (by lia) hlt (W.frame _ s' _ _ st' (ij _) λb hb o e=>?_) (λb o n1 n2 e=>?_) hd2 λs'' hm'' x3=>?_]
  .rw[sb.2 b (λh:b=d=>hdf (by rw[<-h];exact hb))];exact e
  .rw[sb.2 b n1];exact hm.heap b o n2 (hk b o n1 n2 e)
  .refine q s'' (Moved.trans W.gtrans ((hm.mono up).then_heap (ij _) λb o hb e=>?_) hm'') x3;rw[sb.2 b (λh:b=d=>hb (by rw[h];exact cb))];exact e
end
end DictP
namespace DictP
open PySem PySem.Spec PyProof.Rows L2
set_option maxRecDepth 100000
section
variable {prog:Program}{w:World}{A:Around}{E:Value->Shared->Prop}{s:Shared}
def of_pairs {l:Addr}{items:Array Value}{nl:Nat}{sl:Array (Option Value)}{kvs:List (Key×Value)}{Q:Value->Shared->Prop}(hh:A.handled=none)(hl:s.heap.get? l=some { cls:=.type "list",dict:=none,data:=.seq items nl,slots:=sl })
  (hnd:(kvs.map (·.1)).Nodup) (hlen:items.size=kvs.length) (hz:kvs.length<=sizeLine)
  (hit:∀(i:Nat) v,items[i]?=some v->∃ tp key k val,v=.ref tp/\s.heap.IsTuple tp (List.toArray [key,val])/\(bX prog w).is k key=true/\kvs[i]?=some (k,val))
  (q:∀ h' tk,h'.DictOf (bX prog w) s.heap.objs.size kvs->(∀ b o,s.heap.get? b=some o->h'.get? b=some o)->Q (.ref s.heap.objs.size) { s with heap:=h',toks:=tk }) :
  wpAny (model prog w) A (call (.type "dict") [.ref l]) Q E s:=by
 refine callType_codes (Q₁:=λobj s₁=>obj=.ref s.heap.objs.size/\s₁={ s with heap:=s.heap.push { cls:=.type "dict",data:=.dict (List.toArray []) } }) F.kt_called_dict (F.kt_typeCall_dict_1 _) F.entry_dict_init (kt_code_dict_new _ #[rfl,rfl]) ?_;rintro obj s₁ ⟨rfl,rfl⟩;have hnew:(s.heap.push { cls:=.type "dict",data:=.dict (List.toArray []) }).DictOf (bX prog w) s.heap.objs.size []:=Heap.DictOf.new s.heap;have hl1:=aX { cls:=.type "dict",data:=.dict (List.toArray []) } hl;have hkp:∀ b o,s.heap.get? b=some o->(s.heap.push { cls:=.type "dict",data:=.dict (List.toArray []) }).get? b=some o:=λb o e=>aX _ e;have hds:s.heap.objs.size<(s.heap.push { cls:=.type "dict",data:=.dict (List.toArray []) }).objs.size:=by
  rw[lN];exact lP _
 have hlS:l<s.heap.objs.size:=aT hl;refine #[hnew.typeIs,F.args_dict_init_2 _ _,?_];generalize s.heap.push { cls:=.type "dict",data:=.dict (List.toArray []) }=h1 at hnew hl1 hkp hds ⊢;unfold Builtin.«dict.__init__»;refine ay ?_;unfold Builtin.Dict.selfAndRest;refine ay (wpAny_notOrdered_dict hnew.typeIs ?_);show wpAny _ _ (pure (s.heap.objs.size,[Value.ref l])) _ _ _;refine aS ?_;show wpAny _ _ (Builtin.Dict.updateFrom "dict.__init__" s.heap.objs.size (.ref l) [] .none) _ _ _;unfold Builtin.Dict.updateFrom;refine ay (wpAny_typeOf (T := "list") #[_,hl1,rfl] ?_);rw[aq (by decide)];refine ay (Iz (A:=_) hh hl1 λh2 t2 k2=>?_);rw[aq (show (none:Option Value).isNone=true from rfl)];refine ay (wpAny_rule (ay ?_));have hl2:=k2 _ _ hl1;have hL2:h2.IsList l items:=#[_,hl2,rfl,nl,rfl];refine wpAny_pyIter_list (s:=#[h2,s.gens,s.drawn,t2,s.os]) hL2 ?_;refine aS #[plainId_quiet pj _,?_];have hd2:h2.DictOf (bX prog w) s.heap.objs.size []:=by
  obtain ⟨o,es,ep,ho,r⟩:=hnew;exact #[o,es,ep,k2 _ _ ho,r]
 have hdlt:s.heap.objs.size<h2.objs.size:=by
  obtain ⟨o,es,ep,ho,r⟩:=hd2;exact aT ho
 have hne:l≠h2.objs.size:=bL (Nat.lt_trans hlS hdlt);have h3:A.in1.in1.handled=none:=by simp[hh]
 refine IB (h0:=s.heap) ((Walks.list h3 _ l hne items).toS) s.heap.objs.size (λz=>?_) .none kvs hlen hnd (λi v hv=>?_) hz items.size 0 _ 0 (by lia) (cf _) #[#[_,bZ _ rfl,rfl,rfl],hL2.push _] (λb o n1 n2 e=>aX _ (k2 _ _ (hkp _ _ e))) ?_ λs' hm hd'=>?_
 .simp only[aW,bR,or_false]at z;rcases z with z|z
  .exact absurd hdlt (by rw[<-z];exact dE _)
  .exact absurd hlS (by rw[<-z];exact dE _)
 .obtain ⟨tp,key,k,val,e1,e2,e3,e4⟩:=hit i v hv;have htp:tp<s.heap.objs.size:=by
   obtain ⟨ot,o1,_⟩:=e2;exact aT o1
  refine #[tp,key,k,val,e1,bL htp,λz=>?_,e2,e3,e4];rw[bP.mp z]at htp;exact absurd (Nat.lt_trans htp hdlt) (dE _)
 .rw[oe];exact hd2.push _
 .refine #[rfl,?_];rw[Moved.eq_with hm];refine q s'.heap s'.toks hd' λb o e=>hm.heap b o (λz=>?_) (aX _ (k2 _ _ (hkp _ _ e)));have hb:=aT e;simp only[aW,bR,or_false]at z;rcases z with z|z
  .rw[z]at hb;exact absurd hb (dE _)
  .rw[z]at hb;exact absurd (Nat.lt_trans hb hdlt) (dE _)
end
end DictP
namespace L2
open PySem PySem.Spec PyProof.Rows
inductive BZ (K:Frag)(xs:List V)(H:Hp)(Q:VK):Prop
 | c:∀(p:Addr) (zs:List V) (kvs:List (Key×V)),xs=[.ref p]->SqL K H p zs->Paired (λ(z:V) (kv:Key×V)=>∃ b,z=.ref b/\H b=some (.tup [kV kv.1,kv.2])) zs kvs->(kvs.map (·.1)).Nodup->(∀ d,H d=none->Q (.ref d) (upd H d (.dK kvs)))->BZ K xs H Q
section
variable {X:Cx}
def B0 (I:Inv X Px U H s):∀{zs:List V} {kvs:List (Key×V)} {us:List Value},Paired (λ(z:V) (kv:Key×V)=>∃ b,z=.ref b/\H b=some (.tup [kV kv.1,kv.2])) zs kvs->Vals zs us->
  ∃ ks:List (Key×Value),KV kvs ks/\∀(i:Nat) v,us[i]?=some v->∃ tp key k val,v=.ref tp/\s.heap.IsTuple tp (List.toArray [key,val])/\(bX X.prog X.w).is k key=true/\ks[i]?=some (k,val)
 | _,_,_,.nil,.nil=>#[[],.nil,λi v h=>by simp at h]
 | _::_,kv::_,_::_,.cons ⟨b,e1,e2⟩ t,.cons r q=>by
  subst e1;obtain ⟨ks,h1,h2⟩:=B0 I t q;cases r
  obtain ⟨its,rv,p,_⟩:=I.tuple (SqT.of e2);cases rv with
  | cons r1 rv=>
   cases rv with
   | cons r2 rv=>
    cases rv
    refine #[(kv.1,_)::ks,.cons #[rfl,r2] h1,λi v hv=>?_];cases i with
    | zero=>
     simp only[List.getElem?_cons_zero,Option.some.injEq]at hv;subst hv;exact #[b,_,kv.1,_,rfl,p,iI r1,rfl]
    | succ i=>
     rw[ur]at hv ⊢;exact h2 i v hv
def B1:∀{kvs:List (Key×V)} {ks:List (Key×Value)},KV kvs ks->ks.map (·.1)=kvs.map (·.1)
 | _,_,.nil=>rfl
 | _,_,.cons r t=>by
  rw[bK,bK,B1 t,r.1]
def IC (hc:X.calm=true):cQ X (.type "dict") (BZ X.K):=by
 intro Px s U H xs us Q I r h;obtain ⟨p,zs,kvs,rfl,hq,hp,hn,q⟩:=h;obtain ⟨u,rfl,rx⟩:=eX r;cases rx
 obtain ⟨its,rv,pl,hz⟩:=I.list hq;obtain ⟨ks,hk,hit⟩:=B0 I hp rv;have l1:=Paired.length hp;have l2:=rv.length;have l3:=Paired.length hk;obtain ⟨⟨oc,od,oda,osl⟩,n,e,e1,e2,e3⟩:=pl;simp only at e1 e2 e3;subst e1 e2 e3;refine DictP.of_pairs (kvs:=ks) (I.ok.hd hc) e (by rw[B1 hk];exact hn) (by rw[bO];lia) (by lia) (λi v hv=>hit i v (by simpa using hv)) λh' tk hd k=>?_;exact #[.ref s.heap.objs.size,_,I.laid (a:=s.heap.objs.size) (o:=.dK kvs) (t':=tk) k (aj _) #[by lia,beq_eq_false_iff_ne.mpr (bf (bL I.big)),ks,hk,hd],rfl,q _ (I.hok.fresh (aj _))]
end
def ID {K:Frag}{a:Addr}{xs ys:List V}{g:TG}{ts:TT}{te:TE}{U:St}{H:Hp}{Q:Hp->Prop}(hlen:ys.length<=xs.length)(Pv:Nat->St->Hp->Prop)(h0:Pv 0 U H)(hl:∀ i U H,i<=ys.length->Pv i U H->SqL K H a xs/\SqL K H b ys)
  (hs:∀ i m x y U H r,xs[i]?=some x->ys[i]?=some y->i+m=ys.length->Pv i U H->H r=none->g (.ref r) U (upd H r (.tup [x,y])) λU2 H2=>ts U2 H2 λb H3=>if b=true then te U2 H3 λy H4=>∃ zs,H4 D=some (.lst zs)/\zs.length<sizeLine/\∃ m',m'<m/\(i+1+m'=ys.length/\Pv (i+1) U2 (upd H4 D (.lst (zs++[y])))) else ∃ m',m'<m/\(i+1+m'=ys.length/\Pv (i+1) U2 H3))
  (hd:∀ U H,Pv ys.length U H->Q H) :
  ∃ W:Nat->Nat->St->Hp->Prop,(∃ m,W 0 m U H)/\∀ i m U H,W i m U H->((Itz K a b).stop i H/\Q H)\/((Itz K a b).go i H/\∀ x H',(Itz K a b).yld i H x H'->g x U H' λU2 H2=>ts U2 H2 λb H3=>if b=true then te U2 H3 λy H4=>∃ xs,H4 D=some (.lst xs)/\xs.length<sizeLine/\∃ m',m'<m/\W (i+1) m' U2 (upd H4 D (.lst (xs++[y]))) else ∃ m',m'<m/\W (i+1) m' U2 H3):=by
 refine #[λi m U H=>i+m=ys.length/\Pv i U H,#[ys.length,by lia,h0],λi m U H zq0=>?_];obtain ⟨e,pv⟩:=zq0;obtain ⟨hS,hS'⟩:=hl i U H (by lia) pv;by_cases hi:i<ys.length
 .refine .inr #[#[xs,ys,xs[i]'(by lia),ys[i],hS,hS',aC (by lia),aC hi],λx H' y=>?_];obtain ⟨p,z,z',rfl,hp,hz,hz',rfl⟩:=y;exact hs i m z z' U H p (hz xs hS) (hz' ys hS') e pv hp
 .have:i=ys.length:=by lia
  subst this;exact .inl #[#[xs,ys,hS,hS',.inr (aj _)],hd U H pv]
end L2
namespace Kas
open PySem PySem.W PyProof.Rows
def run {α:Type}(f:Nat->Nat->Bool):KasT α->α
 | .ret a=>a
 | .ask i j k=>run f (k (f i j))
def ke {α β:Type}(f:Nat->Nat->Bool)(g:α->KasT β):∀ t:KasT α,run f (t.bind g)=run f (g (run f t))
 | .ret _=>rfl
 | .ask i j k=>ke f g (k (f i j))
def Res {α:Type}(n:Nat)(P:α->Prop):KasT α->Prop
 | .ret a=>P a
 | .ask i j k=>i<n/\j<n/\∀ b,Res n P (k b)
def Res.bind {α β:Type}{n:Nat}{P:α->Prop}{P':β->Prop}{g:α->KasT β}(h2:∀ a,P a->Res n P' (g a)):∀{t:KasT α},Res n P t->Res n P' (t.bind g)
 | .ret a,h=>h2 a h
 | .ask _ _ _,h=>#[h.1,h.2.1,λb=>Res.bind h2 (h.2.2 b)]
def Res.run {α:Type}{n:Nat}{P:α->Prop}(f:Nat->Nat->Bool):∀{t:KasT α},Res n P t->P (Kas.run f t)
 | .ret _,h=>h
 | .ask i j k,h=>Res.run (t:=k (f i j)) f (h.2.2 (f i j))
def wp_of {α:Type}{n:Nat}{P:α->Prop}{f:Nat->Nat->Bool}{cmp:Nat->Nat->(Bool->Shared->Prop)->Shared->Prop}{Q:α->Shared->Prop}{s:Shared}(hc:∀ i j C,i<n->j<n->C (f i j) s->cmp i j C s):∀{t:KasT α},Res n P t->Q (Kas.run f t) s->t.kasWp cmp Q s
 | .ret _,_,q=>q
 | .ask i j _,h,q=>hc i j _ h.1 h.2.1 (wp_of hc (h.2.2 (f i j)) q)
def Good (n:Nat)(p:Array Nat):Prop:=p.Perm (List.range n).toArray
def Good.size {n:Nat}{p:Array Nat}(h:Good n p):p.size=n:=by
 have:=h.size_eq;simpa using this
def Good.lt {n:Nat}{p:Array Nat}(h:Good n p)(hn:0<n)(k:Nat):p.getD k 0<n:=by
 by_cases c:k<p.size
 .have e:p.getD k 0=p[k]:=by simp[Array.getD,c]
  rw[e];have hm:p[k]∈(List.range n).toArray:=h.mem_iff.mp (Array.getElem_mem c);simpa using hm
 .have e:p.getD k 0=0:=by simp[Array.getD,c]
  rw[e];exact hn
def Good.rev {n:Nat}{p:Array Nat}(h:Good n p)(i j:Nat):Good n (kas_rev p i j):=(mirror_perm p i j _).trans h
def Good.bub {n:Nat}{p:Array Nat}(h:Good n p)(i j:Nat):Good n (bubble p i j):=(bubble_perm p i j).trans h
section
variable {n:Nat}(hn:0<n)
include hn
def vv (h:Good n p):∀(f m:Nat),Res n (λ_=>True) (kas_asc p f m)
 | 0,_=>trivial
 | f+1,m=>#[h.lt hn _,h.lt hn _,λb=>by
  cases b with
  | true=>exact trivial
  | false=>exact vv h f (m+1)]
def pk:∀(f:Nat) {p:Array Nat} (m q:Nat),Good n p->Res n (λr:Array Nat×Nat×Nat=>Good n r.1) (kas_desc f p m q)
 | 0,_,_,_,h=>h
 | f+1,p,m,q,h=>#[h.lt hn _,h.lt hn _,λb=>by
  cases b with
  | true=>
   show Res n _ (if q>0 then kas_desc f (kas_rev p (m-(q+1)) m) (m+1) 0 else kas_desc f p (m+1) 0)
   split
   .exact pk f _ _ (h.rev _ _)
   .exact pk f _ _ h
  | false=>
   refine #[h.lt hn _,h.lt hn _,λc=>?_];cases c with
   | true=>exact h
   | false=>exact pk f _ _ h]
def Ca (h:Good n p)(m r:Nat):Res n (λx:Nat×Array Nat=>Good n x.2) (kas_tail3 m r p):=by
 refine Res.bind (λa _=>?_) (vv hn (h.rev 0 m) (r-m) m);exact h.rev _ _
def Cb (h:Good n p)(m r:Nat):Res n (λx:Nat×Array Nat=>Good n x.2) (kas_descPart m r p):=by
 refine Res.bind (λa ha=>?_) (pk hn _ _ _ h);show Res n _ (if a.2.2>0 then _ else _)
 split
 .exact Ca hn (Good.rev ha _ _) _ _
 .exact Ca hn ha _ _
def Cc (h:Good n p)(r:Nat):Res n (λx:Nat×Array Nat=>Good n x.2) (kas_count r p):=by
 refine Res.bind (λa _=>?_) (vv hn h _ _);show Res n _ (if (a==r)=true then _ else if a>1 then _ else _)
 split
 .exact h
 .split
  .refine #[h.lt hn _,h.lt hn _,λb=>?_];cases b with
   | true=>exact h
   | false=>exact Cb hn (h.rev _ _) _ _
  .exact Cb hn h _ _
def vw (h:Good n p)(k:Nat):∀(f l r:Nat),Res n (λ_=>True) (kas_place p k f l r)
 | 0,_,_=>trivial
 | f+1,l,r=>by
  show Res n _ (if l >= r then _ else _)
  split
  .exact trivial
  .refine #[h.lt hn _,h.lt hn _,λb=>?_];cases b with
   | true=>exact vw h k f _ _
   | false=>exact vw h k f _ _
def Cd:∀(f:Nat) {p:Array Nat} (k:Nat),Good n p->Res n (Good n) (kas_bin f p k)
 | 0,_,_,h=>h
 | f+1,_,k,h=>Res.bind (λ_ _=>Cd f _ (h.bub _ _)) (vw hn h k _ _ _)
def sort_res:Res n (Good n) (kas_sort n):=by
 refine Res.bind (λa ha=>?_) (Cc hn (p:=(List.range n).toArray) (Array.Perm.refl _) n);show Res n _ (if a.1<n then _ else _)
 split
 .exact Cd hn _ _ ha
 .exact ha
end
structure Ord (f:Nat->Nat->Bool):Prop where
 irr:∀ a,f a a=false
 tr:∀ a b c,f a b=true->f b c=true->f a c=true
 neg:∀ a b c,f a c=true->f a b=true\/f b c=true
def Up (f:Nat->Nat->Bool)(p:Array Nat)(k:Nat):Prop:=∀ i j,i<j->j<k->f (p.getD j 0) (p.getD i 0)=false
def Down (f:Nat->Nat->Bool)(p:Array Nat)(k:Nat):Prop:=∀ i j,i<j->j<k->f (p.getD i 0) (p.getD j 0)=false
section
variable {f:Nat->Nat->Bool}(O:Ord f)
include O
def not_lt {a b c:Nat}(h1:f a b=false)(h2:f b c=false):f a c=false:=by
 cases e:f a c with
 | false=>rfl
 | true=>
  rcases O.neg a b c e with z|z
  .rw[h1]at z;cases z
  .rw[h2]at z;cases z
def asym {a b:Nat}(h:f a b=true):f b a=false:=by
 cases e:f b a with
 | false=>rfl
 | true=>
  have:=O.tr a b a h e;rw[O.irr]at this;cases this
def IE {p:Array Nat}{m:Nat}(h1:1<=m)(h:Up f p m)(e:f (p.getD m 0) (p.getD (m-1) 0)=false):Up f p (m+1):=λi j hij hj=>by
 by_cases c:j<m
 .exact h i j hij c
 .have:j=m:=by lia
  subst this;by_cases ci:i=j-1
  .rw[ci];exact e
  .exact not_lt O e (h i (j-1) (by lia) (by lia))
def vx {p:Array Nat}:∀(fu m:Nat),1<=m->Up f p m->Up f p (run f (kas_asc p fu m))/\m<=run f (kas_asc p fu m)/\run f (kas_asc p fu m)<=m+fu/\(run f (kas_asc p fu m)<m+fu->f (p.getD (run f (kas_asc p fu m)) 0) (p.getD (run f (kas_asc p fu m)-1) 0)=true)
 | 0,m,_,h=>#[h,aj _,aj _,λz=>absurd z (by show ¬ m<m+0;lia)]
 | fu+1,m,h1,h=>by
  have step:run f (kas_asc p (fu+1) m)=if f (p.getD m 0) (p.getD (m-1) 0)=true then m else run f (kas_asc p fu (m+1)):=by
   show run f (if f (p.getD m 0) (p.getD (m-1) 0)=true then .ret m else kas_asc p fu (m+1))=_
   split<;>rfl
  rw[step];cases e:f (p.getD m 0) (p.getD (m-1) 0) with
  | true=>exact #[h,aj _,by rw[aq rfl];lia,λ_=>e]
  | false=>
   rw[ak (by decide)];obtain ⟨a1,a2,a3,a4⟩:=vx fu (m+1) (by lia) (IE O h1 h e);exact #[a1,by lia,by lia,λz=>a4 (by lia)]
def vy {p:Array Nat}{k:Nat}(h:Up f p k):∀(fu l r:Nat),l<=r->r<=k->r-l<=fu->(∀ i,i<l->f (p.getD k 0) (p.getD i 0)=false)->(∀ i,r<=i->i<k->f (p.getD k 0) (p.getD i 0)=true)->
  run f (kas_place p k fu l r)<=k/\(∀ i,i<run f (kas_place p k fu l r)->f (p.getD k 0) (p.getD i 0)=false)/\(∀ i,run f (kas_place p k fu l r)<=i->i<k->f (p.getD k 0) (p.getD i 0)=true)
 | 0,l,r,h1,h2,h3,h4,h5=>#[by show l<=k;lia,h4,λi hi=>h5 i (by have:l<=i:=hi;lia)]
 | fu+1,l,r,h1,h2,h3,h4,h5=>by
  by_cases c:l >= r
  .have e:run f (kas_place p k (fu+1) l r)=l:=by
    show run f (if l >= r then _ else _)=l
    rw[aq c];rfl
   rw[e];exact #[by lia,h4,λi hi=>h5 i (by lia)]
  .have e:run f (kas_place p k (fu+1) l r)=if f (p.getD k 0) (p.getD ((l+r)/2) 0)=true then run f (kas_place p k fu l ((l+r)/2)) else run f (kas_place p k fu ((l+r)/2+1) r):=by
    show run f (if l >= r then _ else _)=_
    rw[ak c];show run f (if f (p.getD k 0) (p.getD ((l+r)/2) 0)=true then _ else _)=_
    split<;>rfl
   rw[e];cases e2:f (p.getD k 0) (p.getD ((l+r)/2) 0) with
   | true=>
    rw[aq rfl];refine vy h fu l _ (by lia) (by lia) (by lia) h4 λi hi hk=>?_;by_cases ci:i=(l+r)/2
    .rw[ci];exact e2
    .rcases O.neg _ (p.getD i 0) _ e2 with z|z
     .exact z
     .rw[h _ i (by lia) hk]at z;cases z
   | false=>
    rw[ak (by decide)];refine vy h fu _ r (by lia) h2 (by lia) (λi hi=>?_) h5;by_cases ci:i=(l+r)/2
    .rw[ci];exact e2
    .exact not_lt O e2 (h i _ (by lia) (by lia))
omit O in
def gd (q:Array Nat)(x:Nat):q.getD x 0=(q[x]?).getD 0:=by
 by_cases h:x<q.size
 .simp[Array.getD,h]
 .simp[Array.getD,h]
omit O in
def Ce {p:Array Nat}{k d:Nat}(hk:k<p.size)(hd:d<=k)(j:Nat):(bubble p k d).getD j 0=if j=k-d then p.getD k 0 else if k-d<j/\j<=k then p.getD (j-1) 0 else p.getD j 0:=by
 rw[gd,getElem?_bubble hk d hd j,gd p k,gd p (j-1),gd p j];split
 .rfl
 .split<;>rfl
def IF {p:Array Nat}{k l:Nat}(hk:k<p.size)(h:Up f p k)(hl:l<=k)(h1:∀ i,i<l->f (p.getD k 0) (p.getD i 0)=false)(h2:∀ i,l<=i->i<k->f (p.getD k 0) (p.getD i 0)=true):Up f (bubble p k (k-l)) (k+1):=λi j hij hj=>by
 rw[Ce hk (by lia),Ce hk (by lia),show k-(k-l)=l by lia];by_cases cj:j=l
 .rw[aq cj,ak (by lia),ak (by lia)];exact h1 i (by lia)
 .rw[ak cj];by_cases cj2:l<j/\j<=k
  .rw[aq cj2];by_cases ci:i=l
   .rw[aq ci];exact asym O (h2 (j-1) (by lia) (by lia))
   .rw[ak ci];by_cases ci2:l<i/\i<=k
    .rw[aq ci2];exact h (i-1) (j-1) (by lia) (by lia)
    .rw[ak ci2];exact h i (j-1) (by lia) (by lia)
  .rw[ak cj2,ak (by lia),ak (by lia)];exact h i j hij (by lia)
def Cf:∀(fu:Nat) {p:Array Nat} (k:Nat),k+fu<=p.size->Up f p k->Up f (run f (kas_bin fu p k)) (k+fu)
 | 0,_,_,_,h=>h
 | fu+1,p,k,hz,h=>by
  have e:run f (kas_bin (fu+1) p k)=run f (kas_bin fu (bubble p k (k-run f (kas_place p k k 0 k))) (k+1)):=ke f _ _;rw[e];obtain ⟨a1,a2,a3⟩:=vy O h k 0 k (cf _) (aj _) (by lia) (λi hi=>absurd hi (jS _)) (λi hi hk=>absurd hk (by lia));have:=Cf fu (k+1) (by rw[bubble_size];lia) (IF O (by lia) h a1 a2 a3);rw[show k+(fu+1)=k+1+fu by lia];exact this
omit O in
def iP {p:Array Nat}{i j:Nat}(hj:j<=p.size)(k:Nat):(kas_rev p i j).getD k 0=if i<=k/\k<j then p.getD (i+j-1-k) 0 else p.getD k 0:=by
 unfold kas_rev;rw[gd,getElem?_mirror_all hj k,gd p (i+j-1-k),gd p k];split<;>rfl
omit O in
def pq (p:Array Nat)(i j:Nat):(kas_rev p i j).size=p.size:=mirror_size _ _ _ _
omit O in
def IG {p:Array Nat}{m:Nat}(hm:m<=p.size)(h:Down f p m):Up f (kas_rev p 0 m) m:=λi j hij hj=>by
 rw[iP hm,iP hm,aq (by lia),aq (by lia)];exact h _ _ (by lia) (by lia)
def mz (f:Nat->Nat->Bool)(p:Array Nat)(m q:Nat):Prop:=∀ i j,m-(q+1)<=i->i<m->m-(q+1)<=j->j<m->f (p.getD i 0) (p.getD j 0)=false
omit O in
def Cg {p:Array Nat}{m q:Nat}(hm:m<=p.size)(hq:q+1<=m)(h:Down f p m)(hA:mz f p m q):Down f (kas_rev p (m-(q+1)) m) m:=λi j hij hj=>by
 rw[iP hm,iP hm];by_cases ci:m-(q+1)<=i/\i<m
 .rw[aq ci,aq (by lia)];exact hA _ _ (by lia) (by lia) (by lia) (by lia)
 .rw[ak ci];split
  .exact h _ _ (by lia) (by lia)
  .exact h _ _ (by lia) (by lia)
def vz {m:Nat}(h1:1<=m)(h:Down f p m)(e:f (p.getD (m-1) 0) (p.getD m 0)=false):Down f p (m+1):=λi j hij hj=>by
 by_cases c:j<m
 .exact h i j hij c
 .have:j=m:=by lia
  subst this;by_cases ci:i=j-1
  .rw[ci];exact e
  .exact not_lt O (h i (j-1) (by lia) (by lia)) e
def pw:∀(fu:Nat) {p:Array Nat} (m q:Nat),q+1<=m->m+fu<=p.size->Down f p m->mz f p m q->
  m<=(run f (kas_desc fu p m q)).2.1/\(run f (kas_desc fu p m q)).2.1<=m+fu/\(run f (kas_desc fu p m q)).2.2+1<=(run f (kas_desc fu p m q)).2.1/\(run f (kas_desc fu p m q)).1.size=p.size/\Down f (run f (kas_desc fu p m q)).1 (run f (kas_desc fu p m q)).2.1/\mz f (run f (kas_desc fu p m q)).1 (run f (kas_desc fu p m q)).2.1 (run f (kas_desc fu p m q)).2.2
 | 0,p,m,q,hq,hz,h,hA=>#[aj _,aj _,hq,rfl,h,hA]
 | fu+1,p,m,q,hq,hz,h,hA=>by
  have one:∀{p':Array Nat},mz f p' (m+1) 0:=λ{p'} i j a b c d=>by
   have:i=j:=by lia
   subst this;exact O.irr _
  cases e:f (p.getD m 0) (p.getD (m-1) 0) with
  | true=>
   have st:run f (kas_desc (fu+1) p m q)=run f (if q>0 then kas_desc fu (kas_rev p (m-(q+1)) m) (m+1) 0 else kas_desc fu p (m+1) 0):=by
    show run f (if f (p.getD m 0) (p.getD (m-1) 0)=true then _ else _)=_
    rw[e,aq rfl]
   rw[st];by_cases cq:q>0
   .rw[aq cq];have hD:=Cg (by lia) hq h hA;have hl:f ((kas_rev p (m-(q+1)) m).getD (m-1) 0) ((kas_rev p (m-(q+1)) m).getD m 0)=false:=by
     rw[iP (by lia),iP (by lia),aq (by lia),ak (by lia)];exact not_lt O (hA _ (m-1) (by lia) (by lia) (by lia) (by lia)) (asym O e)
    obtain ⟨b1,b2,b3,b4,b5,b6⟩:=pw fu (p:=kas_rev p (m-(q+1)) m) (m+1) 0 (by lia) (by rw[pq];lia) (vz O (by lia) hD hl) one;exact #[by lia,by lia,b3,by rw[b4,pq],b5,b6]
   .rw[ak cq];obtain ⟨b1,b2,b3,b4,b5,b6⟩:=pw fu (p:=p) (m+1) 0 (by lia) (by lia) (vz O (by lia) h (asym O e)) one;exact #[by lia,by lia,b3,b4,b5,b6]
  | false=>
   have st:run f (kas_desc (fu+1) p m q)=if f (p.getD (m-1) 0) (p.getD m 0)=true then (p,m,q) else run f (kas_desc fu p (m+1) (q+1)):=by
    show run f (if f (p.getD m 0) (p.getD (m-1) 0)=true then _ else _)=_
    rw[e,ak (by decide)];show run f (if f (p.getD (m-1) 0) (p.getD m 0)=true then _ else _)=_
    split<;>rfl
   rw[st];cases e2:f (p.getD (m-1) 0) (p.getD m 0) with
   | true=>
    rw[aq rfl];exact #[aj _,by show m<=_;lia,hq,rfl,h,hA]
   | false=>
    rw[ak (by decide)];have hA2:mz f p (m+1) (q+1):=λi j a b c d=>by
     by_cases ci:i=m
     .by_cases cj:j=m
      .rw[ci,cj];exact O.irr _
      .rw[ci];exact not_lt O e (hA (m-1) j (by lia) (by lia) (by lia) (by lia))
     .by_cases cj:j=m
      .rw[cj];exact not_lt O (hA i (m-1) (by lia) (by lia) (by lia) (by lia)) e2
      .exact hA i j (by lia) (by lia) (by lia) (by lia)
    obtain ⟨b1,b2,b3,b4,b5,b6⟩:=pw fu (p:=p) (m+1) (q+1) (by lia) (by lia) (vz O (by lia) h e2) hA2;exact #[by lia,by lia,b3,b4,b5,b6]
def Ci {p:Array Nat}{m r:Nat}(h1:1<=m)(hm:m<=r)(hr:r<=p.size)(h:Down f p m):m<=(run f (kas_tail3 m r p)).1/\(run f (kas_tail3 m r p)).1<=r/\Up f (run f (kas_tail3 m r p)).2 (run f (kas_tail3 m r p)).1:=by
 have e:run f (kas_tail3 m r p)=(run f (kas_asc (kas_rev p 0 m) (r-m) m),kas_rev p 0 m):=ke f _ _;rw[e];obtain ⟨a1,a2,a3,_⟩:=vx O (p:=kas_rev p 0 m) (r-m) m h1 (IG (by lia) h);exact #[a2,by show run f _<=r;lia,a1]
def Cj {p:Array Nat}{m r:Nat}(h1:1<=m)(hm:m+1<=r)(hr:r<=p.size)(h:Down f p (m+1)):1<=(run f (kas_descPart m r p)).1/\(run f (kas_descPart m r p)).1<=r/\Up f (run f (kas_descPart m r p)).2 (run f (kas_descPart m r p)).1:=by
 have e:run f (kas_descPart m r p)=run f (if (run f (kas_desc (r-(m+1)) p (m+1) 0)).2.2>0 then kas_tail3 (run f (kas_desc (r-(m+1)) p (m+1) 0)).2.1 r (kas_rev (run f (kas_desc (r-(m+1)) p (m+1) 0)).1 ((run f (kas_desc (r-(m+1)) p (m+1) 0)).2.1-((run f (kas_desc (r-(m+1)) p (m+1) 0)).2.2+1)) (run f (kas_desc (r-(m+1)) p (m+1) 0)).2.1) else kas_tail3 (run f (kas_desc (r-(m+1)) p (m+1) 0)).2.1 r (run f (kas_desc (r-(m+1)) p (m+1) 0)).1):=ke f _ _
 rw[e];obtain ⟨b1,b2,b3,b4,b5,b6⟩:=pw O (r - (m+1)) (p:=p) (m+1) 0 (by lia) (by lia) h (λi j a b c d=>by
  have:i=j:=by lia
  subst this;exact O.irr _)
 generalize run f (kas_desc (r-(m+1)) p (m+1) 0)=t at b1 b2 b3 b4 b5 b6;split
 .obtain ⟨c1,c2,c3⟩:=Ci O (p:=kas_rev t.1 (t.2.1-(t.2.2+1)) t.2.1) (m:=t.2.1) (r:=r) (by lia) (by lia) (by rw[pq,b4];exact hr) (Cg (by rw[b4];lia) b3 b5 b6);exact #[by lia,c2,c3]
 .obtain ⟨c1,c2,c3⟩:=Ci O (p:=t.1) (m:=t.2.1) (r:=r) (by lia) (by lia) (by rw[b4];exact hr) b5;exact #[by lia,c2,c3]
def IH {p:Array Nat}{r:Nat}(h1:1<=r)(hr:r<=p.size):1<=(run f (kas_count r p)).1/\(run f (kas_count r p)).1<=r/\Up f (run f (kas_count r p)).2 (run f (kas_count r p)).1:=by
 obtain ⟨a1,a2,a3,a4⟩:=vx O (p:=p) (r-1) 1 (aj _) (λi j hij hj=>absurd hj (by lia));have e:run f (kas_count r p)=run f (if (run f (kas_asc p (r-1) 1)==r)=true then .ret (run f (kas_asc p (r-1) 1),p) else if run f (kas_asc p (r-1) 1)>1 then .ask (p.getD 0 0) (p.getD (run f (kas_asc p (r-1) 1)-1) 0) λc=>if c=true then .ret (run f (kas_asc p (r-1) 1),p) else kas_descPart (run f (kas_asc p (r-1) 1)) r (kas_rev p 0 (run f (kas_asc p (r-1) 1))) else kas_descPart (run f (kas_asc p (r-1) 1)) r p):=ke f _ _
 rw[e];generalize run f (kas_asc p (r-1) 1)=m at a1 a2 a3 a4;by_cases c:m=r
 .subst c;rw[aq (by simp)];exact #[a2,aj _,a1]
 .rw[ak (by simpa using c)];have hlt:=a4 (by lia);by_cases c1:m>1
  .rw[aq c1];cases e2:f (p.getD 0 0) (p.getD (m-1) 0) with
   | true=>
    have st:run f (.ask (p.getD 0 0) (p.getD (m-1) 0) λc=>if c=true then .ret (m,p) else kas_descPart m r (kas_rev p 0 m))=(m,p):=by
     show run f (if f (p.getD 0 0) (p.getD (m-1) 0)=true then _ else _)=_
     rw[e2,aq rfl];rfl
    rw[st];exact #[a2,by show m<=r;lia,a1]
   | false=>
    have st:run f (.ask (p.getD 0 0) (p.getD (m-1) 0) λc=>if c=true then .ret (m,p) else kas_descPart m r (kas_rev p 0 m))=run f (kas_descPart m r (kas_rev p 0 m)):=by
     show run f (if f (p.getD 0 0) (p.getD (m-1) 0)=true then _ else _)=_
     rw[e2,ak (by decide)]
    rw[st];have low:∀ i,i<m->f (p.getD i 0) (p.getD 0 0)=false:=λi hi=>by
     by_cases ci:i=0
     .rw[ci];exact O.irr _
     .exact a1 0 i (by lia) hi
    have high:∀ j,j<m->f (p.getD (m-1) 0) (p.getD j 0)=false:=λj hj=>by
     by_cases cj:j=m-1
     .rw[cj];exact O.irr _
     .exact a1 j (m-1) (by lia) (by lia)
    have all:∀ i j,i<m->j<m->f (p.getD i 0) (p.getD j 0)=false:=λi j hi hj=>not_lt O (low i hi) (not_lt O e2 (high j hj));refine Cj O a2 (by lia) (by rw[pq];exact hr) λi j hij hj=>?_;rw[iP (by lia),iP (by lia),aq (by lia)];by_cases cj:j<m
    .rw[aq (by lia)];exact all _ _ (by lia) (by lia)
    .rw[ak (by lia),show j=m by lia];exact not_lt O (all _ (m-1) (by lia) (by lia)) (asym O hlt)
  .rw[ak c1];have hm1:m=1:=by lia
   subst hm1;refine Cj O (aj _) (by lia) hr λi j hij hj=>?_;rw[show i=0 by lia,show j=1 by lia];exact asym O hlt
def sort_run {n:Nat}(hn:0<n):Up f (run f (kas_sort n)) n/\Good n (run f (kas_sort n)):=by
 refine #[?_,(sort_res hn).run f];obtain ⟨a1,a2,a3⟩:=IH O (p:=(List.range n).toArray) (r:=n) hn (by simp);have g:=(Cc hn (p:=(List.range n).toArray) (Array.Perm.refl _) n).run f;have e:run f (kas_sort n)=run f (if (run f (kas_count n (List.range n).toArray)).1<n then kas_bin (n-max (run f (kas_count n (List.range n).toArray)).1 1) (run f (kas_count n (List.range n).toArray)).2 (max (run f (kas_count n (List.range n).toArray)).1 1) else .ret (run f (kas_count n (List.range n).toArray)).2):=ke f _ _
 rw[e];generalize run f (kas_count n (List.range n).toArray)=t at a1 a2 a3 g;have hs:=Good.size g;rw[Nat.max_eq_left a1];split
 .have:=Cf O (n-t.1) (p:=t.2) t.1 (by lia) a3;rw[show t.1+(n-t.1)=n by lia]at this;exact this
 .show Up f t.2 n;rw[show n=t.1 by lia];exact a3
end
end Kas
namespace Tim
open PySem PySem.W PyProof.Rows
section
variable {prog:Program}{w:World}{A:Around}{E:Value->Shared->Prop}{s:Shared}{κ:KeyKind}{kd:SortKind}
def II {vs:List Value}(keys:∀ v∈vs,∃ k,κ.keyOf v=some k)(hO:LtG prog w A s κ kd)(h2:2<=vs.length)(h64:vs.length<64) :
  wpAny (model prog w) A (sortRuns'.run (SortSt.mk' kd (vs.toArray.zip vs.toArray) (List.toArray []) 7 none)) (λr s'=>s'=s/\(arrOf r.2).Perm (pairsOf vs)/\failedOf r.2=none/\Up κ (arrOf r.2) 0 (pairsOf vs).size) E s:=by
 obtain ⟨f,hf⟩:∃ f:Nat->Nat->Bool,f=λi j=>κ.blt (keyV κ (vs.getD i .none)) (keyV κ (vs.getD j .none)):=#[_,rfl];have O:Kas.Ord f:=by
  subst hf;exact #[λa=>κ.irrefl _,λa b c=>κ.trans _ _ _,λa b c=>κ.negTrans _ _ _]
 have hn:0<vs.length:=by lia
 have hk:∀ i,i<vs.length->κ.keyOf (vs.getD i .none)=some (keyV κ (vs.getD i .none)):=λi hi=>by
  have e:vs.getD i .none=vs[i]:=by rw[aH,aC hi];rfl
  obtain ⟨k,hk⟩:=keys _ (cE hi);rw[e];unfold keyV;rw[hk];rfl
 refine kat_run (ks:=vs) rfl h2 h64 (Q:=λst' s'=>s'=s/\(arrOf st').Perm (pairsOf vs)/\failedOf st'=none/\Up κ (arrOf st') 0 (pairsOf vs).size) (G:=λp s'=>s'=s/\Kas.Up f p vs.length/\Kas.Good vs.length p) (λp st' s' hp har hfl hG=>#[hG.1,?_,hfl,?_]) (Kas.wp_of (n:=vs.length) (f:=f) (λi j C hi hj hC=>?_) (Kas.sort_res hn) #[rfl,Kas.sort_run O hn])
 .rw[har];have hm:(p.map (kas_item (vs.toArray.zip vs.toArray))).Perm ((List.range vs.length).toArray.map (kas_item (vs.toArray.zip vs.toArray))):=by
   have h1:=(ui.mp hG.2.2).map (kas_item (vs.toArray.zip vs.toArray));refine ui.mpr ?_;rw[Array.toList_map,Array.toList_map];exact h1
  have hr:=kas_range (vs.toArray.zip vs.toArray);rw[show (vs.toArray.zip vs.toArray).size=vs.length by simp]at hr;rw[hr]at hm;exact hm
 .intro i j _ hij hj;rw[pairsOf_size]at hj;have hat:∀ x,x<vs.length->kAt κ (arrOf st') x=keyV κ (vs.getD (p.getD x 0) .none):=λx hx=>by
   have hxp:x<p.size:=by lia
   rw[uP (by rw[har,Array.size_map];exact hxp)];have e:(arrOf st')[x]'(by rw[har,Array.size_map];exact hxp)=(vs.getD (p.getD x 0) .none,vs.getD (p.getD x 0) .none):=by
    have e1:(arrOf st')[x]?=some (kas_item (vs.toArray.zip vs.toArray) (p.getD x 0)):=by
     rw[har,Array.getElem?_map,Array.getElem?_eq_getElem hxp];show some (kas_item _ p[x])=_;have:p.getD x 0=p[x]:=by simp[Array.getD,hxp]
     rw[this]
    rw[kat_item rfl]at e1;exact (Array.getElem?_eq_some_iff.mp e1).2
   rw[e];rfl
  rw[hat i (by lia),hat j hj];by_cases c:i=j
  .subst c;exact KeyOrd.kle_refl _
  .have:=hG.2.1 i j (by lia) hj;subst hf;exact this
 .unfold kas_ask;subst hf;exact hO _ _ _ _ _ _ (hk i hi) (hk j hj) hC
def IJ {a:Addr}{vs:List Value}{n:Nat}{P:Fin->Shared->Prop}(ho:s.heap.get? a=some (seqObj "list" vs.toArray n))(hz:vs.length<=sizeLine)(h64:vs.length<64)(keys:∀ v∈vs,∃ k,κ.keyOf v=some k)
  (hlt:∀ h',mn a s.heap h'->LtG prog w A { s with heap:=h' } κ kd)
  (hkd:∀(h':Heap) (E:Value->Shared->Prop) (Q:SortKind->Shared->Prop),mn a s.heap h'->2<=vs.length->Q kd { s with heap:=h' }->wpAny (model prog w) A (keyKind' vs.toArray) Q E { s with heap:=h' })
  (h:∀ out:List Value,out.Perm vs->out.Pairwise (λx y=>κ.kle (keyV κ x) (keyV κ y))->P (.done (.ret .none)) { s with heap:=sortedHeap s.heap a vs out.toArray }) :
  wpAny (model prog w) A (Builtin.«list.sort» #[[.ref a],[]]) P E s:=by
 rw[list_sort_plain];have hlt0:a<s.heap.objs.size:=aT ho;refine ay (listItems_at ho rfl ?_);refine ay (listUpdate_at ho rfl ?_ (by simpa using hz) (cf _));obtain ⟨m,ho1⟩:∃ m,(s.heap.update a (Obj.mapSeq λ_=>(List.toArray []))).get? a=some (seqObj "list" (List.toArray []) m):=#[_,get?_update_seq ho (λ_=>(List.toArray []))];refine ay (seqEpoch_at ho1 rfl ?_);refine ay (wpAny_newTuple ?_ (by simpa using hz));refine ay (wpAny_newList ?_);refine wpAny_holding ?_;have z1:(s.heap.update a (Obj.mapSeq λ_=>(List.toArray []))).objs.size=s.heap.objs.size:=by rw[Heap.size_update]
 have hk:mn a s.heap (((s.heap.update a (Obj.mapSeq λ_=>(List.toArray []))).push (seqObj "tuple" vs.toArray 0)).push (seqObj "list" (List.toArray []) 0)):=λb o hb e=>
  aX _ (aX _ ((ja _ _ (bf hb)).trans e))
 have ho6:(((s.heap.update a (Obj.mapSeq λ_=>(List.toArray []))).push (seqObj "tuple" vs.toArray 0)).push (seqObj "list" (List.toArray []) 0)).get? a=some (seqObj "list" (List.toArray []) m):=aX _ (aX _ ho1);show wpAny (model prog w) A _ P E { s with heap:=((s.heap.update a (Obj.mapSeq λ_=>(List.toArray []))).push (seqObj "tuple" vs.toArray 0)).push (seqObj "list" (List.toArray []) 0) };dsimp only;have fin:∀ st':SortSt,(arrOf st').Perm (pairsOf vs)->failedOf st'=none->Up κ (arrOf st') 0 (pairsOf vs).size->wpAny (model prog w) A (do
   let touched:=(<-seqEpoch a) != m
   Builtin.List.listUpdate (.ref a) λ_=>(arrOf st').map (·.2)
   if let some e:=failedOf st' then rule "list.sort.comparison-raised";throw e
   if touched then rule "list.sort.modified";raiseError "ValueError" "list modified during sort"
   ret .none) P E { s with heap:=((s.heap.update a (Obj.mapSeq λ_=>(List.toArray []))).push (seqObj "tuple" vs.toArray 0)).push (seqObj "list" (List.toArray []) 0) }:=λst' hp hf hU=>by
  refine ay (seqEpoch_at ho6 rfl ?_);refine ay (listUpdate_at ho6 rfl ?_ (cf _) (by
   refine bS (lO ((Array.size_map ..).trans (hp.size_eq.trans (pairsOf_size _)))) ?_;lia))
  rw[hf];simp only[bne_self_eq_false,uj,if_false];obtain ⟨o1,o2⟩:=GN hp hU;have:=h _ o1 o2;have e:((arrOf st').toList.map (·.2)).toArray=(arrOf st').map (·.2):=by rw[<-Array.toList_map,n9]
  rw[e]at this;exact aS this
 by_cases h2:vs.toArray.size<2
 .rw[aq h2,aq h2];refine ay (aS ?_);rw[StateT.run_pure];refine ay (aS ?_);refine fin (SortSt.mk' general' (vs.toArray.zip vs.toArray) (List.toArray []) 7 none) (Array.Perm.refl _) rfl ?_;intro i j q1 q2 q3;have:i=j:=by
   rw[pairsOf_size]at q3;simp at h2;lia
  subst this;exact KeyOrd.kle_refl _
 .rw[ak h2,ak h2];have h2':2<=vs.length:=by
   simp at h2;lia
  refine ay (hkd _ _ _ hk h2' ?_);refine ay (dS (II keys (hlt _ hk) h2' h64) ?_ λ_ _ e=>e);rintro ⟨⟨⟩,st'⟩ s' ⟨rfl,hp,hf,hs⟩;exact fin st' hp hf hs
def IK {l:Addr}{vs:List Value}{Q:Value->Shared->Prop}(hl:∀{Q':List Value->Shared->Prop},Q' vs { s with heap:=(s.heap.push (seqObj "list" (List.toArray []) 0)).update s.heap.objs.size (Obj.mapSeq (· ++ vs.toArray)) }->wpAny (model prog w) A.in1 (collect (.ref l)) Q' E s)(hz:vs.length<=sizeLine)(h64:vs.length<64)(keys:∀ v∈vs,∃ k,κ.keyOf v=some k)
  (hlt:∀ h',(∀ b o,s.heap.get? b=some o->h'.get? b=some o)->LtG prog w A.in1.in1 { s with heap:=h' } κ kd)
  (hkd:∀(h':Heap) (E:Value->Shared->Prop) (Q:SortKind->Shared->Prop),(∀ b o,s.heap.get? b=some o->h'.get? b=some o)->2<=vs.length->Q kd { s with heap:=h' }->wpAny (model prog w) A.in1.in1 (keyKind' vs.toArray) Q E { s with heap:=h' })
  (h:∀(out:List Value) (h':Heap) (c:Nat),out.Perm vs->out.Pairwise (λx y=>κ.kle (keyV κ x) (keyV κ y))->(∀ b o,s.heap.get? b=some o->h'.get? b=some o)->
   h'.get? (s.heap.objs.size+1)=some (seqObj "list" out.toArray c)->Q (.ref (s.heap.objs.size+1)) { s with heap:=h' }) :
  wpAny (model prog w) A (call (.builtin "sorted") [.ref l]) Q E s:=by
 refine Calls.call_function_entry kind_sorted plain_sorted entry_sorted (args_sorted1 _) ?_;unfold Builtin.«sorted»;refine ay (m:=checkCount "sorted" 1 1 _) (aS ?_);refine ay (hl ?_);refine ay (wpAny_newList ?_ (by simpa using hz));have z1:((s.heap.push (seqObj "list" (List.toArray []) 0)).update s.heap.objs.size (Obj.mapSeq (· ++ vs.toArray))).objs.size=s.heap.objs.size+1:=by
  rw[Heap.size_update,size_push']
 have hn:(((s.heap.push (seqObj "list" (List.toArray []) 0)).update s.heap.objs.size (Obj.mapSeq (· ++ vs.toArray))).push (seqObj "list" vs.toArray 0)).get? (s.heap.objs.size+1)=some (seqObj "list" vs.toArray 0):=by
  rw[<-z1];exact bZ _ rfl
 have hk:∀ b o,s.heap.get? b=some o->(((s.heap.push (seqObj "list" (List.toArray []) 0)).update s.heap.objs.size (Obj.mapSeq (· ++ vs.toArray))).push (seqObj "list" vs.toArray 0)).get? b=some o:=λb o e=>
  aX _ ((ja _ _ (ig (aT e))).trans (aX _ e))
 show wpAny _ _ _ _ _ { s with heap:=((s.heap.push (seqObj "list" (List.toArray []) 0)).update s.heap.objs.size (Obj.mapSeq (· ++ vs.toArray))).push (seqObj "list" vs.toArray 0) };rw[z1];generalize ((s.heap.push (seqObj "list" (List.toArray []) 0)).update s.heap.objs.size (Obj.mapSeq (· ++ vs.toArray))).push (seqObj "list" vs.toArray 0)=h1 at hn hk ⊢;have up:∀ h',mn (s.heap.objs.size+1) h1 h'->∀ b o,s.heap.get? b=some o->h'.get? b=some o:=λh' kb b o e=>kb b o (λz=>by
  have:=aT e;rw[z]at this;exact absurd this (Nat.not_lt.mpr (ij _))) (hk b o e)
 refine ay (wpAny_holding (wpAny_call_entry slot_list_sort #[_,hn,rfl] entry_list_sort (IJ (s:={ s with heap:=h1 }) hn hz h64 keys (λh' kb=>hlt h' (up h' kb)) (λh' E Q kb h2 q=>hkd h' E Q (up h' kb) h2 q) λout p1 p2=>#[_,rfl,?_]) (args_list_sort _)));obtain ⟨kb,c,hc⟩:=GO (out:=out) hn;exact aS #[_,rfl,h out _ c p1 p2 (up _ kb) hc]
end
end Tim
namespace L2
open PySem PySem.Spec PyProof.Rows
inductive Ck (α:Type)[Rep α][Srt α](K:Frag)(xs:List V)(H:Hp)(Q:VK):Prop
 | c:∀(p:Addr) (vs:List V) (as:List α),xs=[.ref p]->SqL K H p vs->aA K H as vs->as.length<64->(∀ l ws,H l=none->aA K H (dg as) ws->Q (.ref l) (upd H l (.lst ws)))->Ck α K xs H Q
inductive Cm (α:Type)[Rep α][Srt α](K:Frag)(xs:List V)(H:Hp)(Q:VK):Prop
 | c:∀(p:Addr) (vs:List V) (as:List α),xs=[.ref p]->SqT K H p vs->aA K H as vs->as.length<64->(∀ l ws,H l=none->aA K H (dg as) ws->Q (.ref l) (upd H l (.lst ws)))->Cm α K xs H Q
section
variable {X:Cx}
def Cn {α:Type}[Rep α][Srt α]{Q:VK}{p:Addr}{vs:List V}{its:List Value}{as:List α}(I:Inv X Px U H s)(rv:Vals vs its)(hz:vs.length<=sizeLine)(ha:aA X.K H as vs)(h64:as.length<64)
  (col:∀{Q':List Value->Shared->Prop},Q' its { s with heap:=(s.heap.push (seqObj "list" (List.toArray []) 0)).update s.heap.objs.size (Obj.mapSeq (· ++ its.toArray)) }->wpAny (model X.prog X.w) X.A.in1 (collect (.ref p)) Q' X.xe s)
  (q:∀ l ws,H l=none->aA X.K H (dg as) ws->Q (.ref l) (upd H l (.lst ws))):wpAny (model X.prog X.w) X.A (call (.builtin "sorted") [.ref p]) (EP X Px U Q) X.xe s:=by
 have hlen:=rv.length;obtain ⟨km,kk⟩:=Bq I ha rv;refine Tim.IK (κ:=srtKind α X.K H) (kd:=Srt.kd α) col (by lia) (by have:=ha.length;lia) (λv hv=>?_) (λh' k E x y a b Q hx hy q=>?_) (λh' E Q k h2 q=>Srt.kind (Inv.kept (t':=s.toks) I k) ha rv h2 q) λout h' c p1 p2 k hc=>?_
 .obtain ⟨a,_,_,_,e⟩:=kk v hv;exact #[a,e]
 .obtain ⟨x1,r1,e1⟩:=Bn hx;obtain ⟨y1,r2,e2⟩:=Bn hy;exact Srt.lt (Inv.kept (t':=s.toks) I k) e1 e2 r1 r2 q
 .obtain ⟨ws,bs,w1,w2,w3⟩:=Bp (α:=α) (K:=X.K) (H:=H) (out:=out) λv hv=>kk v (p1.mem_iff.mp hv);have eb:bs=dg as:=by
   refine o7 ?_ ?_
   .rw[w3,<-km];exact p1.map _
   .rw[w3];exact ip.mpr p2
  rw[eb]at w2;have hw:ws.length<=sizeLine:=by
   have:=w1.length;have:=p1.length_eq;lia
  exact #[.ref (s.heap.objs.size+1),_,I.laid (a:=s.heap.objs.size+1) (o:=.lst ws) (t':=s.toks) k (ij _) #[hw,out,c,w1,hc],rfl,q _ ws (I.hok.fresh (ij _)) w2]
def vA (α:Type)[Rep α][Srt α]:cQ X (.builtin "sorted") (Ck α X.K):=by
 intro Px s U H xs us Q I r h;obtain ⟨p,vs,as,rfl,hq,ha,h64,q⟩:=h;obtain ⟨u,rfl,rx⟩:=eX r;cases rx
 obtain ⟨its,rv,pl,hz⟩:=I.list hq;exact Cn I rv hz ha h64 (λh=>PyProof.Rows.collect_list pl.isList h (by have:=rv.length;lia)) q
def Co (α:Type)[Rep α][Srt α]:cQ X (.builtin "sorted") (Cm α X.K):=by
 intro Px s U H xs us Q I r h;obtain ⟨p,vs,as,rfl,hq,ha,h64,q⟩:=h;obtain ⟨u,rfl,rx⟩:=eX r;cases rx
 obtain ⟨its,rv,pl,hz⟩:=I.tuple hq;exact Cn I rv hz ha h64 (λh=>Hv (show s.heap.IsTuple p its.toArray from pl) h (by have:=rv.length;lia)) q
end
section
variable {prog:Program}{w:World}{A:Around}{E:Value->Shared->Prop}{s:Shared}
def IL {Q:List Value->Shared->Prop}{r:Addr}{a b c:Int}{t u v:Tok}{n:Nat}(hh:A.handled=none)(hr:IsRange s.heap r a b c t u v)(hsmall:Builtin.Range.small a b c=true)(hn:Builtin.Range.rangeSize a b c=n)(hlen:n<=2^24)
  (hQ:∀ h' tk (acc:Array Value),(∀ b o,s.heap.get? b=some o->h'.get? b=some o)->ItemsOf (λi v=>∃ t,v=.int (a+i*c) t) acc n->Q acc.toList { s with heap:=h',toks:=tk }):wpAny (model prog w) A (collect (.ref r)) Q E s:=by
 unfold collect;refine ay (dS (Q:=λv s'=>v=.ref s.heap.objs.size/\∃ h' tk acc c',s'={ s with heap:=h',toks:=tk }/\(∀ b o,s.heap.get? b=some o->h'.get? b=some o)/\h'.get? s.heap.objs.size=some { cls:=.type "list",dict:=none,data:=.seq acc c',slots:=(List.toArray []) }/\ItemsOf (λi v=>∃ t,v=.int (a+i*c) t) acc n) (wpAny_runValue (codeAny_builtin F.entry_proto_collect ?_)) ?_ λ_ _ e=>e)
 .rw[Around.under_plainId F.plain_proto_collect _];show wpAny _ A.in1 (newList [] >>= λl=>again (.builtin "list.__iadd__" #[[l,.ref r],[]])) _ _ s;refine ay (wpAny_newObj_type ?_);refine aS #[plainId_quiet F.plain_list_iadd _,codeAny_builtin F.entry_list_iadd ?_];rw[Around.under_plainId F.plain_list_iadd _];have hS:(s.heap.push { cls:=.type "list",data:=.seq ([]:List Value).toArray }).get? s.heap.objs.size=some { cls:=.type "list",data:=.seq ([]:List Value).toArray }:=bZ _ rfl;exact wpAny_extend_range (R:=λr s'=>match r with|.ok (.ret v)=>v=.ref s.heap.objs.size/\∃ h' tk acc c',s'={ s with heap:=h',toks:=tk }/\(∀ b o,s.heap.get? b=some o->h'.get? b=some o)/\h'.get? s.heap.objs.size=some { cls:=.type "list",dict:=none,data:=.seq acc c',slots:=(List.toArray []) }/\ItemsOf (λi v=>∃ t,v=.int (a+i*c) t) acc n|.ok _=>False|.error e=>E e s') (s:={ s with heap:=s.heap.push { cls:=.type "list",data:=.seq ([]:List Value).toArray } }) hh (aX _ hr) hsmall hn hlen _ _ _ hS λh' tk acc c' hk hS' hacc=>#[rfl,h',tk,acc,c',rfl,λb o e=>hk b o (bL (aT e)) (aX _ e),hS',hacc]
 rintro _ _ ⟨rfl,h',tk,acc,c',rfl,hk,hS',hacc⟩;refine ay (wpAny_load hS' ?_);exact aS (hQ h' tk acc hk hacc)
def IM {Q:Value->Shared->Prop}{r:Addr}{a b c:Int}{t u v:Tok}{n:Nat}(hh:A.handled=none)(hr:IsRange s.heap r a b c t u v)(hsmall:Builtin.Range.small a b c=true)(hn:Builtin.Range.rangeSize a b c=n)(hlen:n<=sizeLine)
  (h:∀(h':Heap) (tk:Nat) (acc:Array Value),(∀ b o,s.heap.get? b=some o->h'.get? b=some o)->ItemsOf (λi v=>∃ t,v=.int (a+i*c) t) acc n->Q (.ref h'.objs.size) { s with heap:=h'.push { cls:=.type "tuple",data:=.seq acc },toks:=tk }):wpAny (model prog w) A (call (.type "tuple") [.ref r]) Q E s:=by
 refine callType_codes (Q₁:=λobj s₁=>s₁.TypeIs obj "tuple"/\Q obj s₁) F.called_tuple (F.typeCall_tuple_1 _) F.entry_object_init ?_ λobj s₁ h₁=>#[h₁.1,F.args_object_init_2 obj _,object_init_meets F.called_tuple.init.lookup F.called_tuple.made (by decide) prog w A.in1 _ s₁ #[h₁.1,rfl,h₁.2]];refine codeAny_of_tree ?_;show wpAny _ A.in1.in1 (do checkBuiltinCall "tuple.__new__" #[[.type "tuple",.ref r],[]];again (.builtin "tuple.__new__" #[[.type "tuple",.ref r],[]])) _ _ s
 refine ay (wpAny_of_eq (F.newCall_tuple_1 _) (aS #[plainId_quiet F.plain_tuple_new _,codeAny_builtin F.entry_tuple_new ?_]));rw[Around.under_plainId F.plain_tuple_new _];have hsub:=sub_tuple_self;have hinit:=init_tuple_lookup;have hmh:=madeHere_tuple;have hTI:s.TypeIs (.ref r) "range":=#[_,hr,rfl];have h2:n<=2^24:=bS hlen (by decide)
 wp_walk using wpAny_typeOf hTI,IL (show A.in1.in1.handled=none from hh) hr hsmall hn h2
 intro h' tk acc hk hacc;show wpAny _ _ (Builtin.Tuple.tupleExact acc.toList.toArray >>= λv=>ret v) _ _ _;unfold Builtin.Tuple.tupleExact;refine ay (wpAny_newObj_type ?_ (by show acc.toList.toArray.size<=sizeLine;simp only[n9];rw[hacc.1];exact hlen));refine aS ?_;have e:acc.toList.toArray=acc:=by simp
 rw[e];exact #[#[_,bZ _ rfl,rfl],h h' tk acc hk hacc]
end
section
variable {X:Cx}
def IP {acc:Array Value}{n:Nat}(hi:ItemsOf (λi v=>∃ t,v=Value.int ((0:Int)+i*1) t) acc n):Vals ((List.range n).map λi:Nat=>V.int i) acc.toList:=by
 obtain ⟨g1,g2⟩:=hi;have key:∀(us:List Value) (o m:Nat),us.length=m->(∀ i v,us[i]?=some v->∃ t,v=Value.int ((0:Int)+((o+i:Nat):Int)*1) t)->Vals ((List.range' o m).map λi:Nat=>V.int i) us:=by
  intro us
  induction us with
  | nil=>
   intro o m hl _;subst hl;exact .nil
  | cons v us ih=>
   intro o m hl hh;subst hl;show Vals (V.int o::(List.range' (o+1) us.length).map λi:Nat=>V.int i) (v::us);refine .cons ?_ (ih (o+1) us.length rfl λi w e=>?_)
   .obtain ⟨t,ht⟩:=hh 0 v rfl;refine #[t,?_];rw[ht];congr 1;lia
   .obtain ⟨t,ht⟩:=hh (i+1) w (by simpa using e);refine #[t,?_];rw[ht];congr 1;lia
 rw[uv];refine key acc.toList 0 n (by rw[ie];exact g1) λi v e=>?_;rw[je];exact g2 i v (by rw[<-um];exact e)
inductive Cp (Q:VK)(vs:List V)(H1:Hp):Prop
 | c:∀(n:Nat),vs=[.int n]->n<=1000->(∀ p,H1 p=none->Q (.ref p) (upd H1 p (.tup ((List.range n).map λi:Nat=>V.int i))))->Cp Q vs H1
def IQ (ta:TA):TE:=λU H Q=>ta U H λvs H1=>Cp Q vs H1
def IR {a:Expr}{p1 p2 p3 p4:Pos}(hc:X.calm=true)(hg:Gl X "tuple")(hm:X.mg "tuple" = none)(hg2:Gl X "range")(hm2:X.mg "range" = none)(ha:PA X [a] ta)(hs:starEach [a] X.env=[(false,eval a X.env)]:=by rfl)
  (hs2:starEach [.Call (.Name "range" p2) [a] [] p3] X.env=[(false,eval (.Call (.Name "range" p2) [a] [] p3) X.env)]:=by rfl):PE X (.Call (.Name "tuple" p1) [.Call (.Name "range" p2) [a] [] p3] [] p4) (IQ ta):=by
 intro Px s U H Q I h;refine wpAny_Call_Name_kw (fV I hg hm boot_tuple (PyProof.Rows.callWith_type1 ?_ hs2 rfl));rw[hs2];refine Calls.spliced_cons ?_;refine Call_ (fV I hg2 hm2 boot_range (PyProof.Rows.callWith_type1 (thn (ha p3 Px s U H _ I h) λus s1 zq0=>?_) hs rfl));obtain ⟨vs,H1,I1,r1,q1⟩:=zq0;obtain ⟨n,e,hn,q⟩:=q1;subst e;cases r1 with
 | cons r rr=>
  cases rr
  obtain ⟨t,rfl⟩:=r;refine call_range_1 ?_;refine Calls.spliced_nil ?_;have I2:Inv X Px U H1 { s1 with heap:=s1.heap.push { cls:=.type "range",data:=.fields (List.toArray [.int 0 s1.toks,.int (n:Int) t,.int 1 (s1.toks+1)]) },toks:=s1.toks+1+1 }:=I1.kept λb o e=>aX _ e;have hz:n<=sizeLine:=eE (eF hn (by decide));refine IM (n:=n) (I1.ok.hd hc) (IsRange.new ..) (small_one (by lia) (by lia) (by lia) (by lia)) (by rw[rangeSize_one];split<;>lia) hz λh' tk acc k hi=>?_
  have I3:Inv X Px U H1 { s1 with heap:=h',toks:=tk }:=I1.kept λb o e=>k b o (aX _ e);refine #[.ref h'.objs.size,_,I3.laid (t':=tk) (λb o e=>aX _ e) (aj _) (show bN X.prog X.w _ _ _ (.tup ((List.range n).map λi:Nat=>V.int i)) from #[?_,acc.toList,IP hi,?_]),rfl,q _ (I3.hok.fresh (aj _))]
  .rw[ai,cU];exact hz
  .have:=IsTup.new h' acc.toList.toArray;rw[n9]at this ⊢;exact this
end
end L2
namespace L2
open PySem PySem.Spec PyProof.Rows PySem.SeqAt
abbrev T3:Type:=Tri Int Int Int
def Cq (a b:T3):Bool:=decide (a.a<b.a\/(a.a=b.a/\(a.b<b.b\/(a.b=b.b/\a.c<b.c))))
def vB {a:T3}{x:V}{u:Value}(I:Inv X Px U H s)(h:Rep.has X.K H a x)(r:RelV x u) :
  ∃(p:Addr) (o:Obj) (n:Nat) (t t' t2:Tok),u=.ref p/\s.heap.get? p=some o/\o.cls=.type "tuple"/\o.data=.seq (List.toArray [.int a.a t,.int a.b t',.int a.c t2]) n:=by
 obtain ⟨p,x1,x2,x3,rfl,q,e1,e2,e3⟩:=(show has3 X.K H a x from h);have e1:x1=.int a.a:=e1;have e2:x2=.int a.b:=e2;have e3:x3=.int a.c:=e3;subst e1 e2 e3;cases r
 obtain ⟨us,ru,pu,_⟩:=I.tuple (SqT.of q);obtain ⟨u1,u2,u3,rfl,⟨t,rfl⟩,⟨t',rfl⟩,⟨t2,rfl⟩⟩:=my ru;obtain ⟨o,ho,hc,n,hd⟩:=pu;exact #[p,o,n,t,t',t2,rfl,ho,hc,hd]
instance:Srt T3 where
 blt:=Cq
 irrefl:=λa=>aU (by lia)
 trans:=λa b c h1 h2=>by
  have:=bW h1;have:=bW h2;exact aO (by lia)
 negTrans:=λa b c h=>by
  have:=bW h;rcases (by lia:(a.a<b.a\/(a.a=b.a/\(a.b<b.b\/(a.b=b.b/\a.c<b.c))))\/(b.a<c.a\/(b.a=c.a/\(b.b<c.b\/(b.b=c.b/\b.c<c.c))))) with z|z
  .exact .inl (aO z)
  .exact .inr (aO z)
 total:=λa b h1 h2=>by
  have:=lU h1;have:=lU h2;exact Tri.ext' (by lia) (by lia) (by lia)
 kd:=tuples' true
 one:=#[0,0,0]
 lt:=λ{X Px U H s A a b x y u v Q E} I h1 h2 r1 r2 q=>by
  obtain ⟨p,o,n,t1,t2,t3,rfl,ho,hc,hd⟩:=vB I h1 r1;obtain ⟨p',o',n',u1,u2,u3,rfl,ho',hc',hd'⟩:=vB I h2 r2;refine W.kat_lt ho hd ho' hd' ?_;have fin:∀ c:Bool,(c=true↔(a.a<b.a\/(a.a=b.a/\(a.b<b.b\/(a.b=b.b/\a.c<b.c)))))->Q c s:=λc hc=>by
   have e:Cq a b=c:=by
    cases c with
    | true=>exact aO (hc.mp rfl)
    | false=>exact aU λz=>nomatch hc.mpr z
   rw[<-e];exact q
  have ne:∀{i j:Int},¬ (i==j)=true->¬ i=j:=λe z=>e (by rw[z];exact beq_self_eq_true _);show W.KatLex X.prog X.w A true _ Q [(.int a.a t1,.int b.a u1),(.int a.b t2,.int b.b u2),(.int a.c t3,.int b.c u3)] 0 s;refine W.kat_cons (EqAt.int_int _ _ _ _ _ _ _ _ (W.kat_go (λe1=>W.kat_yes ?_) (λe1=>W.kat_no (mq _ (fin _ ?_)))))
  .have e1:=eq_of_beq e1;refine W.kat_cons (EqAt.int_int _ _ _ _ _ _ _ _ (W.kat_go (λe2=>W.kat_yes ?_) (λe2=>W.kat_no (mq _ (fin _ ?_)))))
   .have e2:=eq_of_beq e2;refine W.kat_cons (EqAt.int_int _ _ _ _ _ _ _ _ (W.kat_go (λe3=>W.kat_yes (W.kat_nil (fin _ ?_))) (λe3=>W.kat_no (mq _ (fin _ ?_)))))
    .have e3:=eq_of_beq e3;refine #[nofun,λz=>?_];exfalso;lia
    .rw[decide_eq_true_iff];lia
   .have e2:=ne (by rw[e2];decide);rw[decide_eq_true_iff];lia
  .have e1:=ne (by rw[e1];decide);rw[decide_eq_true_iff];lia
 kind:=λ{X Px U H s A as xs us Q E} I h r hl q=>by
  have go:∀{as:List T3} {xs:List V} {us:List Value},aA X.K H as xs->Vals xs us->∃ fs,W.KatTups s.heap us fs/\fs.length=us.length/\∀ v∈fs,∃ i t,v=Value.int i t:=by
   intro as
   induction as with
   | nil=>
    intro xs us h r;cases h
    cases r
    exact #[[],.nil,rfl,λ_ z=>nomatch z]
   | cons a as ih=>
    intro xs us h r;cases h with
    | cons h1 h2=>
     cases r with
     | cons r1 r2=>
      obtain ⟨fs,f1,f2,f3⟩:=ih h2 r2;obtain ⟨p,o,n,t,t',t2,rfl,ho,hc,hd⟩:=vB I h1 r1;refine #[.int a.a t::fs,W.KatTups.cons ho hc hd rfl f1,by rw[cS,cS,f2],λv hv=>?_];rcases aW.mp hv with z|z
      .exact #[_,_,z]
      .exact f3 v z
  obtain ⟨fs,f1,f2,f3⟩:=go h r;refine W.kat_kind (T:=.type "int") f1 (by lia) (λv hv=>?_) (by decide) ?_
  .obtain ⟨i,t,rfl⟩:=f3 v hv;exact W.Looks.of_pure rfl
  .exact q
end L2
set_option maxHeartbeats 4000000
namespace My
open PySem PySem.Spec PyProof.Rows L2
local macro_rules|`(tactic| walk_at "sc") => `(tactic| exact ⟨rfl,rfl,rfl,by decide +kernel,rfl,by decide +kernel,by decide +kernel⟩)
local macro_rules|`(tactic| walk_at "side")=>`(tactic| first|lia|(dsimp only;lia)|(simp only[CDiv,GQ,CPow,CMul];lia)|decide)
local macro_rules|`(tactic| walk_at "rd")=>`(tactic| repeat (first|(refine ⟨_,_,rfl,rfl,(by walk_at "side"),?_⟩)|(refine ⟨_,rfl,?_⟩)|(refine ⟨_,_,rfl,rfl,?_⟩)|(refine ⟨rfl,?_⟩)|(refine ⟨(by walk_at "side"),?_⟩)))
def top (i:Nat):Stmt:=PySem.Challenge.pw_bridgefind_k71_whole_one_answer_by_all_r.main.body.getD i (.Pass #[0,0,0,0])
abbrev px:Stmt:=top 13
abbrev pz:Stmt:=top 14
abbrev pA:Stmt:=top 15
abbrev pB:Stmt:=top 16
abbrev pC:Stmt:=top 17
abbrev kg:Stmt:=top 18
abbrev pD:Stmt:=top 19
abbrev pE:Stmt:=top 22
abbrev pF:Stmt:=top 23
abbrev pG:Stmt:=top 24
abbrev pH:Stmt:=top 26
abbrev pI:Stmt:=top 27
abbrev pJ:Stmt:=top 28
abbrev pK:Stmt:=top 29
abbrev pL:Stmt:=top 30
abbrev pM:Stmt:=top 33
abbrev pN:Stmt:=top 34
abbrev pO:Stmt:=top 35
abbrev pP:Stmt:=top 36
abbrev pQ:Stmt:=top 37
abbrev pR:Stmt:=top 38
abbrev pS:Stmt:=top 39
abbrev pT:Stmt:=top 42
abbrev pU:Stmt:=top 43
abbrev pV:Stmt:=top 44
abbrev pW:Stmt:=top 45
abbrev pX:Stmt:=top 46
abbrev pY:Stmt:=top 47
abbrev pZ:Stmt:=top 48
abbrev p0:Stmt:=top 50
abbrev p5:Stmt:=top 51
abbrev p6:Stmt:=top 52
abbrev p7:Stmt:=top 53
abbrev kh:Stmt:=top 56
abbrev p8:Stmt:=top 57
abbrev p9:Stmt:=top 58
abbrev qa:Stmt:=top 59
abbrev kj:Stmt:=top 60
abbrev qb:Stmt:=top 61
abbrev qd:Stmt:=top 63
abbrev qe:Stmt:=top 64
abbrev qg:Stmt:=top 66
abbrev qh:Stmt:=top 67
abbrev qi:Stmt:=top 68
abbrev ql:Stmt:=top 69
abbrev qm:Stmt:=top 70
abbrev qo:Stmt:=top 72
abbrev qp:Stmt:=top 75
abbrev qr:Stmt:=top 76
abbrev qt:Stmt:=top 77
abbrev qu:Stmt:=top 78
abbrev qv:Stmt:=top 79
abbrev qw:Stmt:=top 80
abbrev qx:Stmt:=top 81
abbrev qy:Stmt:=top 82
abbrev qz:Stmt:=top 83
abbrev qA:Stmt:=top 84
abbrev qB:Stmt:=top 85
abbrev qC:Stmt:=top 86
abbrev jA:Stmt:=top 87
abbrev qD:Stmt:=top 88
abbrev qE:Stmt:=gN (top 73) 0
abbrev qF:Stmt:=gN (top 73) 1
abbrev qG:Stmt:=gN (top 73) 2
abbrev qH:Stmt:=gN (top 73) 3
abbrev qI:Stmt:=gN (top 73) 4
abbrev Cr:Stmt:=gN (top 73) 5
abbrev qJ:Stmt:=gN (top 73) 6
abbrev Cs:Stmt:=gN (top 73) 7
abbrev qK:Stmt:=gN (top 73) 8
def IS:aK ["thing"] ["thing"] (aB px):=by walk_at "sc"
def IT:aK ["thing"] ["thing"] (aB pz):=by walk_at "sc"
def IU:aK ["thing"] ["thing"] (aB pA):=by walk_at "sc"
def vC:aK ["entry","key","z"] ["entry"] (aB pB):=by walk_at "sc"
def kl:aK ["length","is_below","low","high","middle"] ["length","is_below"] (aB pC):=by walk_at "sc"
def IV:aK ["row","key"] ["row","key"] (aB kg):=by walk_at "sc"
def vD:aK ["lists","together","entries"] ["lists"] (aB pD):=by walk_at "sc"
def Ct:aK ["one","other","unlike"] ["one","other"] (aB pE):=by walk_at "sc"
def mB:aK ["numbers","told","at","number","figure"] ["numbers"] (aB pF):=by walk_at "sc"
def qL:aK ["entries","numbers","turn"] ["entries"] (aB pG):=by walk_at "sc"
def IW:aK ["things","at"] ["things","at"] (aB pH):=by walk_at "sc"
def IX:aK ["taken"] ["taken"] (aB pI):=by walk_at "sc"
def qM:aK ["numbers","told","label","at"] ["numbers"] (aB pJ):=by walk_at "sc"
def mC:aK ["entries","tints","told","colour","at"] ["entries"] (aB pK):=by walk_at "sc"
def IY:aK ["entries"] ["entries"] (aB pL):=by walk_at "sc"
def IZ:aK ["many","thing"] ["many","thing"] (aB pM):=by walk_at "sc"
def Cu:aK ["parents","knot"] ["parents"] (aB pN):=by walk_at "sc"
def I0:aK ["tree","thing"] ["tree","thing"] (aB pO):=by walk_at "sc"
def Ja:aK ["tree","knot"] ["tree","knot"] (aB pP):=by walk_at "sc"
def vE:aK ["tree","knot","told","other"] ["tree","knot"] (aB pQ):=by walk_at "sc"
def vF:aK ["tree","thing","knot","at"] ["tree","thing"] (aB pR):=by walk_at "sc"
def Jb:aK ["tree","thing"] ["tree","thing"] (aB pS):=by walk_at "sc"
def Cv:aK ["things","thing"] ["things"] (aB pT):=by walk_at "sc"
def Jc:aK ["lists"] ["lists"] (aB pU):=by walk_at "sc"
def Cw:aK ["tree","rows","told"] ["tree","rows"] (aB pV):=by walk_at "sc"
def Cy:aK ["stand","knot","row","rows"] ["stand","knot","row"] (aB pW):=by walk_at "sc"
def Jd:aK ["stand","knot"] ["stand","knot"] (aB pX):=by walk_at "sc"
def mD:aK ["stand","knot","tree","told","at","parts"] ["stand","knot"] (aB pY):=by walk_at "sc"
def Cz:aK ["stand","told"] ["stand"] (aB pZ):=by walk_at "sc"
def vG:aK ["full","knot","told","entry"] ["full","knot"] (aB p0):=by walk_at "sc"
def ko:aK ["full","child_full","behind","at","entry","told"] ["full","child_full"] (aB p5):=by walk_at "sc"
def mE:aK ["tree","fulls","told","knot","full","jumps"] ["tree","fulls"] (aB p6):=by walk_at "sc"
def Je:aK ["stand"] ["stand"] (aB p7):=by walk_at "sc"
def Jf:aK ["bridges","knot","is_below"] ["bridges","knot","is_below"] (aB kh):=by walk_at "sc"
def Jg:aK ["bridges","knot","at","child"] ["bridges","knot","at","child"] (aB p8):=by walk_at "sc"
def qN:aK ["bridges","knot","start","is_below","beyond","at"] ["bridges","knot","start","is_below"] (aB p9):=by walk_at "sc"
def kq:aK ["bridges","way","is_below","at","told","parent","knot"] ["bridges","way","is_below"] (aB qa):=by walk_at "sc"
def Jh:aK ["tree","fulls","way","key"] ["tree","fulls","way","key"] (aB kj):=by walk_at "sc"
def ku:aK ["bridges","knot","is_below","places","told","each","at","jump"] ["bridges","knot","is_below"] (aB qb):=by walk_at "sc"
def Ji:aK ["stand","way"] ["stand","way"] (aB qd):=by walk_at "sc"
def Jj:aK ["stand","way","key"] ["stand","way","key"] (aB qe):=by walk_at "sc"
def CA:aK ["stand","way","key","found"] ["stand","way","key"] (aB qg):=by walk_at "sc"
def Jk:aK ["thing"] ["thing"] (aB qh):=by walk_at "sc"
def Jl:aK ["full","at","key"] ["full","at","key"] (aB qi):=by walk_at "sc"
def CB:aK ["bridges","line","below","start"] ["bridges","line","below"] (aB ql):=by walk_at "sc"
def qO:aK ["stand","way","key","paper","fulls","bridges","line"] ["stand","way","key","paper"] (aB qm):=by walk_at "sc"
def vH:aK ["entries","others","away","entry"] ["entries","others"] (aB qo):=by walk_at "sc"
def Jm:aK ["_law_script"] ["_law_script"] (aB qp):=by walk_at "sc"
def vI:aK ["_law_cell","_law_k","_law_one","_law_two"] ["_law_cell","_law_k"] (aB qr):=by walk_at "sc"
def kx:aK ["_law_state","_law_most","_law_k","_law_script","_law_cell","_law_found"] ["_law_state","_law_most"] (aB qt):=by walk_at "sc"
def CC:aK ["_law_state","_law_way_here"] ["_law_state"] (aB qu):=by walk_at "sc"
def qP:aK ["_law_state","_law_most","_law_way_here","_law_parents","_law_k"] ["_law_state","_law_most"] (aB qv):=by walk_at "sc"
def vJ:aK ["_law_state","_law_most","_law_found","_law_k"] ["_law_state","_law_most"] (aB qw):=by walk_at "sc"
def kz:aK ["_law_state","_law_many","_law_most","_law_rows_here","_law_k","_law_row_here"] ["_law_state","_law_many","_law_most"] (aB qx):=by walk_at "sc"
def Jn:aK ["_law_tree_here","_law_knot"] ["_law_tree_here","_law_knot"] (aB qy):=by walk_at "sc"
def qQ:aK ["_law_state","_law_tree_here","_law_way_here","_law_some"] ["_law_state","_law_tree_here"] (aB qz):=by walk_at "sc"
def qR:aK ["_law_state","_law_tree_here","_law_rows_here","_law_knot","_law_key_here"] ["_law_state","_law_tree_here","_law_rows_here"] (aB qA):=by walk_at "sc"
def CD:aK ["_law_rows_here","_law_knot","_law_key_here","_law_is_put","_law_found"] ["_law_rows_here","_law_knot","_law_key_here","_law_is_put"] (aB qB):=by walk_at "sc"
def qS:aK ["_law_state","_law_rows_here","_law_way_here","_law_key_here","_law_some"] ["_law_state","_law_rows_here","_law_way_here"] (aB qC):=by walk_at "sc"
def gT:aK ["_law_shelf","_law_stand","_law_rows_here","_law_way_here","_law_key_here","_law_fulls","_law_due","_law_knot","_law_some","_law_over","_law_paper","_law_wanted","_law_beneath_it"] ["_law_shelf","_law_stand","_law_rows_here","_law_way_here","_law_key_here"] (aB jA):=by walk_at "sc"
def ef:aK ["_law_script","_law_state","_law_tree_here","_law_rows_here","_law_shelf","_law_k","_law_knot","_law_key_here","_law_is_put","_law_stand","_law_way_here"] ["_law_script"] (aB qD):=by walk_at "sc"
def Jo:aK ["self","stand"] ["self","stand"] (aB qE):=by walk_at "sc"
def Jp:aK ["self","knot","key"] ["self","knot","key"] (aB qF):=by walk_at "sc"
def jB:aK ["self","knot","gone","come","told","before","after"] ["self","knot","gone","come"] (aB qG):=by walk_at "sc"
def vK:aK ["self","knot","key","row","at"] ["self","knot","key"] (aB qH):=by walk_at "sc"
def vL:aK ["self","knot","key","row","at"] ["self","knot","key"] (aB qI):=by walk_at "sc"
def Jq:aK ["self"] ["self"] (aB qJ):=by walk_at "sc"
def Jr:aK ["self","way","key"] ["self","way","key"] (aB qK):=by walk_at "sc"
abbrev kF:List Str:=["thing"]
abbrev mG:List Str:=["thing"]
abbrev qT:List Str:=["thing"]
abbrev qU:List Str:=["entry"]
abbrev mH:List Str:=["length","is_below"]
abbrev kG:List Str:=["row","key"]
abbrev mI:List Str:=["lists"]
abbrev qV:List Str:=["one","other"]
abbrev qW:List Str:=["numbers"]
abbrev qX:List Str:=["entries"]
abbrev mJ:List Str:=["things","at"]
abbrev qY:List Str:=["taken"]
abbrev qZ:List Str:=["numbers"]
abbrev q0:List Str:=["entries"]
abbrev mK:List Str:=["entries"]
abbrev kH:List Str:=["many","thing"]
abbrev q9:List Str:=["parents"]
abbrev rg:List Str:=["tree","thing"]
abbrev mM:List Str:=["tree","knot"]
abbrev rh:List Str:=["tree","knot"]
abbrev rj:List Str:=["tree","thing"]
abbrev jC:List Str:=["tree","thing"]
abbrev rl:List Str:=["things"]
abbrev mN:List Str:=["lists"]
abbrev rm:List Str:=["tree","rows"]
abbrev mO:List Str:=["stand","knot","row"]
abbrev rp:List Str:=["stand","knot"]
abbrev rq:List Str:=["stand","knot"]
abbrev iQ:List Str:=["stand"]
abbrev rA:List Str:=["full","knot"]
abbrev rB:List Str:=["full","child_full"]
abbrev kI:List Str:=["tree","fulls"]
abbrev rC:List Str:=["stand"]
abbrev mP:List Str:=["bridges","knot","is_below"]
abbrev mQ:List Str:=["bridges","knot","at","child"]
abbrev mR:List Str:=["bridges","knot","start","is_below"]
abbrev mT:List Str:=["bridges","way","is_below"]
abbrev mU:List Str:=["tree","fulls","way","key"]
abbrev rD:List Str:=["bridges","knot","is_below"]
abbrev rE:List Str:=["stand","way"]
abbrev rF:List Str:=["stand","way","key"]
abbrev rG:List Str:=["stand","way","key"]
abbrev rH:List Str:=["thing"]
abbrev rJ:List Str:=["full","at","key"]
abbrev rK:List Str:=["bridges","line","below"]
abbrev rL:List Str:=["stand","way","key","paper"]
abbrev rM:List Str:=["entries","others"]
abbrev rN:List Str:=["_law_script"]
abbrev rO:List Str:=["_law_cell","_law_k"]
abbrev fH:List Str:=["_law_state","_law_most"]
abbrev kJ:List Str:=["_law_state"]
abbrev rP:List Str:=["_law_state","_law_most"]
abbrev rQ:List Str:=["_law_state","_law_most"]
abbrev rR:List Str:=["_law_state","_law_many","_law_most"]
abbrev rS:List Str:=["_law_tree_here","_law_knot"]
abbrev rT:List Str:=["_law_state","_law_tree_here"]
abbrev rV:List Str:=["_law_state","_law_tree_here","_law_rows_here"]
abbrev rW:List Str:=["_law_rows_here","_law_knot","_law_key_here","_law_is_put"]
abbrev rX:List Str:=["_law_state","_law_rows_here","_law_way_here"]
abbrev rY:List Str:=["_law_shelf","_law_stand","_law_rows_here","_law_way_here","_law_key_here"]
abbrev rZ:List Str:=["_law_script"]
abbrev r6:List Str:=["self","stand"]
abbrev mV:List Str:=["self","knot","key"]
abbrev mW:List Str:=["self","knot","gone","come"]
abbrev r9:List Str:=["self","knot","key"]
abbrev sf:List Str:=["self","knot","key"]
abbrev Js:List Str:=["self","parent"]
abbrev sg:List Str:=["self"]
abbrev Jt:List Str:=["self","knot"]
abbrev si:List Str:=["self","way","key"]
structure Txt (K:Frag)(mg:Str->Option Value):Prop where
 xW:mg "abs" = none
 xX:mg "all" = none
 Ni:mg "bool" = none
 Nj:mg "dict" = none
 xY:mg "enumerate" = none
 Nk:mg "int" = none
 i4:mg "isinstance" = none
 bG:mg "len" = none
 eR:mg "list" = none
 xZ:mg "max" = none
 x9:mg "min" = none
 dR:mg "range" = none
 Nl:mg "reversed" = none
 Nm:mg "set" = none
 nA:mg "sorted" = none
 Nn:mg "sum" = none
 eS:mg "tuple" = none
 tY:mg "zip" = none
 Np:∃ t,mg "KNOT_NUMBERS" = some (.int 64 t)
 Nq:∃ t,mg "TURNS" = some (.int 5 t)
 Nr:∃ t,mg "MOST_KNOTS" = some (.int 40 t)
 EU:∃ t,mg "MOST_KEYS" = some (.int 300 t)
 EV:∃ t,mg "MOST_BEHIND_START" = some (.int 2 t)
structure OwnC (K:Frag)(mg:Str->Option Value)(C:Addr):Prop where
 cl:L2.Cls K C
 mgC:mg "Shelf" = some (.ref C)
 n_kept:iF K C "kept"
 n_fulls:iF K C "fulls"
structure Cls (K:Frag)(mg:Str->Option Value)(lB lC lD lE lF lG lH lI lJ lK:Addr):Prop where
 Pf:mg "BridgeError" = some (.ref lB)
 Pg:mg "NoTree" = some (.ref lC)
 Ph:mg "NoWay" = some (.ref lD)
 Pi:mg "NoStand" = some (.ref lE)
 Pj:mg "Twice" = some (.ref lF)
 Pk:mg "Missing" = some (.ref lG)
 Pl:mg "NoRoom" = some (.ref lH)
 Pm:mg "NoKnot" = some (.ref lI)
 Po:mg "NoKey" = some (.ref lJ)
 Pp:mg "Shelf" = some (.ref lK)
def vM (m n i j:Nat)(hi:i<2)(hj:j<2):(2*m+i) &&& (2*n+j)=2*(m &&& n)+(i &&& j):=by
 apply Nat.eq_of_testBit_eq;intro k;cases k with
 | zero=>
  have h1:i=0\/i=1:=by lia
  have h2:j=0\/j=1:=by lia
  rcases h1 with rfl|rfl<;>rcases h2 with rfl|rfl<;>simp[Nat.testBit_zero]<;>lia
 | succ k=>
  have h1:i=0\/i=1:=by lia
  have h2:j=0\/j=1:=by lia
  have e1:(2*m+i)/2=m:=by lia
  have e2:(2*n+j)/2=n:=by lia
  have e3:(2*(m &&& n)+(i &&& j))/2=m &&& n:=by
   rcases h1 with rfl|rfl<;>rcases h2 with rfl|rfl<;>simp<;>lia
  rw[Nat.testBit_and,jT,jT,jT,e1,e2,e3,Nat.testBit_and]
def Ju (m n i j:Nat)(hi:i<2)(hj:j<2):(2*m+i) ||| (2*n+j)=2*(m ||| n)+(i ||| j):=by
 apply Nat.eq_of_testBit_eq;intro k;cases k with
 | zero=>
  have h1:i=0\/i=1:=by lia
  have h2:j=0\/j=1:=by lia
  rcases h1 with rfl|rfl<;>rcases h2 with rfl|rfl<;>simp[Nat.testBit_zero]<;>lia
 | succ k=>
  have h1:i=0\/i=1:=by lia
  have h2:j=0\/j=1:=by lia
  have e1:(2*m+i)/2=m:=by lia
  have e2:(2*n+j)/2=n:=by lia
  have e3:(2*(m ||| n)+(i ||| j))/2=m ||| n:=by
   rcases h1 with rfl|rfl<;>rcases h2 with rfl|rfl<;>simp<;>lia
  rw[Nat.testBit_or,jT,jT,jT,e1,e2,e3,Nat.testBit_or]
def lu (a b:Nat):Nat:=if a=b then 0 else if a%2=b%2 then lu (a/2) (b/2)+1 else 0
termination_by a+b
decreasing_by lia
def vN {a b:Nat}(hab:a≠b)(h:a%2=b%2):lu a b=lu (a/2) (b/2)+1:=by
 rw[lu,ak hab,aq h]
def vO {a b:Nat}(h:a%2≠b%2):lu a b=0:=by
 rw[lu];split
 .rfl
 .rfl
def xr (a b:Nat):Nat:=(a ||| b)-(a &&& b)
def iR (n:Nat):Nat:=n-(n &&& (n-1))
def CF (a b:Nat):a &&& b<=a ||| b:=bS Nat.and_le_left Nat.left_le_or
def Jv (m n i j:Nat)(hi:i<2)(hj:j<2):xr (2*m+i) (2*n+j)=2*xr m n+(if i=j then 0 else 1):=by
 unfold xr;rw[Ju m n i j hi hj,vM m n i j hi hj];have q:=CF m n;have h1:i=0\/i=1:=by lia
 have h2:j=0\/j=1:=by lia
 rcases h1 with rfl|rfl<;>rcases h2 with rfl|rfl<;>simp<;>lia
def CG (a b:Nat):xr a b=2*xr (a/2) (b/2)+(if a%2=b%2 then 0 else 1):=by
 have e1:2*(a/2)+a%2=a:=by lia
 have e2:2*(b/2)+b%2=b:=by lia
 have q:=Jv (a/2) (b/2) (a%2) (b%2) (by lia) (by lia);rw[e1,e2]at q;exact q
def CH:∀(n a b:Nat),a+b<=n->a≠b->0<xr a b:=by
 intro n
 induction n with
 | zero=>intro a b h1 h2;lia
 | succ n ih=>
  intro a b h1 h2;rw[CG];by_cases h:a%2=b%2
  .have:=ih (a/2) (b/2) (by lia) (by lia);lia
  .rw[ak h];lia
def Jw (m:Nat):iR (2*m+1)=1:=by
 unfold iR;have q:=vM m m 1 0 (by lia) (by lia);have e:2*m+1-1=2*m+0:=by lia
 rw[e,q];simp
def Jx (m:Nat)(h:0<m):iR (2*m)=2*iR m:=by
 unfold iR;have q:=vM m (m-1) 0 1 (by lia) (by lia);have e:2*m-1=2*(m-1)+1:=by lia
 have e':2*m=2*m+0:=by lia
 rw[e];have:(2*m &&& 2*(m-1)+1)=2*(m &&& m-1)+(0 &&& 1):=q;rw[this];have z:m &&& (m-1)<=m:=Nat.and_le_left;simp;lia
def Jy:∀(n a b:Nat),a+b<=n->a≠b->iR (xr a b)=2^lu a b:=by
 intro n
 induction n with
 | zero=>intro a b h1 h2;lia
 | succ n ih=>
  intro a b h1 h2;rw[CG];by_cases h:a%2=b%2
  .rw[aq h,vN h2 h,ir,Jx _ (CH n _ _ (by lia) (by lia)),ih _ _ (by lia) (by lia),lV];lia
  .rw[ak h,vO h,Jw,Nat.pow_zero]
def Jz:∀(n a b:Nat),a+b<=n->a≠b->a%2^lu a b=b%2^lu a b/\a%2^(lu a b+1)≠b%2^(lu a b+1):=by
 intro n
 induction n with
 | zero=>intro a b h1 h2;lia
 | succ n ih=>
  intro a b h1 h2;by_cases h:a%2=b%2
  .rw[vN h2 h];obtain ⟨q1,q2⟩:=ih (a/2) (b/2) (by lia) (by lia);have s:∀ x k:Nat,x%2^(k+1)=2*(x/2%2^k)+x%2:=by
    intro x k;rw[lV,Nat.mul_comm,Nat.mod_mul];lia
   rw[s a,s b,s a,s b];constructor
   .omega
   .omega
  .rw[vO h];simp[Nat.mod_one];lia
def JA:∀(k a b:Nat),a≠b->a<2^k->b<2^k->lu a b<k:=by
 intro k
 induction k with
 | zero=>intro a b h1 h2 h3;simp at h2 h3;lia
 | succ k ih=>
  intro a b h1 h2 h3;by_cases h:a%2=b%2
  .rw[vN h1 h];have:=ih (a/2) (b/2) (by lia) (by rw[lV]at h2;lia) (by rw[lV]at h3;lia);lia
  .rw[vO h];lia
def fig (a b:Nat):Nat:=2*lu a b+b/2^lu a b%2
def vP (a b:Nat):fig a b/2=lu a b:=by
 unfold fig;have:=Nat.mod_lt (b/2^lu a b) (by decide:0<2);lia
def vQ (a b:Nat):fig a b%2=b/2^lu a b%2:=by
 unfold fig;have:=Nat.mod_lt (b/2^lu a b) (by decide:0<2);lia
def CI (x k:Nat):x%2^(k+1)=x%2^k+2^k*(x/2^k%2):=by
 rw[lV,Nat.mod_mul]
def CJ {a b:Nat}(h:a≠b):a/2^lu a b%2≠b/2^lu a b%2:=by
 obtain ⟨h1,h2⟩:=Jz _ a b (aj _) h;intro e;apply h2;rw[CI,CI,h1,e]
def JB {a b c:Nat}(h2:b≠c):fig a b≠fig b c:=by
 intro e;have e1:lu a b=lu b c:=by rw[<-vP,e,vP]
 have e2:b/2^lu a b%2=c/2^lu b c%2:=by rw[<-vQ,e,vQ]
 rw[e1]at e2;exact CJ h2 e2
def JC {a b:Nat}(h:a≠b):a%2≠fig a b:=by
 intro e;have l:a%2<2:=Nat.mod_lt _ (by decide);have e1:lu a b=0:=by
  have:=vP a b;lia
 have e2:=vQ a b;have e3:=CJ h;rw[e1]at e2 e3;simp at e2 e3;lia
def JD {a b k:Nat}(h:a≠b)(ha:a<2^k)(hb:b<2^k):fig a b<2*k:=by
 have:=JA k a b h ha hb;have:=Nat.mod_lt (b/2^lu a b) (by decide:0<2);unfold fig;lia
def gU (xs:List Nat)(i:Nat):Nat:=if i=0 then xs.getD 0 0%2 else fig (xs.getD (i-1) 0) (xs.getD i 0)
def dz (xs:List Nat):List Nat:=(List.range xs.length).map (gU xs)
def kK (xs:List Nat):(dz xs).length=xs.length:=by unfold dz;rw[ai,cU]
def CK {xs:List Nat}{i:Nat}(h:i<xs.length):(dz xs)[i]?=some (gU xs i):=by
 unfold dz;rw[bj,fT h];rfl
def vR {xs:List Nat}{i:Nat}(h:i<xs.length):(dz xs).getD i 0=gU xs i:=by
 rw[aH,CK h];rfl
def JE {xs:List Nat}{i:Nat}(h:i<xs.length):(dz xs).take (i+1)=(dz xs).take i++[gU xs i]:=by
 have h':i<(dz xs).length:=by rw[kK];exact h
 rw[cy h'];have:=CK h;rw[aC h']at this;rw[aM this]
def Unl (xs:List Nat):Prop:=∀ i,i+1<xs.length->xs.getD i 0≠xs.getD (i+1) 0
def JF (h:Unl xs):Unl (dz xs):=by
 intro i hi;rw[kK]at hi;rw[vR (by lia),vR hi];unfold gU;rw[ak (by lia:¬ i+1=0),jU];by_cases h0:i=0
 .subst h0;rw[aq rfl];exact JC (h 0 hi)
 .rw[ak h0];exact JB (h i hi)
def dA (m:Nat)(xs:List Nat):Prop:=∀ i,i<xs.length->xs.getD i 0<m
def mX {k:Nat}(hk:1<=k)(h:Unl xs)(hb:dA (2^k) xs):dA (2*k) (dz xs):=by
 intro i hi;rw[kK]at hi;rw[vR hi];unfold gU;split
 .have:xs.getD 0 0%2<2:=Nat.mod_lt _ (by decide);lia
 .have:=h (i-1) (by lia);rw[show i-1+1=i by lia]at this;exact JD this (hb _ (by lia)) (hb _ hi)
def JG (a b:Nat):Builtin.bitXor (a:Int) (b:Int)=((xr a b:Nat):Int):=by
 have h1:Builtin.bitAnd (a:Int) (b:Int)=((a &&& b:Nat):Int):=by
  unfold Builtin.bitAnd;rw[aO (i5 a),aO (i5 b)];rfl
 have n1:¬ (0:Int)<=Builtin.bitNot (a:Int):=by unfold Builtin.bitNot;lia
 have n2:¬ (0:Int)<=Builtin.bitNot (b:Int):=by unfold Builtin.bitNot;lia
 have h2:Builtin.bitOr (a:Int) (b:Int)=((a ||| b:Nat):Int):=by
  unfold Builtin.bitOr Builtin.bitAnd;rw[aU n1,aU n2];have e:∀ x:Int,Builtin.bitNot (Builtin.bitNot x)=x:=λx=>by unfold Builtin.bitNot;lia
  show Builtin.bitNot (Builtin.bitNot _)=_;rw[e,e,e];rfl
 unfold Builtin.bitXor xr;rw[h1,h2];have:=CF a b;lia
def JH (n:Nat)(h:0<n):Builtin.bitAnd (n:Int) (-(n:Int))=((iR n:Nat):Int):=by
 have n2:¬ (0:Int)<=-(n:Int):=by lia
 have e:(Builtin.bitNot (-(n:Int))).toNat=n-1:=by unfold Builtin.bitNot;lia
 unfold Builtin.bitAnd iR;rw[aO (i5 n),aU n2];show (n:Int)-(((n:Int).toNat &&& (Builtin.bitNot (-(n:Int))).toNat:Nat):Int)=_;rw[e,fR];have:n &&& (n-1)<=n:=Nat.and_le_left;lia
def JI (a b:Nat)(h:a≠b):((Builtin.Int.intBits (Builtin.bitAnd (Builtin.bitXor (a:Int) (b:Int)) (-(Builtin.bitXor (a:Int) (b:Int)))):Nat):Int)-1=((lu a b:Nat):Int):=by
 rw[JG,JH _ (CH _ a b (aj _) h),Jy _ a b (aj _) h];unfold Builtin.Int.intBits;have p:0 < 2 ^ lu a b:=Nat.two_pow_pos _;rw[ak (by
  intro z;have z':=eq_of_beq z;lia),Int.natAbs_natCast,Nat.log2_two_pow]
 lia
def atZ {α:Type}(l:List α)(i:Int):Option α:=if 0<=i then l[i.toNat]? else none
def gV {α:Type}(l:List α)(i:Nat):atZ l (i:Int)=l[i]?:=by
 unfold atZ;rw[aq (i5 i),fR]
def sk {α:Type}{l:List α}{i:Int}(h:i<0):atZ l i=none:=by
 unfold atZ;rw[ak (by lia)]
def vS {α:Type}{l:List α}{x:α}(h:atZ l i=some x):0<=i/\i<l.length:=by
 unfold atZ at h;split at h
 .have:=(aZ.mp h).1;lia
 .cases h
def CM {α:Type}{l:List α}{i:Int}(h0:0<=i)(h:i<l.length):∃ x,atZ l i=some x:=by
 unfold atZ;rw[aq h0];exact #[_,aC (by lia)]
def kL {α β:Type}(f:Option α->α->Option α->β):Option α->List α->List β
 | _,[]=>[]
 | p,x::l=>f p x l.head? :: kL f (some x) l
def mapW {α β:Type}(f:Option α->α->Option α->β)(l:List α):List β:=kL f none l
def mY {α β:Type}(f:Option α->α->Option α->β):∀(l:List α) (p:Option α) (k:Nat),(kL f p l)[k]?=l[k]?.map λx=>f (if k=0 then p else l[k-1]?) x l[k+1]?
 | [],_,_=>rfl
 | x::l,p,0=>by
  show some (f p x l.head?)=some (f p x l[0]?);rw[List.head?_eq_getElem?]
 | x::l,p,k+1=>by
  show (kL f (some x) l)[k]?=l[k]?.map λy=>f (x::l)[k]? y l[k+1]?;rw[mY f l (some x) k];cases k with
  | zero=>rfl
  | succ k=>rfl
def CN {α β:Type}(f:Option α->α->Option α->β):∀(l:List α) (p:Option α),(kL f p l).length=l.length
 | [],_=>rfl
 | x::l,p=>by
  show (kL f (some x) l).length+1=l.length+1;rw[CN f l]
def mZ {α β:Type}(f:Option α->α->Option α->β)(l:List α):(mapW f l).length=l.length:=CN f l none
def sm {α β:Type}(f:Option α->α->Option α->β)(l:List α)(i:Int):atZ (mapW f l) i=(atZ l i).map λx=>f (atZ l (i-1)) x (atZ l (i+1)):=by
 by_cases h:0<=i
 .obtain ⟨k,rfl⟩:∃ k:Nat,i=(k:Int):=#[i.toNat,by lia];rw[gV,gV,mapW,mY,show ((k:Int)+1)=((k+1:Nat):Int) by lia,gV];have e:atZ l ((k:Int)-1)=if k=0 then none else l[k-1]?:=by
   split
   .rw[sk (by lia)]
   .rw[show ((k:Int)-1)=((k-1:Nat):Int) by lia,gV]
  rw[e]
 .rw[sk (l:=mapW f l) (by lia),sk (l:=l) (i:=i) (by lia)];rfl
def UnlZ (xs:List Nat):Prop:=∀(i:Int) (x y:Nat),atZ xs i=some x->atZ xs (i+1)=some y->x≠y
def unlZ (h:Unl xs):UnlZ xs:=by
 intro i x y hx hy;obtain ⟨a,b⟩:=vS hx;obtain ⟨_,c⟩:=vS hy;obtain ⟨k,rfl⟩:∃ k:Nat,i=(k:Int):=#[i.toNat,by lia];rw[gV]at hx;rw[show ((k:Int)+1)=((k+1:Nat):Int) by lia,gV]at hy;have:=h k (by lia);rw[aH,aH,hx,hy]at this;exact this
def CO (h:UnlZ xs):Unl xs:=by
 intro k hk;have:=h k xs[k] xs[k+1] (by rw[gV];exact aC (by lia)) (by rw[show ((k:Int)+1)=((k+1:Nat):Int) by lia,gV];exact aC hk);rw[aH,aH,aC (show k<xs.length by lia),aC hk];exact this
def fm (p n:Option Nat):Nat:=if p≠some 0/\n≠some 0 then 0 else if p≠some 1/\n≠some 1 then 1 else 2
def CP (p n:Option Nat):fm p n<=2:=by
 unfold fm;split
 .omega
 .split<;>lia
def vT {p:Option Nat}{x:Nat}(h:p=some x):fm p n≠x:=by
 subst h;unfold fm;split
 .rename_i c;intro z;exact c.1 (by rw[<-z])
 .split
  .rename_i c;intro z;exact c.1 (by rw[<-z])
  .rename_i c d;intro z;subst z;have c1:n=some 0:=lL λq=>c #[by decide,q];have d1:n=some 1:=lL λq=>d #[by decide,q];rw[c1]at d1;cases d1
def JJ (p n:Option Nat):fm p n=fm n p:=by
 unfold fm;simp only[And.comm]
def CQ {n:Option Nat}{x:Nat}(h:n=some x):fm p n≠x:=by
 rw[JJ];exact vT h
def recF (v:Nat)(p:Option Nat)(x:Nat)(n:Option Nat):Nat:=if x=v then fm p n else x
def recL (v:Nat)(xs:List Nat):List Nat:=mapW (recF v) xs
def gW (v:Nat)(xs:List Nat):(recL v xs).length=xs.length:=mZ _ _
def so (h:UnlZ xs):UnlZ (recL v xs):=by
 intro i x y hx hy;unfold recL at hx hy;rw[sm]at hx hy;cases ex:atZ xs i with
 | none=>rw[ex]at hx;cases hx
 | some x0=>
  cases ey:atZ xs (i+1) with
  | none=>rw[ey]at hy;cases hy
  | some y0=>
   rw[ex]at hx;rw[ey]at hy;have hx:x=recF v (atZ xs (i-1)) x0 (atZ xs (i+1)):=(aM hx).symm;have hy:y=recF v (atZ xs (i+1-1)) y0 (atZ xs (i+1+1)):=(aM hy).symm;have n0:=h i x0 y0 ex ey;have e1:i+1-1=i:=by lia
   unfold recF at hx hy;rw[e1,ex]at hy;rw[ey]at hx;split at hx
   .rename_i c;split at hy
    .rename_i c';lia
    .rw[hx,hy];exact CQ rfl
   .split at hy
    .rw[hx,hy];exact (vT rfl).symm
    .omega
def vU {v:Nat}{P:Nat->Prop}{xs:List Nat}(hP:∀ x,x<=2->P x)(h:∀ i x,atZ xs i=some x->x=v\/P x):∀ i x,atZ (recL v xs) i=some x->P x:=by
 intro i x hx;unfold recL at hx;rw[sm]at hx;cases ex:atZ xs i with
 | none=>rw[ex]at hx;cases hx
 | some x0=>
  rw[ex]at hx;have hx:x=recF v (atZ xs (i-1)) x0 (atZ xs (i+1)):=(aM hx).symm;unfold recF at hx;split at hx
  .rw[hx];exact hP _ (CP _ _)
  .rw[hx];rcases h i x0 ex with q|q
   .exact absurd q (by assumption)
   .exact q
def colL (xs:List Nat):List Nat:=recL 5 (recL 4 (recL 3 xs))
def CT (xs:List Nat):(colL xs).length=xs.length:=by
 unfold colL;rw[gW,gW,gW]
def CU (h:UnlZ xs):UnlZ (colL xs):=so (so (so h))
def JK {xs:List Nat}(h:∀ i x,atZ xs i=some x->x<=5):∀ i x,atZ (colL xs) i=some x->x<=2:=by
 refine vU (P:=λx=>x<=2) (λx h=>h) ?_;refine vU (P:=λx=>x=5\/x<=2) (λx h=>.inr h) ?_;refine vU (P:=λx=>x=4\/x=5\/x<=2) (λx h=>.inr (.inr h)) ?_;intro i x e;have:=h i x e;lia
def vV (sh:Nat)(p:Option (Nat×Bool))(x:Nat×Bool)(n:Option (Nat×Bool)):Nat×Bool:=
 (x.1,x.2||(decide (x.1=sh)&&p.isSome && !(p.map (·.2)).getD false && !(n.map (·.2)).getD false))
def dh (sh:Nat)(l:List (Nat×Bool)):List (Nat×Bool):=mapW (vV sh) l
def cV (c:List Nat):List (Nat×Bool):=c.map λx=>(x,false)
def gf (c:List Nat):List (Nat×Bool):=dh 0 (dh 1 (dh 2 (cV c)))
def gX (c:List Nat):List Bool:=(gf c).map (·.2)
def JL (c:List Nat):(gf c).length=c.length:=by
 unfold gf dh cV;rw[mZ,mZ,mZ,ai]
def CV (c:List Nat):(gX c).length=c.length:=by
 unfold gX;rw[ai,JL]
def CW (c:List Nat)(i:Int):atZ (cV c) i=(atZ c i).map λx=>(x,false):=by
 unfold cV atZ;split
 .rw[bj]
 .rfl
def mkZ (l:List (Nat×Bool))(i:Int):Bool:=((atZ l i).map (·.2)).getD false
def clZ (l:List (Nat×Bool))(i:Int):Option Nat:=(atZ l i).map (·.1)
def JM (sh:Nat)(l:List (Nat×Bool))(i:Int):clZ (dh sh l) i=clZ l i:=by
 unfold clZ dh;rw[sm];cases atZ l i<;>rfl
def sv (sh:Nat)(l:List (Nat×Bool))(i:Int):mkZ (dh sh l) i=(mkZ l i||(decide (clZ l i=some sh)&&(clZ l (i-1)).isSome && !mkZ l (i-1) && !mkZ l (i+1))):=by
 unfold mkZ clZ dh;rw[sm];cases atZ l i with
 | none=>simp
 | some x=>
  unfold vV;cases atZ l (i-1)<;>cases atZ l (i+1)<;>simp
structure MkOk (c:List Nat)(l:List (Nat×Bool)):Prop where
 cl:∀ i,clZ l i=atZ c i
 ind:∀ i,mkZ l i=true->mkZ l (i+1)=true->False
 fst:∀ i,mkZ l i=true->(atZ c (i-1)).isSome=true/\(atZ c i).isSome=true
def sA (c:List Nat):MkOk c (cV c):=by
 have e:∀ i,mkZ (cV c) i=false:=λi=>by
  unfold mkZ;rw[CW];cases atZ c i<;>rfl
 refine #[λi=>?_,λi h=>?_,λi h=>?_]
 .unfold clZ;rw[CW];cases atZ c i<;>rfl
 .rw[e]at h;cases h
 .rw[e]at h;cases h
def kM (hu:UnlZ c)(h:MkOk c l):MkOk c (dh sh l):=by
 refine #[λi=>by rw[JM,h.cl],λi h1 h2=>?_,λi h1=>?_]
 .rw[sv]at h1 h2;simp only[Bool.or_eq_true,il,decide_eq_true_eq,nX]at h1 h2;rw[show i+1-1=i by lia]at h2;rcases h1 with h1|h1<;>rcases h2 with h2|h2
  .exact h.ind i h1 h2
  .rw[h1]at h2;exact absurd h2.1.2 (by decide)
  .rw[h2]at h1;exact absurd h1.2 (by decide)
  .have a:=h1.1.1.1;have b:=h2.1.1.1;rw[h.cl]at a b;exact hu i sh sh a b rfl
 .rw[sv]at h1;simp only[Bool.or_eq_true,il,decide_eq_true_eq,nX]at h1;rcases h1 with h1|h1
  .exact h.fst i h1
  .refine #[?_,?_]
   .rw[<-h.cl];exact h1.1.1.2
   .rw[<-h.cl,h1.1.1.1];rfl
def fI (h:mkZ l i=true):mkZ (dh sh l) i=true:=by
 rw[sv,h];rfl
def vW {sh:Nat}(h:MkOk c l)(hc:atZ c i=some sh)(hp:(atZ c (i-1)).isSome=true):mkZ (dh sh l) (i-1)=true\/mkZ (dh sh l) i=true\/mkZ (dh sh l) (i+1)=true:=by
 by_cases a:mkZ l (i-1)=true
 .exact .inl (fI a)
 .by_cases b:mkZ l (i+1)=true
  .exact .inr (.inr (fI b))
  .refine .inr (.inl ?_);rw[sv,h.cl,h.cl,hc,hp,lW.mpr a,lW.mpr b];simp
def CY (hu:UnlZ c):MkOk c (gf c):=kM hu (kM hu (kM hu (sA c)))
def JN (hu:UnlZ c)(hc:∀ i x,atZ c i=some x->x<=2){i:Int}(h1:(atZ c (i-1)).isSome=true)(h2:(atZ c i).isSome=true):mkZ (gf c) (i-1)=true\/mkZ (gf c) i=true\/mkZ (gf c) (i+1)=true:=by
 obtain ⟨x,hx⟩:=uf.mp h2;have hle:=hc i x hx;have z:x=2\/x=1\/x=0:=by lia
 rcases z with rfl|rfl|rfl
 .rcases vW (sA c) hx h1 with q|q|q
  .exact .inl (fI (fI q))
  .exact .inr (.inl (fI (fI q)))
  .exact .inr (.inr (fI (fI q)))
 .rcases vW (kM (sh:=2) hu (sA c)) hx h1 with q|q|q
  .exact .inl (fI q)
  .exact .inr (.inl (fI q))
  .exact .inr (.inr (fI q))
 .exact vW (kM (sh:=1) hu (kM (sh:=2) hu (sA c))) hx h1
structure iS (ms:List Bool):Prop where
 fst:ms.getD 0 false=false
 ind:∀ i,ms.getD i false=true->ms.getD (i+1) false=true->False
 dom:∀ i,1<=i->i<ms.length->ms.getD (i-1) false=true\/ms.getD i false=true\/ms.getD (i+1) false=true
def m3 (c:List Nat)(i:Nat):(gX c).getD i false=mkZ (gf c) (i:Int):=by
 unfold mkZ gX;rw[gV,aH,bj]
def JO (hu:UnlZ c)(hc:∀ i x,atZ c i=some x->x<=2):iS (gX c):=by
 refine #[?_,λi h1 h2=>?_,λi h1 h2=>?_]
 .rw[m3];cases e:mkZ (gf c) ((0:Nat):Int) with
  | false=>rfl
  | true=>
   have:=((CY hu).fst _ e).1;rw[sk (by lia)]at this;cases this
 .rw[m3]at h1 h2;exact (CY hu).ind i h1 h2
 .rw[CV]at h2;have a:(atZ c ((i:Int)-1)).isSome=true:=by
   obtain ⟨x,hx⟩:=CM (l:=c) (i:=(i:Int)-1) (by lia) (by lia);rw[hx];rfl
  have b:(atZ c (i:Int)).isSome=true:=by
   obtain ⟨x,hx⟩:=CM (l:=c) (i:=(i:Int)) (by lia) (by lia);rw[hx];rfl
  rcases JN hu hc a b with q|q|q
  .refine .inl ?_;rw[m3,show ((i-1:Nat):Int)=(i:Int)-1 by lia];exact q
  .refine .inr (.inl ?_);rw[m3];exact q
  .refine .inr (.inr ?_);rw[m3];exact q
def JP {y:Nat}(h:y<fm p n):p=some y\/n=some y:=by
 unfold fm at h;split at h
 .omega
 .rename_i c;have c0:p=some 0\/n=some 0:=lL λq=>c #[λz=>q (.inl z),λz=>q (.inr z)];split at h
  .have:y=0:=by lia
   subst this;exact c0
  .rename_i d;have d0:p=some 1\/n=some 1:=lL λq=>d #[λz=>q (.inl z),λz=>q (.inr z)];have:y=0\/y=1:=by lia
   rcases this with rfl|rfl
   .exact c0
   .exact d0
def cX (xs:List Nat)(k:Nat):List Nat:=(if k=0 then none else xs[k-1]?).toList++xs[k+1]?.toList
def CZ {k y:Nat}:y∈cX xs k↔(if k=0 then none else xs[k-1]?)=some y\/xs[k+1]?=some y:=by
 unfold cX;rw[cx,Option.mem_toList,Option.mem_toList]
def gg (xs:List Nat)(k:Nat):Nat:=fm (if k=0 then none else xs[k-1]?) xs[k+1]?
def JQ {k:Nat}:gg xs k∉cX xs k:=λh=>by
 rcases CZ.mp h with q|q
 .exact vT q rfl
 .exact CQ q rfl
def JR {k y:Nat}(h:y<gg xs k):y∈cX xs k:=CZ.mpr (JP h)
def JS (xs:List Nat)(k:Nat):gg xs k<=2:=CP _ _
def vX {xs:List Nat}{k:Nat}(h:k<xs.length):(recL v xs)[k]?=some (if xs.getD k 0=v then gg xs k else xs.getD k 0):=by
 unfold recL mapW;rw[mY,aH,aC h];rfl
def mixL (v:Nat)(xs:List Nat)(k:Nat):List Nat:=(recL v xs).take k++xs.drop k
def JT {xs:List Nat}{k:Nat}(h:xs.length<=k):mixL v xs k=recL v xs:=by
 unfold mixL;rw[bA (by rw[gW];exact h),gH h,cB]
def C0 (v:Nat)(xs:List Nat)(k:Nat):(mixL v xs k).length=xs.length:=by
 unfold mixL;rw[bg,bw,d8,gW];lia
def kO (v:Nat)(xs:List Nat)(k j:Nat):(mixL v xs k)[j]?=if j<k then (recL v xs)[j]? else xs[j]?:=by
 unfold mixL;by_cases hk:k<=xs.length
 .rw[List.getElem?_append,bw,gW,jf hk];split
  .rw[og];rw[aq (by assumption)]
  .rw[oh];congr 1;lia
 .rw[gH (by lia),cB,bA (by rw[gW];lia)];split
  .rfl
  .rw[eG (by rw[gW];lia),eG (by lia)]
def C1 {k j:Nat}(h:k<=j):(mixL v xs k)[j]?=xs[j]?:=by
 rw[kO,ak (by lia)]
def JU {v:Nat}{xs:List Nat}{k:Nat}(h:k<xs.length)(hv:xs.getD k 0≠v):mixL v xs (k+1)=mixL v xs k:=by
 apply gE;intro j;rw[kO,kO];by_cases c:j<k
 .rw[aq c,aq (by lia)]
 .rw[ak c];split
  .have:j=k:=by lia
   subst this;rw[vX h,ak hv,aH,aC h];rfl
  .rfl
def JV {v:Nat}{k:Nat}(hu:Unl xs)(h:k<xs.length)(hv:xs.getD k 0=v):(if k=0 then none else (mixL v xs k)[k-1]?)=if k=0 then none else xs[k-1]?:=by
 cases k with
 | zero=>rfl
 | succ k=>
  show (mixL v xs (k+1))[k]?=xs[k]?;rw[kO,aq (by lia),vX (by lia)];have:=hu k h;rw[hv]at this;rw[ak this,aH,aC (show k<xs.length by lia)];rfl
def JW {v:Nat}{k:Nat}(hu:Unl xs)(h:k<xs.length)(hv:xs.getD k 0=v):cX (mixL v xs k) k=cX xs k:=by
 unfold cX;rw[JV hu h hv,C1 (j:=k+1) (by lia)]
def JX {v:Nat}{xs:List Nat}{k:Nat}(h:k<xs.length)(hv:xs.getD k 0=v):mixL v xs (k+1)=(mixL v xs k).set k (gg xs k):=by
 apply gE;intro j;rw[jV,C0,kO,kO];by_cases c:k=j
 .subst c;rw[aq rfl,aq h,aq (by lia),vX h,aq hv]
 .rw[ak c];by_cases c2:j<k
  .rw[aq c2,aq (by lia)]
  .rw[ak c2,ak (by lia)]
def eh (sh:Nat)(cs:List Nat)(ms:List Bool):List Bool:=(dh sh (cs.zip ms)).map (·.2)
def iT {cs:List Nat}{ms:List Bool}(h:cs.length=ms.length):(eh sh cs ms).length=ms.length:=by
 unfold eh dh;rw[ai,mZ,oi];lia
def JY {cs:List Nat}:∀{ms:List Bool},cs.length=ms.length->(cs.zip ms).map (·.1)=cs:=by
 induction cs with
 | nil=>intro ms _;rfl
 | cons c cs ih=>
  intro ms h;cases ms with
  | nil=>cases h
  | cons m ms=>
   show c::(cs.zip ms).map (·.1)=c::cs;rw[ih (Nat.succ.inj h)]
def C2:∀(l:List (Nat×Bool)),(l.map (·.1)).zip (l.map (·.2))=l
 | []=>rfl
 | x::l=>by
  show x::(l.map (·.1)).zip (l.map (·.2))=x::l;rw[C2 l]
def JZ (sh:Nat)(l:List (Nat×Bool)):(dh sh l).map (·.1)=l.map (·.1):=by
 apply gE;intro k;unfold dh mapW;rw[bj,bj,mY];cases l[k]?<;>rfl
def C3 {cs:List Nat}{ms:List Bool}(h:cs.length=ms.length):dh sh (cs.zip ms)=cs.zip (eh sh cs ms):=by
 have e:=C2 (dh sh (cs.zip ms));rw[JZ,JY h]at e;exact e.symm
def J0 (cs:List Nat):cV cs=cs.zip (cs.map λ_=>false):=by
 unfold cV
 induction cs with
 | nil=>rfl
 | cons c cs ih=>
  show (c,false)::cs.map (λx=>(x,false))=(c,false)::cs.zip (cs.map λ_=>false);rw[ih]
def J1 (cs:List Nat):gX cs=eh 0 cs (eh 1 cs (eh 2 cs (cs.map λ_=>false))):=by
 have l1:cs.length=(cs.map λ_=>false).length:=by rw[ai]
 have l2:cs.length=(eh 2 cs (cs.map λ_=>false)).length:=by rw[iT l1,<-l1]
 unfold gX gf;rw[J0,C3 l1,C3 l2];rfl
def sE {cs:List Nat}{ms:List Bool}(hl:cs.length=ms.length){k:Nat}(h:k<cs.length):(eh sh cs ms)[k]?=some (ms.getD k false||(decide (cs.getD k 0=sh)&&decide (1<=k) && !ms.getD (k-1) false && !ms.getD (k+1) false)):=by
 unfold eh dh mapW;have gz:∀ j,(cs.zip ms)[j]?=if h:j<cs.length then some (cs[j],ms[j]'(by lia)) else none:=λj=>by
  split
  .rename_i q;rw[aC (by rw[oi];lia),List.getElem_zip]
  .exact eG (by rw[oi];lia)
 have gm:∀ j,ms.getD j false=(((cs.zip ms)[j]?).map (·.2)).getD false:=λj=>by
  rw[gz];split
  .rw[aH,aC (by lia)];rfl
  .rw[aH,eG (by lia)];rfl
 rw[bj,mY,gm k,gm (k+1),gm (k-1),aH,aC h];have e:=gz k;rw[dif_pos h]at e;rw[e];show some _=some _;unfold vV;cases k with
 | zero=>simp
 | succ k=>
  have e2:=gz k;rw[dif_pos (by lia)]at e2;simp[e2]
def mixM (sh:Nat)(cs:List Nat)(ms:List Bool)(k:Nat):List Bool:=(eh sh cs ms).take k++ms.drop k
def J2 {cs:List Nat}{ms:List Bool}(hl:cs.length=ms.length){k:Nat}(h:cs.length<=k):mixM sh cs ms k=eh sh cs ms:=by
 unfold mixM;rw[bA (by rw[iT hl];lia),gH (by lia),cB]
def C4 {cs:List Nat}{ms:List Bool}(hl:cs.length=ms.length)(k:Nat):(mixM sh cs ms k).length=cs.length:=by
 unfold mixM;rw[bg,bw,d8,iT hl];lia
def iU {cs:List Nat}{ms:List Bool}(hl:cs.length=ms.length)(k j:Nat):(mixM sh cs ms k)[j]?=if j<k then (eh sh cs ms)[j]? else ms[j]?:=by
 unfold mixM;by_cases hk:k<=ms.length
 .rw[List.getElem?_append,bw,iT hl,jf hk];split
  .rw[og];rw[aq (by assumption)]
  .rw[oh];congr 1;lia
 .rw[gH (by lia),cB,bA (by rw[iT hl];lia)];split
  .rfl
  .rw[eG (by rw[iT hl];lia),eG (by lia)]
def C5 (ms:List Bool)(k:Nat):Bool:=!ms.getD (k-1) false && !ms.getD k false && !ms.getD (k+1) false
def J4 {sh:Nat}{cs:List Nat}{ms:List Bool}(hl:cs.length=ms.length){k:Nat}(h:k<cs.length)(hn:¬ (1<=k/\cs.getD k 0=sh/\C5 ms k=true)):mixM sh cs ms (k+1)=mixM sh cs ms k:=by
 apply gE;intro j;rw[iU hl,iU hl];by_cases c:j<k
 .rw[aq c,aq (by lia)]
 .rw[ak c];split
  .have:j=k:=by lia
   subst this;rw[sE hl h];unfold C5 at hn;rw[aC (by lia)];have e:ms.getD j false=ms[j]'(by lia):=by
    rw[aH,aC (by lia)];rfl
   rw[e]at hn ⊢;congr 1;generalize ms[j]=a at hn ⊢;generalize ms.getD (j-1) false=b at hn ⊢;generalize ms.getD (j+1) false=d at hn ⊢;cases a<;>cases b<;>cases d<;>simp at hn ⊢
   intro q;lia
  .rfl
structure dO (ms:List Bool)(sp:List Nat):Prop where
 up:sp.Pairwise (· < ·)
 iff:∀ j,j∈sp↔ms.getD j false=true
def C6 (ms:List Bool):dO ms ((List.range ms.length).filter λk=>ms.getD k false):=by
 refine #[List.Pairwise.filter _ uw,λj=>?_];rw[d7,eU];constructor
 .exact λh=>h.2
 .intro h;refine #[?_,h];rw[aH]at h;cases e:ms[j]? with
  | none=>rw[e]at h;cases h
  | some x=>exact (aZ.mp e).1
def dO.lt (S:dO ms sp){j:Nat}(h:j∈sp):j<ms.length:=by
 have h:=(S.iff j).mp h;rw[aH]at h;cases e:ms[j]? with
 | none=>rw[e]at h;cases h
 | some x=>exact (aZ.mp e).1
def dO.step (S:dO ms sp)(M:iS ms){t:Nat}(h:t+1<sp.length):sp[t]+2<=sp[t+1]/\sp[t+1]<=sp[t]+3:=by
 have up:=eV.mp S.up;have lt:=up t (t+1) (by lia) h (by lia);have m0:=(S.iff _).mp (cE (show t<sp.length by lia));have m1:=(S.iff _).mp (cE h);have l1:=S.lt (cE h);have no:∀ j,sp[t]<j->j<sp[t+1]->ms.getD j false=false:=λj a b=>by
  cases e:ms.getD j false with
  | false=>rfl
  | true=>
   obtain ⟨u,hu,q⟩:=dU ((S.iff j).mpr e);have c1:¬ u<=t:=λz=>by
    by_cases z':u=t
    .subst z';lia
    .have:=up u t hu (by lia) (by lia);lia
   have c2:¬ t+1<=u:=λz=>by
    by_cases z':u=t+1
    .subst z';lia
    .have:=up (t+1) u h hu (by lia);lia
   lia
 refine #[?_,?_]
 .by_cases c:sp[t+1]=sp[t]+1
  .rw[c]at m1;exact (M.ind _ m0 m1).elim
  .omega
 .refine jd λc=>?_;rcases M.dom (sp[t]+2) (by lia) (by lia) with q|q|q
  .rw[no (sp[t]+2-1) (by lia) (by lia)]at q;cases q
  .rw[no (sp[t]+2) (by lia) (by lia)]at q;cases q
  .rw[no (sp[t]+2+1) (by lia) (by lia)]at q;cases q
def dO.first (S:dO ms sp)(M:iS ms)(h:2<=ms.length):∃ hp:0<sp.length,1<=sp[0]/\sp[0]<=2:=by
 have ex:∃ j,j<=2/\ms.getD j false=true:=by
  rcases M.dom 1 (by lia) (by lia) with q|q|q
  .exact #[0,by lia,q]
  .exact #[1,by lia,q]
  .exact #[2,by lia,q]
 obtain ⟨j,hj,e⟩:=ex;obtain ⟨u,hu,q⟩:=dU ((S.iff j).mpr e);refine #[by lia,?_,?_]
 .have m0:=(S.iff _).mp (cE (show 0<sp.length by lia));refine ux λz=>?_;rw[z,M.fst]at m0;cases m0
 .by_cases c:u=0
  .subst c;lia
  .have:=eV.mp S.up 0 u (by lia) hu (by lia);lia
def dO.last (S:dO ms sp)(M:iS ms)(h:2<=ms.length)(hp:0<sp.length):ms.length<=sp[sp.length-1]+2:=by
 have ex:∃ j,ms.length-2<=j/\ms.getD j false=true:=by
  rcases M.dom (ms.length-1) (by lia) (by lia) with q|q|q
  .exact #[_,by lia,q]
  .exact #[_,by lia,q]
  .exact #[_,by lia,q]
 obtain ⟨j,hj,e⟩:=ex;obtain ⟨u,hu,q⟩:=dU ((S.iff j).mpr e);by_cases c:u=sp.length-1
 .subst c;lia
 .have:=eV.mp S.up u (sp.length-1) hu (by lia) (by lia);lia
def dO.low (S:dO ms sp)(M:iS ms):∀(t:Nat) (h:t<sp.length),2*t+1<=sp[t]
 | 0,h=>by
  have m0:=(S.iff _).mp (cE h);refine ux λz=>?_;rw[z,M.fst]at m0;cases m0
 | t+1,h=>by
  have a:=dO.low S M t (by lia);have b:=(S.step M h).1;lia
def dO.half (S:dO ms sp)(M:iS ms):2*sp.length<=ms.length:=by
 by_cases c:sp.length=0
 .omega
 .have a:=S.low M (sp.length-1) (by lia);have b:=S.lt (cE (show sp.length-1<sp.length by lia));lia
def dO.none (S:dO ms sp)(M:iS ms)(h:ms.length<2):sp=[]:=by
 have:=S.half M;exact nY (by lia)
def cH {α:Type}(es:List α)(ms:List Bool):List α:=((es.zip ms).filter (·.2)).map (·.1)
def colN (xs:List Nat):Nat->List Nat
 | 0=>xs
 | i+1=>recL (3+i) (colN xs i)
def J5 (xs:List Nat)(i:Nat):(colN xs i).length=xs.length:=by
 induction i with
 | zero=>rfl
 | succ i ih=>rw[colN,gW,ih]
def J6 (h:Unl xs)(i:Nat):Unl (colN xs i):=by
 induction i with
 | zero=>exact h
 | succ i ih=>exact CO (so (unlZ ih))
def mkN (cs:List Nat):Nat->List Bool
 | 0=>cs.map λ_=>false
 | i+1=>eh (2-i) cs (mkN cs i)
def J7 (cs:List Nat):mkN cs 3=gX cs:=(J1 cs).symm
def J8 (cs:List Nat)(i:Nat):cs.length=(mkN cs i).length:=by
 induction i with
 | zero=>rw[mkN,ai]
 | succ i ih=>rw[mkN,iT ih,ih]
def Ka {cs:List Nat}{ms:List Bool}(hl:cs.length=ms.length):mixM sh cs ms 1=ms:=by
 by_cases h:0<cs.length
 .rw[J4 hl h (λz=>by lia)];rfl
 .have:ms=[]:=nY (by lia);subst this;unfold mixM;rw[nY (show (eh sh cs []).length=0 by rw[iT hl];rfl)];rfl
def aN (ps:List Nat):Prop:=∀ i (h:i<ps.length),ps[i]<=i
def par (ps:List Nat):Nat->Option Nat
 | 0=>none
 | k+1=>ps[k]?
def bz (T:aN ps){k p:Nat}(h:par ps k=some p):p<k/\k<ps.length+1:=by
 cases k with
 | zero=>cases h
 | succ k=>
  obtain ⟨h1,rfl⟩:=aZ.mp (show ps[k]?=some p from h);have:=T k h1;lia
def vY {ps:List Nat}{k:Nat}(h1:1<=k)(h2:k<ps.length+1):∃ p,par ps k=some p:=by
 cases k with
 | zero=>lia
 | succ k=>exact #[_,aC (show k<ps.length by lia)]
def Kb {ps:List Nat}{k:Nat}(h2:k<ps.length+1)(h:par ps k=none):k=0:=by
 cases k with
 | zero=>rfl
 | succ k=>
  have:=List.getElem?_eq_none_iff.mp (show ps[k]?=none from h);lia
def wayF (ps:List Nat)(one:Nat):Nat->Nat->Option (List Nat)
 | 0,_=>none
 | f+1,o=>if o=one then some [o] else match par ps o with
  | none=>none
  | some p=>(wayF ps one f p).map (· ++ [o])
def C7 (T:aN ps){one:Nat}:∀ f g o,o<f->o<g->wayF ps one f o=wayF ps one g o
 | 0,_,_,h,_=>absurd h (jS _)
 | _,0,_,_,h=>absurd h (jS _)
 | f+1,g+1,o,hf,hg=>by
  unfold wayF;split
  .rfl
  .cases e:par ps o with
   | none=>rfl
   | some p=>
    have:=(bz T e).1;show (wayF ps one f p).map _=(wayF ps one g p).map _;rw[C7 T f g p (by lia) (by lia)]
def wayL (ps:List Nat)(one o:Nat):Option (List Nat):=wayF ps one (o+1) o
def Kc :wayL ps o o=some [o]:=by
 unfold wayL wayF;rw[aq rfl]
def sF (T:aN ps){one o:Nat}(h:o≠one):wayL ps one o=match par ps o with
  | none=>none
  | some p=>(wayL ps one p).map (· ++ [o]):=by
 unfold wayL;rw[wayF,ak h];cases e:par ps o with
 | none=>rfl
 | some p=>
  show (wayF ps one o p).map _=(wayF ps one (p+1) p).map _;rw[C7 T o (p+1) p (bz T e).1 (by lia)]
def C8 (T:aN ps){one:Nat}:∀ n o,o<=n->o<one->wayL ps one o=none
 | n,o,hn,h=>by
  rw[sF T (by lia)];cases e:par ps o with
  | none=>rfl
  | some p=>
   have hp:=(bz T e).1;show (wayL ps one p).map _=none;cases n with
   | zero=>lia
   | succ n=>rw[C8 T n p (by lia) (by lia)];rfl
def gh (ps:List Nat)(w:List Nat):Prop:=∀ t,t+1<w.length->par ps (w.getD (t+1) 0)=some (w.getD t 0)
def Ke {x:Nat}(h:gh ps w)(hx:w≠[]->par ps x=some (w.getD (w.length-1) 0)):gh ps (w++[x]):=by
 intro t ht;rw[bg,cT]at ht;have e0:(w++[x]).getD t 0=w.getD t 0:=by
  rw[aH,aH,jN (by lia)]
 rw[e0];by_cases c:t+1<w.length
 .have e1:(w++[x]).getD (t+1) 0=w.getD (t+1) 0:=by
   rw[aH,aH,jN c]
  rw[e1];exact h t c
 .have et:t+1=w.length:=by lia
  have e1:(w++[x]).getD (t+1) 0=x:=by
   rw[aH,et,gy (aj _),lX];rfl
  rw[e1];have:=hx (λz=>by rw[z]at et;simp at et);rw[<-et,jU]at this;exact this
def isB (ps:List Nat)(k j:Nat):Bool:=(wayL ps k j).isSome
def benL (ps:List Nat)(k n:Nat):List Nat:=(List.range n).filter (isB ps k)
def fK {k:Nat}:isB ps k k=true:=by
 unfold isB;rw[Kc];rfl
def ez (T:aN ps){k j:Nat}(h:j<k):isB ps k j=false:=by
 unfold isB;rw[C8 T j j (aj _) h];rfl
def fo (T:aN ps){k j p:Nat}(h:j≠k)(e:par ps j=some p):isB ps k j=isB ps k p:=by
 unfold isB;rw[sF T h,e];show ((wayL ps k p).map _).isSome=_;cases wayL ps k p<;>rfl
def Kf (T:aN ps)(k:Nat):benL ps k (k+1)=[k]:=by
 unfold benL;rw[jg,c5];have e1:(List.range k).filter (isB ps k)=[]:=by
  rw[fD];intro j hj z;rw[ez T (eU.mp hj)]at z;cases z
 rw[e1,List.nil_append,dw fK];rfl
def gi {k:Nat}:j∈benL ps k n↔j<n/\isB ps k j=true:=by
 unfold benL;rw[d7,eU]
def vZ {k:Nat}:benL ps k (n+1)=benL ps k n++(if isB ps k n=true then [n] else []):=by
 unfold benL;rw[jg,c5];congr 1;by_cases h:isB ps k n=true
 .rw[aq h,dw h];rfl
 .rw[ak h,eJ h];rfl
def kQ (ps:List Nat)(k n:Nat):(benL ps k n).length<=n:=by
 have:=dW (isB ps k) (List.range n);rw[cU]at this;exact this
def sG (ps:List Nat)(k n:Nat):(benL ps k n).Pairwise (· < ·):=List.Pairwise.filter _ uw
def C9 (T:aN ps):∀ n j,j<=n->j<ps.length+1->isB ps 0 j=true
 | n,j,hn,h=>by
  by_cases c:j=0
  .rw[c];exact fK
  .obtain ⟨p,e⟩:=vY (by lia) h;have:=(bz T e).1;rw[fo T c e];cases n with
   | zero=>lia
   | succ n=>exact C9 T n p (by lia) (by lia)
def Kg (T:aN ps):benL ps 0 (ps.length+1)=List.range (ps.length+1):=by
 unfold benL;rw[oj];exact λj hj=>C9 T j j (aj _) (eU.mp hj)
def bt (ps:List Nat)(k n:Nat):List Nat:=(List.range n).filter λj=>decide (par ps j=some k)
def cM {k j:Nat}:j∈bt ps k n↔j<n/\par ps j=some k:=by
 unfold bt;rw[d7,eU,decide_eq_true_eq]
def sH {k:Nat}:bt ps k (n+1)=bt ps k n++(if par ps n=some k then [n] else []):=by
 unfold bt;rw[jg,c5];congr 1;by_cases h:par ps n=some k
 .rw[aq h,dw (by exact aO h)];rfl
 .rw[ak h,eJ (by rw[aU h];decide)];rfl
def kR (ps:List Nat)(k n:Nat):(bt ps k n).length<=n:=by
 have:=dW (λj=>decide (par ps j=some k)) (List.range n);rw[cU]at this;exact this
def Da (ps:List Nat)(k n:Nat):(bt ps k n).Pairwise (· < ·):=List.Pairwise.filter _ uw
def iV (T:aN ps){k:Nat}:∀ n j,j<=n->j<ps.length+1->(isB ps k j=true↔j=k\/∃ c,par ps c=some k/\isB ps c j=true)
 | n,j,hn,h=>by
  by_cases c:j=k
  .constructor
   .exact λ_=>.inl c
   .intro _;rw[c];exact fK
  .cases e:par ps j with
   | none=>
    have j0:=Kb h e;have no:∀ m,j≠m->isB ps m j=false:=λm hm=>by
     unfold isB;rw[sF T hm,e];rfl
    constructor
    .intro z;rw[no k c]at z;cases z
    .rintro (z|⟨d,hd,z⟩)
     .exact absurd z c
     .by_cases y:j=d
      .rw[<-y,e]at hd;cases hd
      .rw[no d y]at z;cases z
   | some p=>
    have hp:=(bz T e).1;cases n with
    | zero=>lia
    | succ n=>
     have ih:=iV T (k:=k) n p (by lia) (by lia);rw[fo T c e,ih];constructor
     .rintro (z|⟨d,hd,z⟩)
      .refine .inr #[j,?_,fK];rw[e,z]
      .by_cases y:j=d
       .rw[<-y]at z;rw[ez T hp]at z;cases z
       .exact .inr #[d,hd,by rw[fo T y e];exact z]
     .rintro (z|⟨d,hd,z⟩)
      .exact absurd z c
      .by_cases y:j=d
       .subst y;rw[e]at hd;exact .inl (aM hd)
       .rw[fo T y e]at z;exact .inr #[d,hd,z]
def kT (T:aN ps){k c d:Nat}(hc:par ps c=some k)(hd:par ps d=some k)(hcd:c≠d):∀ n j,j<=n->isB ps c j=true->isB ps d j=true->False
 | n,j,hn,h1,h2=>by
  by_cases e1:j=c
  .subst e1;rw[fo T hcd hc,ez T (bz T hd).1]at h2;cases h2
  .by_cases e2:j=d
   .subst e2;rw[fo T e1 hd,ez T (bz T hc).1]at h1;cases h1
   .cases e:par ps j with
    | none=>
     unfold isB at h1;rw[sF T e1,e]at h1;cases h1
    | some p=>
     have hp:=(bz T e).1;rw[fo T e1 e]at h1;rw[fo T e2 e]at h2;cases n with
     | zero=>lia
     | succ n=>exact kT T hc hd hcd n p (by lia) h1 h2
def Kh (T:aN ps){k:Nat}(hk:k<ps.length+1):(k::((bt ps k (ps.length+1)).map λc=>benL ps c (ps.length+1)).flatten).Perm (benL ps k (ps.length+1)):=by
 have lt:∀{l:List Nat},l.Pairwise (· < ·)->l.Nodup:=λh=>List.Pairwise.imp (λ{a b} (q:a<b)=>bL q) h;refine (uy ?_ (lt (sG ps k _))).mpr λj=>?_
 .rw[cZ];refine #[λh=>?_,?_]
  .obtain ⟨l,hl,hj⟩:=om.mp h;obtain ⟨c,hc,rfl⟩:=cC.mp hl;have h1:=(cM.mp hc).2;have h2:=(gi.mp hj).2;rw[ez T (bz T h1).1]at h2;cases h2
  .show List.Pairwise _ _;rw[List.pairwise_flatten];refine #[λl hl=>?_,?_]
   .obtain ⟨c,hc,rfl⟩:=cC.mp hl;exact lt (sG ps c _)
   .rw[ip];refine List.Pairwise.imp_of_mem (λ{c d} hc hd hcd=>?_) (Da ps k _);intro x hx y hy z;subst z;exact kT T (cM.mp hc).2 (cM.mp hd).2 (bL hcd) x x (aj _) (gi.mp hx).2 (gi.mp hy).2
 .rw[aW,om,gi];constructor
  .rintro (rfl|⟨l,hl,hj⟩)
   .exact #[hk,fK]
   .obtain ⟨c,hc,rfl⟩:=cC.mp hl;obtain ⟨h1,h2⟩:=gi.mp hj;exact #[h1,(iV T j j (aj _) h1).mpr (.inr #[c,(cM.mp hc).2,h2])]
  .rintro ⟨h1,h2⟩;rcases (iV T j j (aj _) h1).mp h2 with q|⟨c,hc,q⟩
   .exact .inl q
   .exact .inr #[_,cC.mpr #[c,cM.mpr #[(bz T hc).2,hc],rfl],gi.mpr #[h1,q]]
def Ki (t u:TS):TS:=λD U H=>∀ N:L2.St->Hp->Prop,(∀ U' H',u D U' H'->N U' H')->t { D with nx:=N } U H
def bQ {st:Stmt}{rest:List Stmt}{t:TS}(h1:PS X st t)(h2:PSs X rest u):PSs X (st::rest) (Ki t u):=λPx s U H D I h=>aF h1 h2 Px s U H D I (h (u D) λ_ _ z=>z)
inductive Dc (t u:TS)(D:Ends)(U:L2.St)(H:Hp):Prop
 | c:∀(M:L2.St->Hp->Prop),(∀ N:L2.St->Hp->Prop,(∀ U' H',M U' H'->N U' H')->t { D with nx:=N } U H)->(∀ U' H',M U' H'->u D U' H')->Dc t u D U H
def iW {st:Stmt}{rest:List Stmt}{t:TS}(h1:PS X st t)(h2:PSs X rest u):PSs X (st::rest) (Dc t u):=λPx s U H D I h=>by
 obtain ⟨M,h3,h4⟩:=h;exact cn h1 h2 Px s U H D I #[M,h3 M λ_ _ z=>z,h4]
def sI {tb:TS}{D:Ends}{Pn:L2.St->Hp->Prop}{i:Nat}{x:V}{U:L2.St}{H:Hp}(h:∀(N B:L2.St->Hp->Prop) (R:VK),(∀ U H,Pn U H->N U H)->(∀ U H,D.nx U H->B U H)->(∀ v H,D.rt v H->R v H)->tb { nx:=N,rt:=R,bk:=B,ct:=N } (U.set i (some x)) H):gI i x U H λU2 H2=>tb { D with nx:=Pn,ct:=Pn,bk:=D.nx } U2 H2:=h Pn D.nx D.rt (λ_ _ z=>z) (λ_ _ z=>z) (λ_ _ z=>z)
def Kj {tb:TS}{D:Ends}{Pn:L2.St->Hp->Prop}{U:L2.St}{H:Hp}(h:∀(N B:L2.St->Hp->Prop) (R:VK),(∀ U H,Pn U H->N U H)->(∀ U H,D.nx U H->B U H)->(∀ v H,D.rt v H->R v H)->tb { nx:=N,rt:=R,bk:=B,ct:=N } U H):tb { D with nx:=Pn,ct:=Pn,bk:=D.nx } U H:=h Pn D.nx D.rt (λ_ _ z=>z) (λ_ _ z=>z) (λ_ _ z=>z)
seal PSs PS PE PT PW PA PI PG PO
section
variable {P:Program}{w:World}{K:Frag}{mg:Str->Option Value}{base:Heap}
def Kk (T:Txt K mg)(ya:DF K mg "_law_mixed" qr rO):FC P w K mg base 1 "_law_mixed" rO uS:=by
 refine ya.ok vI (λvs H Q E h=>?_) (λf cdv A outer s H vs Q E hr h=>?_)
 .obtain ⟨c,k,rfl,_⟩:=h;rfl
 obtain ⟨c,k,rfl,q⟩:=h;refine #[_,(aF (aI (i:=2) vI.nd rfl (av rfl) (aG iB (aG eW (aG cz (aG cz (aG iB (pv 0) ag) (aG eW ag (pv 1))) ag) ag) ag))
   (aF (aI (i:=3) vI.nd rfl (av rfl) (aG iB (aG cz (aG cz (aG eW (pv 2) (pv 2)) (aG eW ag (pv 2))) (pv 1)) ag))
   (ao (aJ (aG uF (aG iB (aG cz (aG cz (aG eW (pv 3) (pv 3)) (aG eW ag (pv 3))) (aG eW ag (pv 1))) ag) ag))))),?_]
 walk_at "rd"
 exact q _
def Kl (T:Txt K mg)(yc:DF K mg "_law_begin" qp rN):FC P w K mg base 1 "_law_begin" rN (uT K):=by
 refine yc.ok Jm (λvs H Q E h=>?_) (λf cdv A outer s H vs Q E hr h=>?_)
 .obtain ⟨L,ns,rfl,_⟩:=h;rfl
 obtain ⟨L,ns,rfl,hS,q⟩:=h;refine #[_,(ao (aJ (A4 (oV fE (pv 0) (oV fE ag (oV fE ag A0))) rfl rfl (by simp) (by decide)))),?_];intro p hp;refine #[_,rfl,af,[(.inr "script",.ref L),(.inr "at",.int 0),(.inr "left",.int 0)],rfl,(by show 3<=15;decide),?_];have e:upd (upd H p (.dK [])) p (.dK (fG [] [(.inr "script",.ref L),(.inr "at",.int 0),(.inr "left",.int 0)]))=upd H p (dn L 0 0):=by
  rw[E9];have:fG [] [((.inr "script" : Key),V.ref L),(.inr "at",.int 0),(.inr "left",.int 0)]=[(.inr "script",.ref L),(.inr "at",.int 0),(.inr "left",.int 0)]:=by
   have a1:putK [] (.inr "script" : Key) (V.ref L)=[(.inr "script",.ref L)]:=iH (kvs:=[]) _ rfl;have a2:putK [((.inr "script" : Key),V.ref L)] (.inr "at") (.int 0)=[(.inr "script",.ref L),(.inr "at",.int 0)]:=by
    rw[iH _ (by rw[cW (f6 (show ("script" : Str) ≠ "at" by decide +kernel))];rfl)];rfl
   have a3:putK [((.inr "script" : Key),V.ref L),(.inr "at",.int 0)] (.inr "left") (.int 0)=[(.inr "script",.ref L),(.inr "at",.int 0),(.inr "left",.int 0)]:=by
    rw[iH _ (by rw[cW (f6 (show ("script" : Str) ≠ "left" by decide +kernel)),cW (f6 (show ("at" : Str) ≠ "left" by decide +kernel))];rfl)];rfl
   unfold fG;simp only[List.foldl_cons,List.foldl_nil];rw[a1,a2,a3]
  rw[this];rfl
 rw[e];exact q p _ hp (aD hp _) #[ns,0,0,af,(aD hp _).seq hS]
def Km (T:Txt K mg)(yd:DF K mg "_law_take" qt fH)(Nt:FC P w K mg base 1 "_law_mixed" rO uS):FC P w K mg base 2 "_law_take" fH (f9 K):=by
 refine yd.ok kx (λvs H Q E h=>?_) (λf cdv A outer s H vs Q E hr h=>?_)
 .obtain ⟨d,L,m,rfl,_⟩:=h;rfl
 obtain ⟨d,L,m,rfl,⟨hm,hm'⟩,⟨ns,a,l,hd,hS⟩,q⟩:=h;refine #[_,(aF (aI (i:=2) kx.nd rfl (av rfl) (gM (da hr) (pv 0) fE (λ_ _=>rfl)))
   (aF (aI (i:=3) kx.nd rfl (av rfl) (gM (da hr) (pv 0) fE (λ_ _=>rfl)))
   (cn (bp (aV d9 (gM (da hr) (pv 0) fE (λ_ _=>rfl)) ag (aY _)) (aF (iJ (da hr) (pv 0) fE (aG cz (pv 2) ag) rfl)
   (aF (aI (i:=4) kx.nd rfl (av rfl) ag)
   (cn (bp (aV gK (aP (bH (K:=K)) rfl T.bG bE (aa (pv 3) ab)) ag (aY _)) (ao (aI (i:=4) kx.nd rfl (av rfl) (ax (bh (K:=K)) (pv 3) (aG iB (pv 2) (aP (bH (K:=K)) rfl T.bG bE (aa (pv 3) ab))) (λ_ _=>rfl)))) bx)
   (cn (bp (PW.pt (jl (aV ma (pv 2) (aP (bH (K:=K)) rfl T.bG bE (aa (pv 3) ab)) (aY _)) (jk (aV eL (aP uH rfl T.xW boot_abs (aa (pv 4) ab)) (aG iC ag ag) (aY _))))) (ao (aJ (aG iB (az Nt hr (aa (pv 4) (aa (pv 2) ab))) (pv 1)))) bx)
   (ao (iJ (da hr) (pv 0) fE (aP uH rfl T.xW boot_abs (aa (pv 4) ab)) rfl)))))) bx)
   (aF (aI (i:=5) kx.nd rfl (av rfl) (aG iB (gM (da hr) (pv 0) fE (λ_ _=>rfl)) (pv 1)))
   (aF (iJ (da hr) (pv 0) fE (aG uF (gM (da hr) (pv 0) fE (λ_ _=>rfl)) (pv 1)) rfl)
   (ao (aJ (pv 5)))))))),?_]
 refine #[_,rfl,_,_,rfl,GY hd,_,rfl,_,_,rfl,GX hd,?_];refine #[λU' H'=>∃(x2 x3 x4 x5:Option V) (a' l':Int),U'=[some (.ref d),some (.int m),x2,x3,x4,x5]/\H' d=some (dn L a' l')/\Keep d H H',?_,?_]
 .refine #[_,rfl,_,_,rfl,uR hd,rfl,_,rfl,?_];refine ite2 (λ_=>?_) (λ_=>?_)
  .refine #[_,rfl,_,_,rfl,rfl,_,rfl,_,_,rfl,GZ hd,?_];have hd1:upd H d (dn L (a+1) l) d=some (dn L (a+1) l):=af;obtain ⟨-,k1⟩:=LS.set (a':=a+1) (l':=l) hd hS;have hS1:=oX hd k1 hS;generalize upd H d (dn L (a+1) l)=H1 at hd1 k1 hS1 ⊢;refine #[λU' H'=>∃ c:Int,U'=[some (.ref d),some (.int m),some (.int a),some (.ref L),some (.int c),none]/\H1=H',?_,?_]
   .refine #[_,rfl,_,_,rfl,.inl hS1,_,_,rfl,rfl,_,rfl,?_];refine ite2 (λc=>?_) (λc=>?_)
    .have c':(0:Int)<(((ns.map V.int).length:Nat):Int):=bW c;obtain ⟨v,hv⟩:=G0 (ns:=ns) (k:=a) (by rw[ai]at c';lia);refine #[_,rfl,_,rfl,_,rfl,_,_,rfl,.inl hS1,_,_,rfl,rfl,c',_,_,_,_,rfl,rfl,hS1,hv,?_];exact #[v,rfl,rfl]
    .exact #[0,rfl,rfl]
   rintro U' H' ⟨c,rfl,rfl⟩;refine #[λU' H'=>U'=[some (.ref d),some (.int m),some (.int a),some (.ref L),some (.int c),none]/\H1=H',?_,?_]
   .refine #[_,rfl,_,rfl,_,_,rfl,.inl hS1,_,_,rfl,rfl,_,rfl,?_];refine ite2 (λ_=>?_) (λ_=>?_)
    .refine iteT ?_;refine #[_,rfl,_,rfl,c,a,rfl,λv=>#[_,rfl,_,_,rfl,rfl,hm,?_]];exact q _ _ (nS _ (by lia)) (nU _ hm) k1 #[ns,a+1,l,hd1,hS1]
    .refine #[_,rfl,_,rfl,_,_,rfl,rfl,#[by decide,by decide,by decide],_,_,rfl,rfl,_,rfl,?_];refine ite2 (λ_=>?_) (λ_=>?_)
     .refine #[_,rfl,_,rfl,c,a,rfl,λv=>#[_,rfl,_,_,rfl,rfl,hm,?_]];exact q _ _ (nS _ (by lia)) (nU _ hm) k1 #[ns,a+1,l,hd1,hS1]
     .exact #[rfl,rfl]
   rintro U' H' ⟨rfl,rfl⟩;refine #[_,rfl,_,rfl,_,rfl,_,_,rfl,Bd hd1,?_];obtain ⟨-,k2⟩:=LS.set (a':=a+1) (l':=if c<0 then -c else c) hd1 hS1
   exact #[_,_,_,_,_,_,rfl,af,k1.trans k2]
  .exact #[_,_,_,_,a,l,rfl,hd,Keep.refl _ _]
 rintro U' H' ⟨x2,x3,x4,x5,a',l',rfl,hd',k'⟩;have hS':=oX hd k' hS;refine #[_,rfl,_,_,rfl,uR hd',_,rfl,_,_,rfl,rfl,hm,?_];refine #[_,rfl,_,_,rfl,uR hd',_,rfl,_,_,rfl,rfl,#[hm,hm'],_,rfl,_,_,rfl,Bd hd',?_];obtain ⟨s1,k1⟩:=LS.set (a':=a') (l':=l'/m) hd' hS';refine #[_,rfl,?_];exact q _ _ (nS _ (by lia)) (nU _ hm) (k'.trans k1) s1
inductive v8 (vs:List V)(H:Hp)(Q:VK)(w_1:XK):Prop
 | c:∀(a b:Nat),vs=[.int a,.int b]->a≠b->Q (.int (lu a b:Nat)) H->v8 vs H Q w_1
def Kn (T:Txt K mg)(ye:DF K mg "lowest_unlike" pE qV):FC P w K mg base 1 "lowest_unlike" qV v8:=by
 refine ye.ok Ct (λvs H Q E h=>?_) (λf cdv A outer s H vs Q E hr h=>?_)
 .obtain ⟨a,b,rfl,_⟩:=h;rfl
 obtain ⟨a,b,rfl,hab,q⟩:=h;refine #[_,(aF (aI (i:=2) Ct.nd rfl (av rfl) (aG Fy (pv 0) (pv 1)))
   (ao (aJ (aG dI (uL F.plainAttrs_int F.slot_int_bit_length F.type_int_bit_length GW (aG zW (pv 2) (iA iD (pv 2)))) ag)))),?_]
 refine #[_,rfl,_,rfl,_,_,rfl,rfl,_,rfl,_,rfl,_,rfl,_,_,rfl,rfl,rfl,_,rfl,rfl,_,_,rfl,rfl,?_];rw[<-JI a b hab]at q;exact q
inductive m4 (K:Frag)(vs:List V)(H:Hp)(Q:VK)(w_1:XK):Prop
 | c:∀(d L:Addr),vs=[.ref d]->LS K L d H->(∀(v:Int) (H':Hp),-(10^60)<v->v<10^60->Keep d H H'->LS K L d H'->Q (.int v) H')->m4 K vs H Q w_1
def Ko {x m:Int}(h1:-999<=x)(h2:x<=999)(h3:0<m)(h4:m<=10^57):-(10^60)<x*m/\x*m<10^60:=by
 have a:=Int.mul_le_mul_of_nonneg_right h2 (Int.le_of_lt h3);have b:=Int.mul_le_mul_of_nonneg_right h1 (Int.le_of_lt h3);lia
def Kp (T:Txt K mg)(yf:DF K mg "_law_key" qu kJ)(bM:FC P w K mg base 2 "_law_take" fH (f9 K)):FC P w K mg base 3 "_law_key" kJ (m4 K):=by
 refine yf.ok CC (λvs H Q E h=>?_) (λf cdv A outer s H vs Q E hr h=>?_)
 .obtain ⟨d,L,rfl,_⟩:=h;rfl
 obtain ⟨d,L,rfl,hs,q⟩:=h;refine #[_,(aF (aI (i:=1) CC.nd rfl (av rfl) (az bM hr (aa (pv 0) (aa ag ab))))
   (cn (bp (aV eL (pv 1) ag (aY _)) (ao (aJ (az bM hr (aa (pv 0) (aa ag ab))))) bx)
   (cn (bp (aV eL (pv 1) ag (aY _)) (ao (aJ (aG dI (az bM hr (aa (pv 0) (aa ag ab))) ag))) bx)
   (cn (bp (aV d9 (pv 1) ag (aY _)) (ao (aJ (aG eW (aG dI (az bM hr (aa (pv 0) (aa ag ab))) ag) (ax (bh (K:=K)) (cR (aa ag (aa (aG iC ag ag) (aa (aG iC ag ag) (aa (aG iC ag ag) ab))))) (az bM hr (aa (pv 0) (aa ag ab))) (λ_ _=>rfl))))) bx)
   (ao (aJ (aG eW (ax (bh (K:=K)) (cR (aa ag (aa (iA iD ag) ab))) (az bM hr (aa (pv 0) (aa ag ab))) (λ_ _=>rfl)) (aG dI (aG dI (aG iC ag ag) ag) (az bM hr (aa (pv 0) (aa ag ab))))))))))),?_]
 refine #[_,rfl,d,L,8,rfl,by decide,hs,λw1 H1 w0 w8 k1 s1=>?_];have nd:∀{H':Hp} {p:Addr},LS K L d H'->H' p=none->p≠d:=λs hp z=>by
  obtain ⟨_,_,_,e,_⟩:=s.ex;rw[<-z,hp]at e;cases e
 refine #[λU' H'=>U'=[some (.ref d),some (.int w1)]/\H1=H',?_,?_]
 .refine #[_,rfl,_,_,rfl,rfl,_,rfl,?_];refine ite2 (λc=>?_) (λc=>?_)
  .refine #[_,rfl,d,L,10,rfl,by decide,s1,λu H2 u0 u1 k2 s2=>?_];exact q u H2 (by lia) (by lia) (k1.trans k2) s2
  .exact #[rfl,rfl]
 rintro U' H' ⟨rfl,rfl⟩;refine #[λU' H'=>U'=[some (.ref d),some (.int w1)]/\H1=H',?_,?_]
 .refine #[_,rfl,_,_,rfl,rfl,_,rfl,?_];refine ite2 (λc=>?_) (λc=>?_)
  .refine #[_,rfl,d,L,60,rfl,by decide,s1,λu H2 u0 u1 k2 s2=>#[_,_,rfl,rfl,?_]];exact q (u-30) H2 (by lia) (by lia) (k1.trans k2) s2
  .exact #[rfl,rfl]
 rintro U' H' ⟨rfl,rfl⟩;refine #[λU' H'=>U'=[some (.ref d),some (.int w1)]/\H1=H',?_,?_]
 .refine #[_,rfl,rfl,_,rfl,?_];refine ite2 (λc=>?_) (λc=>?_)
  .refine #[_,rfl,d,L,1999,rfl,by decide,s1,λu H2 u0 u1 k2 s2=>#[_,_,rfl,rfl,?_]];refine #[_,_,rfl,rfl,#[by decide,by decide,by decide],_,_,rfl,rfl,#[by decide,by decide,by decide],_,_,rfl,rfl,#[by decide,by decide,by decide],(by show 4<=sizeLine;decide),λp hp=>?_];refine #[_,rfl,d,L,4,rfl,by decide,s2.of_new hp _,λb H3 b0 b1 k3 s3=>?_];obtain ⟨m,hat,m0,m1⟩:∃ m:Int,atI [V.int 1,V.int (10^(19:Int).toNat),V.int (10^(38:Int).toNat),V.int (10^(57:Int).toNat)] b=some (.int m)/\0<m/\m<=10^57:=by
    have z:b=0\/b=1\/b=2\/b=3:=by lia
    rcases z with rfl|rfl|rfl|rfl
    .exact #[_,rfl,by decide +kernel,by decide +kernel]
    .exact #[_,rfl,by decide +kernel,by decide +kernel]
    .exact #[_,rfl,by decide +kernel,by decide +kernel]
    .exact #[_,rfl,by decide +kernel,by decide +kernel]
   refine #[_,_,_,_,rfl,rfl,SqL.of (k3 p _ (nd s2 hp) af),hat,_,_,rfl,rfl,.inl #[by lia,by lia],?_];obtain ⟨f1,f2⟩:=Ko (x:=u-999) (m:=m) (by lia) (by lia) m0 m1;exact q _ H3 f1 f2 ((k1.trans k2).trans ((aD hp _).keep.trans k3)) s3
  .exact #[rfl,rfl]
 rintro U' H' ⟨rfl,rfl⟩;refine #[_,rfl,(by show 2<=sizeLine;decide),λp hp=>?_];refine #[_,rfl,d,L,2,rfl,by decide,s1.of_new hp _,λb H2 b0 b1 k2 s2=>?_];obtain ⟨m,hat,hm⟩:∃ m:Int,atI [V.int 1,V.int (-1)] b=some (.int m)/\(m=1\/m = -1):=by
  have z:b=0\/b=1:=by lia
  rcases z with rfl|rfl
  .exact #[_,rfl,.inl rfl]
  .exact #[_,rfl,.inr rfl]
 refine #[_,_,_,_,rfl,rfl,SqL.of (k2 p _ (nd s1 hp) af),hat,_,_,rfl,rfl,#[by decide,by decide,by decide],_,_,rfl,rfl,_,rfl,d,L,3,rfl,by decide,s2,λu H3 u0 u1 k3 s3=>#[_,_,rfl,rfl,_,_,rfl,rfl,.inl #[by lia,by lia],?_]];have e60:(10:Int)^(60:Int).toNat=10^60:=rfl;rw[e60];have kk:=k1.trans ((aD hp _).keep.trans (k2.trans k3));rcases hm with rfl|rfl
 .exact q _ H3 (by lia) (by lia) kk s3
 .exact q _ H3 (by lia) (by lia) kk s3
def Rise (es:List (Int×Int)):Prop:=es.Pairwise λa b=>pLt a b=true
def d4 (k:Int)(e:Int×Int):Prop:=-(10^60)<e.1/\e.1<10^60/\0<=e.2/\e.2<k
def Kq {κ:Type}[DecidableEq κ](kvs:List (κ×V))(k:κ)(v:V):(putK kvs k v).map (·.1)=if (kvs.any λkv=>decide (kv.1=k))=true then kvs.map (·.1) else kvs.map (·.1)++[k]:=by
 unfold putK;split
 .rw[fA];apply oo;intro a ha;show (if a.1=k then (a.1,v) else a).1=a.1
  split<;>rfl
 .rw[bq];rfl
def iX (e:Int×Int):Int:=64*(if 0<=e.1 then 2*e.1 else -2*e.1-1)+e.2
def gj (e:Int×Int):Nat:=(iX e).toNat
def sJ {e:Int×Int}(h:d4 64 e):((gj e:Nat):Int)=iX e:=by
 obtain ⟨h1,h2,h3,h4⟩:=h;unfold gj iX;split<;>lia
def Kr {e:Int×Int}(h:d4 64 e):gj e<2^207:=by
 have z:=sJ h;obtain ⟨h1,h2,h3,h4⟩:=h;unfold iX at z;split at z<;>lia
def Ks {e f:Int×Int}(h:d4 64 e)(g:d4 64 f)(z:gj e=gj f):e=f:=by
 have z1:=sJ h;have z2:=sJ g;obtain ⟨h1,h2,h3,h4⟩:=h;obtain ⟨g1,g2,g3,g4⟩:=g;obtain ⟨a,b⟩:=e;obtain ⟨c,d⟩:=f;rw[z,z2]at z1;unfold iX at z1;dsimp only at *;have:a=c/\b=d:=by
  split at z1<;>split at z1<;>lia
 rw[this.1,this.2]
inductive v9 (K:Frag)(vs:List V)(H:Hp)(Q:VK)(w_1:XK):Prop
 | c:∀(v:V) (e:Int×Int),vs=[v]->Rep.has K H e v->Q (.int (iX e)) H->v9 K vs H Q w_1
def Kt (T:Txt K mg)(yg:DF K mg "code" pB qU):FC P w K mg base 1 "code" qU (v9 K):=by
 refine yg.ok vC (λvs H Q E h=>?_) (λf cdv A outer s H vs Q E hr h=>?_)
 .obtain ⟨v,e,rfl,_⟩:=h;rfl
 obtain ⟨v,e,rfl,he,q⟩:=h;obtain ⟨p,x1,x2,rfl,hT,e1,e2⟩:=(show hasP K H e v from he);have hT:=SqT.of (K:=K) hT;have e1:x1=.int e.1:=e1;have e2:x2=.int e.2:=e2;subst e1 e2;refine #[_,(aF (aI (i:=1) vC.nd rfl (av rfl) (ax (aL (K:=K)) (pv 0) ag (λ_ _=>rfl)))
   (aF (aI (i:=2) vC.nd rfl (av rfl) (zO (aV ma (pv 1) ag (aY _)) (aG eW ag (pv 1)) (aG dI (aG eW (iA iD ag) (pv 1)) ag)))
   (ao (aJ (aG cz (aG eW (jx rfl T.Np) (pv 2)) (ax (aL (K:=K)) (pv 0) ag (λ_ _=>rfl))))))),?_]
 refine #[_,rfl,_,_,_,_,rfl,rfl,hT,rfl,?_];refine #[_,rfl,_,_,rfl,rfl,_,rfl,?_];refine ite2 (λc=>?_) (λc=>?_)
 .have c':0<=e.1:=bW c;refine #[_,rfl,_,_,rfl,rfl,.inl #[by decide,by decide],?_];refine #[_,rfl,_,_,rfl,rfl,.inl #[by decide,by decide],_,rfl,_,_,_,_,rfl,rfl,hT,rfl,_,_,rfl,rfl,?_];unfold iX at q;rw[aq c']at q;exact q
 .have c':¬ 0<=e.1:=lU (lW.mpr c);refine #[_,rfl,_,rfl,_,_,rfl,rfl,.inl #[by decide,by decide],_,_,rfl,rfl,?_];refine #[_,rfl,_,_,rfl,rfl,.inl #[by decide,by decide],_,rfl,_,_,_,_,rfl,rfl,hT,rfl,_,_,rfl,rfl,?_];unfold iX at q;rw[ak c']at q;exact q
abbrev nV (n:Nat):V:=.int (n:Int)
def wb {v:Int}(h:0<=v):∃ n:Nat,v=(n:Int):=#[v.toNat,by lia]
def gY {xs:List Nat}{i:Nat}(h:i<xs.length):atI (xs.map nV) (i:Int)=some (nV (xs.getD i 0)):=
 cG (by rw[bj,aC h,aH,aC h];rfl)
def Ku {xs:List Nat}{i:Nat}(h0:i≠0)(h:i<xs.length):atI (xs.map nV) ((i:Int)-1)=some (nV (xs.getD (i-1) 0)):=by
 have e:(i:Int)-1=((i-1:Nat):Int):=by lia
 rw[e];exact gY (by lia)
def jD {xs:List Nat}{i:Nat}{x:V}(h:(xs.map nV)[i]?=some x):i<xs.length/\x=nV (xs.getD i 0):=by
 rw[bj]at h;cases e:xs[i]? with
 | none=>rw[e]at h;cases h
 | some y=>
  rw[e]at h;refine #[(aZ.mp e).1,?_];rw[aH,e];exact (aM h).symm
def Kv (n:Nat):Builtin.bitAnd (n:Int) 1=((n%2:Nat):Int):=by
 unfold Builtin.bitAnd;rw[aO (i5 n),aO (by decide:(0:Int)<=1)];show ((n &&& 1:Nat):Int)=_;rw[Nat.and_one_is_mod]
def Kw (a b:Nat):2*((lu a b:Nat):Int)+Builtin.bitAnd ((b:Int)/2^((lu a b:Nat):Int).toNat) 1=((fig a b:Nat):Int):=by
 have e:(b:Int)/2^((lu a b:Nat):Int).toNat=((b/2^lu a b:Nat):Int):=by
  rw[fR,Int.natCast_ediv,Int.natCast_pow];rfl
 rw[e,Kv];unfold fig;lia
def Kx {K:Frag}{xs:List Nat}:aA K H (xs.map λn:Nat=>(n:Int)) (xs.map nV):=by
 have e:xs.map nV=(xs.map λn:Nat=>(n:Int)).map V.int:=by rw[fA];rfl
 rw[e];exact aA.ints
def But (p:Addr)(H H':Hp):Prop:=∀ b o,b≠p->H b=some o->H' b=some o
def But.sq {K:Frag}{p:Addr}{a:Addr}(k:But p H H')(h:SqL K H a xs)(n:H p=none):SqL K H' a xs:=by
 rcases h with (h|⟨o,h⟩)|h
 .exact .inl (.inl (k _ _ (au h n) h))
 .exact .inl (.inr #[o,k _ _ (au h n) h])
 .exact .inr h
def we (xs:List Nat):(xs.map nV).all eY=true:=by
 rw[eI];intro x hx;obtain ⟨n,_,rfl⟩:=cC.mp hx;rfl
def wg (n:Nat)(xs:List Nat):inV (.int (n:Int)) (xs.map nV)=decide (n∈xs):=by
 unfold inV
 induction xs with
 | nil=>rfl
 | cons x xs ih=>
  rw[bK,gB,ih];show ((x:Int)==(n:Int)||decide (n∈xs))=decide (n∈x::xs);by_cases h:x=n
  .subst h;simp
  .have:((x:Int)==(n:Int))=false:=by
    rw[beq_eq_false_iff_ne];lia
   rw[this,nR];have e:(n∈x::xs)=(n∈xs):=propext (by simp[bf h]);simp[bf h]
inductive wj (K:Frag)(vs:List V)(H:Hp)(Q:VK)(w_1:XK):Prop
 | c:∀(a:Addr) (xs:List Nat),vs=[.ref a]->SqL K H a (xs.map nV)->Unl xs->xs.length<=1000->(∀(p:Addr) (H':Hp),H p=none->Same H H'->H' p=some (.lst ((dz xs).map nV))->Q (.ref p) H')->wj K vs H Q w_1
def Ky (T:Txt K mg)(yh:DF K mg "turned" pF qW)(Nu:FC P w K mg base 1 "lowest_unlike" qV v8):FC P w K mg base 2 "turned" qW (wj K):=by
 refine yh.ok mB (λvs H Q E h=>?_) (λf cdv A outer s H vs Q E hr h=>?_)
 .obtain ⟨a,xs,rfl,_⟩:=h;rfl
 obtain ⟨a,xs,rfl,hS,hu,hz,q⟩:=h;refine #[_,(aF (aI (i:=1) mB.nd rfl (av rfl) (cR ab))
   (aF (ck PassesOwn.never rfl (uW rfl T.xY (aa (pv 0) ab)) (j4 rfl (dH (aQ (i:=2) mB.nd rfl (av rfl)) (dH (aQ (i:=3) mB.nd rfl (av rfl)) iy))) (ao (bp (aV d9 (pv 2) ag (aY _)) (ao (cF (dY F.plainAttrs_list F.slot_list_append F.type_list_append dZ (pv 1) (aa (aG iB (pv 3) ag) ab)))) (aF (aI (i:=4) mB.nd rfl (av rfl) (az Nu hr (aa (ax (bh (K:=K)) (pv 0) (aG dI (pv 2) ag) (λ_ _=>rfl)) (aa (pv 3) ab))))
   (ao (cF (dY F.plainAttrs_list F.slot_list_append F.type_list_append dZ (pv 1) (aa (aG cz (aG eW ag (pv 4)) (aG zW (aG Fx (pv 3) (pv 4)) ag)) ab))))))))
   (ao (aJ (pv 1))))),?_]
 refine #[(by show 0<=sizeLine;decide),λp hp=>?_];have k0:But p H (upd H p (.lst [])):=λb o n e=>by rw[ah n];exact e
 refine #[_,rfl,a,rfl,#[_,k0.sq hS hp],?_];refine uX (xs:=xs.map nV) (λi U H2=>∃ x2 x3 x4:Option V,U=[some (.ref a),some (.ref p),x2,x3,x4]/\H2 p=some (.lst (((dz xs).take i).map nV))/\But p H H2) ?_ ?_ ?_ ?_
 .exact #[_,_,_,rfl,af,k0]
 .rintro i U H2 _ ⟨x2,x3,x4,rfl,_,k2⟩;exact k2.sq hS hp
 .rintro i x U H2 r hx ⟨x2,x3,x4,rfl,h2,k2⟩ hr;obtain ⟨hi,rfl⟩:=jD hx;have hS2:=k2.sq hS hp;have np:p≠r:=au h2 hr;have h3:upd H2 r (.tup [.int i,nV (xs.getD i 0)]) p=some (.lst (((dz xs).take i).map nV)):=by rw[ah np];exact h2
  have k3:But p H (upd H2 r (.tup [.int i,nV (xs.getD i 0)])):=λb o n e=>(aD hr _) b o (k2 b o n e);have hS3:=k3.sq hS hp;have hlen:(((dz xs).take i).map nV).length<sizeLine:=a0 (by rw[ai,bw,kK];lia);refine #[r,_,rfl,SqT.of af,rfl,_,_,rfl,_,_,rfl,rfl,?_];generalize upd H2 r (.tup [.int i,nV (xs.getD i 0)])=H3 at h3 k3 hS3 ⊢;have fin:∀ v:V,v=nV (gU xs i)->∃ y2 y3 y4:Option V,[some (V.ref a),some (V.ref p),y2,y3,y4]=[some (V.ref a),some (V.ref p),y2,y3,y4]/\upd H3 p (.lst (((dz xs).take i).map nV++[v])) p=some (.lst (((dz xs).take (i+1)).map nV))/\But p H (upd H3 p (.lst (((dz xs).take i).map nV++[v]))):=by
   rintro v rfl;refine #[none,none,none,rfl,?_,λb o n e=>by rw[ah n];exact k3 b o n e];rw[af,JE hi,bq];rfl
  refine #[_,rfl,rfl,_,rfl,?_];refine ite2 (λc=>?_) (λc=>?_)
  .have c':i=0:=by
    have:=V.int.inj (bW c);lia
   refine #[_,rfl,.inl #[rfl,_,SqL.of h3],_,rfl,_,_,rfl,rfl,(by show (0:Int) < 2;decide),_,_,_,rfl,rfl,h3,hlen,?_];obtain ⟨_,_,_,_,g2,g3⟩:=fin (.int (((xs.getD i 0:Nat):Int) % 2)) (by
    unfold gU;rw[aq c',c'];show V.int _=V.int _;rw[Int.natCast_emod];rfl)
   exact #[_,_,_,rfl,g2,g3]
  .have c':i≠0:=λz=>c (by subst z;decide);have hne:xs.getD (i-1) 0≠xs.getD i 0:=by
    have:=hu (i-1) (by lia);rw[show i-1+1=i by lia]at this;exact this
   refine #[_,rfl,_,rfl,_,_,rfl,rfl,_,_,_,_,rfl,rfl,hS3,Ku c' hi,_,rfl,_,_,rfl,hne,?_];refine #[_,rfl,.inl #[rfl,_,SqL.of h3],_,rfl,_,_,rfl,rfl,.inl #[by decide,by decide],_,rfl,_,rfl,_,_,rfl,rfl,i5 _,_,_,rfl,rfl,_,_,rfl,rfl,_,_,_,rfl,rfl,h3,hlen,?_];obtain ⟨_,_,_,_,g2,g3⟩:=fin (.int (2 * ((lu (xs.getD (i - 1) 0) (xs.getD i 0):Nat):Int)+Builtin.bitAnd (((xs.getD i 0:Nat):Int) / 2 ^ ((lu (xs.getD (i - 1) 0) (xs.getD i 0):Nat):Int).toNat) 1)) (by
    unfold gU;rw[ak c',Kw])
   exact #[_,_,_,rfl,g2,g3]
 .rintro U H2 ⟨x2,x3,x4,rfl,h2,k2⟩;refine #[_,rfl,?_];refine q p H2 hp (λb o e=>k2 b o (au e hp) e) ?_;rw[h2,bA (by rw[kK,ai];exact aj _)]
def dB:Nat->List Nat->List Nat
 | 0,xs=>xs
 | n+1,xs=>dz (dB n xs)
def sL (n:Nat)(xs:List Nat):(dB n xs).length=xs.length:=by
 induction n with
 | zero=>rfl
 | succ n ih=>rw[dB,kK,ih]
def kU (h:Unl xs)(n:Nat):Unl (dB n xs):=by
 induction n with
 | zero=>exact h
 | succ n ih=>exact JF ih
def sM {k:Nat}(h:dA m xs)(hk:m<=k):dA k xs:=λi hi=>cA (h i hi) hk
def Kz (h:Unl xs)(hb:dA (2^207) xs):dA 414 (dB 1 xs):=mX (k:=207) (by decide) h hb
def KA (h:Unl xs)(hb:dA (2^207) xs):dA 18 (dB 2 xs):=mX (k:=9) (by decide) (kU h 1) (sM (Kz h hb) (by decide))
def KB (h:Unl xs)(hb:dA (2^207) xs):dA 10 (dB 3 xs):=mX (k:=5) (by decide) (kU h 2) (sM (KA h hb) (by decide))
def KC (h:Unl xs)(hb:dA (2^207) xs):dA 8 (dB 4 xs):=mX (k:=4) (by decide) (kU h 3) (sM (KB h hb) (by decide))
def KD (h:Unl xs)(hb:dA (2^207) xs):dA 6 (dB 5 xs):=mX (k:=3) (by decide) (kU h 4) (sM (KC h hb) (by decide))
def dj (es:List (Int×Int)):List Nat:=es.map gj
def gZ (es:List (Int×Int)):(dj es).length=es.length:=ai _
def wm {es:List (Int×Int)}{i:Nat}(h:i<es.length):(dj es).getD i 0=gj es[i]:=by
 unfold dj;rw[aH,bj,aC h];rfl
def KE {es:List (Int×Int)}(h:∀ e∈es,d4 64 e):dA (2^207) (dj es):=λi hi=>by
 rw[gZ]at hi;rw[wm hi];exact Kr (h _ (cE hi))
def wo {es:List (Int×Int)}(h:∀ e∈es,d4 64 e)(hr:Rise es):Unl (dj es):=λi hi=>by
 rw[gZ]at hi;rw[wm (by lia),wm hi];intro z;have e:=Ks (h _ (cE (by lia))) (h _ (cE hi)) z;have:=eV.mp hr i (i+1) (by lia) hi (by lia);rw[e]at this;have q:=fj.mp this;lia
def KF {es:List (Int×Int)}{i:Nat}(h:i<es.length):(dj es).take (i+1)=(dj es).take i++[gj es[i]]:=by
 have h':i<(dj es).length:=by rw[gZ];exact h
 have z:(dj es)[i]'h'=gj es[i]:=List.getElem_map gj;rw[cy h',z]
inductive wq (K:Frag)(vs:List V)(H:Hp)(Q:VK)(w_1:XK):Prop
 | c:∀(a:Addr) (ws:List V) (es:List (Int×Int)),vs=[.ref a]->SqL K H a ws->aA K H es ws->es.length<=1000->(∀ e∈es,d4 64 e)->Rise es->(∀(p:Addr) (H':Hp),H p=none->Same H H'->H' p=some (.lst ((dB 5 (dj es)).map nV))->Q (.ref p) H')->wq K vs H Q w_1
def KG {K:Frag}{H0:Hp}{D:Addr}{es:List (Int×Int)}{ws:List V}{i:Nat}{x:V}(hD:H0 D=none)(hw:aA K H0 es ws)(hx:ws[i]?=some x)(k:But D H0 H2):∃ h:i<es.length,Rep.has K H2 es[i] x:=by
 obtain ⟨e,h1,h2⟩:=hw.get hx;have hi:=(aZ.mp h1).1;refine #[hi,?_];have z:es[i]=e:=(aZ.mp h1).2;rw[z];obtain ⟨a,x1,x2,rfl,q,e1,e2⟩:=(show hasP K H0 e x from h2);exact #[a,x1,x2,rfl,k _ _ (au q hD) q,e1,e2]
def KH (T:Txt K mg)(yi:DF K mg "labels" pG qX)(Nv:FC P w K mg base 1 "code" qU (v9 K))(Nx:FC P w K mg base 2 "turned" qW (wj K)):FC P w K mg base 3 "labels" qX (wq K):=by
 refine yi.ok qL (λvs H Q E h=>?_) (λf cdv A outer s H vs Q E hr h=>?_)
 .obtain ⟨a,ws,es,rfl,_⟩:=h;rfl
 obtain ⟨a,ws,es,rfl,hS,hw,hz,he,hri,q⟩:=h;have hlen:=hw.length;refine #[_,(aF (j8 (i:=1) (N:=["entry"]) (own:=1) (cap:=[]) qL.nd rfl rfl rfl (c8 (pv 0)) #[rfl,rfl,rfl,rfl,rfl,rfl] (λ_ _ _ _ _=>(aQ (i:=0) (show List.Nodup (["entry"]:List Str) by decide +kernel) rfl (av rfl))) (λ_ _ _ _ _=>dN) (λ_ _ _ _ _=>(az Nv hr (aa (pv 0) ab))))
   (aF (ck PassesOwn.never rfl (fW rfl T.dR (aa (jx rfl T.Nq) ab)) (aQ (i:=2) qL.nd rfl (av rfl)) (ao (aI (i:=1) qL.nd rfl (av rfl) (az Nx hr (aa (pv 1) ab)))))
   (ao (aJ (pv 1))))),?_]
 refine #[_,rfl,a,rfl,#[_,hS],λD hD=>?_];have k0:But D H (upd H D (.lst [])):=λb o n e=>by rw[ah n];exact e
 refine eZ (xs:=ws) (λi U H2=>∃ x0:Option V,U=[x0]/\H2 D=some (.lst (((dj es).take i).map nV))/\But D H H2) ?_ ?_ ?_ ?_
 .exact #[_,rfl,af,k0]
 .rintro i U H2 _ ⟨x0,rfl,_,k2⟩;exact k2.sq hS hD
 .rintro i m x U H2 hx hm ⟨x0,rfl,h2,k2⟩;obtain ⟨hi,hhas⟩:=KG hD hw hx k2;refine d3 ?_;refine #[_,rfl,x,es[i],rfl,hhas,?_];refine #[_,h2,a0 (by rw[ai,bw,gZ];lia),m-1,by lia,by lia,_,rfl,?_,λb o n e=>by rw[ah n];exact k2 b o n e];rw[af,KF hi,bq,<-sJ (he _ (cE hi))];rfl
 .rintro U H2 ⟨x0,rfl,h2,k2⟩;have e0:H2 D=some (.lst ((dj es).map nV)):=by
   rw[h2,bA (by rw[gZ];lia)]
  have same0:Same H H2:=λb o e=>k2 b o (au e hD) e;refine #[5,rfl,by decide,by decide,?_];refine ff (n:=5) (λi U H3=>∃(p:Addr) (x2 x3:Option V),U=[some (.ref a),some (.ref p),x2]/\H p=none/\Same H H3/\H3 p=some (.lst ((dB i (dj es)).map nV))) ?_ ?_ ?_
  .exact #[D,_,none,rfl,hD,same0,e0]
  .rintro i U H3 hi ⟨p,x2,x3,rfl,hp,s3,h3⟩;refine #[_,rfl,p,_,rfl,SqL.of h3,kU (wo he hri) i,by rw[sL,gZ];exact hz,λp4 H4 hp4 s4 h4=>?_];exact #[p4,_,none,rfl,s3.free hp4,s3.trans s4,h4]
  .rintro U H3 ⟨p,x2,x3,rfl,hp,s3,h3⟩;refine #[_,rfl,?_];exact q p H3 hp s3 h3
def fY {n d i:Nat}:HT.sIx n d (some (i:Int))=min i n:=by
 unfold HT.sIx;simp
 try lia
def De (xs:List V)(a b:Nat):cutV xs (some (a:Int)) (some (b:Int))=(xs.drop a).take (b-a):=by
 unfold cutV;rw[fY,fY];by_cases h:a<=xs.length
 .rw[jf h];by_cases h2:b<=xs.length
  .rw[jf h2]
  .rw[oq (by lia),bA (by rw[d8];exact aj _),bA (by rw[d8];lia)]
 .rw[oq (show xs.length<=a by lia),gH (aj _),gH (show xs.length<=a by lia)];simp
def Df {α:Type}(xs:List α)(k:Nat):(xs.drop k).take 1=xs[k]?.toList:=by
 by_cases h:k<xs.length
 .rw[List.drop_eq_getElem_cons h,aC h];rfl
 .rw[gH (by lia),eG (by lia)];rfl
def KI {k:Nat}{i j:Int}(hi:i=if (k:Int)-1>0 then (k:Int)-1 else 0)(hj:j=(k:Int)):cutV xs (some i) (some j)=(if k=0 then none else xs[k-1]?).toList:=by
 subst hj;have e:i=((k-1:Nat):Int):=by
  rw[hi];split<;>lia
 subst e;rw[De];split
 .rename_i h;subst h;simp
 .rw[show k-(k-1)=1 by lia,Df]
def KJ {k:Nat}{i j:Int}(hi:i=(k:Int)+1)(hj:j=(k:Int)+2):cutV xs (some i) (some j)=xs[k+1]?.toList:=by
 subst hi hj;rw[show (k:Int)+1=((k+1:Nat):Int) by lia,show (k:Int)+2=((k+2:Nat):Int) by lia,De,show k+2-(k+1)=1 by lia,Df]
def KL (xs:List Nat)(k:Nat):(if k=0 then none else (xs.map nV)[k-1]?).toList++(xs.map nV)[k+1]?.toList=(cX xs k).map nV:=by
 unfold cX;rw[bq,bj,bj];congr 1
 .split
  .rfl
  .cases xs[k-1]?<;>rfl
 .cases xs[k+1]?<;>rfl
def But.new {p b:Addr}(k:But p H H2)(hb:H2 b=none)(o:HO):But p H (upd H2 b o):=λx o' n e=>(aD hb o) x o' (k x o' n e)
inductive wt (K:Frag)(vs:List V)(H:Hp)(Q:VK)(w_1:XK):Prop
 | c:∀(a:Addr) (xs:List Nat),vs=[.ref a]->SqL K H a (xs.map nV)->Unl xs->dA 6 xs->xs.length<=1000->(∀(p:Addr) (H':Hp),H p=none->Same H H'->H' p=some (.lst ((colL xs).map nV))->Q (.ref p) H')->wt K vs H Q w_1
def du (es:List (Int×Int)):List Bool:=gX (colL (dB 5 (dj es)))
def g5 (es:List (Int×Int)):(du es).length=es.length:=by
 unfold du;rw[CV,CT,sL,gZ]
def wx {es:List (Int×Int)}(he:∀ e∈es,d4 64 e)(hri:Rise es):Unl (dB 5 (dj es)):=kU (wo he hri) 5
def Dg {es:List (Int×Int)}(he:∀ e∈es,d4 64 e)(hri:Rise es):dA 6 (dB 5 (dj es)):=KD (wo he hri) (KE he)
def KM {xs:List Nat}(h:dA 6 xs):∀ i x,atZ xs i=some x->x<=5:=λi x e=>by
 obtain ⟨h0,h1⟩:=vS e;have:=h i.toNat (by lia);unfold atZ at e;rw[aq h0]at e;rw[aH,e]at this;exact Nat.lt_succ_iff.mp this
def wz {es:List (Int×Int)}(he:∀ e∈es,d4 64 e)(hri:Rise es):iS (du es):=JO (CU (unlZ (wx he hri))) (JK (KM (Dg he hri)))
inductive wA (K:Frag)(vs:List V)(H:Hp)(Q:VK)(w_1:XK):Prop
 | c:∀(a:Addr) (ws:List V) (es:List (Int×Int)),vs=[.ref a]->H a=some (.lst ws)->aA K H es ws->es.length<=1000->(∀ e∈es,d4 64 e)->Rise es->(∀(p:Addr) (H':Hp),H p=none->Same H H'->H' p=some (.lst ((du es).map V.bl))->Q (.ref p) H')->wA K vs H Q w_1
inductive sN (K:Frag)(vs:List V)(H:Hp)(Q:VK)(w_1:XK):Prop
 | c:∀(a:Addr) (ws:List V) (es:List (Int×Int)),vs=[.ref a]->H a=some (.lst ws)->aA K H es ws->es.length<=1000->(∀ e∈es,d4 64 e)->Rise es->(∀(p:Addr) (H':Hp),H p=none->Same H H'->H' p=some (.lst (cH ws (du es)))->Q (.ref p) H')->sN K vs H Q w_1
def Dh (o:Option Bool):o.toList.any id=o.getD false:=by
 cases o with
 | none=>rfl
 | some b=>cases b<;>rfl
def KN (ms:List Bool):inV (.bl true) (ms.map V.bl)=ms.any id:=by
 unfold inV
 induction ms with
 | nil=>rfl
 | cons m ms ih=>
  rw[bK,gB,ih,gB];cases m<;>rfl
def KO (ms:List Bool):(ms.map V.bl).all eY=true:=by
 rw[eI];intro x hx;obtain ⟨n,_,rfl⟩:=cC.mp hx;rfl
def Di {α:Type}{as:List α}{bs:List Bool}{a:α}{b:Bool}(h:as.length=bs.length):cH (as++[a]) (bs++[b])=cH as bs++(if b=true then [a] else []):=by
 unfold cH;rw[List.zip_append h,c5,bq];congr 1;cases b<;>rfl
def KP {α:Type}(as:List α)(bs:List Bool):(cH as bs).length<=as.length:=by
 unfold cH;rw[ai];refine bS (dW _ _) ?_;rw[oi];lia
def sO {α:Type}[Rep α]{K:Frag}:∀{es:List α} {ws:List V} {ms:List Bool},aA K H es ws->aA K H (cH es ms) (cH ws ms)
 | _,_,_,.nil=>by
  unfold cH;exact .nil
 | e::es,w::ws,[],.cons h t=>by
  unfold cH;exact .nil
 | e::es,w::ws,m::ms,.cons h t=>by
  have:=sO (ms:=ms) t;unfold cH at this ⊢;cases m with
  | false=>exact this
  | true=>exact .cons h this
def Dj (bs:List Nat)(c:Nat):((List.range (c+1)).filter λc=>!decide (c∈bs))=((List.range c).filter λc=>!decide (c∈bs))++(if c∈bs then [] else [c]):=by
 rw[jg,c5];congr 1;by_cases h:c∈bs
 .rw[aq h];simp[List.filter,h]
 .rw[ak h];simp[List.filter,h]
def Dk {H:Hp}{p t:Addr}{xs ys:List V}(h1:H p=some (.lst xs))(h2:H t=some (.tup ys)):p≠t:=λz=>by
 rw[z,h2]at h1;cases h1
def m5 {n k:Nat}(h:k<n):ixN n (k:Int)=some k:=by
 unfold ixN;simp;lia
def besV (xs:List V)(k:Nat):List V:=(if k=0 then none else xs[k-1]?).toList++xs[k+1]?.toList
def KQ (xs:List V)(k:Nat):(besV xs k).length<=2:=by
 have e:∀ o:Option V,o.toList.length<=1:=λo=>by cases o<;>simp
 unfold besV;rw[bg];have:=e (if k=0 then none else xs[k-1]?)
 have:=e xs[k+1]?;lia
inductive spNb (K:Frag)(vs:List V)(H:Hp)(Q:VK)(w_1:XK):Prop
 | c:∀(a:Addr) (xs:List V) (k:Nat),vs=[.ref a,.int k]->H a=some (.lst xs)->(∀(g:Addr) (H':Hp),H g=none->Same H H'->H' g=some (.lst (besV xs k))->Q (.ref g) H')->spNb K vs H Q w_1
def KR (T:Txt K mg)(yj:DF K mg "neighbours" pH mJ):FC P w K mg base 1 "neighbours" mJ (spNb K):=by
 refine yj.ok IW (λvs H Q E h=>?_) (λf cdv A outer s H vs Q E hr h=>?_)
 .obtain ⟨a,xs,k,rfl,_⟩:=h;rfl
 obtain ⟨a,xs,k,rfl,ha,q⟩:=h;refine #[_,(ao (aJ (aG Gp (fZ (ph (K:=K)) (pv 0) (fg (aP (uI rfl) rfl T.xZ boot_max (aa (aG dI (pv 1) ag) (aa ag ab)))) (fg (pv 1))) (fZ (ph (K:=K)) (pv 0) (fg (aG cz (pv 1) ag)) (fg (aG cz (pv 1) ag)))))),?_];refine #[_,rfl,_,rfl,_,_,rfl,rfl,_,_,rfl,_,rfl,_,rfl,_,rfl,_,_,rfl,SqL.of ha,λb hb=>?_];have kb:=aD hb (.lst (cutV xs (some (if 0>(k:Int)-1 then 0 else (k:Int)-1)) (some (k:Int))))
 have hbb:upd H b (.lst (cutV xs (some (if 0>(k:Int)-1 then 0 else (k:Int)-1)) (some (k:Int)))) b=some (.lst (if k=0 then none else xs[k-1]?).toList):=by
  rw[af,KI (k:=k) (by split<;>split<;>lia) rfl]
 generalize upd H b (.lst (cutV xs (some (if 0>(k:Int)-1 then 0 else (k:Int)-1)) (some (k:Int))))=H3 at kb hbb ⊢
 refine #[_,rfl,_,rfl,_,_,rfl,rfl,_,rfl,_,rfl,_,_,rfl,rfl,_,rfl,_,_,rfl,SqL.of (kb _ _ ha),λc hc=>?_];have kc:=aD hc (.lst (cutV xs (some ((k:Int)+1)) (some ((k:Int)+2))));have hcb:=kc _ _ hbb;have hcc:upd H3 c (.lst (cutV xs (some ((k:Int)+1)) (some ((k:Int)+2)))) c=some (.lst xs[k+1]?.toList):=by
  rw[af,KJ (k:=k) rfl rfl]
 generalize upd H3 c (.lst (cutV xs (some ((k:Int)+1)) (some ((k:Int)+2))))=H4 at kc hcb hcc ⊢;refine #[b,c,_,_,rfl,rfl,hcb,hcc,?_,λg hg=>?_]
 .rw[<-bg];exact bS (KQ xs k) (by decide)
 exact q g _ (kb.free (kc.free hg)) (kb.trans (kc.trans (aD hg _))) af
inductive wB (K:Frag)(vs:List V)(H:Hp)(Q:VK)(w_1:XK):Prop
 | c:∀(a:Addr) (xs:List Nat) (k:Nat),vs=[.ref a]->H a=some (.lst ((cX xs k).map nV))->(∀ H':Hp,Same H H'->Q (.int (gg xs k:Nat)) H')->wB K vs H Q w_1
def KS (T:Txt K mg)(yk:DF K mg "least_free" pI qY):FC P w K mg base 1 "least_free" qY (wB K):=by
 refine yk.ok IX (λvs H Q E h=>?_) (λf cdv A outer s H vs Q E hr h=>?_)
 .obtain ⟨a,xs,k,rfl,_⟩:=h;rfl
 obtain ⟨a,xs,k,rfl,ha,q⟩:=h;refine #[_,(ao (aJ (aP (Hm rfl) rfl T.x9 boot_min (aa (de (N:=["colour","taken"]) (own:=1) (cap:=[0]) rfl (gJ (cm (aa ag (aa ag (aa ag ab))))) #[rfl,rfl,rfl,rfl,rfl,rfl] (λ_ _ _ _ _=>(aQ (i:=0) (show List.Nodup (["colour","taken"]:List Str) by decide +kernel) rfl (av rfl))) (λ_ _ _ _ _=>(gO (aV (pe (K:=K)) (pv 0) (pv 1) (by with_unfolding_all rfl)))) (λ_ _ _ _ _=>(pv 0))) ab)))),?_]
 refine #[(by show 3<=sizeLine;decide),λt ht=>?_];have st:=aD ht (.tup [V.int 0,V.int 1,V.int 2]);have ht1:upd H t (.tup [V.int 0,V.int 1,V.int 2]) t=some (.tup [V.int 0,V.int 1,V.int 2]):=af;generalize upd H t (.tup [V.int 0,V.int 1,V.int 2])=H1 at st ht1 ⊢;have h1a:=st _ _ ha;refine #[t,rfl,#[_,SqT.of ht1],λD hD=>?_];refine jy (xs:=[V.int 0,V.int 1,V.int 2]) (λc U H6=>∃ x0:Option V,U=[x0,some (.ref a)]/\H6 D=some (.lst (((List.range c).filter λc=>!decide (c∈cX xs k)).map nV))/\But D H1 H6) ?_ ?_ ?_ ?_
 .exact #[_,rfl,af,λb o n e=>by rw[ah n];exact e]
 .rintro i U H6 _ ⟨x0,rfl,_,k6⟩;exact SqT.of (k6 _ _ (au ht1 hD) ht1)
 .rintro c m x U H6 hx hm ⟨x0,rfl,h6,k6⟩;obtain ⟨hi,rfl⟩:c<3/\x=V.int (c:Int):=by
   rcases c with _|_|_|c
   .exact #[by decide,(aM hx).symm]
   .exact #[by decide,(aM hx).symm]
   .exact #[by decide,(aM hx).symm]
   .cases hx
  have h6g:=k6 _ _ (au h1a hD) h1a;have hlen:=dW (λc=>!decide (c∈cX xs k)) (List.range c);rw[cU]at hlen;refine #[_,rfl,_,rfl,_,_,rfl,.inl (SqL.of h6g),rfl,we _,_,rfl,?_];show if (!inV (.int (c:Int)) ((cX xs k).map nV))=true then _ else _
  rw[wg];have hm3:c+m=3:=hm;refine ite2 (λe=>?_) (λe=>?_)
  .have e':c∉cX xs k:=λz=>by
    rw[aO z]at e;cases e
   refine #[_,rfl,_,h6,a0 (by rw[ai];lia),m-1,by lia,(by show c+1+(m-1)=3;lia),_,rfl,?_,λb o n e=>by rw[ah n];exact k6 b o n e];rw[af,Dj,ak e',bq];rfl
  .have e':c∈cX xs k:=lL λz=>e (by rw[aU z];rfl);refine #[m-1,by lia,(by show c+1+(m-1)=3;lia),_,rfl,?_,k6];rw[h6,Dj,aq e',cB]
 .rintro U H6 ⟨x0,rfl,h6,k6⟩;have h6:H6 D=some (.lst (((List.range 3).filter λc=>!decide (c∈cX xs k)).map nV)):=h6;have s6:Same H1 H6:=λb o e=>k6 b o (au e hD) e;have mem:∀ c,c∈((List.range 3).filter λc=>!decide (c∈cX xs k))↔c<3/\c∉cX xs k:=λc=>by
   rw[d7,eU];constructor
   .rintro ⟨h1,h2⟩;refine #[h1,λz=>?_];rw[aO z]at h2;cases h2
   .rintro ⟨h1,h2⟩;exact #[h1,by rw[aU h2];rfl]
  have hf:gg xs k∈((List.range 3).filter λc=>!decide (c∈cX xs k)):=(mem _).mpr #[Nat.lt_succ_of_le (JS xs k),JQ];refine #[D,((List.range 3).filter λc=>!decide (c∈cX xs k)).map λn:Nat=>(n:Int),rfl,?_,?_,λM hM hL=>?_]
  .rw[fA];exact SqL.of h6
  .rw[ai];exact List.length_pos_of_mem hf
  have eM:M=(gg xs k:Int):=by
   have h1:=hL _ (cC.mpr #[_,hf,rfl]);obtain ⟨c,hc,rfl⟩:=cC.mp hM;have h2:¬ c<gg xs k:=λz=>((mem c).mp hc).2 (JR z);lia
  rw[eM];exact q _ (st.trans s6)
def KU (xs:List Nat)(k:Nat):besV (xs.map nV) k=(cX xs k).map nV:=KL xs k
def KW (T:Txt K mg)(yl:DF K mg "colours" pJ qZ)(ym:FC P w K mg base 1 "neighbours" mJ (spNb K))(Ny:FC P w K mg base 1 "least_free" qY (wB K)):FC P w K mg base 3 "colours" qZ (wt K):=by
 refine yl.ok qM (λvs H Q E h=>?_) (λf cdv A outer s H vs Q E hr h=>?_)
 .obtain ⟨a,xs,rfl,_⟩:=h;rfl
 obtain ⟨a,xs,rfl,hS,hu,hb,hz,q⟩:=h;refine #[_,(aF (aI (i:=1) qM.nd rfl (av rfl) (c9 (iN (K:=K)) rfl T.eR boot_list (aa (pv 0) ab)))
   (aF (ck PassesOwn.never rfl (gJ (cm (aa ag (aa ag (aa ag ab))))) (aQ (i:=2) qM.nd rfl (av rfl)) (ao (ck PassesOwn.never rfl (fW rfl T.dR (aa (aP (bH (K:=K)) rfl T.bG bE (aa (pv 0) ab)) ab)) (aQ (i:=3) qM.nd rfl (av rfl)) (ao (bp (aV d9 (ax (bh (K:=K)) (pv 1) (pv 3) (λ_ _=>rfl)) (pv 2) (aY _)) (ao (j5 (az Ny hr (aa (az ym hr (aa (pv 1) (aa (pv 3) ab))) ab)) (l6 (pv 1) (pv 3) md))) bx)))))
   (ao (aJ (pv 1))))),?_]
 refine #[_,rfl,a,_,rfl,.inl hS,λp hp=>?_];have k0:But p H (upd H p (.lst (xs.map nV))):=λb o n e=>by rw[ah n];exact e
 refine #[(by show 3<=sizeLine;decide),λt ht=>?_];have npt:p≠t:=au af ht;refine #[t,rfl,#[_,SqT.of af],?_];refine uE (xs:=[V.int 3,V.int 4,V.int 5]) (λi U H2=>∃ x2 x3:Option V,U=[some (.ref a),some (.ref p),x2,x3]/\H2 p=some (.lst ((colN xs i).map nV))/\H2 t=some (.tup [V.int 3,V.int 4,V.int 5])/\But p H H2) ?_ ?_ ?_ ?_
 .exact #[_,_,rfl,by rw[ah npt];exact af,af,k0.new ht _]
 .rintro i U H2 _ ⟨x2,x3,rfl,_,h2t,_⟩;exact SqT.of h2t
 .rintro i x U H2 hx ⟨x2,x3,rfl,h2,h2t,k2⟩;obtain ⟨hi,rfl⟩:i<3/\x=V.int ((3+i:Nat):Int):=by
   rcases i with _|_|_|i
   .exact #[by decide,(aM hx).symm]
   .exact #[by decide,(aM hx).symm]
   .exact #[by decide,(aM hx).symm]
   .cases hx
  have hyl:=J5 xs i;have hyu:=J6 hu i;have hnx:colN xs (i+1)=recL (3+i) (colN xs i):=rfl;rw[hnx];generalize colN xs i=ys at h2 hyl hyu ⊢;generalize 3+i=v;have hSa:SqL K H2 a (xs.map nV):=k2.sq hS hp;refine #[_,rfl,_,_,rfl,.inl hSa,_,rfl,by rw[ai];lia,by rw[ai];lia,?_];have el:((((xs.map nV).length:Nat):Int)).toNat=ys.length:=by rw[ai,fR,hyl]
  rw[el];refine ff (n:=ys.length) (λk U H3=>∃ x3:Option V,U=[some (.ref a),some (.ref p),some (.int v),x3]/\H3 p=some (.lst ((mixL v ys k).map nV))/\H3 t=some (.tup [V.int 3,V.int 4,V.int 5])/\But p H H3) ?_ ?_ ?_
  .exact #[_,rfl,h2,h2t,k2]
  .rintro k U H3 hk ⟨x3,rfl,h3,h3t,k3⟩;rw[jW];have ml:=C0 v ys k;have eg:(mixL v ys k).getD k 0=ys.getD k 0:=by
    rw[aH,C1 (aj k),<-aH]
   have hat:atI ((mixL v ys k).map nV) (k:Int)=some (nV (ys.getD k 0)):=by
    rw[<-eg];exact gY (by lia)
   refine #[_,rfl,_,rfl,_,_,_,_,rfl,rfl,SqL.of h3,hat,_,rfl,rfl,_,rfl,?_];refine ite2 (λc=>?_) (λc=>?_)
   .have c':ys.getD k 0=v:=by
     have:=V.int.inj (bW c);lia
    refine #[_,rfl,_,rfl,p,_,k,rfl,h3,λg H4 hg s4 h4=>?_];rw[KU,JW hyu hk c']at h4;refine #[g,ys,k,rfl,h4,λH5 s5=>?_];have s35:=s4.trans s5;have same:∀ b o,b≠p->H3 b=some o->upd H5 p (.lst (((mixL v ys k).map nV).set k (nV (gg ys k)))) b=some o:=λb o n e=>by
     rw[ah n];exact s35 _ _ e
    refine #[_,rfl,_,rfl,_,_,_,k,rfl,rfl,s35 _ _ h3,m5 (by rw[ai,ml];exact hk),?_];refine #[_,rfl,?_,same _ _ (bf (Dk h3 h3t)) h3t,λb o n e=>same _ _ n (k3 b o n e)];rw[af,JX hk c',lY]
   .have c':ys.getD k 0≠v:=λz=>c (by rw[z];exact aO rfl);exact #[_,rfl,by rw[JU hk c'];exact h3,h3t,k3]
  .rintro U H3 ⟨x3,rfl,h3,h3t,k3⟩;rw[JT (aj _)]at h3;exact #[_,_,rfl,h3,h3t,k3]
 .rintro U H2 ⟨x2,x3,rfl,h2,_,k2⟩;refine #[_,rfl,?_];exact q p H2 hp (λb o e=>k2 b o (au e hp) e) h2
def fL (ms:List Bool)(k:Nat):Bool:=!ms.getD (k-1) false && !ms.getD (k+1) false
def besB (ms:List Bool)(k:Nat):List Bool:=(if k=0 then none else ms[k-1]?).toList++ms[k+1]?.toList
def KY (ms:List Bool)(k:Nat):besV (ms.map V.bl) k=(besB ms k).map V.bl:=by
 unfold besV besB;rw[bq,bj,bj];congr 1
 .split
  .rfl
  .cases ms[k-1]?<;>rfl
 .cases ms[k+1]?<;>rfl
def KZ {k:Nat}(h:1<=k):(besB ms k).any id=!fL ms k:=by
 unfold besB fL;rw[ak (by lia),List.any_append,Dh,Dh,aH,aH];generalize ms[k-1]?.getD false=x;generalize ms[k+1]?.getD false=z;cases x<;>cases z<;>rfl
def K0 {sh:Nat}{ms:List Bool}(hu:Unl cs)(hl:cs.length=ms.length){k:Nat}(h:k<cs.length)(h1:1<=k)(hs:cs.getD k 0=sh):fL (mixM sh cs ms k) k=fL ms k:=by
 unfold fL;have e:∀ j,k<=j->(mixM sh cs ms k).getD j false=ms.getD j false:=λj hj=>by
  rw[aH,aH,iU hl,ak (by lia)]
 rw[e (k+1) (by lia)];have e2:(mixM sh cs ms k).getD (k-1) false=ms.getD (k-1) false:=by
  rw[aH,iU hl,aq (by lia),sE hl (by lia)];have:=hu (k-1) (by lia);rw[show k-1+1=k by lia,hs]at this;rw[aU this];simp
 rw[e2]
def Dl {sh:Nat}{cs:List Nat}{ms:List Bool}(hl:cs.length=ms.length){k:Nat}(h:k<cs.length)(hn:¬ (cs.getD k 0=sh/\fL ms k=true)):mixM sh cs ms (k+1)=mixM sh cs ms k:=by
 apply gE;intro j;rw[iU hl,iU hl];by_cases c:j<k
 .rw[aq c,aq (by lia)]
 .rw[ak c];split
  .have:j=k:=by lia
   subst this;rw[sE hl h];unfold fL at hn;rw[aC (by lia)];have e:ms.getD j false=ms[j]'(by lia):=by
    rw[aH,aC (by lia)];rfl
   rw[e];congr 1;generalize ms[j]=a;generalize ms.getD (j-1) false=b at hn ⊢;generalize ms.getD (j+1) false=d at hn ⊢;by_cases z:cs.getD j 0=sh
   .have hn':¬ ((!b && !d)=true):=λy=>hn #[z,y];cases b with
    | true=>simp
    | false=>
     cases d with
     | true=>simp
     | false=>exact absurd rfl hn'
   .rw[aU z];simp
  .rfl
def K1 {sh:Nat}{cs:List Nat}{ms:List Bool}(hl:cs.length=ms.length){k:Nat}(h:k<cs.length)(hp:1<=k/\cs.getD k 0=sh/\fL ms k=true):mixM sh cs ms (k+1)=(mixM sh cs ms k).set k true:=by
 apply gE;intro j;rw[jV,C4 hl,iU hl,iU hl];by_cases c:k=j
 .subst c;rw[aq rfl,aq h,aq (by lia),sE hl h];obtain ⟨p1,p2,p3⟩:=hp;unfold fL at p3;simp only[il,nX]at p3;rw[p2,p3.1,p3.2,aO p1];simp
 .rw[ak c];by_cases c2:j<k
  .rw[aq c2,aq (by lia)]
  .rw[ak c2,ak (by lia)]
def K2 (T:Txt K mg)(yn:DF K mg "marks" pK q0)(Nz:FC P w K mg base 3 "labels" qX (wq K))(NF:FC P w K mg base 3 "colours" qZ (wt K))(ym:FC P w K mg base 1 "neighbours" mJ (spNb K)):FC P w K mg base 5 "marks" q0 (wA K):=by
 refine yn.ok mC (λvs H Q E h=>?_) (λf cdv A outer s H vs Q E hr h=>?_)
 .obtain ⟨a,ws,es,rfl,_⟩:=h;rfl
 obtain ⟨a,ws,es,rfl,ha,hw,hz,he,hri,q⟩:=h;refine #[_,(aF (aI (i:=1) mC.nd rfl (av rfl) (az NF hr (aa (az Nz hr (aa (pv 0) ab)) ab)))
   (aF (j8 (i:=2) (N:=["tint"]) (own:=1) (cap:=[]) mC.nd rfl rfl rfl (c8 (pv 1)) #[rfl,rfl,rfl,rfl,rfl,rfl] (λ_ _ _ _ _=>(aQ (i:=0) (show List.Nodup (["tint"]:List Str) by decide +kernel) rfl (av rfl))) (λ_ _ _ _ _=>dN) (λ_ _ _ _ _=>cL))
   (aF (ck PassesOwn.never rfl (gJ (cm (aa ag (aa ag (aa ag ab))))) (aQ (i:=3) mC.nd rfl (av rfl)) (ao (ck PassesOwn.never rfl (j6 rfl T.dR (aa ag (aa (aP (bH (K:=K)) rfl T.bG bE (aa (pv 1) ab)) ab))) (aQ (i:=4) mC.nd rfl (av rfl)) (ao (bp (PW.pt (ix (aV d9 (ax (bh (K:=K)) (pv 1) (pv 4) (λ_ _=>rfl)) (pv 3) (aY _)) (iw (aV (pe (K:=K)) cL (az ym hr (aa (pv 2) (aa (pv 4) ab))) (by with_unfolding_all rfl))))) (ao (j5 cL (l6 (pv 2) (pv 4) md))) bx)))))
   (ao (aJ (pv 2)))))),?_]
 refine #[_,rfl,a,ws,es,rfl,SqL.of ha,hw,hz,he,hri,λp H3 hp s3 h3=>?_];refine #[p,_,rfl,SqL.of h3,wx he hri,Dg he hri,by rw[sL,gZ];exact hz,λc H4 hc s4 h4=>?_];have cu:Unl (colL (dB 5 (dj es))):=CO (CU (unlZ (wx he hri)));have cl:(colL (dB 5 (dj es))).length=es.length:=by rw[CT,sL,gZ]
 have fin:du es=mkN (colL (dB 5 (dj es))) 3:=(J7 _).symm;generalize colL (dB 5 (dj es))=cs at h4 cu cl fin;have s04:=s3.trans s4;refine #[_,rfl,c,rfl,#[_,SqL.of h4],λF hF=>?_];refine eZ (xs:=cs.map nV) (λi U H5=>∃ x0:Option V,U=[x0]/\H5 F=some (.lst ((List.replicate i false).map V.bl))/\But F H4 H5) ?_ ?_ ?_ ?_
 .exact #[_,rfl,af,λb o n e=>by rw[ah n];exact e]
 .rintro i U H5 _ ⟨x0,rfl,_,k5⟩;exact k5.sq (SqL.of h4) hF
 .rintro i m x U H5 hx hm ⟨x0,rfl,h5,k5⟩;have hi:=(aZ.mp hx).1;rw[ai]at hi hm;refine d3 ?_;refine #[_,h5,a0 (by rw[ai,gA];lia),m-1,by lia,by rw[ai];lia,_,rfl,?_,λb o n e=>by rw[ah n];exact k5 b o n e];rw[af,ou,bq];rfl
 rintro U H5 ⟨x0,rfl,h5,k5⟩;have s45:Same H4 H5:=λb o e=>k5 b o (au e hF) e;have h5c:=s45 _ _ h4;have nFc:c≠F:=au h4 hF;have hF0:H F=none:=s04.free hF;have k05:But F H H5:=λb o _ e=>s45 _ _ (s04 _ _ e);have e5:H5 F=some (.lst ((mkN cs 0).map V.bl)):=by
  rw[h5,mkN,ai,show List.replicate cs.length false=cs.map (λ_=>false) from by rw[List.map_const']]
 refine #[(by show 3<=sizeLine;decide),λt ht=>?_];have st:=aD ht (.tup [V.int 2,V.int 1,V.int 0]);refine #[t,rfl,#[_,SqT.of af],?_];refine uE (xs:=[V.int 2,V.int 1,V.int 0]) (λi U H6=>∃(x3 x4:Option V),U=[some (.ref a),some (.ref c),some (.ref F),x3,x4]/\H6 F=some (.lst ((mkN cs i).map V.bl))/\H6 c=some (.lst (cs.map nV))/\H6 t=some (.tup [V.int 2,V.int 1,V.int 0])/\But F H H6) ?_ ?_ ?_ ?_
 .exact #[_,_,rfl,st _ _ e5,st _ _ h5c,af,k05.new ht _]
 .rintro i U H6 _ ⟨x3,x4,rfl,_,_,h6t,_⟩;exact SqT.of h6t
 .rintro i x U H6 hx ⟨x3,x4,rfl,h6,h6c,h6t,k6⟩;obtain ⟨hi,rfl⟩:i<3/\x=V.int ((2-i:Nat):Int):=by
   rcases i with _|_|_|i
   .exact #[by decide,(aM hx).symm]
   .exact #[by decide,(aM hx).symm]
   .exact #[by decide,(aM hx).symm]
   .cases hx
  have hml:=J8 cs i;have hnx:mkN cs (i+1)=eh (2-i) cs (mkN cs i):=rfl;rw[hnx];generalize mkN cs i=ms at h6 hml ⊢;generalize 2-i=sh;refine #[_,rfl,_,_,rfl,.inl (SqL.of h6c),1,_,rfl,#[by lia,by lia,by rw[ai];lia,by rw[ai];lia],?_];have en:((((cs.map nV).length:Nat):Int)-1).toNat=cs.length-1:=by rw[ai];lia
  rw[en];have km:∀ k,(mixM sh cs ms k).length=cs.length:=C4 hml;refine ff (n:=cs.length-1) (λj U H7=>∃(x4:Option V),U=[some (.ref a),some (.ref c),some (.ref F),some (.int sh),x4]/\H7 F=some (.lst ((mixM sh cs ms (1+j)).map V.bl))/\H7 c=some (.lst (cs.map nV))/\H7 t=some (.tup [V.int 2,V.int 1,V.int 0])/\But F H H7) ?_ ?_ ?_
  .exact #[_,rfl,by rw[Ka hml];exact h6,h6c,h6t,k6]
  .rintro j U H7 hj ⟨x4,rfl,h7,h7c,h7t,k7⟩;have ek:(1:Int)+(j:Int)=((1+j:Nat):Int):=by lia
   have hk1:1<=1+j:=by lia
   have hkl:1+j<cs.length:=by lia
   rw[ek];have es1:1+(j+1)=1+j+1:=by lia
   rw[es1];generalize 1+j=k at h7 hk1 hkl ⊢;have hat:=gY (xs:=cs) hkl;have mc:cs.getD k 0=sh->fL (mixM sh cs ms k) k=fL ms k:=λz=>K0 cu hml hkl hk1 z;refine #[_,rfl,_,rfl,_,_,_,_,rfl,rfl,SqL.of h7c,hat,_,rfl,rfl,_,rfl,?_];refine ite2 (λe=>?_) (λe=>?_)
   .have e':cs.getD k 0=sh:=by
     have:=V.int.inj (bW e);lia
    refine #[_,rfl,_,rfl,F,_,k,rfl,h7,λb H8 hb sb hbb=>?_];rw[KY]at hbb;have kb:But F H H8:=λx o n e=>sb _ _ (k7 x o n e);refine #[_,_,rfl,.inl (SqL.of hbb),rfl,KO _,_,rfl,?_];show if (!inV (.bl true) ((besB (mixM sh cs ms k) k).map V.bl))=true then _ else _
    rw[KN,KZ hk1,mc e',Bool.not_not];refine ite2 (λy=>?_) (λy=>?_)
    .refine #[_,rfl,_,rfl,_,_,_,k,rfl,rfl,sb _ _ h7,m5 (by rw[ai,km];exact hkl),?_];have same:∀ b o,b≠F->H8 b=some o->upd H8 F (.lst (((mixM sh cs ms k).map V.bl).set k (.bl true))) b=some o:=λb o n e=>by
      rw[ah n];exact e
     refine #[_,rfl,?_,same _ _ (λz=>?_) (sb _ _ h7c),same _ _ (bf (Dk (sb _ _ h7) (sb _ _ h7t))) (sb _ _ h7t),λb o n e=>same _ _ n (kb b o n e)]
     .rw[af,K1 hml hkl #[hk1,e',y],lY]
     .exact nFc z
    .exact #[_,rfl,by rw[Dl hml hkl (λz=>y z.2)];exact sb _ _ h7,sb _ _ h7c,sb _ _ h7t,kb]
   .have e':cs.getD k 0≠sh:=λz=>e (by rw[z];exact aO rfl);refine iteF ?_;exact #[_,rfl,by rw[Dl hml hkl (λz=>e' z.1)];exact h7,h7c,h7t,k7]
  .rintro U H7 ⟨x4,rfl,h7,h7c,h7t,k7⟩;rw[J2 hml (by lia)]at h7;exact #[_,_,rfl,h7,h7c,h7t,k7]
 .rintro U H6 ⟨x3,x4,rfl,h6,_,_,k6⟩;refine #[_,rfl,?_];refine q F H6 hF0 (λb o e=>k6 b o (au e hF0) e) ?_;rw[fin];exact h6
def K3 {α:Type}:cH ([]:List α) []=[]:=rfl
def K5 {ms:List Bool}{i:Nat}{x:V}(h:(ms.map V.bl)[i]?=some x):∃ hi:i<ms.length,x=.bl ms[i]:=by
 rw[bj]at h;cases e:ms[i]? with
 | none=>rw[e]at h;cases h
 | some y=>
  rw[e]at h;obtain ⟨hi,rfl⟩:=aZ.mp e;exact #[hi,(aM h).symm]
def sR {α:Type}{l:List α}{i:Nat}(h:i<l.length):l.take (i+1)=l.take i++[l[i]]:=cy h
def K6 (T:Txt K mg)(yo:DF K mg "handed" pL mK)(NG:FC P w K mg base 5 "marks" q0 (wA K)):FC P w K mg base 6 "handed" mK (sN K):=by
 refine yo.ok IY (λvs H Q E h=>?_) (λf cdv A outer s H vs Q E hr h=>?_)
 .obtain ⟨a,ws,es,rfl,_⟩:=h;rfl
 obtain ⟨a,ws,es,rfl,ha,hw,hz,he,hri,q⟩:=h;have hwl:=hw.length;have hml:=g5 es;refine #[_,(ao (aJ (de (N:=["entry","mark"]) (own:=2) (cap:=[]) rfl (oZ rfl T.tY (aa (pv 0) (aa (az NG hr (aa (pv 0) ab)) ab))) #[rfl,rfl,rfl,rfl,rfl,rfl] (λ_ _ _ _ _=>(vh (K:=K) (n:=2) rfl (dH (aQ (i:=0) (show List.Nodup (["entry","mark"]:List Str) by decide +kernel) rfl (av rfl)) (dH (aQ (i:=1) (show List.Nodup (["entry","mark"]:List Str) by decide +kernel) rfl (av rfl)) iy)))) (λ_ _ _ _ _=>(gO (c6 (pv 1)))) (λ_ _ _ _ _=>(pv 0))))),?_];refine #[_,rfl,_,rfl,a,ws,es,rfl,ha,hw,hz,he,hri,λu H6 hu g6 h6u=>?_];have h6p:=g6 _ _ ha;generalize du es=ms at hml h6u q;refine #[a,u,rfl,#[_,SqL.of h6p],#[_,SqL.of h6u],λD hD=>?_];refine Bw (xs:=ws) (ys:=ms.map V.bl) (by rw[ai,hml];exact hwl.symm) (λj U H7=>∃ x0 x1:Option V,U=[x0,x1]/\H7 D=some (.lst (cH (ws.take j) (ms.take j)))/\But D H6 H7) ?_ ?_ ?_ ?_
 .exact #[_,_,rfl,by rw[oe,oe,K3];exact af,λb o n e=>by rw[ah n];exact e]
 .rintro j U H7 _ ⟨x0,x1,rfl,_,k7⟩;exact #[k7.sq (SqL.of h6p) hD,k7.sq (SqL.of h6u) hD]
 .rintro j m' x y U H7 r' hx hy hm' ⟨x0,x1,rfl,h7,k7⟩ hr';obtain ⟨hj,rfl⟩:=K5 hy;obtain ⟨hjw,rfl⟩:=aZ.mp hx;have hsn:=Di (a:=ws[j]) (b:=ms[j]) (show (ws.take j).length=(ms.take j).length by rw[bw,bw];lia);rw[<-sR hjw,<-sR hj]at hsn;refine #[r',_,rfl,SqT.of af,rfl,_,_,rfl,_,_,rfl,rfl,?_];have s7:=aD hr' (.tup [ws[j],.bl ms[j]]);have h8:=s7 _ _ h7;have k8:=k7.new hr' (.tup [ws[j],.bl ms[j]]);generalize upd H7 r' (.tup [ws[j],.bl ms[j]])=H8 at h8 k8 ⊢;refine #[_,rfl,_,rfl,?_];have hl8:=KP (ws.take j) (ms.take j);rw[bw]at hl8;refine ite2 (λe=>?_) (λe=>?_)
  .refine #[_,rfl,_,h8,a0 (by lia),m'-1,by lia,by lia,_,_,rfl,?_,λb o n e=>by rw[ah n];exact k8 b o n e];rw[af,hsn,aq e]
  .refine #[m'-1,by lia,by lia,_,_,rfl,?_,k8];rw[h8,hsn,ak e,cB]
 .rintro U H7 ⟨x0,x1,rfl,h7,k7⟩;rw[bA (aj _),bA (by lia)]at h7;have s7:Same H6 H7:=λb o e=>k7 b o (au e hD) e;exact q D H7 (g6.free hD) (g6.trans s7) h7
def fM {K:Frag}{H:Hp}{q:Addr}{zs:List V}(hq:H q=some (.lst zs)){es:List (Int×Int)}{ws:List V}(h:aA K H es ws):aA K (upd H q o) es ws:=pImp (λ_ _ h=>by
  obtain ⟨a,x1,x2,rfl,hT,e1,e2⟩:=(show hasP K H _ _ from h);exact #[a,x1,x2,rfl,by rw[ah (zH hT hq (by intro z;cases z))];exact hT,e1,e2]) h
def Own (K:Frag)(H:Hp):List Addr->List (List (Int×Int))->Prop:=Paired λq l=>∃ ws,H q=some (.lst ws)/\aA K H l ws
section
variable {K:Frag}{H H':Hp}
def Own.length {qs:List Addr}{ls:List (List (Int×Int))}(h:Own K H qs ls):qs.length=ls.length:=Paired.length h
def Own.ext (e:Ext H H'){qs:List Addr}{ls:List (List (Int×Int))}(h:Own K H qs ls):Own K H' qs ls:=pImp (λ_ _ h=>by
 obtain ⟨ws,h1,h2⟩:=h;exact #[ws,e _ _ h1 nofun,aA.mono e h2]) h
def Own.get:∀{qs:List Addr} {ls:List (List (Int×Int))} {i:Nat} {x:V},Own K H qs ls->(qs.map V.ref)[i]?=some x->∃ q l ws,qs[i]?=some q/\x=.ref q/\ls[i]?=some l/\H q=some (.lst ws)/\aA K H l ws
 | _,_,_,_,.nil,e=>by simp at e
 | _,_,0,_,.cons ⟨ws,h1,h2⟩ _,e=>by
  simp at e;exact #[_,_,ws,rfl,e.symm,rfl,h1,h2]
 | _,_,i+1,x,.cons _ t,e=>by
  obtain ⟨q,l,ws,h1,h2,h3,h4,h5⟩:=Own.get (i:=i) (x:=x) t (by simpa using e);exact #[q,l,ws,by simpa using h1,h2,by simpa using h3,h4,h5]
def Own.append {qs qs':List Addr}{ls ls':List (List (Int×Int))}(h:Own K H qs ls)(g:Own K H qs' ls'):Own K H (qs++qs') (ls++ls'):=pApp h g
def Own.other {q:Addr}{zs:List V}(hq:H q=some (.lst zs)){qs:List Addr}{ls:List (List (Int×Int))}(h:Own K H qs ls)(hn:q∉qs):Own K (upd H q o) qs ls:=by
 unfold Own at h
 induction h with
 | nil=>exact .nil
 | cons h _ ih=>
  obtain ⟨ws,h1,h2⟩:=h;rw[aW,not_or]at hn;exact .cons #[ws,by rw[ah (bf hn.1)];exact h1,fM hq h2] (ih hn.2)
end
def Dm {ls:List (List (Int×Int))}{i:Nat}{l:List (Int×Int)}(h:ls[i]?=some l):(ls.take (i+1)).flatten=(ls.take i).flatten++l:=by
 have hi:=(aZ.mp h).1;rw[cy hi,ox,(aZ.mp h).2];simp
def K7 {ls:List (List (Int×Int))}(i:Nat):(ls.take i).flatten.length<=ls.flatten.length:=by
 have e:ls.flatten=(ls.take i).flatten++(ls.drop i).flatten:=by rw[<-ox,eK]
 rw[e,bg];lia
inductive sS (K:Frag)(vs:List V)(H:Hp)(Q:VK)(w_1:XK):Prop
 | c:∀(a:Addr) (qs:List Addr) (ls:List (List (Int×Int))),vs=[.ref a]->H a=some (.lst (qs.map V.ref))->Own K H qs ls->ls.flatten.length<=63->(∀(p:Addr) (ws:List V) (H':Hp),H p=none->Same H H'->H' p=some (.lst ws)->aA K H' (dg ls.flatten) ws->Q (.ref p) H')->sS K vs H Q w_1
def K8 (T:Txt K mg)(yp:DF K mg "joined_up" pD mI):FC P w K mg base 1 "joined_up" mI (sS K):=by
 refine yp.ok vD (λvs H Q E h=>?_) (λf cdv A outer s H vs Q E hr h=>?_)
 .obtain ⟨a,qs,ls,rfl,_⟩:=h;rfl
 obtain ⟨a,qs,ls,rfl,ha,ho,hz,q⟩:=h;have hll:=ho.length;refine #[_,(aF (aI (i:=1) vD.nd rfl (av rfl) (cR ab))
   (aF (ck PassesOwn.never rfl (c8 (pv 0)) (aQ (i:=2) vD.nd rfl (av rfl)) (ao (cF (dY F.plainAttrs_list F.slot_list_extend F.type_list_extend Gn (pv 1) (aa (pv 2) ab)))))
   (ao (aJ (aP (vA (Int×Int)) rfl T.nA boot_sorted (aa (pv 1) ab)))))),?_]
 refine #[(by show 0<=sizeLine;decide),λt ht=>?_];have k0:But t H (upd H t (.lst [])):=λb o n e=>by rw[ah n];exact e
 refine #[_,rfl,a,rfl,#[_,SqL.of (k0 _ _ (au ha ht) ha)],?_];refine iz (xs:=qs.map V.ref) (λi U H2=>∃(zs:List V) (x2:Option V),U=[some (.ref a),some (.ref t),x2]/\H2 t=some (.lst zs)/\aA K H2 (ls.take i).flatten zs/\But t H H2/\Own K H2 qs ls) ?_ ?_ ?_ ?_
 .exact #[[],_,rfl,af,.nil,k0,ho.ext (aD ht _).ext]
 .rintro i U H2 _ ⟨zs,x2,rfl,h2,_,k2,_⟩;exact SqL.of (k2 _ _ (au ha ht) ha)
 .rintro i x U H2 hx ⟨zs,x2,rfl,h2,hw,k2,o2⟩;obtain ⟨g,l,ws,e1,rfl,e3,e4,e5⟩:=o2.get hx;have hlen:zs.length+ws.length<=1000:=by
   have z1:=hw.length;have z2:=e5.length;have z3:=K7 (ls:=ls) (i+1);rw[Dm e3,bg]at z3;lia
  have hgo:∀ b∈qs,b≠t:=λb hb z=>by
   obtain ⟨j,hj,rfl⟩:=dU hb;obtain ⟨_,_,ws0,f1,f2,_,f4,_⟩:=ho.get (i:=j) (x:=.ref qs[j]) (by rw[bj,aC hj];rfl);cases f2
   rw[z,ht]at f4;cases f4
  refine #[_,rfl,.inl #[rfl,_,SqL.of h2],_,rfl,t,g,zs,ws,rfl,rfl,h2,e4,eE (a0 hlen),?_];refine #[_,_,rfl,af,?_,λb o n e=>by rw[ah n];exact k2 b o n e,o2.other h2 (λz=>hgo t z rfl)];rw[Dm e3];exact (fM h2 hw).append (fM h2 e5)
 .rintro U H2 ⟨zs,x2,rfl,h2,hw,k2,o2⟩;rw[bA (by rw[ai];lia)]at hw;refine #[_,rfl,t,zs,_,rfl,SqL.of h2,hw,by lia,λl ws hl hs=>?_];have e2:=aD hl (.lst ws);have s2:Same H H2:=λb o e=>k2 b o (au e ht) e;exact q l ws _ (s2.free hl) (s2.trans e2) af (aA.mono e2.ext hs)
def bY (ps:List Nat):List V:=.non::ps.map nV
def parV (ps:List Nat)(k:Nat):V:=match par ps k with
 | none=>.non
 | some p=>nV p
def cN (ps:List Nat):(bY ps).length=ps.length+1:=by
 unfold bY;rw[cS,ai]
def jE {ps:List Nat}{k:Nat}(h:k<ps.length+1):atI (bY ps) (k:Int)=some (parV ps k):=by
 refine cG ?_;unfold bY parV;cases k with
 | zero=>rfl
 | succ k=>
  show (ps.map nV)[k]?=some (match ps[k]? with|none=>_|some p=>nV p)
  rw[bj,aC (show k<ps.length by lia)];rfl
def m6 {k p:Nat}(h:par ps k=some p):parV ps k=nV p:=by
 unfold parV;rw[h]
def wC {k:Nat}(h:par ps k=none):parV ps k=.non:=by
 unfold parV;rw[h]
def sT {k m:Nat}:parV ps k=.int (m:Int)↔par ps k=some m:=by
 cases e:par ps k with
 | none=>
  rw[wC e];exact #[nofun,nofun]
 | some p=>
  rw[m6 e];constructor
  .intro z;have:=Int.ofNat.inj (V.int.inj z);rw[this]
  .intro z;rw[aM z]
def Dn (ps:List Nat)(k:Nat)(i:Int):scal (parV ps k) (.int i)=true:=by
 cases e:par ps k with
 | none=>rw[wC e];rfl
 | some p=>rw[m6 e];rfl
def But.new' {p b:Addr}(k:But p H H2)(hb:H2 b=none)(o:HO):But p H (upd H2 b o):=λx o' n e=>(aD hb o) x o' (k x o' n e)
inductive wD (K:Frag)(vs:List V)(H:Hp)(Q:VK)(w_1:XK):Prop
 | c:∀(d L:Addr) (m:Int),vs=[.ref d,.int m]->(0<m/\m<=40)->LS K L d H->(∀(t:Addr) (ps:List Nat) (H':Hp),H t=none->aN ps->(ps.length:Int)<m->H' t=some (.tup (bY ps))->Keep d H H'->LS K L d H'->Q (.ref t) H')->wD K vs H Q w_1
def K9 {u:Nat}(T:aN ps)(h:u<=ps.length):aN (ps++[u]):=by
 intro i hi;rw[bg,cT]at hi;by_cases c:i<ps.length
 .rw[List.getElem_append_left c];exact T i c
 .have:i=ps.length:=by lia
  subst this;rw[List.getElem_append_right (aj _)];simp;exact h
def La (T:Txt K mg)(yq:DF K mg "_law_tree" qv rP)(bM:FC P w K mg base 2 "_law_take" fH (f9 K)):FC P w K mg base 3 "_law_tree" rP (wD K):=by
 refine yq.ok qP (λvs H Q E h=>?_) (λf cdv A outer s H vs Q E hr h=>?_)
 .obtain ⟨d,L,m,rfl,_⟩:=h;rfl
 obtain ⟨d,L,m,rfl,⟨hm0,hm1⟩,hs,q⟩:=h;refine #[_,(aF (aI (i:=2) qP.nd rfl (av rfl) (az bM hr (aa (pv 0) (aa ag ab))))
   (aF (aI (i:=3) qP.nd rfl (av rfl) (cR (aa oF ab)))
   (aF (ck PassesOwn.never rfl (j6 rfl T.dR (aa ag (aa (aG cz ag (az bM hr (aa (pv 0) (aa (pv 1) ab)))) ab))) (aQ (i:=4) qP.nd rfl (av rfl)) (ao (cF (dY F.plainAttrs_list F.slot_list_append F.type_list_append dZ (pv 3) (aa (ax (bh (K:=K)) (cR (aa (aG dI (pv 4) ag) (aa ag (aa (az bM hr (aa (pv 0) (aa (pv 4) ab))) (aa (aP (uI rfl) rfl T.xZ boot_max (aa ag (aa (aG dI (aG dI (pv 4) ag) (az bM hr (aa (pv 0) (aa ag ab)))) ab))) ab))))) (pv 2) (λ_ _=>rfl)) ab)))))
   (ao (aJ (c9 (gQ (K:=K)) rfl T.eS boot_tuple (aa (pv 3) ab))))))),?_]
 refine #[_,rfl,d,L,4,rfl,by decide,hs,λw1 H1 w0 w4 k1 s1=>?_];refine #[(by show 1<=sizeLine;decide),λp hp=>?_];have g0:=aD hp (.lst [V.non]);have hpd:p≠d:=by
  obtain ⟨ns,a,l,e,_⟩:=s1.ex;exact bf (au e hp)
 have hp0:H p=none:=by
  cases e:H p with
  | none=>rfl
  | some o=>
   have:=k1 p o hpd e;rw[hp]at this;cases this
 refine #[_,rfl,_,rfl,d,L,m,rfl,#[hm0,by lia],s1.same g0,λn H2 n0 n1 k2 s2=>#[_,_,rfl,rfl,1,_,rfl,#[by lia,by lia,by lia,by lia],?_]];have en:((1:Int)+n-1).toNat=n.toNat:=by lia
 rw[en];refine ff (n:=n.toNat) (λi U H3=>∃(ps:List Nat) (x4:Option V),U=[some (.ref d),some (.int m),some (.int w1),some (.ref p),x4]/\H3 p=some (.lst (bY ps))/\ps.length=i/\aN ps/\(∀ b o,b≠d->b≠p->H b=some o->H3 b=some o)/\LS K L d H3) ?_ ?_ ?_
 .exact #[[],_,rfl,k2 p _ hpd af,rfl,λi hi=>absurd hi (by simp),λb o n1 n2 e=>k2 b o n1 (g0 b o (k1 b o n1 e)),s2]
 .rintro i U H3 hi ⟨ps,x4,rfl,h3,rfl,hT,k3,s3⟩;have ek:(1:Int)+((ps.length:Nat):Int)=((ps.length+1:Nat):Int):=by lia
  rw[ek];refine #[_,rfl,.inl #[rfl,_,SqL.of h3],?_];refine #[_,rfl,_,_,rfl,rfl,_,rfl,_,rfl,d,L,_,rfl,#[by lia,by lia],s3,λv1 H4 v10 v11 k4 s4=>?_];refine #[_,rfl,_,_,rfl,rfl,_,rfl,d,L,2,rfl,by decide,s4,λv2 H5 v20 v21 k5 s5=>#[_,_,rfl,rfl,_,_,rfl,(by show 4<=sizeLine;decide),λl hl=>?_]];have h4:=k4 p _ hpd h3;have h5:=k5 p _ hpd h4;obtain ⟨u,hat,hu⟩:∃ u:Nat,atI [V.int (((ps.length+1:Nat):Int)-1),V.int 0,V.int v1,V.int (if ((ps.length+1:Nat):Int)-1-v2>0 then ((ps.length+1:Nat):Int)-1-v2 else 0)] w1=some (nV u)/\u<=ps.length:=by
   have z:w1=0\/w1=1\/w1=2\/w1=3:=by lia
   rcases z with rfl|rfl|rfl|rfl
   .refine #[ps.length,?_,aj _];rw[show ((ps.length+1:Nat):Int)-1=((ps.length:Nat):Int) by lia];rfl
   .exact #[0,rfl,cf _]
   .obtain ⟨u,rfl⟩:=wb v10;exact #[u,rfl,by lia]
   .refine #[(if ((ps.length+1:Nat):Int)-1-v2>0 then ((ps.length+1:Nat):Int)-1-v2 else 0).toNat,?_,?_]
    .show some (V.int _)=some (V.int _);rw[Int.toNat_of_nonneg (by split<;>lia)]
    .split<;>lia
  refine #[_,rfl,_,_,_,_,rfl,rfl,SqL.of af,hat,_,_,_,rfl,rfl,by rw[ah (au h5 hl)];exact h5,a0 (by rw[cN];lia),?_];refine #[ps++[u],_,rfl,?_,by rw[bg,cT],K9 hT hu,λb o n1 n2 e=>?_,?_]
  .rw[af];unfold bY;rw[bq];rfl
  .rw[ah n2];have e5:=k5 b o n1 (k4 b o n1 (k3 b o n1 n2 e));exact (aD hl _) _ _ e5
  .exact LS.put hs hp0 (λb o n1 n2 e=>(aD hl _) _ _ (k5 b o n1 (k4 b o n1 (k3 b o n1 n2 e)))) (s5.of_new hl _)
 .rintro U H3 ⟨ps,x4,rfl,h3,hl,hT,k3,s3⟩;refine #[_,rfl,p,_,rfl,.inl #[SqL.of h3,λt ht=>?_]];have sn:=aD ht (.tup (bY ps));have htp:t≠p:=bf (au h3 ht);have ht0:H t=none:=by
   cases e:H t with
   | none=>rfl
   | some o=>
    have htd:t≠d:=by
     obtain ⟨ns,a,l,e,_⟩:=s3.ex;exact bf (au e ht)
    have:=k3 t o htd htp e;rw[ht]at this;cases this
  exact q t ps _ ht0 hT (by lia) af (λb o n e=>sn _ _ (k3 b o n (au e hp0) e)) (s3.of_new ht _)
inductive kW (K:Frag)(vs:List V)(H:Hp)(Q:VK)(w_1:XK):Prop
 | c:∀(t:Addr) (ps:List Nat) (k:Nat),vs=[.ref t,.int k]->H t=some (.tup (bY ps))->ps.length<=900->(∀(p:Addr) (H':Hp),H p=none->Same H H'->H' p=some (.lst ((bt ps k (ps.length+1)).map nV))->Q (.ref p) H')->kW K vs H Q w_1
def Lb (T:Txt K mg)(yr:DF K mg "children" pP mM):FC P w K mg base 1 "children" mM (kW K):=by
 refine yr.ok Ja (λvs H Q E h=>?_) (λf cdv A outer s H vs Q E hr h=>?_)
 .obtain ⟨t,ps,k,rfl,_⟩:=h;rfl
 obtain ⟨t,ps,k,rfl,ht,hz,q⟩:=h;refine #[_,(ao (aJ (de (N:=["other","tree","knot"]) (own:=1) (cap:=[0,1]) rfl (fW rfl T.dR (aa (aP (bH (K:=K)) rfl T.bG bE (aa (pv 0) ab)) ab)) #[rfl,rfl,rfl,rfl,rfl,rfl] (λ_ _ _ _ _=>(aQ (i:=0) (show List.Nodup (["other","tree","knot"]:List Str) by decide +kernel) rfl (av rfl))) (λ_ _ _ _ _=>(gO (aV d9 (ax (aL (K:=K)) (pv 1) (pv 0) (λ_ _=>rfl)) (pv 2) (aY _)))) (λ_ _ _ _ _=>(pv 0))))),?_];refine #[_,rfl,_,_,rfl,.inr (SqT.of ht),_,rfl,by lia,by rw[cN];lia,λD hD=>?_];have el:((((bY ps).length:Nat):Int)).toNat=ps.length+1:=by rw[cN,fR]
 rw[el];refine o8 (n:=ps.length+1) (λj U H3=>∃ x0:Option V,U=[x0,some (.ref t),some (.int k)]/\H3 D=some (.lst ((bt ps k j).map nV))/\But D H H3) ?_ ?_ ?_
 .exact #[_,rfl,af,λb o n e=>by rw[ah n];exact e]
 .rintro j m U H3 hm hj ⟨x0,rfl,h3,k3⟩;rw[jW];have h3t:=k3 _ _ (au ht hD) ht;have hlen:=kR ps k j;refine #[_,rfl,_,rfl,_,_,_,_,rfl,rfl,SqT.of h3t,jE hj,_,rfl,Dn _ _ _,_,rfl,?_];refine ite2 (λc=>?_) (λc=>?_)
  .have c':par ps j=some k:=sT.mp (bW c);refine #[_,rfl,_,h3,a0 (by rw[ai];lia),m-1,by lia,by lia,_,rfl,?_,λb o n e=>by rw[ah n];exact k3 b o n e];rw[af,sH,aq c',bq];rfl
  .have c':¬ par ps j=some k:=λz=>c (aO (sT.mpr z));refine #[m-1,by lia,by lia,_,rfl,?_,k3];rw[h3,sH,ak c',cB]
 .rintro U H3 ⟨x0,rfl,h3,k3⟩;exact q D H3 hD (λb o e=>k3 b o (au e hD) e) h3
inductive wF (K:Frag)(vs:List V)(H:Hp)(Q:VK)(w_1:XK):Prop
 | c:∀(t:Addr) (ps:List Nat) (k:Nat),vs=[.ref t,.int k]->H t=some (.tup (bY ps))->aN ps->k<ps.length+1->ps.length<=900->(∀(p:Addr) (H':Hp),H p=none->Same H H'->H' p=some (.lst ((benL ps k (ps.length+1)).map nV))->Q (.ref p) H')->wF K vs H Q w_1
def Lc (T:Txt K mg)(yt:DF K mg "beneath" pQ rh):FC P w K mg base 1 "beneath" rh (wF K):=by
 refine yt.ok vE (λvs H Q E h=>?_) (λf cdv A outer s H vs Q E hr h=>?_)
 .obtain ⟨t,ps,k,rfl,_⟩:=h;rfl
 obtain ⟨t,ps,k,rfl,ht,hT,hk,hz,q⟩:=h;refine #[_,(aF (aI (i:=2) vE.nd rfl (av rfl) (cR (aa (pv 1) ab)))
   (aF (ck PassesOwn.never rfl (j6 rfl T.dR (aa (aG cz (pv 1) ag) (aa (aP (bH (K:=K)) rfl T.bG bE (aa (pv 0) ab)) ab))) (aQ (i:=3) vE.nd rfl (av rfl)) (ao (bp (aV (vg (K:=K)) (ax (aL (K:=K)) (pv 0) (pv 3) (λ_ _=>rfl)) (pv 2) (by with_unfolding_all rfl)) (ao (cF (dY F.plainAttrs_list F.slot_list_append F.type_list_append dZ (pv 2) (aa (pv 3) ab)))) bx)))
   (ao (aJ (pv 2))))),?_]
 refine #[_,rfl,(by show 1<=sizeLine;decide),λp hp=>?_];have k0:But p H (upd H p (.lst [.int (k:Int)])):=λb o n e=>by rw[ah n];exact e
 have ntp:t≠p:=au ht hp;refine #[_,rfl,_,_,rfl,rfl,_,rfl,_,_,rfl,.inr (SqT.of (k0 _ _ ntp ht)),_,_,rfl,#[by lia,by lia,by lia,by rw[cN];lia],?_];have en:((((bY ps).length:Nat):Int)-((k:Int)+1)).toNat=ps.length-k:=by rw[cN];lia
 rw[en];refine ff (n:=ps.length-k) (λi U H3=>∃ x3:Option V,U=[some (.ref t),some (.int k),some (.ref p),x3]/\H3 p=some (.lst ((benL ps k (k+1+i)).map nV))/\But p H H3) ?_ ?_ ?_
 .refine #[_,rfl,?_,k0];rw[af,ir,Kf hT];rfl
 .rintro i U H3 hi ⟨x3,rfl,h3,k3⟩;have ek:(k:Int)+1+(i:Int)=((k+1+i:Nat):Int):=by lia
  rw[ek];have hj:k+1+i<ps.length+1:=by lia
  have hj1:1<=k+1+i:=by lia
  have hjk:k+1+i≠k:=by lia
  have ei:k+1+(i+1)=k+1+i+1:=by lia
  rw[ei];generalize k+1+i=j at h3 hj hj1 hjk ⊢;obtain ⟨u,hu⟩:=vY hj1 hj;have h3t:=k3 _ _ ntp ht;have hat:=jE hj;rw[m6 hu]at hat;have hlen:=kQ ps k j;refine #[_,rfl,_,rfl,_,_,_,_,rfl,rfl,SqT.of h3t,hat,_,rfl,_,_,rfl,.inl (SqL.of h3),rfl,we _,_,rfl,?_];show if inV (.int (u:Int)) ((benL ps k j).map nV)=true then _ else _
  rw[wg];have hB:isB ps k j=isB ps k u:=fo hT hjk hu;have hult:=(bz hT hu).1;refine ite2 (λc=>?_) (λc=>?_)
  .have c':isB ps k u=true:=(gi.mp (bW c)).2;refine #[_,rfl,.inl #[rfl,_,SqL.of h3],_,rfl,_,_,_,rfl,rfl,h3,a0 (by rw[ai];lia),?_];refine #[_,rfl,?_,λb o n e=>by rw[ah n];exact k3 b o n e];rw[af,vZ,hB,aq c',bq];rfl
  .have c':¬ isB ps k u=true:=λz=>c (aO (gi.mpr #[hult,z]));refine #[_,rfl,?_,k3];rw[h3,vZ,hB,ak c',cB]
 .rintro U H3 ⟨x3,rfl,h3,k3⟩;refine #[_,rfl,?_];rw[show k+1+(ps.length-k)=ps.length+1 by lia]at h3;exact q p H3 hp (λb o e=>k3 b o (au e hp) e) h3
def bI (es:List (Int×Int)):List (Int×Int):=cH es (du es)
def aw (Pw:List (List Int))(k:Nat):List Int:=Pw.getD k []
def ownE (Pw:List (List Int))(k:Nat):List (Int×Int):=(aw Pw k).map λx=>(x,(k:Int))
def kX (ps:List Nat)(Pw:List (List Int)):Nat->Nat->List (Int×Int)
 | 0,_=>[]
 | f+1,k=>dg (((bt ps k (ps.length+1)).map λc=>bI (kX ps Pw f c)).flatten++ownE Pw k)
def Do (T:aN ps):∀ f g k,k<ps.length+1->ps.length+1-k<=f->ps.length+1-k<=g->kX ps Pw f k=kX ps Pw g k
 | 0,_,k,hk,h,_=>by lia
 | _,0,k,hk,_,h=>by lia
 | f+1,g+1,k,hk,hf,hg=>by
  unfold kX;congr 3;refine oo λc hc=>?_;have h:=cM.mp hc;have:=bz T h.2;show bI _=bI _;rw[Do T f g c h.1 (by lia) (by lia)]
def ae (ps:List Nat)(Pw:List (List Int))(k:Nat):List (Int×Int):=kX ps Pw (ps.length+1-k) k
def fN (ps:List Nat)(Pw:List (List Int))(k:Nat):List (List (Int×Int)):=((bt ps k (ps.length+1)).map λc=>bI (ae ps Pw c))++[ownE Pw k]
def gk (T:aN ps){k:Nat}(hk:k<ps.length+1):ae ps Pw k=dg (fN ps Pw k).flatten:=by
 unfold ae fN;obtain ⟨f,hf⟩:∃ f,ps.length+1-k=f+1:=#[ps.length-k,by lia];rw[hf,kX,ox,List.flatten_singleton];congr 3;refine oo λc hc=>?_;have h:=cM.mp hc;have:=bz T h.2;show bI _=bI _;rw[Do T f (ps.length+1-c) c h.1 (by lia) (by lia)];rfl
structure bc (Pw:List (List Int)):Prop where
 up:∀ row∈Pw,row.Pairwise (· < ·)
 key:∀ row∈Pw,∀ x∈row,-(10^60)<x/\x<10^60
def bc.at_up {Pw:List (List Int)}(R:bc Pw)(k:Nat):(aw Pw k).Pairwise (· < ·):=by
 unfold aw;rw[aH];cases e:Pw[k]? with
 | none=>exact .nil
 | some row=>exact R.up row (dF e)
def bc.at_key {Pw:List (List Int)}(R:bc Pw)(k:Nat):∀ x∈aw Pw k,-(10^60)<x/\x<10^60:=by
 unfold aw;rw[aH];cases e:Pw[k]? with
 | none=>exact λx hx=>nomatch hx
 | some row=>exact R.key row (dF e)
def Dp {α:Type}:∀(es:List α) (ms:List Bool),(cH es ms).Sublist es
 | [],_=>by
  unfold cH;exact List.Sublist.refl _
 | e::es,[]=>by
  unfold cH;exact List.nil_sublist _
 | e::es,m::ms=>by
  have ih:=Dp es ms;unfold cH at ih ⊢;cases m with
  | false=>exact List.Sublist.cons e ih
  | true=>exact List.Sublist.cons₂ e ih
def dv (es:List (Int×Int)):(bI es).Sublist es:=Dp _ _
def Of (ps:List Nat)(Pw:List (List Int))(k:Nat)(e:Int×Int):Prop:=∃ j,j<ps.length+1/\isB ps k j=true/\e.2=(j:Int)/\e.1∈aw Pw j
def kY {ps:List Nat}{k:Nat}(hk:k<ps.length+1){e:Int×Int}(h:e∈ownE Pw k):Of ps Pw k e/\e.2=(k:Int):=by
 obtain ⟨x,hx,rfl⟩:=cC.mp h;exact #[#[k,hk,fK,rfl,hx],rfl]
def Ld (R:bc Pw)(k:Nat):(ownE Pw k).Nodup:=by
 unfold ownE;rw[List.nodup_iff_pairwise_ne,ip];exact List.Pairwise.imp (λ{a b} (h:a < b) z=>by
  have:=congrArg Prod.fst z;have:a=b:=this;lia) (R.at_up k)
def sU (T:aN ps)(R:bc Pw):∀(m k:Nat),ps.length+1-k<=m->k<ps.length+1->(∀ e∈ae ps Pw k,Of ps Pw k e)/\(fN ps Pw k).flatten.Nodup
 | 0,k,hm,hk=>by lia
 | m+1,k,hm,hk=>by
  have ih:∀ c,par ps c=some k->(∀ e∈ae ps Pw c,Of ps Pw c e)/\(ae ps Pw c).Nodup:=λc hc=>by
   have:=bz T hc;have q:=sU T R m c (by lia) this.2;refine #[q.1,?_];rw[gk T this.2];exact (jv _).nodup_iff.mpr q.2
  have up:∀{c:Nat} {e:Int×Int},par ps c=some k->Of ps Pw c e->Of ps Pw k e:=λ{c e} hc h=>by
   obtain ⟨j,h1,h2,h3,h4⟩:=h;exact #[j,h1,(iV T j j (aj _) h1).mpr (.inr #[c,hc,h2]),h3,h4]
  refine #[λe he=>?_,?_]
  .rw[gk T hk,o6]at he;obtain ⟨l,hl,he⟩:=om.mp he;rcases cx.mp hl with q|q
   .obtain ⟨c,hc,rfl⟩:=cC.mp q;have hp:=(cM.mp hc).2;exact up hp ((ih c hp).1 e ((dv _).mem he))
   .rw[bP.mp q]at he;exact (kY hk he).1
  .show List.Pairwise _ _;unfold fN;rw[List.pairwise_flatten];refine #[λl hl=>?_,?_]
   .rcases cx.mp hl with q|q
    .obtain ⟨c,hc,rfl⟩:=cC.mp q;exact (ih c (cM.mp hc).2).2.sublist (dv _)
    .rw[bP.mp q];exact Ld R k
   .rw[oy];refine #[?_,uz _ _,?_]
    .rw[ip];refine List.Pairwise.imp_of_mem (λ{c d} hc hd hcd=>?_) (Da ps k _);intro x hx y hy z;subst z;have pc:=(cM.mp hc).2;have pd:=(cM.mp hd).2;obtain ⟨j,_,h2,h3,_⟩:=(ih c pc).1 x ((dv _).mem hx);obtain ⟨i,_,g2,g3,_⟩:=(ih d pd).1 x ((dv _).mem hy);have:j=i:=by lia
     subst this;exact kT T pc pd (bL hcd) j j (aj _) h2 g2
    .intro l hl l' hl' x hx y hy z;subst z;obtain ⟨c,hc,rfl⟩:=cC.mp hl;rw[bP.mp hl']at hy;have pc:=(cM.mp hc).2;obtain ⟨j,_,h2,h3,_⟩:=(ih c pc).1 x ((dv _).mem hx);have h4:=(kY hk hy).2;have:j=k:=by lia
     subst this;rw[ez T (bz T pc).1]at h2;cases h2
def jF (T:aN ps)(R:bc Pw){k:Nat}(hk:k<ps.length+1):∀ e∈ae ps Pw k,Of ps Pw k e:=(sU T R _ k (aj _) hk).1
def m7 (T:aN ps)(R:bc Pw){k:Nat}(hk:k<ps.length+1):(ae ps Pw k).Nodup:=by
 rw[gk T hk];exact (jv _).nodup_iff.mpr (sU T R _ k (aj _) hk).2
def cv (T:aN ps)(R:bc Pw){k:Nat}(hk:k<ps.length+1):Rise (ae ps Pw k):=by
 rw[gk T hk];exact va (sU T R _ k (aj _) hk).2
def kZ (T:aN ps)(R:bc Pw)(hz:ps.length<=40){k:Nat}(hk:k<ps.length+1):∀ e∈ae ps Pw k,d4 64 e:=λe he=>by
 obtain ⟨j,h1,h2,h3,h4⟩:=jF T R hk e he;have:=R.at_key j _ h4;exact #[this.1,this.2,by lia,by lia]
def wtR (ps:List Nat)(Pw:List (List Int))(k:Nat):Nat:=((benL ps k (ps.length+1)).map λj=>(aw Pw j).length).sum
def Le {l m:List Nat}(h:l.Perm m):l.sum=m.sum:=by
 induction h with
 | nil=>rfl
 | cons x _ ih=>rw[cP,cP,ih]
 | swap x y l=>rw[cP,cP,cP,cP];lia
 | trans _ _ h1 h2=>rw[h1,h2]
def Dq (f:Nat->Nat):∀(ls:List (List Nat)),(ls.flatten.map f).sum=(ls.map λl=>(l.map f).sum).sum
 | []=>rfl
 | l::ls=>by
  rw[jX,bq,List.sum_append,Dq f ls,bK,cP]
def wG (T:aN ps)(f:Nat->Nat){k:Nat}(hk:k<ps.length+1):((benL ps k (ps.length+1)).map f).sum=f k+((bt ps k (ps.length+1)).map λc=>((benL ps c (ps.length+1)).map f).sum).sum:=by
 have h:=Le ((Kh T hk).map f);rw[bK,cP,Dq,fA]at h;exact h.symm
def wH {f g:Nat->Nat}:∀{l:List Nat},(∀ x∈l,f x<=g x)->(l.map f).sum<=(l.map g).sum
 | [],_=>aj _
 | x::l,h=>by
  rw[bK,cP,bK,cP];have h1:=h x cb;have h2:=wH (f:=f) (g:=g) (l:=l) λy hy=>h y (bV _ hy);lia
def Dr (c:Nat)(f:Nat->Nat):∀(l:List Nat),(l.map λx=>c*f x).sum=c*(l.map f).sum
 | []=>rfl
 | x::l=>by
  rw[bK,cP,bK,cP,Dr c f l,Nat.mul_add]
def Ds {α:Type}:∀(ls:List (List α)),ls.flatten.length=(ls.map List.length).sum
 | []=>rfl
 | l::ls=>by
  rw[jX,bg,Ds ls,bK,cP]
def Dt (T:aN ps){k:Nat}(hk:k<ps.length+1):(ae ps Pw k).length=(aw Pw k).length+((bt ps k (ps.length+1)).map λc=>(bI (ae ps Pw c)).length).sum:=by
 rw[gk T hk,u7];unfold fN;rw[ox,bg,List.flatten_singleton,Ds,fA];unfold ownE;rw[ai,Nat.add_comm];rfl
def Lf {es:List (Int×Int)}(he:∀ e∈es,d4 64 e)(hri:Rise es):2*(bI es).length<=es.length:=by
 have M:=wz he hri;have S:=C6 (du es);have h:=S.half M;rw[g5]at h;have e:(bI es).length=((List.range es.length).filter λk=>(du es).getD k false).length:=by
  have key:∀(es:List (Int×Int)) (ms:List Bool),es.length=ms.length->(cH es ms).length=((List.range es.length).filter λk=>ms.getD k false).length:=by
   intro es
   induction es with
   | nil=>intro ms _;rfl
   | cons e es ih=>
    intro ms hl;cases ms with
    | nil=>cases hl
    | cons m ms=>
     rw[cS,List.range_succ_eq_map,List.filter_cons,List.filter_map];have h2:=ih ms (Nat.succ.inj hl);have h3:(((List.range es.length).filter ((λk=>(m::ms).getD k false) ∘ Nat.succ)).map Nat.succ).length=(cH es ms).length:=by
      rw[ai,h2];rfl
     cases m with
     | false=>
      show (cH es ms).length=(((List.range es.length).filter ((λk=>(false::ms).getD k false) ∘ Nat.succ)).map Nat.succ).length;rw[h3]
     | true=>
      show (cH es ms).length+1=(0::((List.range es.length).filter ((λk=>(true::ms).getD k false) ∘ Nat.succ)).map Nat.succ).length;rw[cS,h3]
  exact key es _ (g5 es).symm
 rw[g5]at S;rw[e];exact h
def wI (T:aN ps):∀(m k:Nat),ps.length+1-k<=m->k<ps.length+1->(ae ps Pw k).length<=wtR ps Pw k
 | 0,k,hm,hk=>by lia
 | m+1,k,hm,hk=>by
  unfold wtR;rw[Dt T hk,wG T _ hk];refine ug (wH λc hc=>?_) _;have h:=cM.mp hc;have:=bz T h.2;exact bS (dv _).length_le (wI T m c (by lia) h.1)
def Du (f:Nat->Nat)(P:Nat->Bool):∀(l:List Nat),((l.filter P).map f).sum<=(l.map f).sum
 | []=>aj _
 | x::l=>by
  have ih:=Du f P l;rw[bK,cP];by_cases h:P x=true
  .rw[dw h,bK,cP];lia
  .rw[eJ h];lia
def dC (Pw:List (List Int)):Nat:=(Pw.map List.length).sum
def Lg (Pw:List (List Int)):((List.range Pw.length).map λj=>(aw Pw j).length).sum=dC Pw:=by
 unfold dC;congr 1;apply gE;intro i;rw[bj,bj];by_cases h:i<Pw.length
 .rw[fT h,aC h];show some (aw Pw i).length=some Pw[i].length;unfold aw;rw[aH,aC h];rfl
 .rw[eG (by rw[cU];lia),eG (by lia)];rfl
def wJ {ps:List Nat}{Pw:List (List Int)}(hl:Pw.length=ps.length+1)(k:Nat):wtR ps Pw k<=dC Pw:=by
 unfold wtR benL;refine bS (Du _ _ _) ?_;rw[<-hl,Lg];exact aj _
def m8 (T:aN ps){Pw:List (List Int)}(hl:Pw.length=ps.length+1){k:Nat}(hk:k<ps.length+1):(ae ps Pw k).length<=dC Pw:=bS (wI T _ k (aj _) hk) (wJ hl k)
def Fw (Pw:List (List Int)):Prop:=∀ j,dC Pw+(aw Pw j).length<=127
def Fw.k {Pw:List (List Int)}(h:Fw Pw):dC Pw<=127:=bS (Nat.le_add_right _ _) (h 0)
def m9 (T:aN ps)(R:bc Pw)(hz:ps.length<=40)(hl:Pw.length=ps.length+1)(F:Fw Pw){k:Nat}(hk:k<ps.length+1):(ae ps Pw k).length<=63:=by
 have e3:=Dt T (Pw:=Pw) hk;have e2:wtR ps Pw k=(aw Pw k).length+((bt ps k (ps.length+1)).map λc=>wtR ps Pw c).sum:=wG T _ hk;have h:((bt ps k (ps.length+1)).map λc=>2*(bI (ae ps Pw c)).length).sum<=((bt ps k (ps.length+1)).map λc=>wtR ps Pw c).sum:=wH λc hc=>by
  have q:=cM.mp hc;have h1:=Lf (kZ T R hz q.1) (cv T R q.1);have h2:=wI T (Pw:=Pw) _ c (aj _) q.1;lia
 rw[Dr 2 (λc=>(bI (ae ps Pw c)).length)]at h;have:=wJ hl (ps:=ps) k;have:=F k;lia
def Lh (j:Nat):(aw Pw j).length<=dC Pw:=by
 unfold aw dC
 induction Pw generalizing j with
 | nil=>exact cf _
 | cons r Pw ih=>
  rw[bK,cP];cases j with
  | zero=>exact Nat.le_add_right _ _
  | succ j=>exact bS (ih j) (Nat.le_add_left _ _)
def Fw.row {Pw:List (List Int)}(h:Fw Pw)(j:Nat):(aw Pw j).length<=63:=by
 have:=h j;have:=Lh (Pw:=Pw) j;lia
def bD (H:Hp)(as:List Addr)(Pw:List (List Int)):Prop:=Paired (λa row=>H a=some (.tup (row.map V.int))) as Pw
def bD.ext {H H':Hp}(e:∀ b o,H b=some o->H' b=some o){Pw:List (List Int)}(h:bD H as Pw):bD H' as Pw:=pImp (λ_ _=>e _ _) h
def bD.keep {d p:Addr}{H H':Hp}(hd:∀ a row,H a=some (.tup row)->a≠d)(e:∀ b o,b≠d->H b=some o->H' b=some o){Pw:List (List Int)}(h:bD H as Pw):bD H' as Pw:=pImp (λ_ _ h=>e _ _ (hd _ _ h) h) h
def bD.length {Pw:List (List Int)}(h:bD H as Pw):as.length=Pw.length:=Paired.length h
def bD.get :∀{as:List Addr} {Pw:List (List Int)} {k:Nat},bD H as Pw->k<Pw.length->∃ a,as[k]?=some a/\H a=some (.tup ((aw Pw k).map V.int))
 | _,_,_,.nil,hk=>by simp at hk
 | a::as,row::Pw,0,.cons h t,_=>#[a,rfl,h]
 | a::as,row::Pw,k+1,.cons h t,hk=>by
  obtain ⟨b,h1,h2⟩:=bD.get (k:=k) t (by simpa using hk);refine #[b,by rw[ur];exact h1,?_];have:aw (row::Pw) (k+1)=aw Pw k:=by
   unfold aw;rw[aH,aH,ur]
  rw[this];exact h2
def bD.snoc {a:Addr}{row:List Int}{Pw:List (List Int)}(h:bD H as Pw)(g:H a=some (.tup (row.map V.int))):bD H (as++[a]) (Pw++[row]):=pApp h (.cons g .nil)
structure cO (H:Hp)(st:Addr)(ps:List Nat)(Pw:List (List Int))(t rs:Addr)(as:List Addr):Prop where
 st:H st=some (.tup [.ref t,.ref rs])
 tr:H t=some (.tup (bY ps))
 rs:H rs=some (.tup (as.map V.ref))
 at_:bD H as Pw
 len:Pw.length=ps.length+1
 T:aN ps
 R:bc Pw
 few:ps.length<=40
 keys:Fw Pw
def cO.same {st t rs:Addr}{Pw:List (List Int)}(S:cO H st ps Pw t rs as)(e:Same H H'):cO H' st ps Pw t rs as:=
 #[e _ _ S.st,e _ _ S.tr,e _ _ S.rs,S.at_.ext e,S.len,S.T,S.R,S.few,S.keys]
def fO {as:List Addr}{k:Nat}{a:Addr}(h:as[k]?=some a):atI (as.map V.ref) (k:Int)=some (.ref a):=cG (by rw[bj,h];rfl)
def Dv {α:Type}{l:List α}(h:l.Nodup):l.reverse.Nodup:=(List.reverse_perm l).nodup_iff.mpr h
def jG (K:Frag)(H:Hp)(ps:List Nat)(Pw:List (List Int))(j:Nat)(q:Addr):Prop:=∃ ws,H q=some (.lst ws)/\aA K H (ae ps Pw j) ws
def bJ (K:Frag)(H:Hp)(ps:List Nat)(Pw:List (List Int)):List Nat->List Addr->Prop:=Paired (jG K H ps Pw)
def jG.same {K:Frag}{Pw:List (List Int)}(h:jG K H ps Pw j q)(e:Same H H'):jG K H' ps Pw j q:=by
 obtain ⟨ws,h1,h2⟩:=h;exact #[ws,e _ _ h1,h2.mono e.ext]
def bJ.same {K:Frag}{Pw:List (List Int)}(e:Same H H'){js:List Nat}{qs:List Addr}(h:bJ K H ps Pw js qs):bJ K H' ps Pw js qs:=pImp (λ_ _ h=>jG.same h e) h
def bJ.ext {K:Frag}{Pw:List (List Int)}(e:Ext H H'){js:List Nat}{qs:List Addr}(h:bJ K H ps Pw js qs):bJ K H' ps Pw js qs:=pImp (λ_ _ h=>by
  obtain ⟨ws,a1,a2⟩:=h;exact #[ws,e _ _ a1 nofun,a2.mono e]) h
def bJ.length {K:Frag}{Pw:List (List Int)}{js:List Nat}{qs:List Addr}(h:bJ K H ps Pw js qs):js.length=qs.length:=Paired.length h
def bJ.snoc {K:Frag}{Pw:List (List Int)}{js:List Nat}{qs:List Addr}(h:bJ K H ps Pw js qs)(g:jG K H ps Pw j q):bJ K H ps Pw (js++[j]) (qs++[q]):=pApp h (.cons g .nil)
def bJ.get {K:Frag}{Pw:List (List Int)}:∀{js:List Nat} {qs:List Addr} {i j:Nat},bJ K H ps Pw js qs->js[i]?=some j->∃ q,qs[i]?=some q/\jG K H ps Pw j q
 | _,_,i,j,.nil,h=>by simp at h
 | _::_,q::_,0,j,.cons h t,e=>by
  have:=aM (show some _=some j from e);subst this;exact #[q,rfl,h]
 | _::_,_::_,i+1,j,.cons h t,e=>by
  obtain ⟨q,h1,h2⟩:=bJ.get (i:=i) t (by simpa using e);exact #[q,by simpa using h1,h2]
def bJ.rev {K:Frag}{Pw:List (List Int)}{js:List Nat}{qs:List Addr}(h:bJ K H ps Pw js qs):bJ K H ps Pw js.reverse qs.reverse:=by
 unfold bJ at h
 induction h with
 | nil=>exact .nil
 | cons h _ ih=>
  rw[oa,oa];exact bJ.snoc ih h
def bJ.alloc {K:Frag}{Pw:List (List Int)}:∀{js:List Nat} {qs:List Addr},bJ K H ps Pw js qs->∀ q∈qs,∃ ws,H q=some (.lst ws)
 | _,_,.nil=>λq hq=>nomatch hq
 | _::_,_::_,.cons h t=>λq hq=>by
  rcases aW.mp hq with e|e
  .obtain ⟨ws,h1,_⟩:=h;exact #[ws,e ▸ h1]
  .exact bJ.alloc t q e
abbrev kN (j:Nat):Key:=Sum.inl (j:Int)
def dP:List Nat->List Addr->List (Key×V)
 | j::js,q::qs=>(kN j,.ref q)::dP js qs
 | _,_=>[]
def Dw :∀{js:List Nat} {qs:List Addr},j∉js->valV (dP js qs) (kN j)=none
 | [],_,_=>rfl
 | _::_,[],_=>rfl
 | i::js,q::qs,h=>by
  have h1:¬ kN i=kN j:=λz=>h (by
   have:=Int.ofNat.inj (Sum.inl.inj z);rw[this];exact cb)
  show valV ((kN i,V.ref q)::dP js qs) (kN j)=none;rw[cW h1];exact Dw λz=>h (bV _ z)
def wK {q:Addr}:∀{js:List Nat} {qs:List Addr} {i:Nat},js.Nodup->js[i]?=some j->qs[i]?=some q->valV (dP js qs) (kN j)=some (.ref q)
 | [],_,_,_,h,_=>by simp at h
 | _::_,[],_,_,_,h=>by simp at h
 | a::js,b::qs,0,_,h1,h2=>by
  have:=aM (show some a=some j from h1);subst this;have:=aM (show some b=some q from h2);subst this;exact dM (p:=(kN a,V.ref b)) rfl
 | a::js,b::qs,i+1,hn,h1,h2=>by
  have g1:js[i]?=some j:=by simpa using h1
  have hne:¬ kN a=kN j:=λz=>by
   have e:=Int.ofNat.inj (Sum.inl.inj z);exact (cZ.mp hn).1 (e ▸ dF g1)
  show valV ((kN a,V.ref b)::dP js qs) (kN j)=_;rw[cW hne];exact wK (cZ.mp hn).2 g1 (by simpa using h2)
def Dx {q:Addr}:∀{js:List Nat} {qs:List Addr},js.length=qs.length->dP (js++[j]) (qs++[q])=dP js qs++[(kN j,.ref q)]
 | [],[],_=>rfl
 | [],_::_,h=>by cases h
 | _::_,[],h=>by cases h
 | a::js,b::qs,h=>by
  show (kN a,V.ref b)::dP (js++[j]) (qs++[q])=(kN a,V.ref b)::(dP js qs++[(kN j,V.ref q)]);rw[Dx (Nat.succ.inj h)]
def Li {j:Nat}{q:Addr}{js:List Nat}{qs:List Addr}(hl:js.length=qs.length)(h:j∉js):putK (dP js qs) (kN j) (.ref q)=dP (js++[j]) (qs++[q]):=by
 rw[iH _ (Dw h),Dx hl]
def Dy:∀{js:List Nat} {qs:List Addr},js.length=qs.length->(dP js qs).length=js.length
 | [],[],_=>rfl
 | [],_::_,h=>by cases h
 | _::_,[],h=>by cases h
 | a::js,b::qs,h=>by
  show (dP js qs).length+1=js.length+1;rw[Dy (Nat.succ.inj h)]
def Lj {l:List Nat}(h:l.Pairwise (· > ·)){i j c:Nat}(hj:l[i]?=some j)(hc:c∈l)(hcj:j<c):c∈l.take i:=by
 obtain ⟨u,hu,rfl⟩:=dU hc;obtain ⟨hi,rfl⟩:=aZ.mp hj;have:u<i:=by
  refine oz λz=>?_;by_cases e:i=u
  .subst e;lia
  .have:=eV.mp h i u hi hu (by lia);lia
 rw[List.mem_iff_getElem?];exact #[u,by rw[og,aq this,aC hu]]
def Dz (T:aN ps){k c:Nat}(h:isB ps k j=true)(hc:par ps c=some j):isB ps k c=true:=by
 by_cases e:c=k
 .rw[e];exact fK
 .rw[fo T e hc];exact h
inductive wL (K:Frag)(vs:List V)(H:Hp)(Q:VK)(w_1:XK):Prop
 | c:∀(st:Addr) (ps:List Nat) (Pw:List (List Int)) (t rs:Addr) (as:List Addr) (j:Nat),vs=[.ref st,.int j]->cO H st ps Pw t rs as->j<ps.length+1->(∀(D:Addr) (us:List V) (H':Hp),H D=none->Same H H'->H' D=some (.lst us)->aA K H' (ownE Pw j) us->Q (.ref D) H')->wL K vs H Q w_1
def Lk (T:Txt K mg)(yu:DF K mg "own_entries" pX rp):FC P w K mg base 1 "own_entries" rp (wL K):=by
 refine yu.ok Jd (λvs H Q E h=>?_) (λf cdv A outer s H vs Q E hr h=>?_)
 .obtain ⟨st,ps,Pw,t,rs,as,k,rfl,_⟩:=h;rfl
 obtain ⟨st,ps,Pw,t,rs,as,j,rfl,S4,hjn,q⟩:=h;refine #[_,(ao (aJ (de (N:=["key","knot"]) (own:=1) (cap:=[1]) rfl (gJ (ax (aL (K:=K)) (ax (aL (K:=K)) (pv 0) ag (λ_ _=>rfl)) (pv 1) (λ_ _=>rfl))) #[rfl,rfl,rfl,rfl,rfl,rfl] (λ_ _ _ _ _=>(aQ (i:=0) (show List.Nodup (["key","knot"]:List Str) by decide +kernel) rfl (av rfl))) (λ_ _ _ _ _=>dN) (λ_ _ _ _ _=>(cm (aa (pv 0) (aa (pv 1) ab))))))),?_];obtain ⟨a,ha1,ha4⟩:=S4.at_.get (k:=j) (by rw[S4.len];exact hjn);have hkeys:=S4.keys.k;refine #[_,rfl,_,_,_,_,rfl,rfl,SqT.of S4.st,rfl,_,rfl,_,_,_,_,rfl,rfl,SqT.of S4.rs,fO ha1,a,rfl,#[_,SqT.of ha4],λD3 hD3=>?_];refine jy (xs:=(aw Pw j).map V.int) (λm U H5=>∃(us:List V) (x0:Option V),U=[x0,some (.int j)]/\H5 D3=some (.lst us)/\aA K H5 ((ownE Pw j).take m) us/\But D3 H H5) ?_ ?_ ?_ ?_
 .exact #[[],_,rfl,af,.nil,λb o n e=>by rw[ah n];exact e]
 .rintro m U H5 _ ⟨us,x0,rfl,_,_,k5⟩;exact SqT.of (k5 _ _ (au ha4 hD3) ha4)
 .rintro m r x U H5 hx hm ⟨us,x0,rfl,h5,hw5,k5⟩;rw[bj]at hx;obtain ⟨y,hy,rfl⟩:=fS.mp hx;have hlow:=(aZ.mp hy).1;have htk3:(ownE Pw j).take (m+1)=(ownE Pw j).take m++[(y,(j:Int))]:=by
   unfold ownE;rw[<-lT,<-lT,cy hlow,bq];rw[(aZ.mp hy).2];rfl
  have hul:=hw5.length;rw[bw]at hul;rw[ai]at hm;have hrl:(aw Pw j).length<=dC Pw:=by
   have:=wJ S4.len (k:=j) (ps:=ps);have e2:wtR ps Pw j=(aw Pw j).length+_:=wG S4.T _ hjn;lia
  refine d3 ?_;refine #[_,rfl,_,rfl,(by show 2<=sizeLine;decide),λu hu=>?_];have su:=aD hu (.tup [.int y,.int (j:Int)]);have h6:=su _ _ h5;have hut:upd H5 u (.tup [.int y,.int (j:Int)]) u=some (.tup [.int y,.int (j:Int)]):=af;have k6:=k5.new' hu (.tup [.int y,.int (j:Int)]);have hw6:=hw5.mono su.ext;generalize upd H5 u (.tup [.int y,.int (j:Int)])=H6 at su h6 hut k6 hw6 ⊢;refine #[_,h6,a0 (by lia),r-1,by lia,by rw[ai];lia,us++[.ref u],_,rfl,af,?_,λb o n e=>by rw[ah n];exact k6 b o n e];rw[htk3];exact (fM h6 hw6).append (fM h6 (.cons #[u,.int y,.int (j:Int),rfl,hut,rfl,rfl] .nil))
 .rintro U H5 ⟨us,x0,rfl,h5,hw5,k5⟩;rw[ai,bA (by unfold ownE;rw[ai];exact aj _)]at hw5;exact q D3 us H5 hD3 (λx o e=>k5 x o (au e hD3) e) h5 hw5
inductive wM (K:Frag)(vs:List V)(H:Hp)(Q:VK)(w_1:XK):Prop
 | c:∀(st:Addr) (ps:List Nat) (Pw:List (List Int)) (t rs:Addr) (as:List Addr) (k:Nat),vs=[.ref st,.int k]->cO H st ps Pw t rs as->k<ps.length+1->(∀(D:Addr) (qs:List Addr) (H':Hp),H D=none->Same H H'->H' D=some (.dK (dP (benL ps k (ps.length+1)).reverse qs))->qs.Nodup->(∀ q∈qs,H q=none)->bJ K H' ps Pw (benL ps k (ps.length+1)).reverse qs->Q (.ref D) H')->wM K vs H Q w_1
def Ll (T:Txt K mg)(yv:DF K mg "full_rows_beneath" pY rq)(NH:FC P w K mg base 1 "beneath" rh (wF K))(yw:FC P w K mg base 1 "children" mM (kW K))(tZ:FC P w K mg base 6 "handed" mK (sN K))(NI:FC P w K mg base 1 "own_entries" rp (wL K))(yx:FC P w K mg base 1 "joined_up" mI (sS K)):FC P w K mg base 7 "full_rows_beneath" rq (wM K):=by
 refine yv.ok mD (λvs H Q E h=>?_) (λf cdv A outer s H vs Q E hr h=>?_)
 .obtain ⟨st,ps,Pw,t,rs,as,k,rfl,_⟩:=h;rfl
 obtain ⟨st,ps,Pw,t,rs,as,k,rfl,S,hk,q⟩:=h;refine #[_,(aF (aI (i:=2) mD.nd rfl (av rfl) (ax (aL (K:=K)) (pv 0) ag (λ_ _=>rfl)))
   (aF (aI (i:=3) mD.nd rfl (fQ rfl) AY)
   (aF (ck PassesOwn.never rfl (Ho rfl T.Nl (aa (az NH hr (aa (pv 2) (aa (pv 1) ab))) ab)) (aQ (i:=4) mD.nd rfl (av rfl)) (aF (j8 (i:=5) (N:=["child","told"]) (own:=1) (cap:=[3]) mD.nd rfl rfl rfl (c8 (az yw hr (aa (pv 2) (aa (pv 4) ab)))) #[rfl,rfl,rfl,rfl,rfl,rfl] (λ_ _ _ _ _=>(aQ (i:=0) (show List.Nodup (["child","told"]:List Str) by decide +kernel) rfl (av rfl))) (λ_ _ _ _ _=>dN) (λ_ _ _ _ _=>(az tZ hr (aa (gM (da hr) (pv 1) (pv 0) (λ_ _=>rfl)) ab))))
   (aF (cF (dY F.plainAttrs_list F.slot_list_append F.type_list_append dZ (pv 5) (aa (az NI hr (aa (pv 0) (aa (pv 4) ab))) ab)))
   (ao (iJ (da hr) (pv 3) (pv 4) (az yx hr (aa (pv 5) ab)) rfl)))))
   (ao (aJ (pv 3)))))),?_]
 refine #[_,rfl,_,_,_,_,rfl,rfl,SqT.of S.st,rfl,λD hD=>?_];have s0:=aD hD (.dK []);have hD0:upd H D (.dK []) D=some (.dK []):=af;generalize upd H D (.dK [])=H0 at s0 hD0 ⊢;refine #[_,rfl,_,rfl,t,ps,k,rfl,s0 _ _ S.tr,S.T,hk,by have:=S.few;lia,λb H1 hb s1 h1=>?_];refine #[b,_,rfl,SqL.of h1,?_];have hup:=sG ps k (ps.length+1);have hmem:=λj=>gi (ps:=ps) (k:=k) (n:=ps.length+1) (j:=j);have hbl:=kQ ps k (ps.length+1);generalize benL ps k (ps.length+1)=bs at h1 q hup hmem hbl ⊢;have hdn:bs.reverse.Pairwise (· > ·):=by
  rw[List.pairwise_reverse];exact hup
 have hnd:bs.reverse.Nodup:=List.Pairwise.imp (λ{a b} (q:a>b)=>ig q) hdn;refine Hq (xs:=bs.map nV) (λi U H2=>∃(qs:List Addr) (x5 x6:Option V),U=[some (.ref st),some (.int k),some (.ref t),some (.ref D),x5,x6]/\H2 D=some (.dK (dP (bs.reverse.take i) qs))/\qs.Nodup/\(∀ q∈qs,H q=none)/\bJ K H2 ps Pw (bs.reverse.take i) qs/\H2 b=some (.lst (bs.map nV))/\But D H H2) ?_ ?_ ?_ ?_
 .exact #[[],_,_,rfl,s1 _ _ hD0,jR,(λq hq=>nomatch hq),.nil,h1,λx o _ e=>s1 _ _ (s0 _ _ e)]
 .rintro i U H2 _ ⟨qs,x5,x6,rfl,_,_,_,_,h2b,_⟩;exact SqL.of h2b
 .rintro i x U H2 hx ⟨qs,x5,x6,rfl,h2,hqn,hqf,hF,h2b,k2⟩;rw[<-List.map_reverse]at hx;obtain ⟨hi,hxe⟩:=jD hx;have hji:bs.reverse[i]?=some (bs.reverse.getD i 0):=by
   rw[aH,aC hi];rfl
  subst hxe;have htk:bs.reverse.take (i+1)=bs.reverse.take i++[bs.reverse.getD i 0]:=by
   rw[cy hi,aH,aC hi];rfl
  rw[htk];generalize bs.reverse.getD i 0=j at hji htk ⊢;have hjm:j∈bs:=lS.mp (dF hji);obtain ⟨hjn,hjB⟩:=(hmem j).mp hjm;have hjnot:j∉bs.reverse.take i:=λz=>by
   have hnd':=hnd;rw[<-eK (i+1) bs.reverse,htk]at hnd';have:=(fB.mp hnd').1;exact (fB.mp this).2.2 j z j (bP.mpr rfl) rfl
  have noD:∀{p:Addr} {o:HO},H p=some o->p≠D:=λ{p o} e=>au e hD;have S2:cO H2 st ps Pw t rs as:=#[k2 _ _ (noD S.st) S.st,k2 _ _ (noD S.tr) S.tr,k2 _ _ (noD S.rs) S.rs,bD.keep (p:=D) (d:=D) (λa row e=>noD e) k2 S.at_,S.len,S.T,S.R,S.few,S.keys];have hkeys:=S.keys.k;have hfew:=S.few;refine #[_,rfl,_,rfl,t,ps,j,rfl,S2.tr,by lia,λc H3 hc s3 h3=>?_];refine #[c,rfl,#[_,SqL.of h3],λD2 hD2=>?_];have hcmem:=λm=>cM (ps:=ps) (k:=j) (n:=ps.length+1) (j:=m);have hcl:=kR ps j (ps.length+1);have hparts:fN ps Pw j=((bt ps j (ps.length+1)).map λc=>bI (ae ps Pw c))++[ownE Pw j]:=rfl;generalize bt ps j (ps.length+1)=cs at h3 hcmem hcl hparts ⊢;have h3D:=s3 _ _ h2;have nDD2:D≠D2:=au h3D hD2;have F3:bJ K H3 ps Pw (bs.reverse.take i) qs:=hF.same s3;refine eZ (xs:=cs.map nV) (λm U H4=>∃(gs:List Addr) (x0:Option V),U=[x0,some (.ref D)]/\H4 D2=some (.lst (gs.map V.ref))/\Own K H4 gs ((cs.take m).map λc=>bI (ae ps Pw c))/\D2∉gs/\But D2 H3 H4) ?_ ?_ ?_ ?_
  .exact #[[],_,rfl,af,.nil,nofun,λb o n e=>by rw[ah n];exact e]
  .rintro m U H4 _ ⟨gs,x0,rfl,_,_,_,k4⟩;exact k4.sq (SqL.of h3) hD2
  .rintro m r x U H4 hx hm ⟨gs,x0,rfl,h4,hO,hg,k4⟩;obtain ⟨hmi,rfl⟩:=jD hx;have hcm:cs[m]?=some (cs.getD m 0):=by
    rw[aH,aC hmi];rfl
   have htk2:cs.take (m+1)=cs.take m++[cs.getD m 0]:=by
    rw[cy hmi,aH,aC hmi];rfl
   rw[htk2];generalize cs.getD m 0=ch at hcm ⊢;obtain ⟨hchn,hchp⟩:=(hcmem ch).mp (dF hcm);have hlt:=(bz S.T hchp).1;have hin:ch∈bs.reverse.take i:=Lj hdn hji (lS.mpr ((hmem ch).mpr #[hchn,Dz S.T hjB hchp])) hlt;obtain ⟨u,hu,hue⟩:=dU hin;have hu2:(bs.reverse.take i)[u]?=some ch:=by rw[aC hu,hue]
   obtain ⟨qq,hq1,ws,hq2,hq3⟩:=F3.get hu2;have hnd2:(bs.reverse.take i).Nodup:=hnd.sublist (List.take_sublist _ _);have hv:=wK hnd2 hu2 hq1;have k4D:=k4 _ _ nDD2 h3D;have hq4:=k4 _ _ (au hq2 hD2) hq2;have hq5:aA K H4 (ae ps Pw ch) ws:=by
    have key:∀{es:List (Int×Int)} {vs:List V},aA K H3 es vs->aA K H4 es vs:=by
     intro es vs hh
     induction hh with
     | nil=>exact .nil
     | cons a _ ih=>
      obtain ⟨b,x1,x2,rfl,q,e1,e2⟩:=(show hasP K H3 _ _ from a);exact .cons #[b,x1,x2,rfl,k4 _ _ (au q hD2) q,e1,e2] ih
    exact key hq3
   have hlen:=m8 S.T S.len (Pw:=Pw) hchn;refine d3 ?_;have hdg:DGet H4 D (.int (ch:Int)) (some (.ref qq)):=by
    rw[<-hv];exact DGet.k (k:=kN ch) k4D
   refine #[_,rfl,_,rfl,D,_,rfl,hdg,?_];refine #[qq,ws,ae ps Pw ch,rfl,hq4,hq5,by lia,kZ S.T S.R hfew hchn,cv S.T S.R hchn,λg H5 hg5 s5 h5=>?_];have hgl:=hO.length;rw[ai,bw]at hgl;have h5D2:=s5 _ _ h4;have ngD2:D2≠g:=au h4 hg5;rw[ai]at hm;refine #[_,h5D2,a0 (by rw[ai];lia),r-1,by lia,by rw[ai];lia,gs++[g],_,rfl,?_,?_,?_,λx o n e=>by rw[ah n];exact s5 _ _ (k4 x o n e)]
   .rw[af,bq];rfl
   .rw[bq];refine Own.other h5D2 (Own.append (hO.ext s5.ext) (.cons #[_,h5,?_] .nil)) ?_
    .exact sO (hq5.mono s5.ext)
    .intro z;rcases cx.mp z with z|z
     .exact hg z
     .exact ngD2 (bP.mp z)
   .intro z;rcases cx.mp z with z|z
    .exact hg z
    .exact ngD2 (bP.mp z)
  .rintro U H4 ⟨gs,x0,rfl,h4,hO,hg,k4⟩;rw[ai,bA (aj _)]at hO;have hgl:=hO.length;rw[ai]at hgl;have s34:Same H3 H4:=λx o e=>k4 x o (au e hD2) e;have s24:Same H2 H4:=s3.trans s34;have S4:=S2.same s24;refine #[_,rfl,.inl #[rfl,_,SqL.of h4],_,rfl,_,rfl,st,ps,Pw,t,rs,as,j,rfl,S4,hjn,λD3 us H5 hD3 s45 h5 hw5=>?_];have h5D2:=s45 _ _ h4;have n23:D2≠D3:=au h4 hD3;refine #[_,_,_,rfl,rfl,h5D2,a0 (by rw[ai];lia),?_];have O5:Own K H5 (gs++[D3]) (fN ps Pw j):=by
    rw[hparts];exact Own.append (hO.ext s45.ext) (.cons #[us,h5,hw5] .nil)
   have nin:D2∉gs++[D3]:=λz=>by
    rcases cx.mp z with z|z
    .exact hg z
    .exact n23 (bP.mp z)
   have O6:=O5.other (o:=.lst (gs.map V.ref++[.ref D3])) h5D2 nin;have h6:upd H5 D2 (.lst (gs.map V.ref++[.ref D3])) D2=some (.lst ((gs++[D3]).map V.ref)):=by
    rw[af,bq];rfl
   have k26:∀ x o,H2 x=some o->upd H5 D2 (.lst (gs.map V.ref++[.ref D3])) x=some o:=λx o e=>by
    rw[ah (au (s3 _ _ e) hD2)];exact s45 _ _ (s24 _ _ e)
   generalize upd H5 D2 (.lst (gs.map V.ref++[.ref D3]))=H6 at O6 h6 k26 ⊢;have hfl:(fN ps Pw j).flatten.length<=63:=by
    have:=m9 S.T S.R S.few S.len S.keys hjn;rw[gk S.T hjn,u7]at this;lia
   refine #[_,rfl,D2,gs++[D3],fN ps Pw j,rfl,h6,O6,hfl,λp ws H7 hp s7 h7 hw7=>?_];rw[<-gk S.T hjn]at hw7;have s27:Same H2 H7:=λx o e=>s7 _ _ (k26 x o e);have h7D:=s27 _ _ h2;have hql:=hF.length;have hpD:p≠D:=bf (au (k26 _ _ h2) hp);refine #[_,rfl,_,rfl,D,_,rfl,DPut.k (k:=kN j) h7D (a0 (by rw[Dy hql,bw,lZ];lia)),?_];rw[Li hql hjnot];have e78:Ext H7 (upd H7 D (.dK (dP (bs.reverse.take i++[j]) (qs++[p])))):=λx o e n=>by
    rw[ah (λz=>by
     rw[z,h7D]at e;cases e
     exact n _ rfl)]
    exact e
   have F8:bJ K (upd H7 D (.dK (dP (bs.reverse.take i++[j]) (qs++[p])))) ps Pw (bs.reverse.take i++[j]) (qs++[p]):=by
    exact bJ.ext e78 (bJ.snoc (hF.same s27) #[ws,h7,hw7])
   refine #[qs++[p],_,_,rfl,af,?_,?_,F8,?_,λx o n e=>?_]
   .rw[fB];refine #[hqn,cZ.mpr #[nofun,jR],λa ha b hb z=>?_];rw[bP.mp hb]at z;subst z;obtain ⟨ws',hws⟩:=hF.alloc a ha;have:=k26 _ _ hws;rw[hp]at this;cases this
   .intro x hx;rcases cx.mp hx with z|z
    .exact hqf x z
    .rw[bP.mp z];cases e:H p with
     | none=>rfl
     | some o=>
      have:=k26 _ _ (k2 p o hpD e);rw[hp]at this;cases this
   .rw[ah (λz=>by rw[z,h2]at h2b;cases h2b)]
    exact s27 _ _ h2b
   .rw[ah n];exact s27 _ _ (k2 x o n e)
 .rintro U H2 ⟨qs,x5,x6,rfl,h2,hqn,hqf,hF,h2b,k2⟩;refine #[_,rfl,?_];rw[ai,bA (by rw[lZ];exact aj _)]at h2 hF;exact q D qs H2 hD (λx o e=>k2 x o (au e hD) e) h2 hqn hqf hF
inductive jH (K:Frag)(vs:List V)(H:Hp)(Q:VK)(w_1:XK):Prop
 | c:∀(st:Addr) (ps:List Nat) (Pw:List (List Int)) (t rs:Addr) (as:List Addr),vs=[.ref st]->cO H st ps Pw t rs as->(∀(p:Addr) (qs:List Addr) (H':Hp),H p=none->Same H H'->H' p=some (.lst (qs.map V.ref))->qs.Nodup->(∀ q∈qs,H q=none)->p∉qs->bJ K H' ps Pw (List.range (ps.length+1)) qs->Q (.ref p) H')->jH K vs H Q w_1
def Lm {n i:Nat}(h:i<n):(List.range n).reverse[n-1-i]?=some i:=by
 rw[uk (by rw[cU];lia),cU,fT (by lia)];congr 1;lia
def Ln (T:Txt K mg)(yy:DF K mg "full_rows" pZ iQ)(NJ:FC P w K mg base 7 "full_rows_beneath" rq (wM K)):FC P w K mg base 8 "full_rows" iQ (jH K):=by
 refine yy.ok Cz (λvs H Q E h=>?_) (λf cdv A outer s H vs Q E hr h=>?_)
 .obtain ⟨st,ps,Pw,t,rs,as,rfl,_⟩:=h;rfl
 obtain ⟨st,ps,Pw,t,rs,as,rfl,S,q⟩:=h;refine #[_,(aF (aI (i:=1) Cz.nd rfl (fQ rfl) (az NJ hr (aa (pv 0) (aa ag ab))))
   (ao (aJ (de (N:=["knot","told"]) (own:=1) (cap:=[1]) rfl (fW rfl T.dR (aa (aP (bH (K:=K)) rfl T.bG bE (aa (ax (aL (K:=K)) (pv 0) ag (λ_ _=>rfl)) ab)) ab)) #[rfl,rfl,rfl,rfl,rfl,rfl] (λ_ _ _ _ _=>(aQ (i:=0) (show List.Nodup (["knot","told"]:List Str) by decide +kernel) rfl (av rfl))) (λ_ _ _ _ _=>dN) (λ_ _ _ _ _=>(gM (da hr) (pv 1) (pv 0) (λ_ _=>rfl))))))),?_]
 refine #[_,rfl,st,ps,Pw,t,rs,as,0,rfl,S,by lia,λD qs H1 hD s1 h1 hqn hqf hF=>?_];rw[Kg S.T]at h1 hF;have S1:=S.same s1;have hfew:=S.few;have hql:=hF.length;rw[lZ,cU]at hql;refine #[_,rfl,_,_,_,_,rfl,rfl,SqT.of S1.st,rfl,_,_,rfl,.inr (SqT.of S1.tr),_,rfl,by lia,by rw[cN];lia,λp hp=>?_];have el:((((bY ps).length:Nat):Int)).toNat=ps.length+1:=by rw[cN,fR]
 rw[el];refine o8 (n:=ps.length+1) (λi U H2=>∃ x0:Option V,U=[x0,some (.ref D)]/\H2 p=some (.lst ((qs.reverse.take i).map V.ref))/\But p H1 H2) ?_ ?_ ?_
 .exact #[_,rfl,af,λb o n e=>by rw[ah n];exact e]
 .rintro i m U H2 hm hi ⟨x0,rfl,h2,k2⟩;rw[jW];have hi2:i<qs.reverse.length:=by rw[lZ];lia
  have hq1:qs[ps.length+1-1-i]?=some qs.reverse[i]:=by
   have:=uk (l:=qs) (i:=i) (by lia);rw[aC hi2]at this;rw[this];congr 1;lia
  have hv:=wK (Dv oA) (Lm hi) hq1;have h2D:=k2 _ _ (au h1 hp) h1;have hdg:DGet H2 D (.int (i:Int)) (some (.ref qs.reverse[i])):=by
   rw[<-hv];exact DGet.k (k:=kN i) h2D
  refine d3 ?_;refine #[_,rfl,_,rfl,D,_,rfl,hdg,?_];refine #[_,h2,a0 (by rw[ai,bw];lia),m-1,by lia,by lia,_,rfl,?_,λb o n e=>by rw[ah n];exact k2 b o n e];rw[af,cy hi2,bq];rfl
 .rintro U H2 ⟨x0,rfl,h2,k2⟩;rw[bA (by rw[lZ];lia)]at h2;have s2:Same H1 H2:=λb o e=>k2 b o (au e hp) e;have F2:=(hF.same s2).rev;rw[List.reverse_reverse]at F2;refine q p qs.reverse H2 ?_ (s1.trans s2) h2 (Dv hqn) (λx hx=>hqf x (lS.mp hx)) (λz=>?_) F2
  .cases e:H p with
   | none=>rfl
   | some o=>
    have:=s1 _ _ e;rw[hp]at this;cases this
  .obtain ⟨ws,hws⟩:=hF.alloc p (lS.mp z);rw[hp]at hws;cases hws
def la (x:Key):Prop:=∃ a:Int,x=.inl a/\-(10^60)<a/\a<10^60
def toI:Key->Int
 | .inl a=>a
 | _=>0
def Lo {kvs:List (Key×V)}{v:V}(h1:(kvs.map (·.1)).Nodup)(h2:∀ y∈kvs.map (·.1),la y)(hx:la x):((putK kvs x v).map (·.1)).Nodup/\∀ y∈(putK kvs x v).map (·.1),la y:=by
 rw[Kq];split
 .exact #[h1,h2]
 .rename_i c;refine #[?_,λy hy=>?_]
  .rw[fB];refine #[h1,cZ.mpr #[nofun,jR],λa ha b hb z=>?_];rw[bP.mp hb]at z;subst z;obtain ⟨p,hp,e⟩:=cC.mp ha;exact c (List.any_eq_true.mpr #[p,hp,aO e])
  .rcases cx.mp hy with z|z
   .exact h2 y z
   .rw[bP.mp z];exact hx
def DA:∀{l:List Key},(∀ y∈l,la y)->l.map kV=(l.map toI).map V.int
 | [],_=>rfl
 | x::l,h=>by
  obtain ⟨a,rfl,_⟩:=h x cb;show V.int a::l.map kV=V.int a::(l.map toI).map V.int;rw[DA λy hy=>h y (bV _ hy)]
def DB:∀{l:List Key},l.Nodup->(∀ y∈l,la y)->(l.map toI).Nodup
 | [],_,_=>jR
 | x::l,hn,h=>by
  rw[bK,cZ];have hc:=cZ.mp hn;refine #[λz=>?_,DB hc.2 λy hy=>h y (bV _ hy)];obtain ⟨y,hy,e⟩:=cC.mp z;obtain ⟨a,rfl,_⟩:=h x cb;obtain ⟨b,rfl,_⟩:=h y (bV _ hy);have:b=a:=e;subst this;exact hc.1 hy
inductive wN (K:Frag)(vs:List V)(H:Hp)(Q:VK)(w_1:XK):Prop
 | c:∀(d L:Addr) (m:Int),vs=[.ref d,.int m]->(0<=m/\m<=40)->LS K L d H->(∀(a:Addr) (row:List Int) (H':Hp),H a=none->row.Pairwise (· < ·)->(∀ x∈row,-(10^60)<x/\x<10^60)->(row.length:Int)<=m->H' a=some (.tup (row.map V.int))->Keep d H H'->LS K L d H'->Q (.ref a) H')->wN K vs H Q w_1
def Lp (T:Txt K mg)(yz:DF K mg "_law_row" qw rQ)(bM:FC P w K mg base 2 "_law_take" fH (f9 K))(nB:FC P w K mg base 3 "_law_key" kJ (m4 K)):FC P w K mg base 4 "_law_row" rQ (wN K):=by
 refine yz.ok vJ (λvs H Q E h=>?_) (λf cdv A outer s H vs Q E hr h=>?_)
 .obtain ⟨d,L,m,rfl,_⟩:=h;rfl
 obtain ⟨d,L,m,rfl,⟨hm0,hm1⟩,hs,q⟩:=h;refine #[_,(aF (aI (i:=2) vJ.nd rfl (av rfl) AY)
   (aF (ck PassesOwn.never rfl (fW rfl T.dR (aa (az bM hr (aa (pv 0) (aa (aG cz (pv 1) ag) ab))) ab)) (aQ (i:=3) vJ.nd rfl (av rfl)) (ao (iJ (da hr) (pv 2) (az nB hr (aa (pv 0) ab)) cL rfl)))
   (ao (aJ (c9 (gQ (K:=K)) rfl T.eS boot_tuple (aa (aP (vA Int) rfl T.nA boot_sorted (aa (c9 (Ht rfl) rfl T.eR boot_list (aa (pv 2) ab)) ab)) ab)))))),?_]
 intro g hg;have ngd:g≠d:=λz=>by
  obtain ⟨_,_,_,e,_⟩:=hs.ex;rw[<-z,hg]at e;cases e
 refine #[_,rfl,_,rfl,_,_,rfl,rfl,d,L,m+1,rfl,#[by lia,by lia],hs.of_new hg _,λn H1 n0 n1 k1 s1=>#[_,rfl,by lia,by lia,?_]];refine ff (n:=n.toNat) (λi U H2=>∃(kvs:List (Key×V)) (x3:Option V),U=[some (.ref d),some (.int m),some (.ref g),x3]/\H2 g=some (.dK kvs)/\kvs.length<=i/\(kvs.map (·.1)).Nodup/\(∀ y∈kvs.map (·.1),la y)/\(∀ b o,b≠d->b≠g->H b=some o->H2 b=some o)/\LS K L d H2) ?_ ?_ ?_
 .exact #[[],_,rfl,k1 g _ ngd af,aj _,jR,λy hy=>(by simp at hy),λb o b1 b2 e=>k1 b o b1 (by rw[ah b2];exact e),s1]
 .rintro i U H2 hi ⟨kvs,x3,rfl,h2,hl,hn,hy,kk,s2⟩;refine #[_,rfl,_,rfl,d,L,rfl,s2,λv H3 v0 v1 k3 s3=>?_];have h3:H3 g=some (.dK kvs):=k3 g _ ngd h2;obtain ⟨p1,p2⟩:=Lo (v:=.bl true) hn hy (x:=.inl v) #[v,rfl,v0,v1];refine #[g,_,rfl,DPut.k (k:=.inl v) (kvs:=kvs) h3 (a0 (by lia)),?_];refine #[putK kvs (.inl v) (.bl true),_,rfl,af,?_,p1,p2,?_,?_]
  .have:=oU kvs (Sum.inl v:Key) (.bl true);lia
  .intro b o b1 b2 e;rw[ah b2];exact k3 b o b1 (kk b o b1 b2 e)
  .exact LS.put hs hg (λb o b1 b2 e=>k3 b o b1 (kk b o b1 b2 e)) s3
 .rintro U H2 ⟨kvs,x3,rfl,h2,hl,hn,hy,kk,s2⟩;refine #[_,rfl,g,kvs,rfl,h2,λl hl1=>?_];have ei:kvs.map (λkv=>kV kv.1)=((kvs.map (·.1)).map toI).map V.int:=by
   rw[<-DA hy,fA];rfl
  rw[ei];have e1:=aD hl1 (.lst (((kvs.map (·.1)).map toI).map V.int));refine #[l,_,_,rfl,SqL.of af,aA.ints,by rw[ai,ai];lia,λl2 ws hl2 hw=>?_];rw[hw.toInts];have e2:=aD hl2 (.lst ((dg ((kvs.map (·.1)).map toI)).map V.int));refine #[l2,_,rfl,.inl #[SqL.of af,λa ha=>?_]];have e3:=aD ha (.tup ((dg ((kvs.map (·.1)).map toI)).map V.int));have e13:=e1.trans (e2.trans e3);have free:H a=none:=by
   have z2:H2 a=none:=e1.free (e2.free ha);cases z:H a with
   | none=>rfl
   | some o=>
    by_cases c1:a=d
    .obtain ⟨_,_,_,e,_⟩:=s2.ex;rw[<-c1,z2]at e;cases e
    .by_cases c2:a=g
     .rw[c2,h2]at z2;cases z2
     .rw[kk a o c1 c2 z]at z2;cases z2
  refine q a _ _ free ?_ (λx hx=>?_) ?_ af (λb o b1 e=>e13 _ _ (kk b o b1 (au e hg) e)) (s2.same e13)
  .exact List.Pairwise.imp (λ{a b} (h:Srt.blt a b=true)=>bW h) (va (DB hn hy))
  .rw[o6]at hx;obtain ⟨y,hy2,rfl⟩:=cC.mp hx;obtain ⟨a,rfl,h1,h2⟩:=hy y hy2;exact #[h1,h2]
  .rw[u7,ai,ai];lia
inductive wO (K:Frag)(vs:List V)(H:Hp)(Q:VK)(w_1:XK):Prop
 | c:∀(d L:Addr) (n m:Nat),vs=[.ref d,.int n,.int m]->n<=40->m<=40->LS K L d H->(∀(r:Addr) (as:List Addr) (Pw:List (List Int)) (H':Hp),H r=none->bD H' as Pw->Pw.length=n->bc Pw->(∀ row∈Pw,row.length<=m)->H' r=some (.tup (as.map V.ref))->Keep d H H'->LS K L d H'->Q (.ref r) H')->wO K vs H Q w_1
def bc.snoc {Pw:List (List Int)}{row:List Int}(R:bc Pw)(h1:row.Pairwise (· < ·))(h2:∀ x∈row,-(10^60)<x/\x<10^60):bc (Pw++[row]):=by
 refine #[λr hr=>?_,λr hr=>?_]
 .rcases cx.mp hr with z|z
  .exact R.up r z
  .rw[bP.mp z];exact h1
 .rcases cx.mp hr with z|z
  .exact R.key r z
  .rw[bP.mp z];exact h2
def Lq (T:Txt K mg)(yA:DF K mg "_law_rows" qx rR)(bM:FC P w K mg base 2 "_law_take" fH (f9 K))(NK:FC P w K mg base 4 "_law_row" rQ (wN K)):FC P w K mg base 5 "_law_rows" rR (wO K):=by
 refine yA.ok kz (λvs H Q E h=>?_) (λf cdv A outer s H vs Q E hr h=>?_)
 .obtain ⟨d,L,n,m,rfl,_⟩:=h;rfl
 obtain ⟨d,L,n,m,rfl,hn,hm,hs,q⟩:=h;refine #[_,(aF (aI (i:=3) kz.nd rfl (av rfl) (cR ab))
   (aF (ck PassesOwn.never rfl (fW rfl T.dR (aa (pv 1) ab)) (aQ (i:=4) kz.nd rfl (av rfl)) (aF (aI (i:=5) kz.nd rfl (av rfl) (az NK hr (aa (pv 0) (aa (pv 2) ab))))
   (cn (bp (aV d9 (az bM hr (aa (pv 0) (aa ag ab))) ag (aY _)) (ao (aI (i:=5) kz.nd rfl (av rfl) (cm ab))) bx)
   (cn (bp (PW.pt (ix (aV gK (pv 4) ag (aY _)) (iw (aV d9 (az bM hr (aa (pv 0) (aa ag ab))) ag (aY _))))) (ao (aI (i:=5) kz.nd rfl (av rfl) (ax (bh (K:=K)) (pv 3) (aG dI (pv 4) ag) (λ_ _=>rfl)))) bx)
   (ao (cF (dY F.plainAttrs_list F.slot_list_append F.type_list_append dZ (pv 3) (aa (pv 5) ab))))))))
   (ao (aJ (c9 (gQ (K:=K)) rfl T.eS boot_tuple (aa (pv 3) ab)))))),?_]
 refine #[(by show 0<=sizeLine;decide),λp hp=>?_];have g0:=aD hp (.lst []);have ndT:∀{H':Hp} {a:Addr} {o:List V},LS K L d H'->H' a=some (.tup o)->a≠d:=λ{H' a o} s e z=>by
  obtain ⟨_,_,_,e2,_⟩:=s.ex;rw[<-z,e]at e2;cases e2
 have nd:∀{H':Hp} {a:Addr},LS K L d H'->H' a=none->a≠d:=λ{H' a} s e z=>by
  obtain ⟨_,_,_,e2,_⟩:=s.ex;rw[<-z,e]at e2;cases e2
 have hpd:p≠d:=nd hs hp;refine #[_,rfl,_,rfl,by lia,by lia,?_];rw[fR];refine ff (n:=n) (λi U H2=>∃(as:List Addr) (Pw:List (List Int)) (x4 x5:Option V),U=[some (.ref d),some (.int n),some (.int m),some (.ref p),x4,x5]/\H2 p=some (.lst (as.map V.ref))/\bD H2 as Pw/\Pw.length=i/\bc Pw/\(∀ row∈Pw,row.length<=m)/\(∀ b o,b≠d->b≠p->H b=some o->H2 b=some o)/\LS K L d H2) ?_ ?_ ?_
 .exact #[[],[],_,_,rfl,af,.nil,rfl,#[(λr hr=>nomatch hr),(λr hr=>nomatch hr)],(λr hr=>nomatch hr),λb o _ n e=>g0 b o e,hs.same g0]
 .rintro i U H2 hi ⟨as,Pw,x4,x5,rfl,h2,hA,hl,hR,hlen,k2,s2⟩;rw[jW];have hal:=hA.length;have old:∀{H3:Hp} {b:Addr} {o:HO},(∀ b o,b≠d->H2 b=some o->H3 b=some o)->b≠d->b≠p->H b=some o->H3 b=some o:=λk n1 n2 e=>k _ _ n1 (k2 _ _ n1 n2 e);refine #[_,rfl,_,rfl,d,L,m,rfl,#[by lia,by lia],s2,λa row H3 ha hup hky hlr h3 k3 s3=>?_];refine #[λU' H'=>∃(a:Addr) (row:List Int),U'=[some (.ref d),some (.int n),some (.int m),some (.ref p),some (.int i),some (.ref a)]/\H' a=some (.tup (row.map V.int))/\row.Pairwise (· < ·)/\(∀ x∈row,-(10^60)<x/\x<10^60)/\row.length<=m/\(∀ b o,b≠d->H2 b=some o->H' b=some o)/\LS K L d H',?_,?_]
  .refine #[_,rfl,d,L,4,rfl,by decide,s3,λv H4 _ _ k4 s4=>#[rfl,_,rfl,?_]];have h4:=k4 _ _ (ndT s3 h3) h3;refine ite2 (λ_=>?_) (λ_=>?_)
   .refine #[(by show 0<=sizeLine;decide),λu hu=>?_];have su:=aD hu (.tup []);exact #[u,[],rfl,af,.nil,(λx hx=>nomatch hx),cf _,λb o n1 e=>su _ _ (k4 _ _ n1 (k3 _ _ n1 e)),s4.same su]
   .exact #[a,row,rfl,h4,hup,hky,by lia,λb o n1 e=>k4 _ _ n1 (k3 _ _ n1 e),s4]
  rintro U' H4 ⟨a,row,rfl,h4,hup,hky,hlr,k4,s4⟩;refine #[λU' H'=>∃(a:Addr) (row:List Int),U'=[some (.ref d),some (.int n),some (.int m),some (.ref p),some (.int i),some (.ref a)]/\H' a=some (.tup (row.map V.int))/\row.Pairwise (· < ·)/\(∀ x∈row,-(10^60)<x/\x<10^60)/\row.length<=m/\(∀ b o,b≠d->H2 b=some o->H' b=some o)/\LS K L d H',?_,?_]
  .refine #[_,rfl,_,_,rfl,rfl,_,rfl,?_];refine ite2 (λc=>?_) (λc=>?_)
   .have c':(0:Int)<(i:Int):=bW c;refine #[_,rfl,d,L,4,rfl,by decide,s4,λv H5 _ _ k5 s5=>#[rfl,_,rfl,?_]];have h5:=k5 _ _ (ndT s4 h4) h4;refine ite2 (λ_=>?_) (λ_=>?_)
    .have h5p:H5 p=some (.lst (as.map V.ref)):=k5 _ _ hpd (k4 _ _ hpd h2);obtain ⟨b,hb1,hb2⟩:=hA.get (k:=i-1) (by lia);have hb5:=k5 _ _ (ndT s4 (k4 _ _ (ndT s2 hb2) hb2)) (k4 _ _ (ndT s2 hb2) hb2);have hat:atI (as.map V.ref) ((i:Int)-1)=some (.ref b):=by
      rw[show (i:Int)-1=((i-1:Nat):Int) by lia];exact fO hb1
     refine #[_,rfl,_,rfl,_,_,rfl,rfl,_,_,_,_,rfl,rfl,SqL.of h5p,hat,?_];have hmem:aw Pw (i-1)∈Pw:=by
      unfold aw;rw[aH,aC (show i-1<Pw.length by lia)];exact cE _
     exact #[b,aw Pw (i-1),rfl,hb5,hR.up _ hmem,hR.key _ hmem,hlen _ hmem,λb o n1 e=>k5 _ _ n1 (k4 _ _ n1 e),s5]
    .exact #[a,row,rfl,h5,hup,hky,hlr,λb o n1 e=>k5 _ _ n1 (k4 _ _ n1 e),s5]
   .refine iteF ?_;exact #[a,row,rfl,h4,hup,hky,hlr,k4,s4]
  rintro U' H5 ⟨a,row,rfl,h5,hup,hky,hlr,k5,s5⟩;have h5p:H5 p=some (.lst (as.map V.ref)):=k5 _ _ hpd h2;have keep:∀ b o,b≠p->H5 b=some o->upd H5 p (.lst (as.map V.ref++[.ref a])) b=some o:=λb o n e=>by rw[ah n];exact e
  have ntp:∀{b:Addr} {o:List V},H5 b=some (.tup o)->b≠p:=λ{b o} e z=>by
   rw[z,h5p]at e;cases e
  refine #[_,rfl,.inl #[rfl,_,SqL.of h5p],_,rfl,_,_,_,rfl,rfl,h5p,a0 (by rw[ai];lia),?_];refine #[as++[a],Pw++[row],_,_,rfl,?_,?_,by rw[bg,cT,hl],hR.snoc hup hky,λr hr=>?_,λb o n1 n2 e=>keep _ _ n2 (k5 _ _ n1 (k2 _ _ n1 n2 e)),?_]
  .rw[af,bq];rfl
  .refine bD.snoc ?_ (keep _ _ (ntp h5) h5);have hA5:bD H5 as Pw:=bD.keep (p:=d) (λa row e=>ndT s2 e) k5 hA;exact bD.keep (p:=p) (d:=p) (λa row e=>ntp e) keep hA5
  .rcases cx.mp hr with z|z
   .exact hlen r z
   .rw[bP.mp z];exact hlr
  .exact LS.put hs hp (λb o n1 n2 e=>k5 _ _ n1 (k2 _ _ n1 n2 e)) s5
 .rintro U H2 ⟨as,Pw,x4,x5,rfl,h2,hA,hl,hR,hlen,k2,s2⟩;refine #[_,rfl,p,_,rfl,.inl #[SqL.of h2,λt ht=>?_]];have sn:=aD ht (.tup (as.map V.ref));have ht0:H t=none:=by
   cases e:H t with
   | none=>rfl
   | some o=>
    have:=k2 t o (nd s2 ht) (bf (au h2 ht)) e;rw[ht]at this;cases this
  exact q t as Pw _ ht0 (hA.ext sn) hl hR hlen af (λb o n e=>sn _ _ (k2 b o n (au e hp) e)) (s2.same sn)
abbrev En:=Int×Int
def eA (k:Nat)(es:List En):Nat:=(es.filter λe=>decide (e.2=(k:Int))).length
def sV (k:Nat)(es:List En):List Nat:=(List.range (es.length+1)).map λp=>eA k (es.take p)
def Lr (cs:List En)(s:Nat)(e:En):Nat:=if e∈cs then cs.idxOf e+1 else s
def stN (cs es:List En):Nat:=es.foldl (Lr cs) 0
def lb (es cs:List En):List Nat:=(List.range (es.length+1)).map λp=>stN cs (es.take p)
def inN (cs es:List En):Nat:=(es.filter λe=>decide (e∈cs)).length
def sW (h:Rise l):l.Nodup:=List.Pairwise.imp (λ{a b} (q:pLt a b=true) z=>by
 subst z;have:=fj.mp q;lia) h
def jI (h1:Rise l)(h2:Rise m)(h:∀ e,e∈l↔e∈m):l=m:=by
 refine List.Perm.eq_of_pairwise (le:=λa b=>pLt a b=true) (λa b _ _ q1 q2=>?_) h1 h2 ((uy (sW h1) (sW h2)).mpr h);have:=fj.mp q1;have:=fj.mp q2;lia
def d5 (T:aN ps){k:Nat}(hk:k<ps.length+1){e:En}:e∈ae ps Pw k↔e∈ownE Pw k\/∃ c,par ps c=some k/\e∈bI (ae ps Pw c):=by
 rw[gk T hk,o6,om];unfold fN;constructor
 .rintro ⟨l,hl,he⟩;rcases cx.mp hl with q|q
  .obtain ⟨c,hc,rfl⟩:=cC.mp q;exact .inr #[c,(cM.mp hc).2,he]
  .rw[bP.mp q]at he;exact .inl he
 .rintro (h|⟨c,hc,h⟩)
  .exact #[_,cx.mpr (.inr (bP.mpr rfl)),h]
  .exact #[_,cx.mpr (.inl (cC.mpr #[c,cM.mpr #[(bz T hc).2,hc],rfl])),h]
def Ls (T:aN ps)(R:bc Pw){k c:Nat}(hk:k<ps.length+1)(hc:par ps c=some k){e:En}:(e∈ae ps Pw k/\e∈ae ps Pw c)↔e∈bI (ae ps Pw c):=by
 have hcn:=(bz T hc).2;constructor
 .rintro ⟨h1,h2⟩;obtain ⟨j,g1,g2,g3,_⟩:=jF T R hcn e h2;rcases (d5 T hk).mp h1 with h|⟨d,hd,h⟩
  .have h4:=(kY hk h).2;have:j=k:=by lia
   subst this;rw[ez T (bz T hc).1]at g2;cases g2
  .by_cases z:d=c
   .rw[z]at h;exact h
   .obtain ⟨i,_,f2,f3,_⟩:=jF T R (bz T hd).2 e ((dv _).mem h);have:i=j:=by lia
    subst this;exact (kT T hd hc z i i (aj _) f2 g2).elim
 .intro h;exact #[(d5 T hk).mpr (.inr #[c,hc,h]),(dv _).mem h]
def DC (T:aN ps)(R:bc Pw){k c:Nat}(hk:k<ps.length+1)(hc:par ps c=some k):((ae ps Pw k).filter λe=>decide (e∈ae ps Pw c))=bI (ae ps Pw c):=by
 refine jI (List.Pairwise.filter _ (cv T R hk)) ((cv T R (bz T hc).2).sublist (dv _)) λe=>?_;rw[d7,decide_eq_true_eq];exact Ls T R hk hc
def Lu {l:List En}{p:Nat}(h:p<l.length):l.take (p+1)=l.take p++[l[p]]:=cy h
def Lv (k:Nat)(es:List En)(e:En):eA k (es++[e])=eA k es+if e.2=(k:Int) then 1 else 0:=by
 unfold eA;rw[c5,bg];congr 1;by_cases h:e.2=(k:Int)
 .rw[aq h,dw (by exact aO h)];rfl
 .rw[ak h,eJ (by rw[aU h];decide)];rfl
def Lw (cs es:List En)(e:En):inN cs (es++[e])=inN cs es+if e∈cs then 1 else 0:=by
 unfold inN;rw[c5,bg];congr 1;by_cases h:e∈cs
 .rw[aq h,dw (by exact aO h)];rfl
 .rw[ak h,eJ (by rw[aU h];decide)];rfl
def DD (cs es:List En)(e:En):stN cs (es++[e])=if e∈cs then cs.idxOf e+1 else stN cs es:=by
 unfold stN;rw[List.foldl_append];rfl
def spL (es:List En):List Nat:=(List.range es.length).filter λj=>(du es).getD j false
def sX (es:List En):dO (du es) (spL es):=by
 have:=C6 (du es);rw[g5]at this;exact this
def DE {es:List En}{ms:List Bool}(hl:es.length=ms.length):∀ i,i<=ms.length->cH (es.take i) (ms.take i)=((List.range i).filter λj=>ms.getD j false).map λj=>es.getD j (0,0)
 | 0,_=>rfl
 | i+1,h=>by
  have ft:((List.range (i+1)).filter λj=>ms.getD j false)=((List.range i).filter λj=>ms.getD j false)++(if ms.getD i false=true then [i] else []):=by
   rw[jg,c5];congr 1;by_cases h:ms.getD i false=true
   .rw[aq h,dw (p:=λj=>ms.getD j false) (a:=i) h];rfl
   .rw[ak h,eJ (p:=λj=>ms.getD j false) (a:=i) h];rfl
  rw[sR (show i<es.length by lia),sR (show i<ms.length by lia),Di (by rw[bw,bw];lia),DE hl i (by lia),ft,bq];congr 1;have e:ms.getD i false=ms[i]'(by lia):=by
   rw[aH,aC (show i<ms.length by lia)];rfl
  rw[e];split
  .rw[List.map_singleton,aH,aC (show i<es.length by lia)];rfl
  .rfl
def DG (es:List En):bI es=(spL es).map λj=>es.getD j (0,0):=by
 have hl:=g5 es;have:=DE (es:=es) (ms:=du es) hl.symm (du es).length (aj _);rw[bA (aj _),bA (by lia),hl]at this;exact this
def stAt (sp:List Nat)(t:Nat):Nat:=if t=0 then 0 else sp.getD (t-1) 0+1
def Lx {l:List En}(h:l.Nodup){j:Nat}(hj:j<l.length):l.idxOf (l.getD j (0,0))=j:=by
 rw[aH,aC hj];exact List.Nodup.idxOf_getElem h j hj
def Ly {P:En->Bool}:∀(l:List En) (p:Nat),(l.take p).filter P=(l.filter P).take ((l.take p).filter P).length:=by
 intro l p;have e:l.filter P=(l.take p).filter P++(l.drop p).filter P:=by rw[<-c5,eK]
 rw[e,List.take_append_of_le_length (aj _),bA (aj _)]
def DH (T:aN ps)(R:bc Pw){k c:Nat}(hk:k<ps.length+1)(hc:par ps c=some k):∀ p,p<=(ae ps Pw k).length->stN (ae ps Pw c) ((ae ps Pw k).take p)=stAt (spL (ae ps Pw c)) (inN (ae ps Pw c) ((ae ps Pw k).take p))
 | 0,_=>rfl
 | p+1,h=>by
  have ih:=DH T R hk hc p (by lia);have hp:p<(ae ps Pw k).length:=by lia
  have hft:=Ly (P:=λe=>decide (e∈ae ps Pw c)) (ae ps Pw k) (p+1);rw[DC T R hk hc]at hft;rw[Lu hp]at hft ⊢;rw[DD,Lw];by_cases z:(ae ps Pw k)[p]∈ae ps Pw c
  .rw[aq z,aq z];unfold stAt;rw[ak (by lia),jU];congr 1;rw[c5,dw (by exact aO z),jY,bg,cT]at hft;have hin:((ae ps Pw k).take p |>.filter λe=>decide (e∈ae ps Pw c)).length=inN (ae ps Pw c) ((ae ps Pw k).take p):=rfl;generalize inN (ae ps Pw c) ((ae ps Pw k).take p)=t at hin ⊢;have hg:(bI (ae ps Pw c))[t]?=some (ae ps Pw k)[p]:=by
    have h2:(((ae ps Pw k).take p |>.filter λe=>decide (e∈ae ps Pw c))++[(ae ps Pw k)[p]])[t]?=some (ae ps Pw k)[p]:=by
     rw[gy (by lia),hin,lX];rfl
    rw[hft,og]at h2;split at h2
    .exact h2
    .cases h2
   rw[DG,bj]at hg;obtain ⟨j,hj,he⟩:=fS.mp hg;have hjl:j<(ae ps Pw c).length:=by
    have:=(sX (ae ps Pw c)).lt (dF hj);rw[g5]at this;exact this
   rw[<-he,Lx (m7 T R (bz T hc).2) hjl,aH,hj];rfl
  .rw[ak z,ak z,ir];exact ih
def Lz {es:List En}(he:∀ e∈es,d4 64 e)(hri:Rise es){t:Nat}(ht:t<(spL es).length):stAt (spL es) (t+1)=stAt (spL es) t+2\/stAt (spL es) (t+1)=stAt (spL es) t+3:=by
 have M:=wz he hri;have S:=sX es;have g:∀ i (h:i<(spL es).length),(spL es).getD i 0=(spL es)[i]:=λi h=>by
  rw[aH,aC h];rfl
 unfold stAt;rw[ak (by lia),jU];by_cases z:t=0
 .subst z;rw[aq rfl,g 0 ht];have hlen:2<=(du es).length:=by
   refine jd λy=>?_;have:=S.none M (by lia);rw[this]at ht;simp at ht
  obtain ⟨_,h1,h2⟩:=S.first M hlen;lia
 .rw[ak z,g t ht,g (t-1) (by lia)];have:=S.step M (t:=t-1) (by lia);have e:t-1+1=t:=by lia
  have e2:(spL es)[t-1+1]'(by lia)=(spL es)[t]:=by congr 1
  rw[e2]at this;lia
def LA {es:List En}(he:∀ e∈es,d4 64 e)(hri:Rise es):stAt (spL es) (spL es).length<=es.length/\es.length<=stAt (spL es) (spL es).length+1:=by
 have M:=wz he hri;have S:=sX es;have hl:=g5 es;unfold stAt;by_cases z:(spL es).length=0
 .rw[aq z];refine #[cf _,?_];refine jd λy=>?_;obtain ⟨h,_⟩:=S.first M (by lia);lia
 .have g:(spL es).getD ((spL es).length-1) 0=(spL es)[(spL es).length-1]'(by lia):=by
   rw[aH,aC (by lia)];rfl
  rw[ak z,g];have h1:=S.lt (cE (show (spL es).length-1<(spL es).length by lia));refine #[by lia,?_];have hlen:2<=(du es).length:=jd λy=>z (by rw[S.none M y];rfl);have h2:=S.last M hlen (by lia);lia
def lh {f:Nat->Nat}{i:Nat}:((List.range (i+1)).map f).map nV=(((List.range i).map f)++[f i]).map nV:=by
 rw[jg,bq];rfl
def wQ {us:List Nat}:atI ((us++[c]).map nV) (-1)=some (nV c):=by
 unfold atI ixN;rw[bq];simp;rw[aq (by lia)];show (List.map nV us++[nV c])[(-1+((us.length:Int)+1)).toNat]?=_;rw[show (-1+((us.length:Int)+1)).toNat=us.length by lia,gy (by rw[ai];exact aj _),ai,lX];rfl
inductive wR (K:Frag)(vs:List V)(H:Hp)(Q:VK)(w_1:XK):Prop
 | c:∀(a:Addr) (ws:List V) (es:List En) (k:Nat),vs=[.ref a,.int k]->H a=some (.lst ws)->aA K H es ws->es.length<=900->(∀(p:Addr) (H':Hp),H p=none->Same H H'->H' p=some (.lst ((sV k es).map nV))->Q (.ref p) H')->wR K vs H Q w_1
def LB (T:Txt K mg)(yB:DF K mg "owns_of" p0 rA):FC P w K mg base 1 "owns_of" rA (wR K):=by
 refine yB.ok vG (λvs H Q E h=>?_) (λf cdv A outer s H vs Q E hr h=>?_)
 .obtain ⟨a,ws,es,k,rfl,_⟩:=h;rfl
 obtain ⟨a,ws,es,k,rfl,ha,hw,hz,q⟩:=h;have hwl:=hw.length;refine #[_,(aF (aI (i:=2) vG.nd rfl (av rfl) (cR (aa ag ab)))
   (aF (ck PassesOwn.never rfl (c8 (pv 0)) (aQ (i:=3) vG.nd rfl (av rfl)) (ao (cF (dY F.plainAttrs_list F.slot_list_append F.type_list_append dZ (pv 2) (aa (zO (aV d9 (ax (aL (K:=K)) (pv 3) ag (λ_ _=>rfl)) (pv 1) (aY _)) (aG cz (ax (bh (K:=K)) (pv 2) (iA iD ag) (λ_ _=>rfl)) ag) (ax (bh (K:=K)) (pv 2) (iA iD ag) (λ_ _=>rfl))) ab)))))
   (ao (aJ (pv 2))))),?_]
 refine #[(by show 1<=sizeLine;decide),λp hp=>?_];have k0:But p H (upd H p (.lst [V.int 0])):=λb o n e=>by rw[ah n];exact e
 have nap:a≠p:=au ha hp;refine #[_,rfl,a,rfl,#[_,SqL.of (k0 _ _ nap ha)],?_];refine iz (xs:=ws) (λi U H2=>∃ x3:Option V,U=[some (.ref a),some (.int k),some (.ref p),x3]/\H2 p=some (.lst (((List.range (i+1)).map λp=>eA k (es.take p)).map nV))/\But p H H2) ?_ ?_ ?_ ?_
 .exact #[_,rfl,af,k0]
 .rintro i U H2 _ ⟨x3,rfl,_,k2⟩;exact SqL.of (k2 _ _ nap ha)
 .rintro i x U H2 hx ⟨x3,rfl,h2,k2⟩;obtain ⟨e,he,hhas⟩:=hw.get hx;obtain ⟨b,y1,y2,rfl,hb,hy1,hy2⟩:=(show hasP K H e x from hhas);have hy1:y1=.int e.1:=hy1;have hy2:y2=.int e.2:=hy2;subst hy1 hy2;have h2b:=k2 _ _ (au hb hp) hb;have hi:=(aZ.mp he).1;have htk:es.take (i+1)=es.take i++[e]:=by
   rw[cy hi,(aZ.mp he).2]
  have hon:=Lv k (es.take i) e;rw[<-htk]at hon;rw[lh]at h2;have hlen:((((List.range i).map λp=>eA k (es.take p))++[eA k (es.take i)]).map nV).length < sizeLine:=a0 (by
   rw[ai,bg,ai,cU,cT];lia)
  have fin:∀ v:Nat,v=eA k (es.take (i+1))->upd H2 p (.lst ((((List.range i).map λp=>eA k (es.take p))++[eA k (es.take i)]).map nV++[nV v])) p=some (.lst (((List.range (i+1+1)).map λp=>eA k (es.take p)).map nV)):=λv hv=>by
   rw[af,lh,bq (l₂:=[eA k (es.take (i+1))]),lh,hv];rfl
  refine #[_,rfl,.inl #[rfl,_,SqL.of h2],?_];refine #[_,rfl,_,_,_,_,rfl,rfl,SqT.of h2b,rfl,_,rfl,rfl,_,rfl,?_];refine ite2 (λc=>?_) (λc=>?_)
  .have c':e.2=(k:Int):=V.int.inj (bW c);rw[aq c']at hon;refine #[_,rfl,_,rfl,_,_,_,_,rfl,rfl,SqL.of h2,wQ,_,_,rfl,rfl,_,_,_,rfl,rfl,h2,hlen,?_];refine #[_,rfl,?_,λb o n e=>by rw[ah n];exact k2 b o n e];have:=fin (eA k (es.take i)+1) hon.symm;rw[<-this];rfl
  .have c':¬ e.2=(k:Int):=λz=>c (by rw[z];exact aO rfl);rw[ak c',ir]at hon;refine #[_,rfl,_,rfl,_,_,_,_,rfl,rfl,SqL.of h2,wQ,_,_,_,rfl,rfl,h2,hlen,?_];exact #[_,rfl,fin _ hon.symm,λb o n e=>by rw[ah n];exact k2 b o n e]
 .rintro U H2 ⟨x3,rfl,h2,k2⟩;refine #[_,rfl,?_];rw[<-hwl]at h2;exact q p H2 hp (λb o e=>k2 b o (au e hp) e) h2
def kvT:Nat->List En->List (List Key×V)
 | _,[]=>[]
 | o,e::es=>([.inl e.1,.inl e.2],nV (o+1))::kvT (o+1) es
abbrev kE (e:En):List Key:=[.inl e.1,.inl e.2]
def LC (h:kE e=kE f):e=f:=by
 obtain ⟨a,b⟩:=e;obtain ⟨c,d⟩:=f;injection h with h1 h2;injection h2 with h2 _;have h1:a=c:=Sum.inl.inj h1;have h2:b=d:=Sum.inl.inj h2;rw[h1,h2]
def wU (e:En):∀(o:Nat) (es:List En),valV (kvT o es) (kE e)=if e∈es then some (nV (o+es.idxOf e+1)) else none
 | _,[]=>rfl
 | o,f::es=>by
  show valV ((kE f,nV (o+1))::kvT (o+1) es) (kE e)=_;by_cases z:f=e
  .subst z;rw[dM rfl,aq cb,List.idxOf_cons_self]
  .rw[cW (λy=>z (LC y)),wU e (o+1) es];have hm:(e∈f::es)=(e∈es):=propext #[λh=>(aW.mp h).resolve_left λy=>z y.symm,λh=>bV _ h];by_cases y:e∈es
   .have ei:(f::es).idxOf e=es.idxOf e+1:=by
     rw[List.idxOf_cons,beq_false_of_ne z];rfl
    rw[aq y,aq (by rw[hm];exact y),ei];congr 2;have:o+1+es.idxOf e+1=o+(es.idxOf e+1)+1:=by lia
    rw[this]
   .rw[ak y,ak (by rw[hm];exact y)]
def DJ (e:En):∀(o:Nat) (es:List En),kvT o (es++[e])=kvT o es++[(kE e,nV (o+es.length+1))]
 | _,[]=>rfl
 | o,f::es=>by
  show (kE f,nV (o+1))::kvT (o+1) (es++[e])=(kE f,nV (o+1))::(kvT (o+1) es++_);rw[DJ e (o+1) es,cS,show o+1+es.length+1=o+(es.length+1)+1 by lia]
def DK:∀(o:Nat) (es:List En),(kvT o es).length=es.length
 | _,[]=>rfl
 | o,e::es=>by
  show (kvT (o+1) es).length+1=es.length+1;rw[DK (o+1) es]
inductive wV (K:Frag)(vs:List V)(H:Hp)(Q:VK)(w_1:XK):Prop
 | c:∀(a c:Addr) (ws vs':List V) (es cs:List En),vs=[.ref a,.ref c]->H a=some (.lst ws)->aA K H es ws->es.length<=900->H c=some (.lst vs')->aA K H cs vs'->cs.length<=900->cs.Nodup->(∀(p:Addr) (H':Hp),H p=none->Same H H'->H' p=some (.lst ((lb es cs).map nV))->Q (.ref p) H')->wV K vs H Q w_1
def LD (T:Txt K mg)(yC:DF K mg "starts_of" p5 rB):FC P w K mg base 1 "starts_of" rB (wV K):=by
 refine yC.ok ko (λvs H Q E h=>?_) (λf cdv A outer s H vs Q E hr h=>?_)
 .obtain ⟨a,c,ws,us,es,cs,rfl,_⟩:=h;rfl
 obtain ⟨a,c,ws,us,es,cs,rfl,ha,hw,hz,hc,hu,hzc,hnd,q⟩:=h;have hwl:=hw.length;have hul:=hu.length;refine #[_,(aF (aI (i:=2) ko.nd rfl (av rfl) AZ)
   (aF (ck PassesOwn.never rfl (uW rfl T.xY (aa (pv 1) ab)) (j4 rfl (dH (aQ (i:=3) ko.nd rfl (av rfl)) (dH (aQ (i:=4) ko.nd rfl (av rfl)) iy))) (ao (iJ (da hr) (pv 2) (pv 4) (aG cz (pv 3) ag) rfl)))
   (aF (aI (i:=5) ko.nd rfl (av rfl) (cR (aa ag ab)))
   (aF (ck PassesOwn.never rfl (c8 (pv 0)) (aQ (i:=4) ko.nd rfl (av rfl)) (ao (cF (dY F.plainAttrs_list F.slot_list_append F.type_list_append dZ (pv 5) (aa (GH (da hr) (pv 2) (pv 4) (ax (bh (K:=K)) (pv 5) (iA iD ag) (λ_ _=>rfl)) #[rfl,rfl,rfl,rfl]) ab)))))
   (ao (aJ (pv 5))))))),?_]
 intro D hD;have k0:But D H (upd H D (.dT [])):=λb o n e=>by rw[ah n];exact e
 have naD:a≠D:=au ha hD;have ncD:c≠D:=au hc hD;refine #[_,rfl,c,rfl,#[_,SqL.of (k0 _ _ ncD hc)],?_];refine uX (xs:=us) (λi U H2=>∃ x3 x4:Option V,U=[some (.ref a),some (.ref c),some (.ref D),x3,x4,none]/\H2 D=some (.dT (kvT 0 (cs.take i)))/\But D H H2) ?_ ?_ ?_ ?_
 .exact #[_,_,rfl,af,k0]
 .rintro i U H2 _ ⟨x3,x4,rfl,_,k2⟩;exact SqL.of (k2 _ _ ncD hc)
 .rintro i x U H2 r hx ⟨x3,x4,rfl,h2,k2⟩ hr;obtain ⟨e,he,hhas⟩:=hu.get hx;obtain ⟨b,y1,y2,rfl,hb,hy1,hy2⟩:=(show hasP K H e x from hhas);have hy1:y1=.int e.1:=hy1;have hy2:y2=.int e.2:=hy2;subst hy1 hy2;have hi:=(aZ.mp he).1;have htk:cs.take (i+1)=cs.take i++[e]:=by
   rw[cy hi,(aZ.mp he).2]
  refine #[r,_,rfl,SqT.of af,rfl,_,_,rfl,_,_,rfl,rfl,?_];have sr:=aD hr (.tup [.int (i:Int),.ref b]);have h3:=sr _ _ h2;have k3:But D H (upd H2 r (.tup [.int (i:Int),.ref b])):=λb o n e=>sr b o (k2 b o n e);clear sr;generalize upd H2 r (.tup [.int (i:Int),.ref b])=H3 at h3 k3 ⊢;have h3b:=k3 _ _ (au hb hD) hb;have hnot:e∉cs.take i:=λz=>by
   have hn2:=hnd;rw[<-eK (i+1) cs,htk]at hn2;have:=(fB.mp (fB.mp hn2).1).2.2 e z e (bP.mpr rfl);exact this rfl
  refine #[_,rfl,_,_,rfl,rfl,_,rfl,_,rfl,D,_,rfl,DPut.t (k:=kE e) h3 h3b (a0 (by rw[DK,bw];lia)),?_];refine #[_,_,rfl,?_,λb o n e=>by rw[ah n];exact k3 b o n e];rw[af,iH _ (by rw[wU,ak hnot]),htk,DJ,bw,jf (by lia),je];rfl
 .rintro U H2 ⟨x3,x4,rfl,h2,k2⟩;rw[bA (by lia)]at h2;refine #[(by show 1<=sizeLine;decide),λp hp=>?_];have nDp:D≠p:=au h2 hp;have s2:Same H H2:=λb o e=>k2 b o (au e hD) e;have k3:But p H2 (upd H2 p (.lst [V.int 0])):=λb o n e=>by rw[ah n];exact e
  have h2a:=s2 _ _ ha;refine #[_,rfl,a,rfl,#[_,SqL.of (k3 _ _ (au h2a hp) h2a)],?_];refine iz (xs:=ws) (λi U H4=>∃ x4:Option V,U=[some (.ref a),some (.ref c),some (.ref D),x3,x4,some (.ref p)]/\H4 p=some (.lst (((List.range (i+1)).map λp=>stN cs (es.take p)).map nV))/\But p H2 H4) ?_ ?_ ?_ ?_
  .exact #[_,rfl,af,k3]
  .rintro i U H4 _ ⟨x4,rfl,_,k4⟩;exact SqL.of (k4 _ _ (au h2a hp) h2a)
  .rintro i x U H4 hx ⟨x4,rfl,h4,k4⟩;obtain ⟨e,he,hhas⟩:=hw.get hx;obtain ⟨b,y1,y2,rfl,hb,hy1,hy2⟩:=(show hasP K H e x from hhas);have hy1:y1=.int e.1:=hy1;have hy2:y2=.int e.2:=hy2;subst hy1 hy2;have h2b:=s2 _ _ hb;have h4b:=k4 _ _ (au h2b hp) h2b;have h4D:=k4 _ _ nDp h2;have hi:=(aZ.mp he).1;have htk:es.take (i+1)=es.take i++[e]:=by
    rw[cy hi,(aZ.mp he).2]
   have hon:=DD cs (es.take i) e;rw[<-htk]at hon;rw[lh]at h4;have hlen:((((List.range i).map λp=>stN cs (es.take p))++[stN cs (es.take i)]).map nV).length < sizeLine:=a0 (by
    rw[ai,bg,ai,cU,cT];lia)
   refine #[_,rfl,.inl #[rfl,_,SqL.of h4],?_];refine #[_,rfl,D,rfl,.inr #[_,.inl h4D],_,rfl,_,rfl,_,rfl,_,_,_,_,rfl,rfl,SqL.of h4,wQ,_,DGet.t (k:=kE e) h4D h4b,?_];have ev:(valV (kvT 0 cs) (kE e)).getD (nV (stN cs (es.take i)))=nV (stN cs (es.take (i+1))):=by
    rw[wU,hon];by_cases z:e∈cs
    .rw[aq z,aq z,je];rfl
    .rw[ak z,ak z];rfl
   rw[ev];refine #[_,_,_,rfl,rfl,h4,hlen,?_];refine #[_,rfl,?_,λb o n e=>by rw[ah n];exact k4 b o n e];rw[af,lh,bq (l₂:=[stN cs (es.take (i+1))]),lh];rfl
  .rintro U H4 ⟨x4,rfl,h4,k4⟩;refine #[_,rfl,?_];rw[<-hwl]at h4;refine q p H4 (s2.free hp) (s2.trans λb o e=>k4 b o (au e hp) e) h4
def dD {α β:Type}{F G:α->β->Prop}(h:∀ a b,F a b->G a b):∀{l:List α} {m:List β},Paired F l m->Paired G l m
 | _,_,.nil=>.nil
 | _,_,.cons a t=>.cons (h _ _ a) (dD h t)
def jJ {α β:Type}{F:α->β->Prop}{a:α}{b:β}:∀{l:List α} {m:List β},Paired F l m->F a b->Paired F (l++[a]) (m++[b])
 | _,_,.nil,h=>.cons h .nil
 | _,_,.cons a t,h=>.cons a (jJ t h)
def sY {α β:Type}{F:α->β->Prop}:∀{l:List α} {m:List β} {i:Nat} {a:α},Paired F l m->l[i]?=some a->∃ b,m[i]?=some b/\F a b
 | _,_,i,a,.nil,h=>by simp at h
 | _::_,b::_,0,a,.cons h t,e=>by
  have:=aM (show some _=some a from e);subst this;exact #[b,rfl,h]
 | _::_,_::_,i+1,a,.cons h t,e=>by
  obtain ⟨q,h1,h2⟩:=sY (i:=i) t (by simpa using e);exact #[q,by simpa using h1,h2]
def nc {α β:Type}{F:α->β->Prop}:∀{l:List α} {m:List β} {i:Nat} {b:β},Paired F l m->m[i]?=some b->∃ a,l[i]?=some a/\F a b
 | _,_,i,a,.nil,h=>by simp at h
 | a::_,_::_,0,b,.cons h t,e=>by
  have:=aM (show some _=some b from e);subst this;exact #[a,rfl,h]
 | _::_,_::_,i+1,a,.cons h t,e=>by
  obtain ⟨q,h1,h2⟩:=nc (i:=i) t (by simpa using e);exact #[q,by simpa using h1,h2]
def cY (Av:List Addr)(H:Hp)(es:List En)(ps:List Nat)(Pw:List (List Int))(c:Nat)(x:V):Prop:=∃ j s,x=.ref j/\s∉Av/\H j=some (.tup [.int (c:Int),.ref s])/\H s=some (.lst ((lb es (ae ps Pw c)).map nV))
def BrAt (Av:List Addr)(H:Hp)(ps:List Nat)(Pw:List (List Int))(k:Nat)(x:V):Prop:=∃ b o j xs,x=.ref b/\o∉Av/\j∉Av/\H b=some (.tup [.int ((ae ps Pw k).length:Nat),.ref o,.ref j])/\H o=some (.lst ((sV k (ae ps Pw k)).map nV))/\H j=some (.lst xs)/\Paired (cY Av H (ae ps Pw k) ps Pw) (bt ps k (ps.length+1)) xs
def cY.same {Pw:List (List Int)}{c:Nat}(e:Same H H')(h:cY Av H es ps Pw c x):cY Av H' es ps Pw c x:=by
 obtain ⟨j,s,h1,h2,h3,h4⟩:=h;exact #[j,s,h1,h2,e _ _ h3,e _ _ h4]
def cY.but {p:Addr}{Av:List Addr}{Pw:List (List Int)}{c:Nat}{zs:List V}(k:But p H H')(hp:p∈Av)(hz:H p=some (.lst zs))(h:cY Av H es ps Pw c x):cY Av H' es ps Pw c x:=by
 obtain ⟨j,s,h1,h2,h3,h4⟩:=h;exact #[j,s,h1,h2,k _ _ (λz=>by rw[z,hz]at h3;cases h3) h3,k _ _ (λz=>h2 (z ▸ hp)) h4]
def cY.less {Av Av':List Addr}{Pw:List (List Int)}{c:Nat}(s:∀ a∈Av',a∈Av)(h:cY Av H es ps Pw c x):cY Av' H es ps Pw c x:=by
 obtain ⟨j,q,h1,h2,h3,h4⟩:=h;exact #[j,q,h1,λz=>h2 (s _ z),h3,h4]
def BrAt.same {Pw:List (List Int)}{k:Nat}(e:Same H H')(h:BrAt Av H ps Pw k x):BrAt Av H' ps Pw k x:=by
 obtain ⟨b,o,j,xs,h1,h2,h3,h4,h5,h6,h7⟩:=h;exact #[b,o,j,xs,h1,h2,h3,e _ _ h4,e _ _ h5,e _ _ h6,dD (λa b=>cY.same e) h7]
def BrAt.but {p:Addr}{Av:List Addr}{Pw:List (List Int)}{k:Nat}{zs:List V}(kk:But p H H')(hp:p∈Av)(hz:H p=some (.lst zs))(h:BrAt Av H ps Pw k x):BrAt Av H' ps Pw k x:=by
 obtain ⟨b,o,j,xs,h1,h2,h3,h4,h5,h6,h7⟩:=h;exact #[b,o,j,xs,h1,h2,h3,kk _ _ (λz=>by rw[z,hz]at h4;cases h4) h4,kk _ _ (λz=>h2 (z ▸ hp)) h5,kk _ _ (λz=>h3 (z ▸ hp)) h6,dD (λa b=>cY.but kk hp hz) h7]
def BrAt.less {Pw:List (List Int)}{k:Nat}(h:BrAt Av H ps Pw k x):BrAt [] H ps Pw k x:=by
 obtain ⟨b,o,j,xs,h1,h2,h3,h4,h5,h6,h7⟩:=h;exact #[b,o,j,xs,h1,nofun,nofun,h4,h5,h6,dD (λa b=>cY.less (λa z=>absurd z bR)) h7]
inductive spBr (K:Frag)(vs:List V)(H:Hp)(Q:VK)(w_1:XK):Prop
 | c:∀(st:Addr) (ps:List Nat) (Pw:List (List Int)) (t rs:Addr) (as:List Addr),vs=[.ref st]->cO H st ps Pw t rs as->(∀(p:Addr) (xs:List V) (H':Hp),H p=none->Same H H'->H' p=some (.lst xs)->Paired (BrAt [] H' ps Pw) (List.range (ps.length+1)) xs->Q (.ref p) H')->spBr K vs H Q w_1
inductive ng (K:Frag)(vs:List V)(H:Hp)(Q:VK)(w_1:XK):Prop
 | c:∀(st:Addr) (ps:List Nat) (Pw:List (List Int)) (t rs:Addr) (as:List Addr) (pf:Addr) (qs:List Addr),vs=[.ref t,.ref pf]->cO H st ps Pw t rs as->H pf=some (.lst (qs.map V.ref))->bJ K H ps Pw (List.range (ps.length+1)) qs->(∀(p:Addr) (xs:List V) (H':Hp),H p=none->Same H H'->H' p=some (.lst xs)->Paired (BrAt [] H' ps Pw) (List.range (ps.length+1)) xs->Q (.ref p) H')->ng K vs H Q w_1
def LF (T:Txt K mg)(yD:DF K mg "bridges_of" p6 kI)(yw:FC P w K mg base 1 "children" mM (kW K))(NL:FC P w K mg base 1 "starts_of" rB (wV K))(NM:FC P w K mg base 1 "owns_of" rA (wR K)):FC P w K mg base 2 "bridges_of" kI (ng K):=by
 refine yD.ok mE (λvs H Q E h=>?_) (λf cdv A outer s H vs Q E hr h=>?_)
 .obtain ⟨st,ps,Pw,t,rs,as,pf,qs,rfl,_⟩:=h;rfl
 obtain ⟨st,ps,Pw,t,rs,as,pf,qs,rfl,S,h1,hF,q⟩:=h;refine #[_,(aF (aI (i:=2) mE.nd rfl (av rfl) (cR ab))
   (aF (ck PassesOwn.never rfl (uW rfl T.xY (aa (pv 1) ab)) (j4 rfl (dH (aQ (i:=3) mE.nd rfl (av rfl)) (dH (aQ (i:=4) mE.nd rfl (fQ rfl)) iy))) (aF (j8 (i:=5) (N:=["child","full","fulls"]) (own:=1) (cap:=[4,1]) mE.nd rfl rfl rfl (c8 (az yw hr (aa (pv 0) (aa (pv 3) ab)))) #[rfl,rfl,rfl,rfl,rfl,rfl] (λ_ _ _ _ _=>(aQ (i:=0) (show List.Nodup (["child","full","fulls"]:List Str) by decide +kernel) rfl (av rfl))) (λ_ _ _ _ _=>dN) (λ_ _ _ _ _=>(cm (aa (pv 0) (aa (az NL hr (aa (pv 1) (aa (ax (bh (K:=K)) (pv 2) (pv 0) (λ_ _=>rfl)) ab))) ab)))))
   (ao (cF (dY F.plainAttrs_list F.slot_list_append F.type_list_append dZ (pv 2) (aa (cm (aa (aP (bH (K:=K)) rfl T.bG bE (aa (pv 4) ab)) (aa (az NM hr (aa (pv 4) (aa (pv 3) ab))) (aa (pv 5) ab)))) ab))))))
   (ao (aJ (pv 2))))),?_]
 have hfew:=S.few;have hkeys:=S.keys.k;have hql:=hF.length;rw[cU]at hql;refine #[(by show 0<=sizeLine;decide),λp hp=>?_];have k0:But p H (upd H p (.lst [])):=λb o n e=>by rw[ah n];exact e
 have npf:pf≠p:=au h1 hp;refine #[_,rfl,pf,rfl,#[_,SqL.of (k0 _ _ npf h1)],?_];refine uX (xs:=qs.map V.ref) (λi U H2=>∃(xs:List V) (x4 x5 x6:Option V),U=[some (.ref t),some (.ref pf),some (.ref p),x4,x5,x6]/\H2 p=some (.lst xs)/\Paired (BrAt [p] H2 ps Pw) (List.range i) xs/\But p H H2) ?_ ?_ ?_ ?_
 .exact #[[],_,_,_,rfl,af,.nil,k0]
 .rintro i U H2 _ ⟨xs,x4,x5,x6,rfl,_,_,k2⟩;exact SqL.of (k2 _ _ npf h1)
 .rintro i x U H2 r hx ⟨xs,x4,x5,x6,rfl,h2,hB,k2⟩ hr;rw[bj]at hx;obtain ⟨qq,hqi,rfl⟩:=fS.mp hx;have hi:i<ps.length+1:=by
   have:=(aZ.mp hqi).1;lia
  have hxl:xs.length=i:=by
   have:=Paired.length hB;rw[cU]at this;exact this.symm
  have noP:∀{b:Addr} {o:HO},H b=some o->b≠p:=λe=>au e hp;have s12:Same H H2:=λb o e=>k2 b o (noP e) e;have S2:=S.same s12;have F2:=hF.same s12;have h2f:=s12 _ _ h1;obtain ⟨q2,hq2,ws,hq3,hw3⟩:=F2.get (i:=i) (j:=i) (fT hi);rw[hqi]at hq2;have:=aM hq2;subst this;refine #[r,_,rfl,SqT.of af,rfl,_,_,rfl,_,_,rfl,rfl,?_];have sr:=aD hr (.tup [.int (i:Int),.ref qq]);generalize upd H2 r (.tup [.int (i:Int),.ref qq])=H3 at sr ⊢;refine #[_,rfl,_,rfl,t,ps,i,rfl,sr _ _ S2.tr,by lia,λc H4 hc s4 h4=>?_];have s24:Same H2 H4:=sr.trans s4;refine #[c,rfl,#[_,SqL.of h4],λD hD=>?_];have hpD:p≠D:=au (s24 _ _ h2) hD;have F4:=F2.same s24;have h4q:=s24 _ _ hq3;have h4w:=hw3.mono s24.ext;have hfl:=m8 S.T S.len (Pw:=Pw) hi;refine eZ (xs:=(bt ps i (ps.length+1)).map nV) (λm U H5=>∃(ys:List V) (x0:Option V),U=[x0,some (.ref qq),some (.ref pf)]/\H5 D=some (.lst ys)/\Paired (cY [p,D] H5 (ae ps Pw i) ps Pw) ((bt ps i (ps.length+1)).take m) ys/\But D H4 H5) ?_ ?_ ?_ ?_
  .exact #[[],_,rfl,af,.nil,λb o n e=>by rw[ah n];exact e]
  .rintro m U H5 _ ⟨ys,x0,rfl,_,_,k5⟩;exact k5.sq (SqL.of h4) hD
  .rintro m u x U H5 hx hm ⟨ys,x0,rfl,h5,hJ,k5⟩;obtain ⟨hmi,rfl⟩:=jD hx;have hcl:=kR ps i (ps.length+1);have hyl:=Paired.length hJ;rw[bw]at hyl;rw[ai]at hm;have hcm:(bt ps i (ps.length+1))[m]?=some ((bt ps i (ps.length+1)).getD m 0):=by
    rw[aH,aC hmi];rfl
   have htk2:(bt ps i (ps.length+1)).take (m+1)=(bt ps i (ps.length+1)).take m++[(bt ps i (ps.length+1)).getD m 0]:=by
    rw[cy hmi,aH,aC hmi];rfl
   rw[htk2];generalize (bt ps i (ps.length+1)).getD m 0=ch at hcm ⊢;obtain ⟨hchn,hchp⟩:=cM.mp (dF hcm);have s45:Same H4 H5:=λb o e=>k5 b o (au e hD) e;have F5:=F4.same s45;obtain ⟨qc,hqc,wc,hqc3,hwc⟩:=F5.get (i:=ch) (j:=ch) (fT hchn);have hfc:=m8 S.T S.len (Pw:=Pw) hchn;refine d3 ?_;refine #[_,rfl,_,rfl,_,rfl,_,rfl,_,_,_,_,rfl,rfl,SqL.of (s45 _ _ (s24 _ _ h2f)),fO hqc,?_];refine #[qq,qc,ws,wc,ae ps Pw i,ae ps Pw ch,rfl,s45 _ _ h4q,h4w.mono s45.ext,by lia,hqc3,hwc,by lia,m7 S.T S.R hchn,λsa H6 hsa s6 h6=>?_];refine #[(by show 2<=sizeLine;decide),λj hj=>?_];have sj:=aD hj (.tup [.int (ch:Int),.ref sa]);have hjj:upd H6 j (.tup [.int (ch:Int),.ref sa]) j=some (.tup [.int (ch:Int),.ref sa]):=af;generalize upd H6 j (.tup [.int (ch:Int),.ref sa])=H7 at sj hjj ⊢;have s57:=s6.trans sj;have h7D:=s57 _ _ h5;have nsaD:sa≠D:=bf (au h5 hsa);have nsap:sa≠p:=bf (au (s45 _ _ (s24 _ _ h2)) hsa);have kD:But D H7 (upd H7 D (.lst (ys++[.ref j]))):=λb o n e=>by rw[ah n];exact e
   refine #[_,h7D,a0 (by lia),u-1,by lia,by rw[ai];lia,ys++[.ref j],_,rfl,af,?_,λb o n e=>by rw[ah n];exact s57 _ _ (k5 b o n e)];refine jJ (dD (λa b h=>cY.but kD (bV _ cb) h7D (cY.same s57 h)) hJ) ?_;refine cY.but kD (bV _ cb) h7D #[j,sa,rfl,?_,hjj,sj _ _ h6];intro z;rcases aW.mp z with z|z
   .exact nsap z
   .exact nsaD (bP.mp z)
  .rintro U H5 ⟨ys,x0,rfl,h5,hJ,k5⟩;rw[ai,bA (aj _)]at hJ;have s45:Same H4 H5:=λb o e=>k5 b o (au e hD) e;have s25:=s24.trans s45;refine #[_,rfl,.inl #[rfl,_,SqL.of (s25 _ _ h2)],_,rfl,_,_,rfl,.inl (SqL.of (s45 _ _ h4q)),?_];have hwl:=h4w.length;refine #[_,rfl,_,rfl,qq,ws,ae ps Pw i,i,rfl,s45 _ _ h4q,h4w.mono s45.ext,by lia,λo H6 ho s6 h6=>?_];refine #[_,rfl,(by show 3<=sizeLine;decide),λb hb=>?_];have sb:=aD hb (.tup [.int ((ws.length:Nat):Int),.ref o,.ref D]);have hbb:upd H6 b (.tup [.int ((ws.length:Nat):Int),.ref o,.ref D]) b=some (.tup [.int ((ws.length:Nat):Int),.ref o,.ref D]):=af;generalize upd H6 b (.tup [.int ((ws.length:Nat):Int),.ref o,.ref D])=H7 at sb hbb ⊢;have s57:=s6.trans sb;have s27:=s25.trans s57;have h7p:=s27 _ _ h2;have kp:But p H7 (upd H7 p (.lst (xs++[.ref b]))):=λb o n e=>by rw[ah n];exact e
   have nop:o≠p:=bf (au (s25 _ _ h2) ho);refine #[_,_,_,rfl,rfl,h7p,a0 (by lia),?_];refine #[xs++[.ref b],_,_,_,rfl,af,?_,λb o n e=>by rw[ah n];exact s27 _ _ (k2 b o n e)];rw[jg];refine jJ (dD (λa b h=>BrAt.but kp cb h7p (BrAt.same s27 h)) hB) ?_;refine BrAt.but kp cb h7p #[b,o,D,ys,rfl,λz=>nop (bP.mp z),λz=>hpD (bP.mp z).symm,?_,sb _ _ h6,s57 _ _ h5,?_]
   .rw[hbb,hwl]
   .exact dD (λa b h=>cY.same s57 (cY.less (λa z=>by rw[bP.mp z];exact cb) h)) hJ
 .rintro U H2 ⟨xs,x4,x5,x6,rfl,h2,hB,k2⟩;refine #[_,rfl,?_];rw[ai,<-hql]at hB;refine q p xs H2 hp (λb o e=>k2 b o (au e hp) e) h2 (dD (λa b=>BrAt.less) hB)
def LG (T:Txt K mg)(yE:DF K mg "bridges" p7 rC)(hE:FC P w K mg base 8 "full_rows" iQ (jH K))(nF:FC P w K mg base 2 "bridges_of" kI (ng K)):FC P w K mg base 9 "bridges" rC (spBr K):=by
 refine yE.ok Je (λvs H Q E h=>?_) (λf cdv A outer s H vs Q E hr h=>?_)
 .obtain ⟨st,ps,Pw,t,rs,as,rfl,_⟩:=h;rfl
 obtain ⟨st,ps,Pw,t,rs,as,rfl,S,q⟩:=h;refine #[_,(ao (aJ (az nF hr (aa (ax (aL (K:=K)) (pv 0) ag (λ_ _=>rfl)) (aa (az hE hr (aa (pv 0) ab)) ab))))),?_];refine #[_,rfl,_,_,_,_,rfl,rfl,SqT.of S.st,rfl,?_];refine #[_,rfl,st,ps,Pw,t,rs,as,rfl,S,λpf qs H1 hpf s1 h1 hqn hqf hpq hF=>?_];exact #[st,ps,Pw,t,rs,as,pf,qs,rfl,S.same s1,h1,hF,λp xs H2 hp s2 h2 hB=>q p xs H2 (s1.free hp) (s1.trans s2) h2 hB]
def DL {m:Nat}:∀{Pw:List (List Int)},(∀ row∈Pw,row.length<=m)->dC Pw<=Pw.length*m
 | [],_=>cf _
 | r::Pw,h=>by
  have h1:=h r cb;have h2:=DL (m:=m) (Pw:=Pw) λx hx=>h x (bV _ hx);unfold dC at h2 ⊢;rw[bK,cP,cS,Nat.succ_mul];lia
def aE (es:List (Int×Int))(key:Int):Nat:=(es.filter λe=>decide (e.1<key)).length
def LH {es:List (Int×Int)}{key:Int}{m:Nat}(hm:m<=es.length)(h1:∀ i,i<m->decide ((es.getD i (0,0)).1<key)=true)(h2:∀ i,m<=i->i<es.length->decide ((es.getD i (0,0)).1<key)=false):aE es key=m:=by
 unfold aE
 conv=>lhs;rw[<-eK m es]
 rw[c5,bg];have e1:(es.take m).filter (λe=>decide (e.1<key))=es.take m:=by
  rw[oj];intro x hx;obtain ⟨i,hi,rfl⟩:=dU hx;rw[bw]at hi;have:=h1 i (by lia);rw[aH,aC (by lia)]at this;rw[List.getElem_take];exact this
 have e2:(es.drop m).filter (λe=>decide (e.1<key))=[]:=by
  rw[fD];intro x hx;obtain ⟨i,hi,rfl⟩:=dU hx;rw[d8]at hi;have:=h2 (m+i) (by lia) (by lia);rw[aH,aC (by lia)]at this;rw[List.getElem_drop];intro z;rw[show decide (es[m+i].1<key)=false from this]at z;cases z
 rw[e1,e2,bw,gC];lia
def lj (h:Rise es):es.Pairwise (λa b=>a.1<=b.1):=h.imp λ{a b} h=>by
 have:=fj.mp h;lia
def g8 (es:List (Int×Int))(key:Int):aE es key<=es.length:=dW _ _
def nh {key:Int}:∀{es:List (Int×Int)},es.Pairwise (λa b=>a.1<=b.1)->(∀ e∈es.take (aE es key),e.1<key)/\∀ e∈es.drop (aE es key),¬ e.1<key
 | [],_=>#[λe he=>(by simp at he),λe he=>(by simp at he)]
 | a::es,h=>by
  rw[oB]at h;obtain ⟨h1,h2⟩:=nh (key:=key) h.2;by_cases c:a.1<key
  .have e:aE (a::es) key=aE es key+1:=by
    unfold aE;rw[dw (by simpa using c),cS]
   rw[e,List.take_succ_cons,List.drop_succ_cons];refine #[λx hx=>?_,h2];rcases aW.mp hx with z|z
   .rw[z];exact c
   .exact h1 x z
  .have all:∀ x∈a::es,¬ x.1<key:=λx hx=>by
    rcases aW.mp hx with z|z
    .rw[z];exact c
    .have:=h.1 x z;lia
   have e:aE (a::es) key=0:=by
    unfold aE;rw[fD.mpr λx hx=>by simpa using all x hx];rfl
   rw[e];exact #[λx hx=>(by simp at hx),λx hx=>all x (by simpa using hx)]
def DN {es:List (Int×Int)}(h:es.Pairwise (λa b=>a.1<=b.1)):es.take (aE es key)=es.filter λe=>decide (e.1<key):=by
 obtain ⟨h1,h2⟩:=nh (key:=key) h
 conv=>rhs;rw[<-eK (aE es key) es]
 rw[c5,oj.mpr λe he=>aO (h1 e he),fD.mpr λe he z=>h2 e he (bW z),cB]
def wW {es:List (Int×Int)}(h:es.Pairwise (λa b=>a.1<=b.1)){i:Nat}(hi:i<es.length):(i<aE es key->es[i].1<key)/\(aE es key<=i->¬ es[i].1<key):=by
 obtain ⟨h1,h2⟩:=nh (key:=key) h;refine #[λz=>h1 _ ?_,λz=>h2 _ ?_]
 .exact uq.mpr #[i,by lia,rfl]
 .refine List.mem_drop_iff_getElem.mpr #[i-aE es key,by lia,?_];congr 1;lia
structure LI (C F hd:List (Int×Int))(key:Int)(st:Nat):Prop where
 lo:st<=aE C key
 hi:aE C key<=st+2
 none:st=0->∀ e∈hd,¬ e.1<key
 some:st≠0->∃ h:st-1<C.length,C[st-1]∈hd/\C[st-1].1<key/\C[st-1]∈F
def wX (T:aN ps)(R:bc Pw)(few:ps.length<=40){k c:Nat}(hk:k<ps.length+1)(hc:par ps c=some k)(key:Int) :
  LI (ae ps Pw c) (ae ps Pw k) (bI (ae ps Pw c)) key (stN (ae ps Pw c) ((ae ps Pw k).take (aE (ae ps Pw k) key))):=by
 have hcn:=(bz T hc).2;have hst:=DH T R hk hc (Pw:=Pw) (aE (ae ps Pw k) key) (g8 _ _);have hF:=lj (cv T R hk);have hC:=lj (cv T R hcn);have hcome:=DC T R hk hc (Pw:=Pw);have hgr:=λt=>Lz (kZ T R few hcn) (cv T R hcn) (t:=t);have hla:=LA (kZ T R few hcn) (cv T R hcn);have hsub:=dv (ae ps Pw c);have hpick:=DG (ae ps Pw c);have hspl:∀ j∈spL (ae ps Pw c),j<(ae ps Pw c).length:=λj hj=>by
  have:=(sX (ae ps Pw c)).lt hj;rw[g5]at this;exact this
 have ht:inN (ae ps Pw c) ((ae ps Pw k).take (aE (ae ps Pw k) key))=aE (bI (ae ps Pw c)) key:=by
  unfold inN;rw[DN hF,<-hcome];unfold aE;rw[oC,oC];congr 2
  funext e
  rw[Bool.and_comm]
 rw[hst,ht];have hmem:∀ e∈bI (ae ps Pw c),e∈ae ps Pw k:=λe he=>by
  rw[<-hcome]at he;exact (d7.mp he).1
 clear hst ht hcome hF;generalize ae ps Pw k=F at hmem ⊢;generalize ae ps Pw c=C at *;have hhd:(bI C).Pairwise (λa b=>a.1<=b.1):=hC.sublist hsub;have hlen:(bI C).length=(spL C).length:=by rw[hpick,ai]
 have hti:=g8 (bI C) key;have hat:∀ i (h:i<(spL C).length),∃(h1:(spL C)[i]<C.length) (h2:i<(bI C).length),(bI C)[i]=C[(spL C)[i]]:=λi h=>by
  have h1:=hspl _ (cE h);refine #[h1,by lia,?_];have e:(bI C)[i]?=some C[(spL C)[i]]:=by
   rw[hpick,bj,aC h];show some (C.getD (spL C)[i] (0,0))=_;rw[aH,aC h1];rfl
  exact (aZ.mp e).2
 have bat:=λi h=>wW (key:=key) hhd (i:=i) h;have cat:=λi h=>wW (key:=key) hC (i:=i) h;have hall:=nh (key:=key) hhd;generalize aE (bI C) key=t at *;have hsp:∀ i (h:i<(spL C).length),stAt (spL C) (i+1)=(spL C)[i]+1:=λi h=>by
  unfold stAt;rw[ak (by lia),jU,aH,aC h];rfl
 have before:∀ t',t=t'+1->∃(h:t'<(spL C).length) (h1:(spL C)[t']<C.length),stAt (spL C) t=(spL C)[t']+1/\C[(spL C)[t']]∈bI C/\C[(spL C)[t']].1<key:=λt' e=>by
  have h:t'<(spL C).length:=by lia
  obtain ⟨h1,h2,h3⟩:=hat t' h;refine #[h,h1,by rw[e];exact hsp t' h,?_,?_]
  .rw[<-h3];exact cE h2
  .rw[<-h3];exact (bat t' h2).1 (by lia)
 refine #[?_,?_,?_,?_]
 .cases t with
  | zero=>exact cf _
  | succ t'=>
   obtain ⟨h,h1,e,_,hlt⟩:=before t' rfl;rw[e];refine Nat.succ_le_of_lt (oz λz=>(cat _ h1).2 z hlt)
 .rcases Nat.lt_or_ge t (spL C).length with z|z
  .obtain ⟨h1,h2,h3⟩:=hat t z;have hge:¬ C[(spL C)[t]].1<key:=by
    rw[<-h3];exact (bat t h2).2 (aj _)
   have hle:aE C key<=(spL C)[t]:=jd λy=>hge ((cat _ h1).1 y);have:=hgr t z;rw[hsp t z]at this;lia
  .have e:t=(spL C).length:=by lia
   rw[e];have:=g8 C key;lia
 .intro z;cases t with
  | zero=>exact λe he=>hall.2 e (by simpa using he)
  | succ t'=>
   obtain ⟨_,_,e,_⟩:=before t' rfl;lia
 .intro z;cases t with
  | zero=>exact absurd rfl z
  | succ t'=>
   obtain ⟨h,h1,e,hm,hlt⟩:=before t' rfl;have e2:stAt (spL C) (t'+1)-1=(spL C)[t']:=by lia
   refine #[by lia,?_];have e3:C[stAt (spL C) (t'+1)-1]'(by lia)=C[(spL C)[t']]:=by
    congr 1
   rw[e3];exact #[hm,hlt,hmem _ hm]
def fP {β:Type}{F:Nat->β->Prop}{n:Nat}{l:List β}{k:Nat}(h:Paired F (List.range n) l)(hk:k<n):∃ b,l[k]?=some b/\F k b:=sY h (fT hk)
def DO :∀{cs:List Nat} {xs:List V},Paired (cY Av H es ps Pw) cs xs->∃ kvs:List (Key×V),Paired (λ(z:V) (kv:Key×V)=>∃ b,z=.ref b/\H b=some (.tup [kV kv.1,kv.2])) xs kvs/\kvs.map (·.1)=cs.map (λc:Nat=>(Sum.inl (c:Int):Key))/\
  ∀ c∈cs,cs.Nodup->∃ s,valV kvs (.inl (c:Int))=some (.ref s)/\H s=some (.lst ((lb es (ae ps Pw c)).map nV))
 | _,_,.nil=>#[[],.nil,rfl,λc hc=>nomatch hc]
 | c0::cs,_,.cons ⟨j,s,e1,_,e3,e4⟩ t=>by
  obtain ⟨kvs,h1,h2,h3⟩:=DO t;refine #[(.inl (c0:Int),.ref s)::kvs,.cons #[j,e1,e3] h1,by rw[bK,h2];rfl,λc hc hn=>?_];rw[cZ]at hn;unfold valV;by_cases z:c=c0
  .subst z;exact #[s,by rw[List.find?_cons_of_pos (by simp)];rfl,e4]
  .rw[List.find?_cons_of_neg (by simp;lia)];rcases aW.mp hc with y|y
   .exact absurd y z
   .exact h3 c y hn.2
def wY (ps:List Nat)(k n:Nat):(bt ps k n).Nodup:=by
 unfold bt;exact List.Pairwise.filter _ oA
def figN (n:Nat):Nat:=if h:n=0 then 0 else figN (n/2)+1
termination_by n
decreasing_by exact Nat.div_lt_self (ux h) (by decide)
def wZ:figN 0=0:=by
 unfold figN;rfl
def sZ {n:Nat}(h:n≠0):figN n=figN (n/2)+1:=by
 rw[figN,dif_neg h]
def DP:∀(n a b:Nat),b<=n->a<=b->figN a<=figN b
 | 0,a,b,hb,ha=>by
  have e1:a=0:=by lia
  have e2:b=0:=by lia
  rw[e1,e2];exact aj _
 | n+1,a,b,hb,ha=>by
  by_cases z:a=0
  .rw[z,wZ];exact cf _
  .rw[sZ z,sZ (show b≠0 by lia)];exact Nat.succ_le_succ (DP n _ _ (by lia) (by lia))
def tj:∀(n m:Nat),m<=n->figN m<=m
 | 0,m,h=>by
  rw[show m=0 by lia,wZ];exact aj _
 | n+1,m,h=>by
  by_cases z:m=0
  .rw[z,wZ];exact aj _
  .rw[sZ z];have:=tj n (m/2) (by lia);lia
inductive tm (P:Program)(w:World)(K:Frag)(mg:Str->Option Value)(base:Heap)(vs:List V)(H:Hp)(Q:VK)(w_1:XK):Prop
 | c:∀(n:Nat) (f:Addr) (ps:List Str) (sp:Sp) (b:Nat->Bool) (R:List Nat->Hp->Prop),vs=[.int n,.ref f]->FV P w K mg base 3 f ps sp->R [] H->(∀(i:Nat) (L:List Nat) (H1:Hp) (Q1:VK),i<n->L.length<=figN n->R L H1->(∀ H2,R (L++[i]) H2->Q1 (.bl (b i)) H2)->sp [.int i] H1 Q1 E0)->(∀ i j,i<=j->j<n->b j=true->b i=true)->(∀(m:Nat) (L:List Nat) (H':Hp),m<=n->(∀ i,i<m->b i=true)->(∀ i,m<=i->i<n->b i=false)->L.length<=figN n->R L H'->Q (.int m) H')->tm P w K mg base vs H Q w_1
def LJ:L2.St->Hp->Nat:=λU _=>match U with
 | [_,_,some (.int lo),some (.int hi),_]=>(hi-lo).toNat
 | _=>0
def DQ (T:Txt K mg)(t5:DF K mg "how_many_below" pC mH):FC P w K mg base 4 "how_many_below" mH (tm P w K mg base):=by
 refine t5.ok kl (λvs H Q E h=>?_) (λf cdv A outer s H vs Q E hr h=>?_)
 .obtain ⟨n,f,ps,sp,b,R,rfl,_⟩:=h;rfl
 obtain ⟨n,f,ps,sp,b,R,rfl,hF,hR,hask,hmono,q⟩:=h;refine #[_,(aF (aI (i:=2) kl.nd rfl (av rfl) ag)
   (aF (aI (i:=3) kl.nd rfl (av rfl) (pv 0))
   (aF (oI PassesOwn.never (aV eL (pv 2) (pv 3) (aY _)) (aF (aI (i:=4) kl.nd rfl (av rfl) (aG uF (aG cz (pv 2) (pv 3)) ag))
   (ao (bp (c6 (vo (kr:=3) hr (pv 1) (aa (pv 4) ab))) (ao (aI (i:=2) kl.nd rfl (av rfl) (aG cz (pv 4) ag))) (ao (aI (i:=3) kl.nd rfl (av rfl) (pv 4)))))))
   (ao (aJ (pv 2)))))),?_]
 refine #[_,rfl,?_];refine ve (λU H2=>∃(lo hi:Nat) (x4:Option V) (L:List Nat),U=[some (.int n),some (.ref f),some (.int lo),some (.int hi),x4]/\lo<=hi/\hi<=n/\(∀ i,i<lo->b i=true)/\(∀ i,hi<=i->i<n->b i=false)/\L.length+figN (hi-lo)<=figN n/\R L H2) (λU H2=>∃(lo:Nat) (x4:Option V) (L:List Nat),U=[some (.int n),some (.ref f),some (.int lo),some (.int lo),x4]/\lo<=n/\(∀ i,i<lo->b i=true)/\(∀ i,lo<=i->i<n->b i=false)/\L.length<=figN n/\R L H2) LJ ?_ ?_ ?_ ?_
 .exact #[0,n,_,[],rfl,cf _,aj _,λi h=>absurd h (jS _),λi h1 h2=>absurd h2 (Nat.not_lt.mpr h1),by rw[gC,Nat.sub_zero,je];exact aj _,hR]
 .rintro U H2 ⟨lo,hi,x4,L,rfl,h1,h2,hb1,hb2,hL,hR2⟩;refine #[_,rfl,_,rfl,_,_,rfl,rfl,_,rfl,?_];refine ite2 (λc=>?_) (λc=>?_)
  .have c1:(lo:Int)<(hi:Int):=bW c;have em:((lo:Int)+(hi:Int))/2=(((lo+hi)/2:Nat):Int):=by lia
   have m1:lo<=(lo+hi)/2:=by lia
   have m2:(lo+hi)/2<hi:=by lia
   have fst:figN (hi-lo)=figN ((hi-lo)/2)+1:=sZ (by lia);have fle:∀ d,d<=(hi-lo)/2->(L++[(lo+hi)/2]).length+figN d<=figN n:=λd hd=>by
    have:=DP _ d _ (aj _) hd;rw[bg,cT];lia
   refine #[_,rfl,_,rfl,_,_,rfl,rfl,_,_,rfl,rfl,#[by decide,by decide],?_];refine #[_,rfl,f,3,ps,sp,rfl,hF,aj _,_,rfl,?_];show sp [V.int (((lo:Int)+(hi:Int))/2)] H2 _ E0;rw[em];refine hask ((lo+hi)/2) L H2 _ (by lia) (by lia) hR2 λH3 hR3=>#[_,rfl,?_];cases hbm:b ((lo+hi)/2) with
   | true=>
    refine iteT ?_;refine #[_,rfl,_,_,rfl,rfl,#[(lo+hi)/2+1,hi,some (V.int (((lo:Int)+(hi:Int))/2)),_,?_,by lia,h2,λi hi'=>hmono i ((lo+hi)/2) (by lia) (by lia) hbm,hb2,fle _ (by lia),hR3],?_]
    .show [some (V.int n),some (V.ref f),some (V.int (((lo:Int)+(hi:Int))/2+1)),some (V.int hi),some (V.int (((lo:Int)+(hi:Int))/2))]=_;rw[em,Int.natCast_add];rfl
    .show ((hi:Int)-(((lo:Int)+(hi:Int))/2+1)).toNat<((hi:Int)-(lo:Int)).toNat;lia
   | false=>
    refine iteF ?_;refine #[_,rfl,#[lo,(lo+hi)/2,some (V.int (((lo:Int)+(hi:Int))/2)),_,?_,m1,by lia,hb1,λi hi' hin=>?_,fle _ (by lia),hR3],?_]
    .show [some (V.int n),some (V.ref f),some (V.int lo),some (V.int (((lo:Int)+(hi:Int))/2)),some (V.int (((lo:Int)+(hi:Int))/2))]=_;rw[em]
    .cases hbi:b i with
     | false=>rfl
     | true=>
      have:=hmono ((lo+hi)/2) i hi' hin hbi;rw[hbm]at this;cases this
    .show ((((lo:Int)+(hi:Int))/2)-(lo:Int)).toNat<((hi:Int)-(lo:Int)).toNat;lia
  .have c1:¬ (lo:Int)<(hi:Int):=lU (lW.mpr c);have e:hi=lo:=by lia
   subst e;exact #[hi,_,L,rfl,h2,hb1,hb2,by lia,hR2]
 .intro U H Q Q' m h;obtain ⟨y1,e3,y2,e4,i2,j2,f2,g2,b2,e5,q⟩:=h;exact #[y1,e3,y2,e4,i2,j2,f2,g2,b2,e5,m _ _ q]
 rintro U H2 ⟨lo,x4,L,rfl,h2,hb1,hb2,hL,hR2⟩;refine #[_,rfl,?_];exact q lo L H2 h2 hb1 hb2 hL hR2
abbrev iY:Str:=(envOfC ("first_place" : Str) (aB kh) 0 0 .none).qual ++ "<lambda>"
abbrev iZ:Pos:=#[196,44,196,73]
inductive tq (K:Frag)(H:Hp):V->Bool->Prop where
 | int (i:Int):tq K H (.int i) true
 | bl (b:Bool):tq K H (.bl b) false
 | oth (x:V) (t:String) (ty:TyOf K H x (.type t)) (h2:kitO t "int" = some false):tq K H x false
inductive ni (K:Frag)(vs:List V)(H:Hp)(Q:VK)(w_1:XK):Prop
 | c:∀(x:V) (b:Bool),vs=[x]->tq K H x b->Q (.bl b) H->ni K vs H Q w_1
def LK (T:Txt K mg)(yF:DF K mg "is_whole" px kF):FC P w K mg base 1 "is_whole" kF (ni K):=by
 refine yF.ok IS (λvs H Q E h=>?_) (λf cdv A outer s H vs Q E hr h=>?_)
 .obtain ⟨x,b,rfl,_⟩:=h;rfl
 obtain ⟨x,b,rfl,hk,q⟩:=h;refine #[_,(ao (aJ (uC (aP (mr (K:=K)) rfl T.i4 boot_isinstance (aa (pv 0) (aa (fF (v:=.ty "int") rfl T.Nk boot_int rfl) ab))) (oG (Fk (aP (mr (K:=K)) rfl T.i4 boot_isinstance (aa (pv 0) (aa (fF (v:=.ty "bool") rfl T.Ni boot_bool rfl) ab)))))))),?_];cases hk with
 | int i=>
  refine #[_,rfl,_,_,_,_,rfl,.int _,GT,_,rfl,?_];refine iteT ?_;refine #[_,rfl,_,_,_,_,rfl,.int _,GU,_,rfl,?_];exact q
 | bl c=>
  refine #[_,rfl,_,_,_,_,rfl,.bl _,(show kitO "bool" "int" = some true by decide +kernel),_,rfl,?_];refine iteT ?_;refine #[_,rfl,_,_,_,_,rfl,.bl _,GV,_,rfl,?_];exact q
 | oth x t ty h2=>
  refine #[_,rfl,_,_,_,_,rfl,ty,h2,_,rfl,?_];refine iteF ?_;exact q
inductive tu (K:Frag)(H:Hp):V->Bool->Prop where
 | int (i:Int) (b:Bool) (h:b=decide ((if i<0 then -i else i)<10^60)):tu K H (.int i) b
 | bl (b:Bool):tu K H (.bl b) false
 | oth (x:V) (t:String) (ty:TyOf K H x (.type t)) (h1:kitO t "bool" = some false) (h2:kitO t "int" = some false):tu K H x false
inductive tw (K:Frag)(vs:List V)(H:Hp)(Q:VK)(w_1:XK):Prop
 | c:∀(x:V) (b:Bool),vs=[x]->tu K H x b->Q (.bl b) H->tw K vs H Q w_1
def LL (T:Txt K mg)(yG:DF K mg "is_key" pz mG)(nH:FC P w K mg base 1 "is_whole" kF (ni K)):FC P w K mg base 2 "is_key" mG (tw K):=by
 refine yG.ok IT (λvs H Q E h=>?_) (λf cdv A outer s H vs Q E hr h=>?_)
 .obtain ⟨x,b,rfl,_⟩:=h;rfl
 obtain ⟨x,b,rfl,hk,q⟩:=h;refine #[_,(ao (aJ (uC (az nH hr (aa (pv 0) ab)) (oG (iE eL (aP uH rfl T.xW boot_abs (aa (pv 0) ab)) (aG iC ag ag) (aY _)))))),?_];cases hk with
 | int i b hb=>
  refine #[_,rfl,_,true,rfl,.int i,_,rfl,?_];refine iteT ?_;refine #[_,rfl,_,rfl,_,_,rfl,rfl,#[by decide,by decide,by decide],_,_,rfl,rfl,?_];rw[hb]at q;exact q
 | bl c=>
  refine #[_,rfl,_,false,rfl,.bl c,_,rfl,?_];refine iteF ?_;exact q
 | oth x t ty h1 h2=>
  refine #[_,rfl,_,false,rfl,.oth x t ty h2,_,rfl,?_];refine iteF ?_;exact q
structure cI (H:Hp)(wa:Addr)(ps w:List Nat):Prop where
 at_:H wa=some (.lst (w.map nV))
 len:w.length<=900
 ne:w≠[]
 ch:gh ps w
 kn:∀ x∈w,x<ps.length+1
inductive nj (K:Frag)(vs:List V)(H:Hp)(Q:VK)(w_1:XK):Prop
 | c:∀(m x:Int),vs=[.int m,.int x]->0<=x->x<m->Q (.bl true) H->nj K vs H Q w_1
def LM (T:Txt K mg)(yH:DF K mg "is_one_of_first" pM kH)(nH:FC P w K mg base 1 "is_whole" kF (ni K)):FC P w K mg base 2 "is_one_of_first" kH (nj K):=by
 refine yH.ok IZ (λvs H Q E h=>?_) (λf cdv A outer s H vs Q E hr h=>?_)
 .obtain ⟨m,x,rfl,_⟩:=h;rfl
 obtain ⟨m,x,rfl,h0,h1,q⟩:=h;refine #[_,(ao (aJ (uC (az nH hr (aa (pv 1) ab)) (oG (Ab jm eL ag (pv 1) (pv 0)))))),?_];refine #[_,rfl,_,true,rfl,.int x,_,rfl,?_];refine iteT ?_;refine #[_,rfl,_,_,rfl,rfl,_,rfl,?_];refine Bb h0 ?_;refine #[_,rfl,_,_,rfl,rfl,?_];show Q (.bl (decide (x<m))) H;rw[aO h1];exact q
def DR {α:Type}{f:α->V}{us:List α}{c:α}:atI ((us++[c]).map f) (-1)=some (f c):=by
 unfold atI ixN;rw[bq];simp;rw[aq (by lia)];show (List.map f us++[f c])[(-1+((us.length:Int)+1)).toNat]?=_;rw[show (-1+((us.length:Int)+1)).toNat=us.length by lia,gy (by rw[ai];exact aj _),ai,lX];rfl
inductive w5 (K:Frag)(vs:List V)(H:Hp)(Q:VK)(w_1:XK):Prop
 | c:∀(t a:Addr) (ps w:List Nat),vs=[.ref t,.ref a]->H t=some (.tup (bY ps))->ps.length<=900->H a=some (.lst (w.map nV))->w.length<=1000->w≠[]->gh ps w->(∀ x∈w,x<ps.length+1)->Q (.bl true) H->w5 K vs H Q w_1
def LN (T:Txt K mg)(yI:DF K mg "is_way" pR rj)(nI:FC P w K mg base 2 "is_one_of_first" kH (nj K)):FC P w K mg base 3 "is_way" rj (w5 K):=by
 refine yI.ok vF (λvs H Q E h=>?_) (λf cdv A outer s H vs Q E hr h=>?_)
 .obtain ⟨t,a,ps,w,rfl,_⟩:=h;rfl
 obtain ⟨t,a,ps,w,rfl,ht,hz,ha,hwl,hne,hC,hlt,q⟩:=h;have hpos:0 < w.length:=l0.mpr hne;refine #[_,(cn (bp (PW.pt (jl (dG (c6 (aP (mr (K:=K)) rfl T.i4 boot_isinstance (aa (pv 1) (aa (fF (v:=.ty "list") rfl T.eR boot_list rfl) ab))))) (jk (aV d9 (aP (bH (K:=K)) rfl T.bG bE (aa (pv 1) ab)) ag (aY _))))) (ao (aJ cL)) bx)
   (aF (ck PassesOwn.never rfl (c8 (pv 1)) (aQ (i:=2) vF.nd rfl (av rfl)) (ao (bp (dG (c6 (az nI hr (aa (aP (bH (K:=K)) rfl T.bG bE (aa (pv 0) ab)) (aa (pv 2) ab))))) (ao (aJ cL)) bx)))
   (aF (ck PassesOwn.never rfl (j6 rfl T.dR (aa ag (aa (aP (bH (K:=K)) rfl T.bG bE (aa (pv 1) ab)) ab))) (aQ (i:=3) vF.nd rfl (av rfl)) (ao (bp (aV l8 (ax (aL (K:=K)) (pv 0) (ax (bh (K:=K)) (pv 1) (pv 3) (λ_ _=>rfl)) (λ_ _=>rfl)) (ax (bh (K:=K)) (pv 1) (aG dI (pv 3) ag) (λ_ _=>rfl)) (aY _)) (ao (aJ cL)) bx)))
   (ao (aJ cL))))),?_]
 refine #[λU' H'=>U'=[some (.ref t),some (.ref a),none,none]/\H=H',?_,?_]
 .refine #[_,rfl,_,_,_,_,rfl,.lst ha,A9,_,rfl,?_];refine iteF ?_;refine #[_,rfl,_,_,rfl,.inl (SqL.of ha),rfl,_,rfl,?_];refine oW (λz=>?_) ?_
  .have:=V.int.inj z;rw[ai]at this;lia
  exact #[rfl,rfl]
 rintro U' H' ⟨rfl,rfl⟩;refine #[_,rfl,a,rfl,#[_,SqL.of ha],?_];refine iz (xs:=w.map nV) (λi U H2=>∃ x2:Option V,U=[some (.ref t),some (.ref a),x2,none]/\H2=H) ?_ ?_ ?_ ?_
 .exact #[_,rfl,rfl]
 .rintro i U H2 _ ⟨x2,rfl,rfl⟩;exact SqL.of ha
 .rintro i x U H2 hx ⟨x2,rfl,rfl⟩;obtain ⟨hi,rfl⟩:=jD hx;have hm:=hlt (w.getD i 0) (by rw[aH,aC hi];exact cE hi);refine #[_,rfl,_,_,rfl,.inr (SqT.of ht),_,rfl,_,_,rfl,by lia,by rw[cN];lia,_,rfl,?_];refine iteF ?_;exact #[_,rfl,rfl]
 .rintro U H2 ⟨x2,rfl,rfl⟩;refine #[_,rfl,_,_,rfl,.inl (SqL.of ha),1,_,rfl,#[by lia,by lia,by rw[ai];lia,by rw[ai];lia],?_];have en:((((w.map nV).length:Nat):Int)-1).toNat=w.length-1:=by rw[ai];lia
  rw[en];refine ff (n:=w.length-1) (λi U H3=>∃ x2 x3:Option V,U=[some (.ref t),some (.ref a),x2,x3]/\H3=H2) ?_ ?_ ?_
  .exact #[_,_,rfl,rfl]
  .rintro i U H3 hi ⟨x2,x3,rfl,rfl⟩;have ek:(1:Int)+(i:Int)=((i+1:Nat):Int):=by lia
   rw[ek];have h1:=hC i (by lia);have hm:=hlt (w.getD (i+1) 0) (by rw[aH,aC (show i+1<w.length by lia)];exact cE _);have hat1:atI (w.map nV) ((i+1:Nat):Int)=some (nV (w.getD (i+1) 0)):=gY (by lia);have hat0:atI (w.map nV) (((i+1:Nat):Int)-1)=some (nV (w.getD i 0)):=by
    rw[show ((i+1:Nat):Int)-1=((i:Nat):Int) by lia];exact gY (by lia)
   have hatT:=jE hm;rw[m6 h1]at hatT;refine #[_,rfl,_,rfl,_,rfl,_,_,_,_,rfl,rfl,SqL.of ha,hat1,_,_,_,_,rfl,rfl,SqT.of ht,hatT,_,rfl,_,rfl,_,_,rfl,rfl,_,_,_,_,rfl,rfl,SqL.of ha,hat0,rfl,_,rfl,?_];refine fh rfl ?_;exact #[_,_,rfl,rfl]
  .rintro U H3 ⟨x2,x3,rfl,rfl⟩;exact q
def cI.same {w:List Nat}(h:cI H wa ps w)(e:Same H H'):cI H' wa ps w:=#[e _ _ h.at_,h.len,h.ne,h.ch,h.kn]
inductive ll (K:Frag)(vs:List V)(H:Hp)(Q:VK)(w_1:XK):Prop
 | c:∀(t a:Addr) (ps w:List Nat),vs=[.ref t,.ref a]->H t=some (.tup (bY ps))->ps.length<=900->cI H a ps w->Q .non H->ll K vs H Q w_1
def LO (T:Txt K mg)(yJ:DF K mg "need_way" pS jC)(NN:FC P w K mg base 3 "is_way" rj (w5 K)):FC P w K mg base 4 "need_way" jC (ll K):=by
 refine yJ.ok Jb (λvs H Q E h=>?_) (λf cdv A outer s H vs Q E hr h=>?_)
 .obtain ⟨t,a,ps,w,rfl,_⟩:=h;rfl
 obtain ⟨t,a,ps,w,rfl,ht,hl,W,q⟩:=h;refine #[_,(ao (bp (dG (c6 (az NN hr (aa (pv 0) (aa (pv 1) ab))))) (ao dX) bx)),?_];refine #[_,rfl,_,rfl,t,a,ps,w,rfl,ht,hl,W.at_,by have:=W.len;lia,W.ne,W.ch,W.kn,_,rfl,?_];refine iteF ?_;exact q
def nk {w:List Nat}{i:Nat}(h:i<w.length):w.take (i+1)=w.take i++[w.getD i 0]:=by
 rw[cy h,aH,aC h];rfl
def lp {w:List Nat}{i:Nat}(h:i<w.length):w.getD i 0∈w:=by
 rw[aH,aC h];exact cE h
def DS (xs:List V)(a:Nat):cutV xs none (some (a:Int))=xs.take a:=by
 unfold cutV;rw[fY,show HT.sIx xs.length 0 none=0 from rfl,List.drop_zero,Nat.sub_zero];by_cases h:a<=xs.length
 .rw[jf h]
 .rw[oq (by lia),bA (aj _),bA (by lia)]
def nq (xs:List V)(a:Nat):cutV xs (some (a:Int)) none=xs.drop a:=by
 unfold cutV;rw[fY,show HT.sIx xs.length xs.length none=xs.length from rfl];by_cases h:a<=xs.length
 .rw[jf h,bA (by rw[d8];exact aj _)]
 .rw[oq (by lia),gH (aj _),gH (show xs.length<=a by lia),List.take_nil]
def ownB (Pw:List (List Int))(k:Nat)(key:Int):Nat:=((aw Pw k).filter λx=>decide (x<key)).length
def LP (T:aN ps)(R:bc Pw){k:Nat}(hk:k<ps.length+1):((ae ps Pw k).filter λe=>decide (e.2=(k:Int)))=ownE Pw k:=by
 have hup:=R.at_up k;refine jI ((cv T R hk).filter _) ?_ λe=>?_
 .unfold ownE;refine List.Pairwise.map _ (R:=λa b:Int=>a<b) (λa b (h:a<b)=>fj.mpr (.inl h)) hup
 .rw[d7];refine #[λzq0=>?_,λh=>#[(d5 T hk).mpr (.inl h),aO (kY hk h).2]];obtain ⟨h1,h2⟩:=zq0;rcases (d5 T hk).mp h1 with h|⟨c,hc,h⟩
  .exact h
  .exfalso;have h2:=bW h2;have hcn:=(bz T hc);obtain ⟨j,hj,hb,e2,_⟩:=jF T R hcn.2 e ((dv _).subset h);have ej:j=k:=by lia
   subst ej;have:=ez T hcn.1;rw[hb]at this;cases this
def LQ (T:aN ps)(R:bc Pw){k:Nat}(hk:k<ps.length+1)(key:Int):eA k ((ae ps Pw k).take (aE (ae ps Pw k) key))=ownB Pw k key:=by
 rw[DN (lj (cv T R hk))];unfold eA;have e:((ae ps Pw k).filter λe=>decide (e.1<key)).filter (λe=>decide (e.2=(k:Int)))=(ownE Pw k).filter λe=>decide (e.1<key):=by
  rw[<-LP T R hk,oC,oC];congr 1
  funext e
  rw[Bool.and_comm]
 rw[e];unfold ownE ownB;rw[List.filter_map,ai];rfl
def KpV (Av:List Addr)(H H':Hp):Prop:=∀ b o,b∉Av->H b=some o->H' b=some o
def KpA (Av:List Addr)(mp:Addr)(H H':Hp):Prop:=∀ b o,b∉Av->b≠mp->H b=some o->H' b=some o
def KpA.trans (a:KpA Av mp H H1)(b:KpA Av mp H1 H2):KpA Av mp H H2:=λc o n1 n2 h=>b c o n1 n2 (a c o n1 n2 h)
def KpV.a (a:KpV Av H H1):KpA Av mp H H1:=λc o n1 _ h=>a c o n1 h
def KpA.of (a:Same H H1):KpA Av mp H H1:=λc o _ _ h=>a c o h
def KpA.gro (a:Gro mp H H1):KpA Av mp H H1:=λc o _ n h=>a c o n h
def FV.mono {w:World}{K:Frag}{mg:Str->Option Value}{base:Heap}{k:Nat}{f:Addr}(F:FV P w K mg base j f ps sp)(h:j<=k):FV P w K mg base k f ps sp:=by
 obtain ⟨fd,ok,r⟩:=F.ex;exact #[fd,ok.mono h,r]
structure AskF (P:Program)(w:World)(K:Frag)(mg:Str->Option Value)(base:Heap)(f:Addr)(Av:List Addr)(mp:Addr)(fp:Addr->Prop)(R:List (Nat×Nat)->Hp->Prop)(ps:List Nat)(Pw:List (List Int))(key:Int):Prop where
 keep:∀ L H H',R L H->(∀ b o,fp b->H b=some o->H' b=some o)->R L H'
 alloc:∀ L H b,R L H->fp b->H b≠none
 avl:∀ L H,R L H->∀ a∈Av,∃ zs,H a=some (.lst zs)
 nmp:¬ fp mp
 ask:∃(pn:List Str) (sp:Sp),FV P w K mg base 2 f pn sp/\∀(kn i:Nat) (L:List (Nat×Nat)) (H:Hp) (Q:VK),kn<ps.length+1->i<(ae ps Pw kn).length->L.length<=9000->R L H->
  (∀ H',R (L++[(kn,i)]) H'->KpV Av H H'->Q (.bl (decide (((ae ps Pw kn).getD i (0,0)).1<key))) H')->sp [.int kn,.int i] H Q E0
def AskF.lift {w:World}{K:Frag}{mg:Str->Option Value}{f:Addr}{R:List (Nat×Nat)->Hp->Prop}{Pw:List (List Int)}{key:Int}(A:AskF P w K mg b1 f Av mp fp R ps Pw key)(S:Sub K mg b1 b2):AskF P w K mg b2 f Av mp fp R ps Pw key:=by
 obtain ⟨a,b,c,d,pn,sp,hF,r⟩:=A;exact #[a,b,c,d,pn,sp,hF.lift S,r]
structure bF (Av:List Addr)(mp:Addr)(R:List (Nat×Nat)->Hp->Prop)(ps:List Nat)(Pw:List (List Int))(br:Addr)(xs:List V)(L:List (Nat×Nat))(H:Hp):Prop where
 r:R L H
 avs:∀ a∈Av,∃ zs,H a=some (.lst zs)
 at_:H br=some (.lst xs)
 nb:br∉Av
 ba:Paired (BrAt Av H ps Pw) (List.range (ps.length+1)) xs
 tb:aR H mp iZ iY
section
variable {Av:List Addr}{mp:Addr}{R:List (Nat×Nat)->Hp->Prop}{ps:List Nat}{Pw:List (List Int)}{br:Addr}{xs:List V}{L L':List (Nat×Nat)}{H H':Hp}
def bF.nm (S:bF Av mp R ps Pw br xs L H){b:Addr}{o:HO}(h:H b=some o)(n:∀ tab,o≠.tbl tab):b≠mp:=λz=>by
 obtain ⟨tab,e,_⟩:=S.tb.ex;rw[<-z,h]at e;exact n _ (aM e)
def bF.na (S:bF Av mp R ps Pw br xs L H){b:Addr}{o:HO}(h:H b=some o)(n:∀ zs,o≠.lst zs):b∉Av:=λz=>by
 obtain ⟨zs,e⟩:=S.avs b z;rw[h]at e;exact n _ (aM e)
def bF.tup (S:bF Av mp R ps Pw br xs L H)(k:KpA Av mp H H'){b:Addr}{us:List V}(h:H b=some (.tup us)):H' b=some (.tup us):=k _ _ (S.na h nofun) (S.nm h nofun) h
def bF.lst (S:bF Av mp R ps Pw br xs L H)(k:KpA Av mp H H'){b:Addr}{us:List V}(h:H b=some (.lst us))(n:b∉Av):H' b=some (.lst us):=k _ _ n (S.nm h nofun) h
def bF.kp (S:bF Av mp R ps Pw br xs L H)(k:KpA Av mp H H')(hT:aR H' mp iZ iY)(hR:R L' H')(ha:∀ a∈Av,∃ zs,H' a=some (.lst zs)):bF Av mp R ps Pw br xs L' H':=
 #[hR,ha,S.lst k S.at_ S.nb,S.nb,dD (λj x ⟨b,o,j',ys,h1,h2,h3,h4,h5,h6,h7⟩=>#[b,o,j',ys,h1,h2,h3,S.tup k h4,S.lst k h5 h2,S.lst k h6 h3,dD (λc y ⟨a,s,g1,g2,g3,g4⟩=>#[a,s,g1,g2,S.tup k g3,S.lst k g4 g2]) h7]) S.ba,hT]
def bF.tbv (S:bF Av mp R ps Pw br xs L H)(k:KpV Av H H'):aR H' mp iZ iY:=by
 obtain ⟨tab,h1,h2,h3⟩:=S.tb.ex;refine #[tab,k _ _ (S.na h1 nofun) h1,h2,?_];rcases h3 with h3|⟨c,h3,h4⟩
 .exact .inl h3
 .exact .inr #[c,h3,k _ _ (S.na h4 nofun) h4]
end
def DT {K:Frag}{H H':Hp}(k:∀ b us,H b=some (.tup us)->H' b=some (.tup us)):∀{es:List (Int×Int)} {ws:List V},aA K H es ws->aA K H' es ws
 | _,_,.nil=>.nil
 | _,_,.cons h t=>by
  refine .cons ?_ (DT k t);obtain ⟨a,x1,x2,rfl,hT,e1,e2⟩:=(show hasP K H _ _ from h);exact #[a,x1,x2,rfl,k _ _ hT,e1,e2]
def DU {D:Addr}{xs:List V}(x:aR H Pt pos q)(hD:H D=some (.lst xs)):aR (upd H D o) Pt pos q:=by
 obtain ⟨tab,h1,h2,h3⟩:=x.ex;have n1:Pt≠D:=λz=>by
  rw[z,hD]at h1;cases h1
 refine #[tab,by rw[ah n1];exact h1,h2,?_];rcases h3 with h3|⟨c,h3,h4⟩
 .exact .inl h3
 .refine .inr #[c,h3,?_];have n2:c≠D:=λz=>by
   rw[z]at h4;rw[show H D=_ from h4]at hD;cases hD
  show upd H D o c=_;rw[ah n2];exact h4
def bF.free {R:List (Nat×Nat)->Hp->Prop}{Pw:List (List Int)}(S:bF Av mp R ps Pw br xs L H1)(k:KpA Av mp H H1){D:Addr}(h:H1 D=none):H D=none/\D∉Av/\D≠mp:=by
 have n1:D∉Av:=λz=>by
  obtain ⟨zs,e⟩:=S.avs D z;rw[h]at e;cases e
 have n2:D≠mp:=λz=>by
  obtain ⟨tab,e,_⟩:=S.tb.ex;rw[<-z,h]at e;cases e
 refine #[?_,n1,n2];cases e:H D with
 | none=>rfl
 | some o=>
  have:=k _ _ n1 n2 e;rw[h]at this;cases this
def tD (T:aN ps)(R:bc Pw){k:Nat}(hk:k<ps.length+1)(key:Int):atI ((sV k (ae ps Pw k)).map nV) ((aE (ae ps Pw k) key:Nat):Int)=some (.int ((ownB Pw k key:Nat):Int)):=by
 have hle:=g8 (ae ps Pw k) key;refine cG ?_;rw[bj];unfold sV;rw[bj,fT (by lia),<-LQ T R hk key];rfl
def tF {wy:List Nat}{i:Nat}(h:i<wy.length):(wy.map nV)[i]?=some (nV (wy.getD i 0)):=by
 rw[bj,aH,aC h];rfl
def w6 {wy:List Nat}{i:Nat}(h:i<wy.length):wy.getD i 0∈wy:=by
 rw[aH,aC h];exact cE h
def DV {α:Type}(f:Nat->α){wy:List Nat}{i:Nat}(h:i<wy.length):(wy.take (i+1)).map f=(wy.take i).map f++[f (wy.getD i 0)]:=by
 rw[cy h,bq,aH,aC h];rfl
def LR (l:List Nat):cutV (l.map nV) (some 1) none=(l.drop 1).map nV:=by
 rw[show (1:Int)=((1:Nat):Int) from rfl,nq,<-oE]
inductive tG (P:Program)(w:World)(K:Frag)(mg:Str->Option Value)(base:Heap)(mp:Addr)(vs:List V)(H:Hp)(Q:VK)(w_1:XK):Prop
 | c:∀(br f:Addr) (xs:List V) (ps:List Nat) (Pw:List (List Int)) (k:Nat) (key:Int) (Av:List Addr) (fp:Addr->Prop) (R:List (Nat×Nat)->Hp->Prop) (L:List (Nat×Nat)),vs=[.ref br,.int k,.ref f]->AskF P w K mg base f Av mp fp R ps Pw key->bF Av mp R ps Pw br xs L H->aN ps->bc Pw->k<ps.length+1->L.length<=3000->(ae ps Pw k).length<=1000->(∀(H':Hp) (L':List (Nat×Nat)),bF Av mp R ps Pw br xs (L++L') H'->KpA Av mp H H'->L'.length<=figN (ae ps Pw k).length->Q (.int (aE (ae ps Pw k) key:Nat)) H')->tG P w K mg base mp vs H Q w_1
def LU (T:Txt K mg){mc mp:Addr}(t8:DFT K mg "first_place" kh mP mc mp)(hBM:BMAt mg base)(yK:∀ b,Sub K mg base b->FC P w K mg b 4 "how_many_below" mH (tm P w K mg b)):FC P w K mg base 5 "first_place" mP (tG P w K mg base mp):=by
 refine t8.ok Jf (λvs H Q E h=>?_) (λf A outer s H vs Q E hr h=>?_)
 .obtain ⟨br,f,xs,ps,Pw,k,key,Av,fp,R,L,rfl,_⟩:=h;rfl
 obtain ⟨br,f,xs,ps,Pw,k,key,Av,fp,R,L,rfl,AF,S,hT,hR,hk,hLn,hFn,q⟩:=h;refine #[_,(ao (aJ (Ib (kf:=2) yK hr (ax (aL (K:=K)) (ax (bh (K:=K)) (pv 0) (pv 1) (λ_ _=>rfl)) ag (λ_ _=>rfl)) (mw (osc:=aB kh) (N:=["bridges","knot","is_below"]) (ps:=["at"]) (caps:=["is_below","knot"]) (cap:=[2,1]) #[rfl,rfl,rfl,by decide +kernel,by decide +kernel,by decide +kernel,by decide +kernel] (by decide +kernel) (by decide +kernel) rfl rfl rfl rfl (λ_ _ _ _ us hl=>match us,hl with|[_],_=>rfl) (λ_=>rfl)) rfl t8.hd hBM (λb _ _ _ _ _ _ _ S hr=>(HZ P w K mg b (kr:=2) hr (pv 1) (aa (pv 2) (aa (pv 0) ab))))))),?_]
 obtain ⟨x,hx,b,o,j,ys,rfl,_,_,hb,ho,hj,hJ⟩:=fP S.ba hk;have hF:=lj (cv hT hR hk (Pw:=Pw));refine #[_,rfl,_,rfl,_,_,_,_,rfl,rfl,SqL.of S.at_,cG hx,_,_,_,_,rfl,rfl,SqT.of hb,rfl,S.tb,[.ref f,.int k],rfl,?_,λbs g c' H2 hg hT2 hC SB hV=>?_]
 .intro j i v h1 h2;rcases j with _|_|j
  .cases h1;cases h2;rfl
  .cases h1;cases h2;rfl
  .cases h1
 obtain ⟨pn,sp,hFV,hask⟩:=(AF.lift SB).ask;have hR2:R L H2:=AF.keep _ _ _ S.r λb o hb e=>hg _ _ (λz=>AF.nmp (z ▸ hb)) e;have S2:bF Av mp R ps Pw br xs L H2:=S.kp (.gro hg) hT2 hR2 (AF.avl _ _ hR2);refine #[(ae ps Pw k).length,g,_,_,λi=>decide (((ae ps Pw k).getD i (0,0)).1<key),λL1 H1=>R (L++L1.map λi=>(k,i)) H1/\KpV Av H2 H1,rfl,hV,#[by rw[jQ,cB];exact hR2,λ_ _ _ h=>h],λi L1 H1 Q1 hi hLi hR1 hQ=>?_,λi j hij hj hb=>?_,λm L1 H' hm hb1 hb2 hL hR1=>?_]
 .refine #[rfl,hR1.2 _ _ (S2.na hC nofun) hC,?_];refine #[_,rfl,f,2,pn,sp,rfl,hFV,aj _,_,rfl,_,rfl,?_];refine hask k i _ H1 _ hk hi (by have:=tj _ _ (aj (ae ps Pw k).length);rw[bg,ai];lia) hR1.1 λH3 hR3 k3=>hQ _ #[?_,λb o n h=>k3 _ _ n (hR1.2 _ _ n h)];rw[bq,<-gG];exact hR3
 .refine aO ?_;have hb:=bW hb;by_cases e:i=j
  .subst e;exact hb
  .have:=eV.mp hF i j (by lia) hj (by lia);rw[aH,aC (by lia)]at hb ⊢;exact Int.lt_of_le_of_lt this hb
 .have e:=LH hm hb1 hb2;have q2:=q H' _ (S2.kp hR1.2.a (S2.tbv hR1.2) hR1.1 (AF.avl _ _ hR1.1)) (KpA.trans (.gro hg) hR1.2.a) (by rw[ai];exact hL);rw[e]at q2;exact q2
inductive tH (K:Frag)(vs:List V)(H:Hp)(Q:VK)(w_1:XK):Prop
 | c:∀(Av:List Addr) (br:Addr) (ps:List Nat) (Pw:List (List Int)) (xs:List V) (k c m:Nat),vs=[.ref br,.int k,.int m,.int c]->H br=some (.lst xs)->Paired (BrAt Av H ps Pw) (List.range (ps.length+1)) xs->aN ps->k<ps.length+1->par ps c=some k->m<=(ae ps Pw k).length->(∀ H',Same H H'->Q (.int (stN (ae ps Pw c) ((ae ps Pw k).take m):Nat)) H')->tH K vs H Q w_1
def DW (T:Txt K mg)(ua:DF K mg "start_in" p8 mQ):FC P w K mg base 1 "start_in" mQ (tH K):=by
 refine ua.ok Jg (λvs H Q E h=>?_) (λf cdv A outer s H vs Q E hr h=>?_)
 .obtain ⟨Av,br,ps,Pw,xs,k,c,m,rfl,_⟩:=h;rfl
 obtain ⟨Av,br,ps,Pw,xs,k,c,m,rfl,hbr,hB,hT,hk,hc,hm,q⟩:=h;obtain ⟨x,hx,b,o,j,ys,rfl,_,_,hb,ho,hj,hJ⟩:=fP hB hk;obtain ⟨kvs,h1,h2,h3⟩:=DO hJ;have hcm:c∈bt ps k (ps.length+1):=cM.mpr #[(bz hT hc).2,hc];obtain ⟨sa,hv,hsa⟩:=h3 c hcm (wY _ _ _);refine #[_,(ao (aJ (ax (bh (K:=K)) (gM (da hr) (c9 (IC rfl) rfl T.Nj boot_dict (aa (ax (aL (K:=K)) (ax (bh (K:=K)) (pv 0) (pv 1) (λ_ _=>rfl)) ag (λ_ _=>rfl)) ab)) (pv 3) (λ_ _=>rfl)) (pv 2) (λ_ _=>rfl)))),?_];refine #[_,rfl,_,rfl,_,_,_,_,rfl,rfl,SqL.of hbr,cG hx,_,_,_,_,rfl,rfl,SqT.of hb,rfl,?_];refine #[j,ys,kvs,rfl,SqL.of hj,h1,?_,λd hd=>?_]
 .rw[h2];exact List.Pairwise.map (R:=λa b:Nat=>a≠b) _ (λa b (n:a≠b) z=>n (by have:=Sum.inl.inj z;lia)) (wY ps k _)
 have sd:=aD hd (.dK kvs);refine #[_,rfl,d,.ref sa,rfl,?_,?_]
 .have:=DGet.k (k:=(.inl (c:Int))) (af (H:=H) (a:=d) (o:=.dK kvs));rw[hv]at this;exact this
 refine #[_,rfl,_,_,_,_,rfl,rfl,SqL.of (sd _ _ hsa),cG (v:=nV (stN (ae ps Pw c) ((ae ps Pw k).take m))) ?_,q _ sd];rw[bj];unfold lb;rw[bj,fT (by lia)];rfl
inductive tI (P:Program)(w:World)(K:Frag)(mg:Str->Option Value)(base:Heap)(mp:Addr)(vs:List V)(H:Hp)(Q:VK)(w_1:XK):Prop
 | c:∀(br f:Addr) (xs:List V) (ps:List Nat) (Pw:List (List Int)) (k st:Nat) (key:Int) (Av:List Addr) (fp:Addr->Prop) (R:List (Nat×Nat)->Hp->Prop) (L:List (Nat×Nat)),vs=[.ref br,.int k,.int st,.ref f]->AskF P w K mg base f Av mp fp R ps Pw key->bF Av mp R ps Pw br xs L H->aN ps->bc Pw->k<ps.length+1->L.length<=8000->st<=aE (ae ps Pw k) key->aE (ae ps Pw k) key<=st+2->(∀(H':Hp) (L':List (Nat×Nat)),bF Av mp R ps Pw br xs (L++L') H'->KpA Av mp H H'->L'.length<=2->Q (.int (aE (ae ps Pw k) key:Nat)) H')->tI P w K mg base mp vs H Q w_1
def DX (T:Txt K mg)(ub:DF K mg "next_place" p9 mR):FC P w K mg base 3 "next_place" mR (tI P w K mg base mp):=by
 refine ub.ok qN (λvs H Q E h=>?_) (λf cdv A outer s H vs Q E hr h=>?_)
 .obtain ⟨br,f,xs,ps,Pw,k,st,key,Av,fp,R,L,rfl,_⟩:=h;rfl
 obtain ⟨br,f,xs,ps,Pw,k,st,key,Av,fp,R,L,rfl,AF,S,hT,hR,hk,hLn,hlo,hhi,q⟩:=h;refine #[_,(aF (aI (i:=4) qN.nd rfl (av rfl) (aP (Ad rfl) rfl T.x9 boot_min (aa (aG cz (pv 2) (jx rfl T.EV)) (aa (ax (aL (K:=K)) (ax (bh (K:=K)) (pv 0) (pv 1) (λ_ _=>rfl)) ag (λ_ _=>rfl)) ab))))
   (aF (aI (i:=5) qN.nd rfl (av rfl) (pv 2))
   (aF (oI PassesOwn.never (PW.pt (ix (aV eL (pv 5) (pv 4) (aY _)) (iw (c6 (vo (kr:=2) hr (pv 3) (aa (pv 1) (aa (pv 5) ab))))))) (ao (aI (i:=5) qN.nd rfl (av rfl) (aG cz (pv 5) ag))))
   (ao (aJ (pv 5)))))),?_]
 obtain ⟨x,hx,b,o,j,ys,rfl,_,_,hb,ho,hj,hJ⟩:=fP S.ba hk;have hF:=lj (cv hT hR hk (Pw:=Pw));have hle:=g8 (ae ps Pw k) key;have hat:=λi h=>wW (key:=key) hF (i:=i) h;obtain ⟨pn,sp,hFV,hask⟩:=AF.ask;refine #[_,rfl,_,_,rfl,rfl,_,rfl,_,rfl,_,_,_,_,rfl,rfl,SqL.of S.at_,cG hx,_,_,_,_,rfl,rfl,SqT.of hb,rfl,_,_,rfl,?_];have eb:∃ m:Nat,(if (((ae ps Pw k).length:Nat):Int)<(st:Int)+2 then (((ae ps Pw k).length:Nat):Int) else (st:Int)+2)=(m:Int)/\m<=(ae ps Pw k).length/\m<=st+2/\aE (ae ps Pw k) key<=m:=by
  by_cases c:(((ae ps Pw k).length:Nat):Int)<(st:Int)+2
  .exact #[_,aq c,aj _,by lia,hle]
  .exact #[st+2,by rw[ak c];rfl,by lia,aj _,hhi]
 obtain ⟨m,em,hm1,hm2,hm3⟩:=eb;rw[em];refine #[_,rfl,?_];refine #[λn U H1=>∃(at_:Nat) (L1:List (Nat×Nat)),U=[some (.ref br),some (.int k),some (.int st),some (.ref f),some (.int m),some (.int at_)]/\st<=at_/\at_<=aE (ae ps Pw k) key/\at_+n=m/\L1.length+st=at_/\bF Av mp R ps Pw br xs (L++L1) H1/\KpA Av mp H H1,#[m-st,st,[],rfl,aj _,hlo,by lia,by rw[gC,je],by rw[cB];exact S,λ_ _ _ _ h=>h],?_];rintro n U H1 ⟨at_,L1,rfl,h1,h2,h3,h4,S1,k1⟩;refine #[_,rfl,_,rfl,_,_,rfl,rfl,_,rfl,?_];refine ite2 (λc=>?_) (λc=>?_)
 .have c1:(at_:Int)<(m:Int):=bW c;refine #[_,rfl,f,2,pn,sp,rfl,hFV,aj _,_,rfl,_,rfl,?_];refine hask k at_ _ H1 _ hk (by lia) (by rw[bg];lia) S1.r λH2 hR2 k2=>?_;have S2:=S1.kp k2.a (S1.tbv k2) hR2 (AF.avl _ _ hR2);rw[gG]at S2;have k02:KpA Av mp H H2:=k1.trans k2.a;have hL2:(L1++[(k,at_)]).length=L1.length+1:=by rw[bg,cT]
  have hge:(ae ps Pw k).getD at_ (0,0)=(ae ps Pw k)[at_]'(by lia):=by
   rw[aH,aC (by lia)];rfl
  refine #[_,rfl,?_];refine ite2 (λc2=>?_) (λc2=>?_)
  .have c3:=bW c2;rw[hge]at c3;have hlt:at_<aE (ae ps Pw k) key:=oz λz=>(hat at_ (by lia)).2 z c3;refine #[λU' H'=>U'=[some (.ref br),some (.int k),some (.int st),some (.ref f),some (.int m),some (.int ((at_:Int)+1))]/\H'=H2,?_,?_]
   .rintro U' H' ⟨rfl,rfl⟩;exact #[n-1,by lia,at_+1,_,rfl,by lia,by lia,by lia,by lia,S2,k02]
   .exact #[_,rfl,_,_,rfl,rfl,rfl,rfl]
  .have hge2:aE (ae ps Pw k) key<=at_:=jd λz=>c2 (aO (by rw[hge];exact (hat at_ (by lia)).1 z));have e:at_=aE (ae ps Pw k) key:=by lia
   refine #[_,rfl,?_];rw[e];exact q _ _ S2 k02 (by lia)
 .have c1:¬ (at_:Int)<(m:Int):=lU (lW.mpr c);have e:at_=aE (ae ps Pw k) key:=by lia
  refine iteF ?_;refine #[_,rfl,?_];rw[e];exact q _ _ S1 k1 (by lia)
inductive tJ (P:Program)(w:World)(K:Frag)(mg:Str->Option Value)(base:Heap)(mp:Addr)(vs:List V)(H:Hp)(Q:VK)(w_1:XK):Prop
 | c:∀(br wa f:Addr) (xs:List V) (ps:List Nat) (Pw:List (List Int)) (wy:List Nat) (key:Int) (Av:List Addr) (fp:Addr->Prop) (R:List (Nat×Nat)->Hp->Prop) (L:List (Nat×Nat)),vs=[.ref br,.ref wa,.ref f]->AskF P w K mg base f Av mp fp R ps Pw key->bF Av mp R ps Pw br xs L H->aN ps->bc Pw->ps.length<=40->cI H wa ps wy->wa∉Av->L.length<=1000->(∀ k,k<ps.length+1->(ae ps Pw k).length<=1000)->(∀(D:Addr) (zs:List V) (H':Hp) (L':List (Nat×Nat)),bF Av mp R ps Pw br xs (L++L') H'->KpA Av mp H H'->H D=none->H' D=some (.lst zs)->aA K H' (wy.map λk=>(((aE (ae ps Pw k) key:Nat):Int),((ownB Pw k key:Nat):Int))) zs->L'.length<=figN (ae ps Pw (wy.getD 0 0)).length+2*(wy.length-1)->Q (.ref D) H')->tJ P w K mg base mp vs H Q w_1
def LV (T:Txt K mg)(yL:DF K mg "search" qa mT)(yM:FC P w K mg base 5 "first_place" mP (tG P w K mg base mp))(yN:FC P w K mg base 1 "start_in" mQ (tH K))(yO:FC P w K mg base 3 "next_place" mR (tI P w K mg base mp)):FC P w K mg base 6 "search" mT (tJ P w K mg base mp):=by
 refine yL.ok kq (λvs H Q E h=>?_) (λf cdv A outer s H vs Q E hr h=>?_)
 .obtain ⟨br,wa,f,xs,ps,Pw,wy,key,Av,fp,R,L,rfl,_⟩:=h;rfl
 obtain ⟨br,wa,f,xs,ps,Pw,wy,key,Av,fp,R,L,rfl,AF,S,hT,hR,few,W,nwa,hLn,hFn,q⟩:=h;have hwl:=W.len;have hpos:0 < wy.length:=l0.mpr W.ne;refine #[_,(aF (aI (i:=3) kq.nd rfl (av rfl) (az yM hr (aa (pv 0) (aa (ax (bh (K:=K)) (pv 1) ag (λ_ _=>rfl)) (aa (pv 2) ab)))))
   (aF (aI (i:=4) kq.nd rfl (av rfl) (cR (aa (cm (aa (pv 3) (aa (ax (bh (K:=K)) (ax (aL (K:=K)) (ax (bh (K:=K)) (pv 0) (ax (bh (K:=K)) (pv 1) ag (λ_ _=>rfl)) (λ_ _=>rfl)) ag (λ_ _=>rfl)) (pv 3) (λ_ _=>rfl)) ab))) ab)))
   (aF (ck PassesOwn.never rfl (oZ rfl T.tY (aa (pv 1) (aa (fZ (ph (K:=K)) (pv 1) (fg ag) iG) ab))) (j4 rfl (dH (aQ (i:=5) kq.nd rfl (av rfl)) (dH (aQ (i:=6) kq.nd rfl (av rfl)) iy))) (aF (aI (i:=3) kq.nd rfl (av rfl) (az yO hr (aa (pv 0) (aa (pv 6) (aa (az yN hr (aa (pv 0) (aa (pv 5) (aa (pv 3) (aa (pv 6) ab))))) (aa (pv 2) ab))))))
   (ao (cF (dY F.plainAttrs_list F.slot_list_append F.type_list_append dZ (pv 4) (aa (cm (aa (pv 3) (aa (ax (bh (K:=K)) (ax (aL (K:=K)) (ax (bh (K:=K)) (pv 0) (pv 6) (λ_ _=>rfl)) ag (λ_ _=>rfl)) (pv 3) (λ_ _=>rfl)) ab))) ab))))))
   (ao (aJ (pv 4)))))),?_]
 have hk0:wy.getD 0 0<ps.length+1:=W.kn _ (w6 hpos);have hw0:atI (wy.map nV) 0=some (nV (wy.getD 0 0)):=cG (j:=0) (tF hpos);refine #[_,rfl,_,rfl,_,_,_,_,rfl,rfl,SqL.of W.at_,hw0,_,rfl,br,f,xs,ps,Pw,wy.getD 0 0,key,Av,fp,R,L,rfl,AF,S,hT,hR,hk0,by lia,hFn _ hk0,λH1 L1 S1 k1 hL1=>?_];have W1:=S.lst k1 W.at_ nwa;obtain ⟨x0,hx0,b0,o0,j0,ys0,rfl,_,_,hb0,ho0,_,_⟩:=fP S1.ba hk0;refine #[_,rfl,_,rfl,_,rfl,_,_,_,_,rfl,rfl,SqL.of W1,hw0,_,_,_,_,rfl,rfl,SqL.of S1.at_,cG hx0,_,_,_,_,rfl,rfl,SqT.of hb0,rfl,_,rfl,_,_,_,_,rfl,rfl,SqL.of ho0,tD hT hR hk0 key,(by show 2<=sizeLine;decide),λt ht=>#[(by show 1<=sizeLine;decide),λD hD=>?_]];have st:=aD ht (.tup [.int ((aE (ae ps Pw (wy.getD 0 0)) key:Nat):Int),.int ((ownB Pw (wy.getD 0 0) key:Nat):Int)]);have sD:=aD hD (.lst [.ref t]);have hD1:H1 D=none:=st.free hD;obtain ⟨hDn,nDA,nDm⟩:=S1.free k1 hD1;have nfD:¬ fp D:=λz=>AF.alloc _ _ _ S1.r z hD1;have s13:=st.trans sD;have tb3:=S1.tb.ext s13.ext;have hR3:=AF.keep _ _ _ S1.r λb o _ e=>s13 b o e;have S3:=S1.kp (.of s13) tb3 hR3 (AF.avl _ _ hR3);have k03:KpA Av mp H _:=k1.trans (.of s13);have h3D:upd (upd H1 t (.tup [.int ((aE (ae ps Pw (wy.getD 0 0)) key:Nat):Int),.int ((ownB Pw (wy.getD 0 0) key:Nat):Int)])) D (.lst [.ref t]) D=some (.lst [.ref t]):=af;have h3t:=sD _ _ (af (H:=H1) (a:=t) (o:=.tup [.int ((aE (ae ps Pw (wy.getD 0 0)) key:Nat):Int),.int ((ownB Pw (wy.getD 0 0) key:Nat):Int)]));generalize upd (upd H1 t (.tup [.int ((aE (ae ps Pw (wy.getD 0 0)) key:Nat):Int),.int ((ownB Pw (wy.getD 0 0) key:Nat):Int)])) D (.lst [.ref t])=H3 at S3 k03 h3D h3t ⊢;clear tb3 hR3 s13 sD hD st ht hb0 ho0 hx0;have W3:=S.lst k03 W.at_ nwa;refine #[_,rfl,_,rfl,1,rfl,wa,_,rfl,SqL.of W3,λy hy=>?_];rw[LR];have sy:=aD hy (.lst ((wy.drop 1).map nV));obtain ⟨hyn,nyA,nym⟩:=S3.free k03 hy;have nDy:D≠y:=au h3D hy;have tb4:=S3.tb.ext sy.ext;have hR4:=AF.keep _ _ _ S3.r λb o _ e=>sy b o e;have S4:=S3.kp (.of sy) tb4 hR4 (AF.avl _ _ hR4);have k04:KpA Av mp H _:=k03.trans (.of sy);have h4y:upd H3 y (.lst ((wy.drop 1).map nV)) y=some (.lst ((wy.drop 1).map nV)):=af;have h4D:=sy _ _ h3D;have h4t:=sy _ _ h3t;generalize upd H3 y (.lst ((wy.drop 1).map nV))=H4 at S4 k04 h4D h4t h4y ⊢;clear tb4 hR4 sy hy h3D h3t S3 k03 W3;refine #[wa,y,rfl,#[_,SqL.of (S.lst k04 W.at_ nwa)],#[_,SqL.of h4y],?_];have hdl:((wy.drop 1).map nV).length=wy.length-1:=by rw[ai,d8]
 refine Ig (xs:=wy.map nV) (ys:=(wy.drop 1).map nV) (by rw[hdl,ai];lia) (λi U H5=>∃(x5 x6:Option V) (zs:List V) (L2:List (Nat×Nat)),U=[some (.ref br),some (.ref wa),some (.ref f),some (.int ((aE (ae ps Pw (wy.getD i 0)) key:Nat):Int)),some (.ref D),x5,x6]/\H5 D=some (.lst zs)/\aA K H5 ((wy.take (i+1)).map λk=>(((aE (ae ps Pw k) key:Nat):Int),((ownB Pw k key:Nat):Int))) zs/\bF Av mp R ps Pw br xs (L++L2) H5/\KpA Av mp H H5/\L2.length<=figN (ae ps Pw (wy.getD 0 0)).length+2*i/\H5 y=some (.lst ((wy.drop 1).map nV))) ?_ ?_ ?_ ?_
 .refine #[_,_,[.ref t],L1,rfl,h4D,?_,S4,k04,by lia,h4y];rw[DV _ hpos,oe];exact .cons #[t,_,_,rfl,h4t,rfl,rfl] .nil
 .rintro i U H5 _ ⟨x5,x6,zs,L2,rfl,h5,hA,S5,k05,hL2,h5y⟩;exact #[SqL.of (S.lst k05 W.at_ nwa),SqL.of h5y]
 .rintro i x x' U H5 p hx hx' ⟨x5,x6,zs,L2,rfl,h5,hA,S5,k05,hL2,h5y⟩ hp;have hi:i+1<wy.length:=by
   have:=(aZ.mp hx').1;lia
  rw[tF (by lia)]at hx;cases hx
  rw[oE,oh,Nat.add_comm 1 i,tF hi]at hx';cases hx'
  have hpar:=W.ch i hi;have hki:wy.getD i 0<ps.length+1:=W.kn _ (w6 (by lia));have hkj:wy.getD (i+1) 0<ps.length+1:=W.kn _ (w6 hi);have NO:=wX hT hR few hki hpar (Pw:=Pw) key;refine #[p,_,rfl,SqT.of af,rfl,_,_,rfl,_,_,rfl,rfl,?_];have s6:=aD hp (.tup [nV (wy.getD i 0),nV (wy.getD (i+1) 0)]);have hR6:=AF.keep _ _ _ S5.r λb o _ e=>s6 b o e;have S6:=S5.kp (.of s6) (S5.tb.ext s6.ext) hR6 (AF.avl _ _ hR6);refine #[_,rfl,_,rfl,_,rfl,_,rfl,_,rfl,_,rfl,Av,br,ps,Pw,xs,wy.getD i 0,wy.getD (i+1) 0,_,rfl,S6.at_,S6.ba,hT,hki,hpar,g8 _ _,λH7 s7=>?_];have s57:=s6.trans s7;have hR7:=AF.keep _ _ _ S5.r λb o _ e=>s57 b o e;have S7:=S5.kp (.of s57) (S5.tb.ext s57.ext) hR7 (AF.avl _ _ hR7);refine #[_,rfl,br,f,xs,ps,Pw,wy.getD (i+1) 0,_,key,Av,fp,R,_,rfl,AF,S7,hT,hR,hkj,(by have:=tj _ _ (aj (ae ps Pw (wy.getD 0 0)).length);have:=hFn _ hk0;rw[bg];lia),NO.lo,NO.hi,λH8 L3 S8 k8 hL3=>?_];have k58:KpA Av mp H5 H8:=(KpA.of s57).trans k8;have k08:=k05.trans k58;have h8:=k58 _ _ nDA nDm h5;have h8y:=k58 _ _ nyA nym h5y;obtain ⟨x1,hx1,b1,o1,j1,ys1,rfl,_,_,hb1,ho1,_,_⟩:=fP S8.ba hkj;have hzl:=hA.length;rw[ai,bw]at hzl;refine #[_,rfl,.inl #[rfl,_,SqL.of h8],_,rfl,_,rfl,_,rfl,_,_,_,_,rfl,rfl,SqL.of S8.at_,cG hx1,_,_,_,_,rfl,rfl,SqT.of hb1,rfl,_,rfl,_,_,_,_,rfl,rfl,SqL.of ho1,tD hT hR hkj key,(by show 2<=sizeLine;decide),λt2 ht2=>?_];have s9:=aD ht2 (.tup [.int ((aE (ae ps Pw (wy.getD (i+1) 0)) key:Nat):Int),.int ((ownB Pw (wy.getD (i+1) 0) key:Nat):Int)]);have h9t:upd H8 t2 (.tup [.int ((aE (ae ps Pw (wy.getD (i+1) 0)) key:Nat):Int),.int ((ownB Pw (wy.getD (i+1) 0) key:Nat):Int)]) t2=_:=af;have h9:=s9 _ _ h8;have h9y:=s9 _ _ h8y;have k09:=k08.trans (.of s9);have hR9:=AF.keep _ _ _ S8.r λb o _ e=>s9 b o e;have tb9:=S8.tb.ext s9.ext;have hA9:=DT (H':=upd H8 t2 (.tup [.int ((aE (ae ps Pw (wy.getD (i+1) 0)) key:Nat):Int),.int ((ownB Pw (wy.getD (i+1) 0) key:Nat):Int)])) (λb us e=>s9 _ _ (S5.tup k58 e)) hA;generalize upd H8 t2 (.tup [.int ((aE (ae ps Pw (wy.getD (i+1) 0)) key:Nat):Int),.int ((ownB Pw (wy.getD (i+1) 0) key:Nat):Int)])=H9 at h9t h9 h9y k09 hR9 tb9 hA9 ⊢;have k0D:KpA Av mp H (upd H9 D (.lst (zs++[.ref t2]))):=λb o n1 n2 e=>by
   rw[ah (au e hDn)];exact k09 _ _ n1 n2 e
  have hRD:R (L++L2++L3) (upd H9 D (.lst (zs++[.ref t2]))):=AF.keep _ _ _ hR9 λb o hb e=>by
   have n:b≠D:=λz=>by
    rw[z]at hb;exact nfD hb
   rw[ah n];exact e
  refine #[_,_,_,rfl,rfl,h9,a0 (by lia),_,_,_,L2++L3,rfl,af,?_,?_,k0D,?_,?_]
  .rw[DV _ hi];exact aA.append (fM h9 hA9) (.cons #[t2,_,_,rfl,by rw[ah (λz=>by rw[z,h9]at h9t;cases h9t)];exact h9t,rfl,rfl] .nil)
  .rw[<-gG];exact S.kp k0D (DU tb9 h9) hRD (AF.avl _ _ hRD)
  .rw[bg];lia
  .rw[ah (bf nDy)];exact h9y
 .rintro U H5 ⟨x5,x6,zs,L2,rfl,h5,hA,S5,k05,hL2,h5y⟩;rw[hdl]at hA hL2;rw[bA (by lia)]at hA;refine #[_,rfl,?_];exact q D zs H5 L2 S5 k05 hDn h5 hA hL2
def plcB (ps:List Nat)(k0 e j:Nat):Bool:=isB ps k0 j&&(decide (j=k0)||match par ps j with|some p=>decide (p<e)|none=>false)
def LW (T:aN ps){k0:Nat}:plcB ps k0 e e=isB ps k0 e:=by
 unfold plcB;cases h:isB ps k0 e with
 | false=>rfl
 | true=>
  rw[Bool.true_and];by_cases c:e=k0
  .rw[aO c];rfl
  .cases hp:par ps e with
   | none=>
    exfalso;have z:e=0:=by
     cases e with
     | zero=>rfl
     | succ e=>
      have hb:=h;unfold isB wayL at hb;unfold wayF at hb;rw[ak c,hp]at hb;cases hb
    rw[z]at h c;have:=ez T (show 0<k0 by lia);rw[h]at this;cases this
   | some p=>
    have:=(bz T hp).1;show (decide (e=k0)||decide (p<e))=true;rw[aO this,Bool.or_true]
def LX (T:aN ps){k0 e j:Nat}(hk:k0<=e)(hp:par ps j=some e):isB ps k0 j=isB ps k0 e:=fo T (λz=>by have:=(bz T hp).1;lia) hp
def LY (T:aN ps){k0 e:Nat}(hk:k0<=e)(j:Nat):plcB ps k0 (e+1) j=(plcB ps k0 e j||(isB ps k0 e&&decide (j∈bt ps e (ps.length+1)))):=by
 unfold plcB;cases hp:par ps j with
 | none=>
  have hn:decide (j∈bt ps e (ps.length+1))=false:=aU λz=>by
   rw[(cM.mp z).2]at hp;cases hp
  rw[hn,jc,jZ];simp
 | some p=>
  have hm:j∈bt ps e (ps.length+1)↔p=e:=by
   rw[cM,hp];exact #[λz=>aM z.2,λz=>#[(bz T hp).2,by rw[z]]]
  by_cases c:p=e
  .subst c;rw[aO (hm.mpr rfl),<-LX T hk hp];cases isB ps k0 j<;>simp
  .rw[aU (λz=>c (hm.mp z)),jc,jZ];congr 2;show decide (p<e+1)=decide (p<e);exact decide_eq_decide.mpr (by lia)
def DY (T:aN ps){k0:Nat}(j:Nat):plcB ps k0 k0 j=decide (j=k0):=by
 unfold plcB;by_cases c:j=k0
 .subst c;rw[fK,aO rfl];rfl
 .rw[aU c,nR];cases hp:par ps j with
  | none=>rw[jc]
  | some p=>
   show (isB ps k0 j&&decide (p<k0))=false;by_cases d:p<k0
   .rw[fo T c hp,ez T d];rfl
   .rw[aU d,jc]
def w9 {P:Nat->Bool}{c:Nat}(hc:P c=false):∀{l:List Nat},l.Nodup->c∈l->(l.filter λj=>P j||decide (j=c)).length=(l.filter P).length+1
 | [],_,h=>absurd h bR
 | a::l,hn,h=>by
  rw[cZ]at hn;by_cases e:a=c
  .subst e;rw[dw (by simp),eJ (by simp[hc]),cS];congr 2;refine l5 λj hj=>?_;have:j≠a:=λz=>hn.1 (z ▸ hj);simp[this]
  .have ih:=w9 hc hn.2 ((aW.mp h).resolve_left λz=>e z.symm);cases hp:P a with
   | true=>rw[dw (by simp[hp]),dw hp,cS,cS,ih]
   | false=>rw[eJ (by simp[hp,e]),eJ (by simp[hp]),ih]
def LZ {b:Addr}{o':HO}(x:aR H Pt pos q)(hb:H b=some o')(n1:∀ tab,o'≠.tbl tab)(n2:∀ F,o'≠.ext F):aR (upd H b o) Pt pos q:=by
 obtain ⟨tab,h1,h2,h3⟩:=x.ex;have m1:Pt≠b:=λz=>by
  rw[z,hb]at h1;exact n1 _ (aM h1)
 refine #[tab,by rw[ah m1];exact h1,h2,?_];rcases h3 with h3|⟨c,h3,h4⟩
 .exact .inl h3
 .refine .inr #[c,h3,?_];have m2:c≠b:=λz=>by
   rw[z]at h4;rw[show H b=_ from h4]at hb;exact n2 _ (aM hb).symm
  show upd H b o c=_;rw[ah m2];exact h4
section
variable {P:Program}{w:World}{K:Frag}{mg:Str->Option Value}{base:Heap}{f:Addr}{Av:List Addr}{mp:Addr}{fp:Addr->Prop}{R:List (Nat×Nat)->Hp->Prop}{ps:List Nat}{Pw:List (List Int)}{key:Int}{br:Addr}{xs:List V}{L L5:List (Nat×Nat)}{H H5 H6:Hp}
def bF.put {b:Addr}{o':HO}(AF:AskF P w K mg base f Av mp fp R ps Pw key)(S:bF Av mp R ps Pw br xs L H)(S5:bF Av mp R ps Pw br xs L5 H5)(k:KpA Av mp H H5)(hb:H b=none)(nf:¬ fp b)(h5:H5 b=some o')(n1:∀ tab,o'≠.tbl tab)(n2:∀ F,o'≠.ext F)(o:HO) :
  bF Av mp R ps Pw br xs L5 (upd H5 b o)/\KpA Av mp H (upd H5 b o):=by
 have k':KpA Av mp H (upd H5 b o):=λc u m1 m2 e=>by
  rw[ah (au e hb)];exact k _ _ m1 m2 e
 have hR:R L5 (upd H5 b o):=AF.keep _ _ _ S5.r λc u hc e=>by
  have n:c≠b:=λz=>by
   rw[z]at hc;exact nf hc
  rw[ah n];exact e
 exact #[S.kp k' (LZ S5.tb h5 n1 n2) hR (AF.avl _ _ hR),k']
def bF.more (AF:AskF P w K mg base f Av mp fp R ps Pw key)(S5:bF Av mp R ps Pw br xs L5 H5)(s:Same H5 H6):bF Av mp R ps Pw br xs L5 H6:=by
 have hR:=AF.keep _ _ _ S5.r λb o _ e=>s b o e;exact S5.kp (.of s) (S5.tb.ext s.ext) hR (AF.avl _ _ hR)
end
def d6 (H:Hp)(ps:List Nat)(Pw:List (List Int))(key:Int)(k:Nat)(z:V):Prop:=∃ t,z=.ref t/\H t=some (.tup [.int (k:Nat),.int ((aE (ae ps Pw k) key:Nat):Int),.int ((ownB Pw k key:Nat):Int)])
def lq {H H':Hp}{ks:List Nat}{zs:List V}(k:∀ b us,H b=some (.tup us)->H' b=some (.tup us))(h:Paired (d6 H ps Pw key) ks zs):Paired (d6 H' ps Pw key) ks zs:=dD (λ_ _ ⟨t,e1,e2⟩=>#[t,e1,k _ _ e2]) h
inductive xa (P:Program)(w:World)(K:Frag)(mg:Str->Option Value)(base:Heap)(mp:Addr)(vs:List V)(H:Hp)(Q:VK)(w_1:XK):Prop
 | c:∀(br f:Addr) (xs:List V) (ps:List Nat) (Pw:List (List Int)) (k0:Nat) (key:Int) (Av:List Addr) (fp:Addr->Prop) (R:List (Nat×Nat)->Hp->Prop) (L:List (Nat×Nat)),vs=[.ref br,.int k0,.ref f]->AskF P w K mg base f Av mp fp R ps Pw key->bF Av mp R ps Pw br xs L H->aN ps->bc Pw->ps.length<=40->k0 < ps.length+1->L.length<=1000->(∀ k,k < ps.length+1->(ae ps Pw k).length<=1000)->(∀(D:Addr) (zs:List V) (H':Hp) (L':List (Nat×Nat)),bF Av mp R ps Pw br xs (L++L') H'->KpA Av mp H H'->H D=none->H' D=some (.lst zs)->Paired (d6 H' ps Pw key) (benL ps k0 (ps.length+1)) zs->
  L'.length<=figN (ae ps Pw k0).length+2*((benL ps k0 (ps.length+1)).length-1)->Q (.ref D) H')->xa P w K mg base mp vs H Q w_1
def L0 (T:Txt K mg)(yP:DF K mg "search_beneath" qb rD)(yM:FC P w K mg base 5 "first_place" mP (tG P w K mg base mp))(yO:FC P w K mg base 3 "next_place" mR (tI P w K mg base mp)):FC P w K mg base 6 "search_beneath" rD (xa P w K mg base mp):=by
 refine yP.ok ku (λvs H Q E h=>?_) (λf cdv A outer s H vs Q E hr h=>?_)
 .obtain ⟨br,f,xs,ps,Pw,k0,key,Av,fp,R,L,rfl,_⟩:=h;rfl
 obtain ⟨br,f,xs,ps,Pw,k0,key,Av,fp,R,L,rfl,AF,S,hT,hR,few,hk0,hLn,hFn,q⟩:=h;refine #[_,(aF (aI (i:=3) ku.nd rfl (av rfl) (A4 (oV (pv 1) (az yM hr (aa (pv 0) (aa (pv 1) (aa (pv 2) ab)))) A0) rfl rfl (by simp) (by decide)))
   (aF (aI (i:=4) ku.nd rfl (av rfl) (cR ab))
   (aF (ck PassesOwn.never rfl (j6 rfl T.dR (aa (pv 1) (aa (aP (bH (K:=K)) rfl T.bG bE (aa (pv 0) ab)) ab))) (aQ (i:=5) ku.nd rfl (av rfl)) (ao (bp (aV (Iq (da hr)) (pv 5) (pv 3) (by with_unfolding_all rfl)) (aF (aI (i:=6) ku.nd rfl (av rfl) (gM (da hr) (pv 3) (pv 5) (λ_ _=>rfl)))
   (aF (cF (dY F.plainAttrs_list F.slot_list_append F.type_list_append dZ (pv 4) (aa (cm (aa (pv 5) (aa (pv 6) (aa (ax (bh (K:=K)) (ax (aL (K:=K)) (ax (bh (K:=K)) (pv 0) (pv 5) (λ_ _=>rfl)) ag (λ_ _=>rfl)) (pv 6) (λ_ _=>rfl)) ab)))) ab)))
   (ao (ck PassesOwn.never rfl (c8 (ax (aL (K:=K)) (ax (bh (K:=K)) (pv 0) (pv 5) (λ_ _=>rfl)) ag (λ_ _=>rfl))) (aQ (i:=7) ku.nd rfl (av rfl)) (ao (iJ (da hr) (pv 3) (ax (aL (K:=K)) (pv 7) ag (λ_ _=>rfl)) (az yO hr (aa (pv 0) (aa (ax (aL (K:=K)) (pv 7) ag (λ_ _=>rfl)) (aa (ax (bh (K:=K)) (ax (aL (K:=K)) (pv 7) ag (λ_ _=>rfl)) (pv 6) (λ_ _=>rfl)) (aa (pv 2) ab))))) rfl)))))) bx)))
   (ao (aJ (pv 4)))))),?_]
 have hxl:=Paired.length S.ba;rw[cU]at hxl;intro pl hpl;have spl:=aD hpl (.dK []);obtain ⟨_,npA,npm⟩:=S.free (λ_ _ _ _ h=>h) hpl;have nfp:¬ fp pl:=λz=>AF.alloc _ _ _ S.r z hpl;refine #[_,rfl,_,rfl,_,rfl,_,rfl,br,f,xs,ps,Pw,k0,key,Av,fp,R,L,rfl,AF,S.more AF spl,hT,hR,hk0,by lia,hFn _ hk0,λH1 L1 S1 k1 hL1=>?_];have h1p:H1 pl=some (.dK []):=k1 _ _ npA npm af;refine #[h1p,[(.inl (k0:Int),.int ((aE (ae ps Pw k0) key:Nat):Int))],rfl,by show 1<=15;decide,?_];have k01:KpA Av mp H H1:=KpA.trans (.of spl) k1;obtain ⟨S2,k02⟩:=bF.put AF S S1 k01 hpl nfp h1p nofun nofun (.dK (fG [] [(.inl (k0:Int),.int ((aE (ae ps Pw k0) key:Nat):Int))]));have h2p:upd H1 pl (.dK (fG [] [(.inl (k0:Int),.int ((aE (ae ps Pw k0) key:Nat):Int))])) pl=some (.dK [(.inl (k0:Int),.int ((aE (ae ps Pw k0) key:Nat):Int))]):=af;generalize upd H1 pl (.dK (fG [] [(.inl (k0:Int),.int ((aE (ae ps Pw k0) key:Nat):Int))]))=H2 at S2 k02 h2p ⊢;refine #[(by show 0<=sizeLine;decide),λD hD=>?_];have sD:=aD hD (.lst []);obtain ⟨hDn,nDA,nDm⟩:=S2.free k02 hD;have nfD:¬ fp D:=λz=>AF.alloc _ _ _ S2.r z hD;have npD:pl≠D:=au h2p hD;have S3:=S2.more AF sD;have k03:KpA Av mp H _:=k02.trans (.of sD);have h3p:=sD _ _ h2p;have h3D:upd H2 D (.lst []) D=some (.lst []):=af;generalize upd H2 D (.lst [])=H3 at S3 k03 h3p h3D ⊢;refine #[_,rfl,_,rfl,_,_,rfl,.inl (SqL.of S3.at_),k0,_,rfl,#[by lia,by lia,by lia,by lia],?_];have en:(((xs.length:Nat):Int)-(k0:Int)).toNat=ps.length+1-k0:=by lia
 rw[en];refine ff (n:=ps.length+1 - k0) (λi U H5=>∃(x5 x6 x7:Option V) (kvs:List (Key×V)) (zs:List V) (L5:List (Nat×Nat)),U=[some (.ref br),some (.int k0),some (.ref f),some (.ref pl),some (.ref D),x5,x6,x7]/\H5 pl=some (.dK kvs)/\(∀ j:Nat,valV kvs (.inl (j:Int))=if plcB ps k0 (k0+i) j=true then some (.int ((aE (ae ps Pw j) key:Nat):Int)) else none)/\kvs.length=((List.range (ps.length+1)).filter (plcB ps k0 (k0+i))).length/\
  H5 D=some (.lst zs)/\Paired (d6 H5 ps Pw key) (benL ps k0 (k0+i)) zs/\bF Av mp R ps Pw br xs (L++L5) H5/\KpA Av mp H H5/\L5.length+2<=figN (ae ps Pw k0).length+2*kvs.length) ?_ ?_ ?_
 .refine #[_,_,_,_,[],L1,rfl,h3p,λj=>?_,?_,h3D,?_,S3,k03,by show _<=_+2*1;lia]
  .rw[ir,DY hT];unfold valV;by_cases c:j=k0
   .subst c;rw[aO rfl,List.find?_cons_of_pos (by simp)];rfl
   .rw[aU c,List.find?_cons_of_neg (by simp;lia)];rfl
  .have e:(List.range (ps.length+1)).filter (plcB ps k0 (k0+0))=(List.range (ps.length+1)).filter λj=>(λ_=>false) j||decide (j=k0):=l5 λj _=>by rw[ir,DY hT,nR]
   rw[e,w9 rfl oA (eU.mpr hk0),fD.mpr (λ_ _=>by simp)];rfl
  .have e:benL ps k0 (k0+0)=[]:=fD.mpr λj hj=>by
    have:=eU.mp hj;rw[ez hT (by lia)];decide
   rw[e];exact .nil
 .rintro i U H5 hi ⟨x5,x6,x7,kvs,zs,L5,rfl,h5p,hval,hkl,h5D,hTr,S5,k05,hL5⟩;have ee:(k0:Int)+(i:Int)=((k0+i:Nat):Int):=by lia
  rw[ee];have he:k0+i<ps.length+1:=by lia
  have hke:k0<=k0+i:=by lia
  have hsucc:=LY hT hke;have hself:=LW hT (k0:=k0) (e:=k0+i);have hev:=hval (k0+i);have hbs:benL ps k0 (k0+(i+1))=benL ps k0 (k0+i)++(if isB ps k0 (k0+i)=true then [k0+i] else []):=vZ
  have hcn:=wY ps (k0+i) (ps.length+1);have hcm:=λj=>cM (ps:=ps) (k:=k0+i) (n:=ps.length+1) (j:=j);have ec:k0+(i+1)=k0+i+1:=by lia
  rw[ec]at hbs;rw[ec];generalize k0+i=e at *;have hg:=DGet.k (k:=(.inl (e:Int))) h5p;rw[hev,hself]at hg;refine #[_,rfl,_,rfl,pl,_,rfl,hg,_,rfl,?_];cases hB:isB ps k0 e with
  | false=>
   refine iteF ?_;refine #[_,_,_,kvs,zs,L5,rfl,h5p,λj=>?_,?_,h5D,?_,S5,k05,hL5]
   .rw[hval j,hsucc j,hB,Bool.false_and,jZ]
   .rw[hkl];congr 1;exact l5 λj _=>by rw[hsucc j,hB,Bool.false_and,jZ]
   .rw[hbs,hB,ak (by decide),cB];exact hTr
  | true=>
   rw[hB]at hg hbs;rw[aq rfl]at hg hbs;refine iteT ?_;refine #[_,rfl,_,rfl,pl,_,rfl,hg,?_];obtain ⟨x,hx,b,o,jj,ys,rfl,_,njA,hb,ho,hj,hJ⟩:=fP S5.ba he;have hzl:=Paired.length hTr;have hbl:=kQ ps k0 e;refine #[_,rfl,.inl #[rfl,_,SqL.of h5D],_,rfl,_,rfl,_,rfl,_,rfl,_,_,_,_,rfl,rfl,SqL.of S5.at_,cG hx,_,_,_,_,rfl,rfl,SqT.of hb,rfl,_,rfl,_,_,_,_,rfl,rfl,SqL.of ho,tD hT hR he key,(by show 3<=sizeLine;decide),λt ht=>?_];have s6:=aD ht (.tup [.int (e:Int),.int ((aE (ae ps Pw e) key:Nat):Int),.int ((ownB Pw e key:Nat):Int)]);have S6:=S5.more AF s6;have k06:KpA Av mp H _:=k05.trans (.of s6);have h6t:upd H5 t (.tup [.int (e:Int),.int ((aE (ae ps Pw e) key:Nat):Int),.int ((ownB Pw e key:Nat):Int)]) t=_:=af;have h6D:=s6 _ _ h5D;have h6p:=s6 _ _ h5p;have hTr6:=lq (λb us h=>s6 b _ h) hTr;have h6b:=s6 _ _ hb;have h6j:=s6 _ _ hj;have hJ6:=dD (λ_ _ h=>cY.same s6 h) hJ;generalize upd H5 t (.tup [.int (e:Int),.int ((aE (ae ps Pw e) key:Nat):Int),.int ((ownB Pw e key:Nat):Int)])=H6 at S6 k06 h6t h6D h6p hTr6 h6b h6j hJ6 ⊢;refine #[_,_,_,rfl,rfl,h6D,a0 (by lia),?_];obtain ⟨S7,k07⟩:=bF.put AF S S6 k06 hDn nfD h6D nofun nofun (.lst (zs++[.ref t]));have nD:∀{x:Addr} {us:List V},H6 x=some (.tup us)->x≠D:=λ{x us} h z=>by
    rw[z,h6D]at h;cases h
   have hTr7:Paired (d6 (upd H6 D (.lst (zs++[.ref t]))) ps Pw key) (benL ps k0 (e+1)) (zs++[.ref t]):=by
    rw[hbs];exact jJ (lq (λb us h=>by rw[ah (nD h)];exact h) hTr6) #[t,rfl,by rw[ah (nD h6t)];exact h6t]
   have h7D:upd H6 D (.lst (zs++[.ref t])) D=some (.lst (zs++[.ref t])):=af;have h7p:upd H6 D (.lst (zs++[.ref t])) pl=some (.dK kvs):=by rw[ah npD];exact h6p
   generalize upd H6 D (.lst (zs++[.ref t]))=H7 at S7 k07 hTr7 h7D h7p ⊢;clear hJ6 h6j h6b hTr6 h6p h6D h6t k06 S6 s6 ht hJ hj hb ho hx;obtain ⟨x,hx,b,o,jj,ys,rfl,_,njA,hb,ho,hj,hJ⟩:=fP S7.ba he;have hyl:=Paired.length hJ;have hcl:=kR ps e (ps.length+1);refine #[_,rfl,_,rfl,_,_,_,_,rfl,rfl,SqL.of S7.at_,cG hx,_,_,_,_,rfl,rfl,SqT.of hb,rfl,jj,rfl,#[_,SqL.of hj],?_];have npj:jj≠pl:=λz=>by
    rw[z,h7p]at hj;cases hj
   refine iz (xs:=ys) (λm U H8=>∃(x7:Option V) (kvs:List (Key×V)) (L8:List (Nat×Nat)),U=[some (.ref br),some (.int k0),some (.ref f),some (.ref pl),some (.ref D),some (.int e),some (.int ((aE (ae ps Pw e) key:Nat):Int)),x7]/\H8 pl=some (.dK kvs)/\(∀ j:Nat,valV kvs (.inl (j:Int))=if (plcB ps k0 e j || decide (j∈(bt ps e (ps.length+1)).take m))=true then some (.int ((aE (ae ps Pw j) key:Nat):Int)) else none)/\kvs.length=((List.range (ps.length+1)).filter λj=>plcB ps k0 e j || decide (j∈(bt ps e (ps.length+1)).take m)).length/\
    bF Av mp R ps Pw br xs (L++L8) H8/\KpA Av mp H H8/\L8.length+2<=figN (ae ps Pw k0).length+2*kvs.length/\∀ b o,b∉Av->b≠mp->b≠pl->H7 b=some o->H8 b=some o) ?_ ?_ ?_ ?_
   .refine #[_,kvs,L5,rfl,h7p,λj=>?_,?_,S7,k07,hL5,λ_ _ _ _ _ h=>h]
    .rw[hval j];simp
    .rw[hkl];simp
   .rintro m U H8 _ ⟨x7,kvs,L8,rfl,_,_,_,_,_,_,k78⟩;exact SqL.of (k78 _ _ njA (S7.nm hj nofun) npj hj)
   .rintro m x U H8 hxm ⟨x7,kvs,L8,rfl,h8p,hval8,hkl8,S8,k08,hL8,k78⟩;obtain ⟨c,hc,a,sa,rfl,nsA,ha,hsa⟩:=nc hJ hxm;have hmi:=(aZ.mp hc).1;have hcm2:=(hcm c).mp (dF hc);have hpar:=hcm2.2;have hec:=(bz hT hpar).1;have npt:∀{x:Addr} {us:List V},H7 x=some (.tup us)->x≠pl:=λ{x us} h z=>by
     rw[z,h7p]at h;cases h
    have h8a:=k78 _ _ (S7.na ha nofun) (S7.nm ha nofun) (npt ha) ha;have h8s:=k78 _ _ nsA (S7.nm hsa nofun) (λz=>by rw[z,h7p]at hsa;cases hsa) hsa
    have NO:=wX hT hR few he hpar (Pw:=Pw) key;have hle:=g8 (ae ps Pw e) key;have hat:atI ((lb (ae ps Pw e) (ae ps Pw c)).map nV) ((aE (ae ps Pw e) key:Nat):Int)=some (nV (stN (ae ps Pw c) ((ae ps Pw e).take (aE (ae ps Pw e) key)))):=cG (by
     rw[bj];unfold lb;rw[bj,fT (by lia)];rfl)
    have hno:(plcB ps k0 e c||decide (c∈(bt ps e (ps.length+1)).take m))=false:=by
     have h1:plcB ps k0 e c=false:=by
      unfold plcB;rw[hpar,aU (show ¬ c=k0 by lia)];show (isB ps k0 c&&(false||decide (e<e)))=false;rw[aU (dE _),jZ,jc]
     have h2:decide (c∈(bt ps e (ps.length+1)).take m)=false:=aU λz=>by
      obtain ⟨i',hi',hi2⟩:=dU z;rw[bw]at hi';rw[List.getElem_take]at hi2;have h3:=(aZ.mp hc).2;exact eV.mp hcn i' m (by lia) hmi (by lia) (hi2.trans h3.symm)
     rw[h1,h2];rfl
    have hnone:=hval8 c;rw[hno,ak (by decide)]at hnone;refine #[_,rfl,_,rfl,_,_,_,_,rfl,rfl,SqT.of h8a,rfl,_,rfl,_,_,_,_,rfl,rfl,SqT.of h8a,rfl,_,rfl,_,_,_,_,rfl,rfl,SqL.of h8s,hat,_,rfl,br,f,xs,ps,Pw,c,_,key,Av,fp,R,_,rfl,AF,S8,hT,hR,hcm2.1,(by have:=tj _ _ (aj (ae ps Pw k0).length);have:=hFn _ hk0;have h9:kvs.length<=ps.length+1:=by { rw[hkl8];exact bS (dW _ _) (by rw[cU];exact aj _) };rw[bg];lia),NO.lo,NO.hi,λH9 L9 S9 k9 hL9=>?_];have k09:=k08.trans k9;have h9p:=k9 _ _ npA npm h8p;have h9a:=S8.tup k9 h8a;have hkl9:kvs.length<=ps.length+1:=by
     rw[hkl8];exact bS (dW _ _) (by rw[cU];exact aj _)
    obtain ⟨S10,k010⟩:=bF.put AF S S9 k09 hpl nfp h9p nofun nofun (.dK (putK kvs (.inl (c:Int)) (.int ((aE (ae ps Pw c) key:Nat):Int))));refine #[_,rfl,_,rfl,_,_,_,_,rfl,rfl,SqT.of h9a,rfl,pl,_,rfl,DPut.k (k:=.inl (c:Int)) h9p (a0 (by lia)),?_];have htk:(bt ps e (ps.length+1)).take (m+1)=(bt ps e (ps.length+1)).take m++[c]:=by
     rw[cy hmi,(aZ.mp hc).2]
    have hor:∀ j,(plcB ps k0 e j||decide (j∈(bt ps e (ps.length+1)).take (m+1)))=((plcB ps k0 e j||decide (j∈(bt ps e (ps.length+1)).take m))||decide (j=c)):=λj=>by
     rw[htk,Bool.or_assoc];congr 1;simp
    refine #[_,_,L8++L9,rfl,af,λj=>?_,?_,by rw[<-gG];exact S10,k010,?_,λb o n1 n2 n3 h=>?_]
    .rw[Gq,hor j];by_cases z:j=c
     .subst z;rw[aq rfl,aO rfl,Bool.or_true,aq rfl]
     .rw[ak (λy=>z (by have:=Sum.inl.inj y;lia)),hval8 j,aU z,jZ]
    .rw[iH _ hnone,bg,cT,hkl8];have e2:((List.range (ps.length+1)).filter λj=>plcB ps k0 e j||decide (j∈(bt ps e (ps.length+1)).take (m+1)))=(List.range (ps.length+1)).filter λj=>(λj=>plcB ps k0 e j||decide (j∈(bt ps e (ps.length+1)).take m)) j||decide (j=c):=l5 λj _=>hor j;rw[e2,w9 (P:=λj=>plcB ps k0 e j||decide (j∈(bt ps e (ps.length+1)).take m)) hno oA (eU.mpr hcm2.1)]
    .rw[iH _ hnone,bg,bg,cT];lia
    .rw[ah n3];exact k9 _ _ n1 n2 (k78 _ _ n1 n2 n3 h)
   .rintro U H8 ⟨x7,kvs,L8,rfl,h8p,hval8,hkl8,S8,k08,hL8,k78⟩;rw[bA (by lia)]at hkl8;refine #[_,_,_,kvs,_,L8,rfl,h8p,λj=>?_,?_,k78 _ _ nDA nDm (bf npD) h7D,?_,S8,k08,hL8]
    .rw[hval8 j,bA (by lia),hsucc j,hB,Bool.true_and]
    .rw[hkl8];congr 1;exact l5 λj _=>by rw[hsucc j,hB,Bool.true_and]
    .exact lq (λb us h=>k78 _ _ (S7.na h nofun) (S7.nm h nofun) (λz=>by rw[z,h7p]at h;cases h) h) hTr7
 rintro U H5 ⟨x5,x6,x7,kvs,zs,L5,rfl,h5p,hval,hkl,h5D,hTr,S5,k05,hL5⟩;have en2:k0+(ps.length+1-k0)=ps.length+1:=by lia
 rw[en2]at hTr hkl;refine #[_,rfl,q D zs H5 L5 S5 k05 hDn h5D hTr ?_];have hle:((List.range (ps.length+1)).filter (plcB ps k0 (ps.length+1))).length<=(benL ps k0 (ps.length+1)).length:=by
  unfold benL;rw[<-List.countP_eq_length_filter,<-List.countP_eq_length_filter];refine List.countP_mono_left λj _ hj=>?_;unfold plcB at hj;exact (Bool.and_eq_true_iff.mp hj).1
 lia
def Kp0 (H H':Hp):Prop:=∀ b o,(∀ tab,o≠.tbl tab)->H b=some o->H' b=some o
def xc {K:Frag}(k:Kp0 H H'):∀{es:List (Int×Int)} {ws:List V},aA K H es ws->aA K H' es ws
 | _,_,.nil=>.nil
 | _,_,.cons h t=>by
  refine .cons ?_ (xc k t);obtain ⟨a,x1,x2,rfl,hT,e1,e2⟩:=(show hasP K H _ _ from h);exact #[a,x1,x2,rfl,k _ _ nofun hT,e1,e2]
def tK {K:Frag}{js:List Nat}{qs:List Addr}(k:Kp0 H H')(h:bJ K H ps Pw js qs):bJ K H' ps Pw js qs:=dD (λj q ⟨ws,h1,h2⟩=>#[ws,k _ _ (λ_ z=>by cases z) h1,xc k h2]) h
def gn {js:List Nat}{xs:List V}(k:Kp0 H H')(h:Paired (BrAt [] H ps Pw) js xs):Paired (BrAt [] H' ps Pw) js xs:=dD (λj x ⟨b,o,j',ys,h1,h2,h3,h4,h5,h6,h7⟩=>
 #[b,o,j',ys,h1,h2,h3,k _ _ (λ_ z=>by cases z) h4,k _ _ (λ_ z=>by cases z) h5,k _ _ (λ_ z=>by cases z) h6,dD (λc y ⟨a,s,g1,g2,g3,g4⟩=>#[a,s,g1,g2,k _ _ (λ_ z=>by cases z) g3,k _ _ (λ_ z=>by cases z) g4]) h7]) h
def DZ {U:L2.St}{H:Hp}{Q:Bool->Hp->Prop}(h:Q true H):tYes U H Q:=h
def Kp0.trans (a:Kp0 H H1)(b:Kp0 H1 H2):Kp0 H H2:=λc o n h=>b c o n (a c o n h)
def Kp0.of (a:Same H H1):Kp0 H H1:=λc o _ h=>a c o h
def Kp0.tup {H H1:Hp}(a:Kp0 H H1){b:Addr}{us:List V}(h:H b=some (.tup us)):H1 b=some (.tup us):=a _ _ nofun h
def Kp0.lst {H H1:Hp}(a:Kp0 H H1){b:Addr}{us:List V}(h:H b=some (.lst us)):H1 b=some (.lst us):=a _ _ nofun h
def D0 (e:Kp0 H H'):∀{as:List Addr} {Pw:List (List Int)},bD H as Pw->bD H' as Pw
 | _,_,.nil=>.nil
 | _,_,.cons h t=>.cons (e.tup h) (D0 e t)
def L4 {st t:Addr}(e:Kp0 H H')(S:cO H st ps Pw t rs as):cO H' st ps Pw t rs as:=
 #[e.tup S.st,e.tup S.tr,e.tup S.rs,D0 e S.at_,S.len,S.T,S.R,S.few,S.keys]
def tL {w:List Nat}(e:Kp0 H H')(h:cI H wa ps w):cI H' wa ps w:=#[e.lst h.at_,h.len,h.ne,h.ch,h.kn]
def D6 (s:LS K L d H)(g:Kp0 H H'):LS K L d H':=by
 obtain ⟨ns,a,l,e,q⟩:=s.ex;refine #[ns,a,l,g _ _ nofun e,?_];rcases q with (q|⟨o,q⟩)|q
 .exact .inl (.inl (g _ _ nofun q))
 .exact .inl (.inr #[o,g _ _ nofun q])
 .exact .inr q
def L6 {Pw:List (List Int)}{k:Nat}(h:k<Pw.length):aw Pw k∈Pw:=by
 unfold aw;rw[aH,aC h];exact cE h
def bU (x:aR H Pt pos q):∃ tab,H Pt=some (.tbl tab):=by
 obtain ⟨tab,e,_⟩:=x.ex;exact #[tab,e]
def L7 (T:Txt K mg)(yQ:DF K mg "_law_children" qy rS):FC P w K mg base 1 "_law_children" rS (kW K):=by
 refine yQ.ok Jn (λvs H Q E h=>?_) (λf cdv A outer s H vs Q E hr h=>?_)
 .obtain ⟨t,ps,k,rfl,_⟩:=h;rfl
 obtain ⟨t,ps,k,rfl,ht,hz,q⟩:=h;refine #[_,(ao (aJ (de (N:=["_law_k","_law_tree_here","_law_knot"]) (own:=1) (cap:=[0,1]) rfl (fW rfl T.dR (aa (aP (bH (K:=K)) rfl T.bG bE (aa (pv 0) ab)) ab)) #[rfl,rfl,rfl,rfl,rfl,rfl] (λ_ _ _ _ _=>(aQ (i:=0) (show List.Nodup (["_law_k","_law_tree_here","_law_knot"]:List Str) by decide +kernel) rfl (av rfl))) (λ_ _ _ _ _=>(gO (aV d9 (ax (aL (K:=K)) (pv 1) (pv 0) (λ_ _=>rfl)) (pv 2) (aY _)))) (λ_ _ _ _ _=>(pv 0))))),?_];refine #[_,rfl,_,_,rfl,.inr (SqT.of ht),_,rfl,by lia,by rw[cN];lia,λD hD=>?_];have el:((((bY ps).length:Nat):Int)).toNat=ps.length+1:=by rw[cN,fR]
 rw[el];refine o8 (n:=ps.length+1) (λj U H3=>∃ x0:Option V,U=[x0,some (.ref t),some (.int k)]/\H3 D=some (.lst ((bt ps k j).map nV))/\But D H H3) ?_ ?_ ?_
 .exact #[_,rfl,af,λb o n e=>by rw[ah n];exact e]
 .rintro j m U H3 hm hj ⟨x0,rfl,h3,k3⟩;rw[jW];have h3t:=k3 _ _ (au ht hD) ht;have hlen:=kR ps k j;refine #[_,rfl,_,rfl,_,_,_,_,rfl,rfl,SqT.of h3t,jE hj,_,rfl,Dn _ _ _,_,rfl,?_];refine ite2 (λc=>?_) (λc=>?_)
  .have c':par ps j=some k:=sT.mp (bW c);refine #[_,rfl,_,h3,a0 (by rw[ai];lia),m-1,by lia,by lia,_,rfl,?_,λb o n e=>by rw[ah n];exact k3 b o n e];rw[af,sH,aq c',bq];rfl
  .have c':¬ par ps j=some k:=λz=>c (aO (sT.mpr z));refine #[m-1,by lia,by lia,_,rfl,?_,k3];rw[h3,sH,ak c',cB]
 .rintro U H3 ⟨x0,rfl,h3,k3⟩;exact q D H3 hD (λb o e=>k3 b o (au e hD) e) h3
def Ma {us:List Nat}{c ch:Nat}(h:gh ps (us++[c]))(hp:par ps ch=some c):gh ps ((us++[c])++[ch]):=Ke h λ_=>by
 rw[hp,bg,cT,jU,aH,gy (aj _),lX];rfl
inductive xf (K:Frag)(vs:List V)(H:Hp)(Q:VK)(w_1:XK):Prop
 | c:∀(d L t:Addr) (ps:List Nat),vs=[.ref d,.ref t]->H t=some (.tup (bY ps))->aN ps->ps.length<=40->LS K L d H->(∀(wa:Addr) (w:List Nat) (H':Hp),H wa=none->cI H' wa ps w->Keep d H H'->LS K L d H'->Q (.ref wa) H')->xf K vs H Q w_1
def Mb (T:Txt K mg)(yR:DF K mg "_law_way" qz rT)(bM:FC P w K mg base 2 "_law_take" fH (f9 K))(EW:FC P w K mg base 1 "_law_children" rS (kW K)):FC P w K mg base 3 "_law_way" rT (xf K):=by
 refine yR.ok qQ (λvs H Q E h=>?_) (λf cdv A outer s H vs Q E hr h=>?_)
 .obtain ⟨d,L,t,ps,rfl,_⟩:=h;rfl
 obtain ⟨d,L,t,ps,rfl,ht,hT,hl,hs,q⟩:=h;have ndT:∀{H':Hp} {a:Addr} {o:List V},LS K L d H'->H' a=some (.tup o)->a≠d:=λ{H' a o} s e z=>by
  obtain ⟨_,_,_,e2,_⟩:=s.ex;rw[<-z,e]at e2;cases e2
 have nd:∀{H':Hp} {a:Addr},LS K L d H'->H' a=none->a≠d:=λ{H' a} s e z=>by
  obtain ⟨_,_,_,e2,_⟩:=s.ex;rw[<-z,e]at e2;cases e2
 have free:∀{H':Hp} {a:Addr},Keep d H H'->LS K L d H'->H' a=none->H a=none:=λ{H' a} k s e=>by
  cases e2:H a with
  | none=>rfl
  | some o=>
   have:=k _ _ (nd s e) e2;rw[e]at this;cases this
 refine #[_,(aF (aI (i:=2) qQ.nd rfl (av rfl) (cR (aa (az bM hr (aa (pv 0) (aa (aP (bH (K:=K)) rfl T.bG bE (aa (pv 1) ab)) ab))) ab)))
   (cn (bp (aV d9 (az bM hr (aa (pv 0) (aa ag ab))) ag (aY _)) (ao (aI (i:=2) qQ.nd rfl (av rfl) (cR (aa ag ab)))) bx)
   (aF (oI PassesOwn.never (PW.pt (ix (aV (iL (List Int) (huD hr)) (az EW hr (aa (pv 1) (aa (ax (bh (K:=K)) (pv 2) (iA iD ag) (λ_ _=>rfl)) ab))) (cR ab) (aY _)) (iw (aV gK (az bM hr (aa (pv 0) (aa ag ab))) ag (aY _))))) (aF (aI (i:=3) qQ.nd rfl (av rfl) (az EW hr (aa (pv 1) (aa (ax (bh (K:=K)) (pv 2) (iA iD ag) (λ_ _=>rfl)) ab))))
   (ao (cF (dY F.plainAttrs_list F.slot_list_append F.type_list_append dZ (pv 2) (aa (ax (bh (K:=K)) (pv 3) (az bM hr (aa (pv 0) (aa (aP (bH (K:=K)) rfl T.bG bE (aa (pv 3) ab)) ab))) (λ_ _=>rfl)) ab))))))
   (ao (aJ (pv 2)))))),?_]
 refine #[_,rfl,_,rfl,_,_,rfl,.inr (SqT.of ht),d,L,_,rfl,by rw[cN];lia,hs,λv H1 v0 v1 k1 s1=>?_];rw[cN]at v1;obtain ⟨k0,rfl⟩:=wb v0;refine #[(by show 1<=sizeLine;decide),λp hp=>?_];have sp:=aD hp (.lst [nV k0]);have hpp:upd H1 p (.lst [nV k0]) p=some (.lst [nV k0]):=af;have s1p:=s1.same sp;have k1p:Keep d H (upd H1 p (.lst [nV k0])):=λb o nb e=>sp _ _ (k1 _ _ nb e);have hp0:=free k1 s1 hp;generalize upd H1 p (.lst [nV k0])=H2 at hpp s1p k1p ⊢;refine #[λU' H'=>∃(p:Addr) (k0:Nat),U'=[some (.ref d),some (.ref t),some (.ref p),none]/\H' p=some (.lst [nV k0])/\k0<ps.length+1/\H p=none/\Keep d H H'/\LS K L d H',?_,?_]
 .refine #[_,rfl,d,L,2,rfl,by decide,s1p,λv H3 _ _ k3 s3=>#[rfl,_,rfl,?_]];have hpd:p≠d:=nd s1 hp;have k03:Keep d H H3:=λb o nb e=>k3 _ _ nb (k1p _ _ nb e);refine ite2 (λ_=>?_) (λ_=>?_)
  .refine #[(by show 1<=sizeLine;decide),λu hu=>?_];have su:=aD hu (.lst [nV 0]);exact #[u,0,rfl,af,by lia,free k03 s3 hu,λb o nb e=>su _ _ (k03 _ _ nb e),s3.same su]
  .exact #[p,k0,rfl,k3 _ _ hpd hpp,by lia,hp0,k03,s3]
 clear hpp s1p k1p hp0 sp hp k1 s1;rintro U' H3 ⟨p,k0,rfl,h3,hk0,hp,k3,s3⟩;have hpd:p≠d:=nd hs hp;have htp:t≠p:=au ht hp;have htd:=ndT hs ht;refine ve (λU HW=>∃(us:List Nat) (c:Nat) (x3:Option V),U=[some (.ref d),some (.ref t),some (.ref p),x3]/\HW p=some (.lst ((us++[c]).map nV))/\us.length<=c/\c<ps.length+1/\gh ps (us++[c])/\(∀ x∈us++[c],x<ps.length+1)/\(∀ b o,b≠d->b≠p->H b=some o->HW b=some o)/\LS K L d HW)
  (λU HW=>∃(w:List Nat) (x3:Option V),U=[some (.ref d),some (.ref t),some (.ref p),x3]/\cI HW p ps w/\(∀ b o,b≠d->b≠p->H b=some o->HW b=some o)/\LS K L d HW)
  (λ_ H2=>match H2 p with|some (.lst xs)=>1000-xs.length|_=>0) ?_ ?_ ?_ ?_
 .refine #[[],k0,_,rfl,h3,cf _,hk0,λt ht=>?_,λx hx=>?_,λb o nb _ e=>k3 _ _ nb e,s3]
  .rw[List.nil_append,cT]at ht;lia
  .rw[bP.mp hx];exact hk0
 .rintro U HW ⟨us,c,x3,rfl,hw,hul,hc,hch,hkn,kw,sw⟩;have hwt:=kw _ _ htd htp ht;have done:∀{HX:Hp} {x3:Option V},(∀ b o,b≠d->HW b=some o->HX b=some o)->LS K L d HX->∃(w:List Nat) (x3':Option V),[some (V.ref d),some (.ref t),some (.ref p),x3]=[some (.ref d),some (.ref t),some (.ref p),x3']/\cI HX p ps w/\(∀ b o,b≠d->b≠p->H b=some o->HX b=some o)/\LS K L d HX:=λ{HX x3} k s=>
   #[us++[c],x3,rfl,#[k _ _ hpd hw,by rw[bg,cT];lia,by simp,hch,hkn],λb o n1 n2 e=>k _ _ n1 (kw _ _ n1 n2 e),s]
  refine #[_,rfl,_,rfl,_,rfl,_,_,_,_,rfl,rfl,SqL.of hw,DR,t,ps,c,rfl,hwt,by lia,λcl HX hcl sx hx=>?_];refine #[(by show 0<=sizeLine;decide),λe he=>?_];have se:=aD he (.lst []);have sxe:=sx.trans se;have swe:=sw.same sxe;refine #[(bt ps c (ps.length+1)).map (λn:Nat=>(n:Int)),[],#[_,_,rfl,SqL.of (se _ _ hx),Kx],#[_,_,rfl,SqL.of af,.nil],_,rfl,?_];generalize upd HX e (.lst [])=HE at sxe swe ⊢;refine ite2 (λcne=>?_) (λ_=>?_)
  .refine #[_,rfl,d,L,6,rfl,by decide,swe,λv H4 _ _ k4 s4=>?_];have k04:∀ b o,b≠d->HW b=some o->H4 b=some o:=λb o nb e=>k4 _ _ nb (sxe _ _ e);refine #[_,_,rfl,rfl,_,rfl,?_];refine ite2 (λ_=>?_) (λ_=>?_)
   .have h4:=k04 _ _ hpd hw;have h4t:=k04 _ _ htd hwt;refine #[_,rfl,_,rfl,_,rfl,_,_,_,_,rfl,rfl,SqL.of h4,DR,t,ps,c,rfl,h4t,by lia,λc2 H5 hc2 s5 h5=>?_];have hcne:bt ps c (ps.length+1)≠[]:=λz=>by
     rw[z]at cne;cases cne
    have hcmem:=λm=>cM (ps:=ps) (k:=c) (n:=ps.length+1) (j:=m);have hcl:=kR ps c (ps.length+1);generalize bt ps c (ps.length+1)=cs at hcne h5 hcmem hcl;have hpos:0<cs.length:=l0.mpr hcne;have h5p:=s5 _ _ h4;have s45:=s4.same s5;refine #[_,rfl,.inl #[rfl,_,SqL.of h5p],_,rfl,_,rfl,_,rfl,_,_,rfl,.inl (SqL.of h5),d,L,_,rfl,by rw[ai];lia,s45,λv2 H6 v20 v21 k6 s6=>?_];rw[ai]at v21;obtain ⟨j,rfl⟩:=wb v20;have hj:j<cs.length:=by lia
    have h6:=k6 _ _ hpd h5p;have hc2d:c2≠d:=nd s4 hc2;refine #[_,_,_,_,rfl,rfl,SqL.of (k6 _ _ hc2d h5),gY hj,?_];have hm:cs.getD j 0∈cs:=by
     rw[aH,aC hj];exact cE hj
    generalize cs.getD j 0=ch at hm ⊢;obtain ⟨hchn,hchp⟩:=(hcmem ch).mp hm;have hlt:=(bz hT hchp).1;refine #[_,_,_,rfl,rfl,h6,a0 (by rw[ai,bg,cT];lia),?_];have k06:∀ b o,b≠d->HW b=some o->H6 b=some o:=λb o nb e=>k6 _ _ nb (s5 _ _ (k04 _ _ nb e));refine #[#[us++[c],ch,_,rfl,?_,?_,hchn,?_,?_,λb o n1 n2 e=>?_,?_],?_]
    .rw[af,bq (l₂:=[ch])];rfl
    .rw[bg,cT];lia
    .exact Ma hch hchp
    .intro x hx;rcases cx.mp hx with z|z
     .exact hkn x z
     .rw[bP.mp z];exact hchn
    .rw[ah n2];exact k06 _ _ n1 (kw _ _ n1 n2 e)
    .exact LS.put hs hp (λb o n1 n2 e=>k06 _ _ n1 (kw _ _ n1 n2 e)) s6
    .show (match upd H6 p _ p with|some (.lst xs)=>1000-xs.length|_=>0)<(match HW p with|some (.lst xs)=>1000-xs.length|_=>0)
     rw[af,hw];show 1000-(((us++[c]).map nV)++[nV ch]).length<1000-((us++[c]).map nV).length;rw[bg,ai,bg,cT,cT];lia
   .exact done k04 s4
  .refine iteF ?_;exact done (λb o _ e=>sxe _ _ e) swe
 .refine Bu (λU H Q Q' m h=>?_) (λU H Q Q' m h=>?_)
  .obtain ⟨y1,e1,y2,e2,y3,e3,y4,y5,y6,y7,e4,e5,e6,e7,t,ps,k,e8,e9,e10,q⟩:=h;refine #[y1,e1,y2,e2,y3,e3,y4,y5,y6,y7,e4,e5,e6,e7,t,ps,k,e8,e9,e10,λp H' a1 a2 a3=>?_];obtain ⟨z1,z2⟩:=q p H' a1 a2 a3;refine #[z1,λe he=>?_];obtain ⟨as,bs,g1,g2,b,g3,q⟩:=z2 e he;exact #[as,bs,g1,g2,b,g3,m _ _ q]
  .obtain ⟨y1,e1,d,L,z,e2,e3,e4,q⟩:=h;refine #[y1,e1,d,L,z,e2,e3,e4,λv H' a1 a2 a3 a4=>?_];obtain ⟨i,j,g1,g2,b,g3,q⟩:=q v H' a1 a2 a3 a4;exact #[i,j,g1,g2,b,g3,m _ _ q]
 rintro U HW ⟨w,x3,rfl,W,kw,sw⟩;refine #[_,rfl,?_];exact q p w HW hp W (λb o nb e=>kw _ _ nb (au e hp) e) sw
abbrev D7:Str:=(envOfC ("search_for_key" : Str) (aB kj) 0 0 .none).qual ++ "<lambda>"
abbrev Ea:Pos:=#[213,48,213,89]
structure TabS (mF mS:Addr)(H:Hp):Prop where
 f:aR H mF iZ iY
 s:aR H mS Ea D7
 n:mF≠mS
def TabS.ext (x:TabS mF mS H)(e:Ext H H'):TabS mF mS H':=#[x.f.ext e,x.s.ext e,x.n]
def xg {bs:Heap}{g c' pf:Addr}{key:Int}{qs:List Addr}{nm:List Str}{qn:Str}(hV:FV P w K mg bs 2 g nm (iO 2 (tOp (rI0 λi j=>.bl (decide (i<j))) (tOp (rIxT K) (tOp (rIxL K) (tOp (rIxL K) (tVar 3) (tVar 0)) (tVar 1)) (tC (.int 0))) (tVar 2)) [.int key,.ref pf] c' qn))(hC:gc H4 c' qn)(t4:aR H4 mF iZ iY)(h4:H4 pf=some (.lst (qs.map V.ref)))(hF4:bJ K H4 ps Pw (List.range (ps.length+1)) qs):AskF P w K mg bs g [] mF (λb=>b≠mF/\H4 b≠none) (λ_ H'=>Gro mF H4 H') ps Pw key:=by
 have nm1:∀{x:Addr} {o:HO},H4 x=some o->(∀ tab,o≠.tbl tab)->x≠mF:=λ{x o} e n z=>by
  obtain ⟨tab,e2⟩:=bU t4;rw[<-z,e]at e2;exact n _ (aM e2)
 refine #[λL Ha Hb hR hk b o n e=>hk b o #[n,by rw[e];exact λz=>nomatch z] (hR b o n e),λL Ha b hR hb=>?_,λL Ha hR a ha=>absurd ha bR,λz=>z.1 rfl,_,_,hV,λkn i L Ha Q hkn hi _ hR hQ=>#[rfl,hR _ _ (nm1 hC nofun) hC,?_]]
 .cases e:H4 b with
  | none=>exact absurd e hb.2
  | some o=>
   rw[hR b o hb.1 e];exact λz=>nomatch z
 .obtain ⟨qk,hqk,wk,hwk,hak⟩:=fP hF4 hkn;have hge:(ae ps Pw kn)[i]?=some ((ae ps Pw kn).getD i (0,0)):=by
   rw[aH,aC hi];rfl
  obtain ⟨v,hv,bb,x1,x2,rfl,hb,e1,e2⟩:∃ v,wk[i]?=some v/\hasP K H4 ((ae ps Pw kn).getD i (0,0)) v:=sY hak hge;have e1':x1=.int ((ae ps Pw kn).getD i (0,0)).1:=e1;subst e1';have ha:=hR _ _ (nm1 h4 nofun) h4;have hwa:=hR _ _ (nm1 hwk nofun) hwk;have hba:=hR _ _ (nm1 hb nofun) hb;refine #[_,rfl,_,rfl,_,_,_,_,rfl,rfl,SqL.of ha,cG (v:=.ref qk) (by rw[bj,hqk];rfl),_,rfl,_,_,_,_,rfl,rfl,SqL.of hwa,cG hv,_,_,_,_,rfl,rfl,SqT.of hba,rfl,_,rfl,_,_,rfl,rfl,?_];exact hQ _ hR λ_ _ _ h=>h
def Kp2 (mF mS:Addr)(H H':Hp):Prop:=∀ b o,b≠mF->b≠mS->H b=some o->H' b=some o
def Kp2.kp0 (k:Kp2 mF mS H H')(x:TabS mF mS H):Kp0 H H':=λb o n e=>k b o (λz=>by
 obtain ⟨tab,e2⟩:=bU x.f;rw[<-z,e]at e2;exact n _ (aM e2)) (λz=>by
 obtain ⟨tab,e2⟩:=bU x.s;rw[<-z,e]at e2;exact n _ (aM e2)) e
inductive tM (K:Frag)(mF mS:Addr)(vs:List V)(H:Hp)(Q:VK)(w_1:XK):Prop
 | c:∀(st t rs pf wa:Addr) (key:Int) (ps:List Nat) (Pw:List (List Int)) (as qs:List Addr) (wy:List Nat),vs=[.ref t,.ref pf,.ref wa,.int key]->cO H st ps Pw t rs as->H pf=some (.lst (qs.map V.ref))->bJ K H ps Pw (List.range (ps.length+1)) qs->cI H wa ps wy->TabS mF mS H->(∀(D:Addr) (zs:List V) (H':Hp),H D=none->Kp2 mF mS H H'->TabS mF mS H'->H' D=some (.lst zs)->aA K H' (wy.map λk=>(((aE (ae ps Pw k) key:Nat):Int),((ownB Pw k key:Nat):Int))) zs->Q (.ref D) H')->tM K mF mS vs H Q w_1
def Mc (T:Txt K mg){mc mp:Addr}(uc:DFT K mg "search_for_key" kj mU mc mp)(hBM:BMAt mg base)(nF:FC P w K mg base 2 "bridges_of" kI (ng K))(yS:∀ b,Sub K mg base b->FC P w K mg b 6 "search" mT (tJ P w K mg b mF)):FC P w K mg base 7 "search_for_key" mU (tM K mF mp):=by
 refine uc.ok Jh (λvs H Q E h=>?_) (λf A outer s H vs Q E hr h=>?_)
 .obtain ⟨st,t,rs,pf,wa,key,ps,Pw,as,qs,wy,rfl,_⟩:=h;rfl
 obtain ⟨st,t,rs,pf,wa,key,ps,Pw,as,qs,wy,rfl,S,hpf,hF,W,TT,q⟩:=h;refine #[_,(ao (aJ (Ie (kf:=1) yS hr (az nF hr (aa (pv 0) (aa (pv 1) ab))) (pv 2) (mw (osc:=aB kj) (N:=["tree","fulls","way","key"]) (ps:=["knot","at"]) (caps:=["key","fulls"]) (cap:=[3,1]) #[rfl,rfl,rfl,by decide +kernel,by decide +kernel,by decide +kernel,by decide +kernel] (by decide +kernel) (by decide +kernel) rfl rfl rfl rfl (λ_ _ _ _ us hl=>match us,hl with|[_,_],_=>rfl) (λ_=>rfl)) rfl uc.hd hBM (λb _ _ _ _ _ _ _ S hr=>(iE eL (ax (aL (K:=K)) (ax (bh (K:=K)) (ax (bh (K:=K)) (pv 3) (pv 0) (λ_ _=>rfl)) (pv 1) (λ_ _=>rfl)) ag (λ_ _=>rfl)) (pv 2) (aY _)))))),?_]
 refine #[_,rfl,_,rfl,st,ps,Pw,t,rs,as,pf,qs,rfl,S,hpf,hF,λbr xs H3 hbr s3 h3 hB=>?_];have T3:=TT.ext s3.ext;refine #[_,rfl,T3.s,[.int key,.ref pf],rfl,?_,λbs g c' H4 hg hT4 hC SB hV=>?_]
 .intro j i v h1 h2;rcases j with _|_|j
  .cases h1;cases h2;rfl
  .cases h1;cases h2;rfl
  .cases h1
 have nmS:∀{x:Addr} {o:HO},H3 x=some o->(∀ tab,o≠.tbl tab)->x≠mp:=λ{x o} e n z=>by
  obtain ⟨tab,e2⟩:=bU T3.s;rw[<-z,e]at e2;exact n _ (aM e2)
 have k34:Kp0 H3 H4:=λb o n e=>hg _ _ (nmS e n) e;have t4:aR H4 mF iZ iY:=T3.f.gro hg T3.n (bU T3.s);have nm1:∀{x:Addr} {o:HO},H4 x=some o->(∀ tab,o≠.tbl tab)->x≠mF:=λ{x o} e n z=>by
  obtain ⟨tab,e2⟩:=bU t4;rw[<-z,e]at e2;exact n _ (aM e2)
 have kp04:Kp0 H H4:=Kp0.trans (.of s3) k34;have h4:=kp04.lst hpf;have hF4:=tK kp04 hF;have AF:=xg hV hC t4 h4 hF4;have SE:bF [] mF (λ_ H'=>Gro mF H4 H') ps Pw br xs [] H4:=#[Gro.refl _ _,λa ha=>absurd ha bR,k34.lst h3,bR,gn k34 hB,t4];refine #[br,wa,g,xs,ps,Pw,wy,key,[],_,_,[],rfl,AF,SE,S.T,S.R,S.few,tL kp04 W,bR,cf _,(λk hk=>by have:=m8 S.T S.len (Pw:=Pw) hk;have:=S.keys.k;lia),λD zs H5 L' S5 k5 hDn h5 hA _=>?_];have k45:Gro mF H4 H5:=λb o n e=>k5 b o bR n e;have kp45:Kp0 H4 H5:=λb o n e=>k45 _ _ (nm1 e n) e;refine q D zs H5 ?_ (λb o n1 n2 e=>k45 _ _ n1 (hg _ _ n2 (s3 _ _ e))) #[S5.tb,hT4.gro k45 (bf TT.n) (bU t4),TT.n] h5 hA;cases e:H D with
 | none=>rfl
 | some o=>
  by_cases z:D=mp
  .obtain ⟨tab,e2⟩:=bU hT4;rw[z,e2]at hDn;cases hDn
  .have:=hg _ _ z (s3 _ _ e);rw[hDn]at this;cases this
inductive xh (K:Frag)(mF mS:Addr)(vs:List V)(H:Hp)(Q:VK)(w_1:XK):Prop
 | c:∀(st wa:Addr) (key:Int) (ps:List Nat) (Pw:List (List Int)) (t rs:Addr) (as:List Addr) (wy:List Nat),vs=[.ref st,.ref wa,.int key]->cO H st ps Pw t rs as->cI H wa ps wy->TabS mF mS H->(∀(D:Addr) (zs:List V) (H':Hp),H D=none->Kp2 mF mS H H'->TabS mF mS H'->H' D=some (.lst zs)->Paired (d6 H' ps Pw key) wy zs->Q (.ref D) H')->xh K mF mS vs H Q w_1
def Md {K:Frag}{D D2:Addr}{zs:List V}{y0 y1:Option V}{Q:Hp->Prop}(W2:cI H2 wa ps wy)(h2:H2 D=some (.lst zs))(hA:aA K H2 (wy.map λk=>(((aE (ae ps Pw k) key:Nat):Int),((ownB Pw k key:Nat):Int))) zs)(hD2:H2 D2=none)(q:∀ us H3,Same H2 H3->H3 D2=some (.lst us)->Paired (d6 H3 ps Pw key) wy us->Q H3) :
  ∃ W:Nat->Nat->L2.St->Hp->Prop,(∃ m,W 0 m [y0,y1] (upd H2 D2 (.lst [])))/\∀ i m U H,W i m U H->((Itz K wa D).stop i H/\Q H)\/((Itz K wa D).go i H/\∀ x H',(Itz K wa D).yld i H x H'->gTup K 2 (oH (gI 0) (oH (gI 1) gNil)) x U H' λU2 H2=>tYes U2 H2 λb H3=>if b=true then tTup (oP (tVar 0) (oP (tOp (rIxT K) (tVar 1) (tC (.int 0))) (oP (tOp (rIxT K) (tVar 1) (tC (.int 1))) tNil))) U2 H3 λy H4=>∃ xs,H4 D2=some (.lst xs)/\xs.length<sizeLine/\∃ m',m'<m/\W (i+1) m' U2 (upd H4 D2 (.lst (xs++[y]))) else ∃ m',m'<m/\W (i+1) m' U2 H3):=by
 have hwl:=W2.len;have hzl:=hA.length;rw[ai]at hzl;refine Bw (xs:=wy.map nV) (ys:=zs) (by rw[ai];exact hzl) (λi U H3=>∃(x0 x1:Option V) (us:List V),U=[x0,x1]/\H3 D2=some (.lst us)/\Paired (d6 H3 ps Pw key) (wy.take i) us/\But D2 H2 H3) ?_ ?_ ?_ ?_
 .exact #[_,_,[],rfl,af,.nil,λb o n e=>by rw[ah n];exact e]
 .rintro i U H3 _ ⟨x0,x1,us,rfl,_,_,k3⟩;exact #[k3.sq (SqL.of W2.at_) hD2,k3.sq (SqL.of h2) hD2]
 .rintro i m x y U H3 r hx hy hm ⟨x0,x1,us,rfl,h3,hP,k3⟩ hr;have hi:=(aZ.mp hx).1;rw[ai]at hi hm;rw[tF hi]at hx;obtain rfl:=aM hx;have s23:Same H2 H3:=λb o e=>k3 b o (au e hD2) e;obtain ⟨e,he,hh⟩:=hA.get hy;rw[bj,aC hi]at he;obtain rfl:=aM he;obtain ⟨a,y1,y2,rfl,ha,e1,e2⟩:=(show hasP K H2 _ y from hh);have e1':y1=.int ((aE (ae ps Pw wy[i]) key:Nat):Int):=e1;have e2':y2=.int ((ownB Pw wy[i] key:Nat):Int):=e2;subst e1' e2';have hul:=Paired.length hP;rw[bw]at hul;have sr:=aD hr (.tup [nV (wy.getD i 0),.ref a]);refine #[r,_,rfl,SqT.of af,rfl,_,_,rfl,_,_,rfl,rfl,?_];have h4a:=sr _ _ (s23 _ _ ha);refine DZ (iteT ?_);refine #[_,rfl,_,rfl,_,_,_,_,rfl,rfl,SqT.of h4a,rfl,_,rfl,_,_,_,_,rfl,rfl,SqT.of h4a,rfl,(by show 3<=sizeLine;decide),λp hp=>?_];have eg:wy.getD i 0=wy[i]:=by rw[aH,aC hi];rfl
  have hpp:upd (upd H3 r (.tup [nV (wy.getD i 0),.ref a])) p (.tup [nV (wy.getD i 0),.int ((aE (ae ps Pw wy[i]) key:Nat):Int),.int ((ownB Pw wy[i] key:Nat):Int)]) p=some (.tup [nV (wy.getD i 0),.int ((aE (ae ps Pw wy[i]) key:Nat):Int),.int ((ownB Pw wy[i] key:Nat):Int)]):=af;have s35:=sr.trans (aD hp (.tup [nV (wy.getD i 0),.int ((aE (ae ps Pw wy[i]) key:Nat):Int),.int ((ownB Pw wy[i] key:Nat):Int)]));generalize upd (upd H3 r (.tup [nV (wy.getD i 0),.ref a])) p (.tup [nV (wy.getD i 0),.int ((aE (ae ps Pw wy[i]) key:Nat):Int),.int ((ownB Pw wy[i] key:Nat):Int)])=H5 at hpp s35 ⊢;have h5D:=s35 _ _ h3;have nD:∀{x:Addr} {us:List V},H5 x=some (.tup us)->x≠D2:=λ{x us} h z=>by
   rw[z,h5D]at h;cases h
  refine #[_,h5D,a0 (by lia),m-1,by lia,by rw[ai];lia,_,_,us++[.ref p],rfl,af,?_,λb o n e=>by rw[ah n];exact s35 _ _ (k3 b o n e)];rw[cy hi];refine jJ (dD (λ_ _ zq0=>(by obtain ⟨t,e1,e2⟩:=zq0;exact #[t,e1,by rw[ah (nD (s35 _ _ e2))];exact s35 _ _ e2])) hP) #[p,rfl,?_];rw[ah (nD hpp),hpp,eg]
 rintro U H3 ⟨x0,x1,us,rfl,h3,hP,k3⟩;rw[ai,bA (aj _)]at hP;exact q us H3 (λb o e=>k3 b o (au e hD2) e) h3 hP
def Me (T:Txt K mg)(yT:DF K mg "paper_of" qg rG)(jM:FC P w K mg base 4 "need_way" jC (ll K))(hE:FC P w K mg base 8 "full_rows" iQ (jH K))(yU:FC P w K mg base 7 "search_for_key" mU (tM K mF mS)):FC P w K mg base 9 "paper_of" rG (xh K mF mS):=by
 refine yT.ok CA (λvs H Q E h=>?_) (λf cdv A outer s H vs Q E hr h=>?_)
 .obtain ⟨st,wa,key,ps,Pw,t,rs,as,wy,rfl,_⟩:=h;rfl
 obtain ⟨st,wa,key,ps,Pw,t,rs,as,wy,rfl,S,W,TT,q⟩:=h;refine #[_,(aF (cF (az jM hr (aa (ax (aL (K:=K)) (pv 0) ag (λ_ _=>rfl)) (aa (pv 1) ab))))
   (aF (aI (i:=3) CA.nd rfl (av rfl) (az yU hr (aa (ax (aL (K:=K)) (pv 0) ag (λ_ _=>rfl)) (aa (az hE hr (aa (pv 0) ab)) (aa (pv 1) (aa (pv 2) ab))))))
   (ao (aJ (de (N:=["knot","each"]) (own:=2) (cap:=[]) rfl (oZ rfl T.tY (aa (pv 1) (aa (pv 3) ab))) #[rfl,rfl,rfl,rfl,rfl,rfl] (λ_ _ _ _ _=>(vh (K:=K) (n:=2) rfl (dH (aQ (i:=0) (show List.Nodup (["knot","each"]:List Str) by decide +kernel) rfl (av rfl)) (dH (aQ (i:=1) (show List.Nodup (["knot","each"]:List Str) by decide +kernel) rfl (av rfl)) iy)))) (λ_ _ _ _ _=>dN) (λ_ _ _ _ _=>(cm (aa (pv 0) (aa (ax (aL (K:=K)) (pv 1) ag (λ_ _=>rfl)) (aa (ax (aL (K:=K)) (pv 1) ag (λ_ _=>rfl)) ab)))))))))),?_]
 have hwl:=W.len;refine #[_,rfl,_,_,_,_,rfl,rfl,SqT.of S.st,rfl,_,rfl,t,wa,ps,wy,rfl,S.tr,by have:=S.few;lia,W,?_];refine #[_,rfl,_,_,_,_,rfl,rfl,SqT.of S.st,rfl,_,rfl,st,ps,Pw,t,rs,as,rfl,S,λpf qs H1 hpf s1 h1 _ _ _ hF=>?_];refine #[_,rfl,_,rfl,st,t,rs,pf,wa,key,ps,Pw,as,qs,wy,rfl,S.same s1,h1,hF,W.same s1,TT.ext s1.ext,λD zs H2 hDn k2 T2 h2 hA=>?_];have kp2':Kp2 mF mS H H2:=λb o n1 n2 e=>k2 b o n1 n2 (s1 _ _ e);have kp2:Kp0 H H2:=kp2'.kp0 TT;have W2:=tL kp2 W;have hzl:=hA.length;rw[ai]at hzl;refine #[_,rfl,_,rfl,wa,D,rfl,#[_,SqL.of W2.at_],#[_,SqL.of h2],λD2 hD2=>?_];refine Md W2 h2 hA hD2 λus H3 s23 h3 hP=>?_;refine q D2 us H3 ?_ (λb o n1 n2 e=>s23 _ _ (kp2' b o n1 n2 e)) (T2.ext s23.ext) h3 hP;cases e:H D2 with
 | none=>rfl
 | some o=>
  have h:D2≠mF/\D2≠mS:=by
   constructor
   .intro z;obtain ⟨tab,e2⟩:=bU T2.f;rw[<-z,hD2]at e2;cases e2
   .intro z;obtain ⟨tab,e2⟩:=bU T2.s;rw[<-z,hD2]at e2;cases e2
  have:=kp2' _ _ h.1 h.2 e;rw[hD2]at this;cases this
def fq (row:List Int)(key:Int):Nat:=(row.filter λx=>decide (x<key)).length
def Mf {row:List Int}{key:Int}{m:Nat}(hm:m<=row.length)(h1:∀ i,i<m->decide (row.getD i 0<key)=true)(h2:∀ i,m<=i->i<row.length->decide (row.getD i 0<key)=false):fq row key=m:=by
 unfold fq
 conv=>lhs;rw[<-eK m row]
 rw[c5,bg];have e1:(row.take m).filter (λx=>decide (x<key))=row.take m:=by
  rw[oj];intro x hx;obtain ⟨i,hi,rfl⟩:=dU hx;rw[bw]at hi;have:=h1 i (by lia);rw[aH,aC (by lia)]at this;rw[List.getElem_take];exact this
 have e2:(row.drop m).filter (λx=>decide (x<key))=[]:=by
  rw[fD];intro x hx;obtain ⟨i,hi,rfl⟩:=dU hx;rw[d8]at hi;have:=h2 (m+i) (by lia) (by lia);rw[aH,aC (by lia)]at this;rw[List.getElem_drop];intro z;rw[show decide (row[m+i]<key)=false from this]at z;cases z
 rw[e1,e2,bw,gC];lia
abbrev lamQ:Str:=(envOfC ("place" : Str) (aB kg) 0 0 .none).qual ++ "<lambda>"
abbrev eB:Pos:=#[47,36,47,60]
inductive nr (K:Frag)(mp:Addr)(vs:List V)(H:Hp)(Q:VK)(w_1:XK):Prop
 | c:∀(r:Addr) (row:List Int) (key:Int),vs=[.ref r,.int key]->H r=some (.tup (row.map V.int))->row.Pairwise (· < ·)->aR H mp eB lamQ->(∀ H':Hp,Gro mp H H'->aR H' mp eB lamQ->Q (.int (fq row key:Nat)) H')->nr K mp vs H Q w_1
def Mg (T:Txt K mg){mc mp:Addr}(ud:DFT K mg "place" kg kG mc mp)(hBM:BMAt mg base)(yK:∀ base,FC P w K mg base 4 "how_many_below" mH (tm P w K mg base)):FC P w K mg base 5 "place" kG (nr K mp):=by
 refine ud.ok IV (λvs H Q E h=>?_) (λf A outer s H vs Q E hr h=>?_)
 .obtain ⟨r,row,key,rfl,_⟩:=h;rfl
 obtain ⟨r,row,key,rfl,h0,hup,hT,q⟩:=h;refine #[_,(ao (aJ (HN (kf:=0) yK hr (aP (bH (K:=K)) rfl T.bG bE (aa (pv 0) ab)) (mw (osc:=aB kg) (N:=["row","key"]) (ps:=["at"]) (caps:=["key","row"]) (cap:=[1,0]) #[rfl,rfl,rfl,by decide +kernel,by decide +kernel,by decide +kernel,by decide +kernel] (by decide +kernel) (by decide +kernel) rfl rfl rfl rfl (λ_ _ _ _ us hl=>match us,hl with|[_],_=>rfl) (λ_=>rfl)) rfl ud.hd hBM (λ_ _ _ _ _ _ _ _ _=>(iE eL (ax (aL (K:=K)) (pv 2) (pv 0) (λ_ _=>rfl)) (pv 1) (aY _)))))),?_]
 refine #[_,rfl,_,_,rfl,.inr (SqT.of h0),hT,[.int key,.ref r],rfl,?_,λbase f c' H2 hg hT2 hC hV=>?_]
 .intro j i v h1 h2;rcases j with _|_|j
  .cases h1;cases h2;rfl
  .cases h1;cases h2;rfl
  .cases h1
 have nmp:r≠mp:=λz=>by
  obtain ⟨tab,e,_⟩:=hT.ex;rw[<-z,h0]at e;cases e
 have h2r:=hg _ _ nmp h0;rw[ai];refine #[row.length,f,_,_,λi=>decide (row.getD i 0<key),λ_ H'=>H'=H2,rfl,FV.mono hV (by decide),rfl,λi L1 H1 Q1 hi _ hR hQ=>?_,λi j hij hj hb=>?_,λm L1 H' hm hb1 hb2 _ hR=>?_]
 .subst hR;refine #[rfl,hC,?_];have hat:atI (row.map V.int) ((i:Nat):Int)=some (.int (row.getD i 0)):=cG (by rw[bj,aC hi,aH,aC hi];rfl);refine #[_,rfl,_,rfl,_,_,_,_,rfl,rfl,SqT.of h2r,hat,_,rfl,_,_,rfl,rfl,?_];exact hQ _ rfl
 .refine aO ?_;have hb:=bW hb;by_cases e:i=j
  .subst e;exact hb
  .have:=eV.mp hup i j (by lia) hj (by lia);rw[aH,aC (by lia)]at hb ⊢;exact Int.lt_trans this hb
 .subst hR;have e:=Mf hm hb1 hb2;have q2:=q _ hg hT2;rw[e]at q2;exact q2
inductive xi (K:Frag)(vs:List V)(H:Hp)(Q:VK)(w_1:XK):Prop
 | c:∀(st wa:Addr) (ps:List Nat) (Pw:List (List Int)) (t rs:Addr) (as:List Addr) (w:List Nat),vs=[.ref st,.ref wa]->cO H st ps Pw t rs as->cI H wa ps w->(∀(p:Addr) (bs:List Addr) (H':Hp),H p=none->Same H H'->H' p=some (.lst (bs.map V.ref))->bD H' bs (w.map (aw Pw))->Q (.ref p) H')->xi K vs H Q w_1
def Mh (T:Txt K mg)(yV:DF K mg "rows_on" qd rE)(jM:FC P w K mg base 4 "need_way" jC (ll K)):FC P w K mg base 5 "rows_on" rE (xi K):=by
 refine yV.ok Ji (λvs H Q E h=>?_) (λf cdv A outer s H vs Q E hr h=>?_)
 .obtain ⟨st,wa,ps,Pw,t,rs,as,w,rfl,_⟩:=h;rfl
 obtain ⟨st,wa,ps,Pw,t,rs,as,w,rfl,S,W,q⟩:=h;have hwl:=W.len;refine #[_,(aF (cF (az jM hr (aa (ax (aL (K:=K)) (pv 0) ag (λ_ _=>rfl)) (aa (pv 1) ab))))
   (ao (aJ (de (N:=["knot","stand"]) (own:=1) (cap:=[0]) rfl (c8 (pv 1)) #[rfl,rfl,rfl,rfl,rfl,rfl] (λ_ _ _ _ _=>(aQ (i:=0) (show List.Nodup (["knot","stand"]:List Str) by decide +kernel) rfl (av rfl))) (λ_ _ _ _ _=>dN) (λ_ _ _ _ _=>(ax (aL (K:=K)) (ax (aL (K:=K)) (pv 1) ag (λ_ _=>rfl)) (pv 0) (λ_ _=>rfl))))))),?_]
 refine #[_,rfl,_,_,_,_,rfl,rfl,SqT.of S.st,rfl,_,rfl,t,wa,ps,w,rfl,S.tr,by have:=S.few;lia,W,?_];refine #[_,rfl,wa,rfl,#[_,SqL.of W.at_],λD hD=>?_];refine eZ (xs:=w.map nV) (λi U H2=>∃(bs:List Addr) (x0:Option V),U=[x0,some (.ref st)]/\H2 D=some (.lst (bs.map V.ref))/\bD H2 bs ((w.take i).map (aw Pw))/\But D H H2) ?_ ?_ ?_ ?_
 .exact #[[],_,rfl,af,.nil,λb o n e=>by rw[ah n];exact e]
 .rintro i U H2 _ ⟨bs,x0,rfl,_,_,k2⟩;exact k2.sq (SqL.of W.at_) hD
 .rintro i m x U H2 hx hm ⟨bs,x0,rfl,h2,hB,k2⟩;obtain ⟨hi,rfl⟩:=jD hx;have hbl:=hB.length;rw[ai,bw]at hbl;have s2:Same H H2:=λb o e=>k2 b o (au e hD) e;have S2:=S.same s2;have hk:=W.kn _ (lp hi);rw[nk hi,bq];generalize w.getD i 0=k at hk ⊢;obtain ⟨b,hb1,hb2⟩:=S2.at_.get (k:=k) (by rw[S.len];exact hk);rw[ai]at hm;refine d3 ?_;refine #[_,rfl,_,_,_,_,rfl,rfl,SqT.of S2.st,rfl,_,rfl,_,_,_,_,rfl,rfl,SqT.of S2.rs,fO hb1,_,h2,a0 (by rw[ai];lia),m-1,by lia,by rw[ai];lia,bs++[b],_,rfl,?_,?_,λb o n e=>by rw[ah n];exact k2 b o n e]
  .rw[af,bq];rfl
  .have kD:∀ b o,b≠D->H2 b=some o->upd H2 D (.lst (bs.map V.ref++[.ref b])) b=some o:=λb o n e=>by rw[ah n];exact e
   have nT:∀{x:Addr} {o:List V},H2 x=some (.tup o)->x≠D:=λ{x o} e z=>by
    rw[z,h2]at e;cases e
   refine bD.snoc (bD.keep (p:=D) (d:=D) (λa row e=>nT e) (λc o n e=>by rw[ah n];exact e) hB) ?_;rw[ah (nT hb2)];exact hb2
 .rintro U H2 ⟨bs,x0,rfl,h2,hB,k2⟩;rw[ai,bA (aj _)]at hB;exact q D bs H2 hD (λb o e=>k2 b o (au e hD) e) h2 hB
inductive xj (K:Frag)(mp:Addr)(vs:List V)(H:Hp)(Q:VK)(w_1:XK):Prop
 | c:∀(st wa:Addr) (ps:List Nat) (Pw:List (List Int)) (t rs:Addr) (as:List Addr) (w:List Nat) (key:Int),vs=[.ref st,.ref wa,.int key]->cO H st ps Pw t rs as->cI H wa ps w->aR H mp eB lamQ->(∀(p:Addr) (H':Hp),H p=none->Gro mp H H'->aR H' mp eB lamQ->H' p=some (.lst ((w.map λk=>fq (aw Pw k) key).map nV))->Q (.ref p) H')->xj K mp vs H Q w_1
def Mi (T:Txt K mg)(yW:DF K mg "places" qe rF)(NR:FC P w K mg base 5 "rows_on" rE (xi K))(nJ:FC P w K mg base 5 "place" kG (nr K mp)):FC P w K mg base 6 "places" rF (xj K mp):=by
 refine yW.ok Jj (λvs H Q E h=>?_) (λf cdv A outer s H vs Q E hr h=>?_)
 .obtain ⟨st,wa,ps,Pw,t,rs,as,w,key,rfl,_⟩:=h;rfl
 obtain ⟨st,wa,ps,Pw,t,rs,as,w,key,rfl,S,W,hT,q⟩:=h;have hwl:=W.len;refine #[_,(ao (aJ (de (N:=["row","key"]) (own:=1) (cap:=[2]) rfl (c8 (az NR hr (aa (pv 0) (aa (pv 1) ab)))) #[rfl,rfl,rfl,rfl,rfl,rfl] (λ_ _ _ _ _=>(aQ (i:=0) (show List.Nodup (["row","key"]:List Str) by decide +kernel) rfl (av rfl))) (λ_ _ _ _ _=>dN) (λ_ _ _ _ _=>(az nJ hr (aa (pv 0) (aa (pv 1) ab))))))),?_];refine #[_,rfl,_,rfl,st,wa,ps,Pw,t,rs,as,w,rfl,S,W,λp bs H1 hp s1 h1 hB=>?_];have hbl:=hB.length;rw[ai]at hbl;have hT1:=hT.ext s1.ext;have nmp:∀{H':Hp} {x:Addr} {o:HO},aR H' mp eB lamQ->H' x=some o->(∀ tab,o≠.tbl tab)->x≠mp:=λ{H' x o} hT e n z=>by
  obtain ⟨tab,e2,_⟩:=hT.ex;rw[<-z,e]at e2;exact n _ (aM e2)
 refine #[p,rfl,#[_,SqL.of h1],λD hD=>?_];have hDm:D≠mp:=λz=>by
  obtain ⟨tab,e2,_⟩:=hT1.ex;rw[<-z,hD]at e2;cases e2
 refine eZ (xs:=bs.map V.ref) (λi U H2=>∃ x0:Option V,U=[x0,some (.int key)]/\H2 D=some (.lst (((w.take i).map λk=>fq (aw Pw k) key).map nV))/\(∀ b o,b≠D->b≠mp->H1 b=some o->H2 b=some o)/\aR H2 mp eB lamQ) ?_ ?_ ?_ ?_
 .refine #[_,rfl,af,λb o n _ e=>by rw[ah n];exact e,hT1.ext (aD hD _).ext]
 .rintro i U H2 _ ⟨x0,rfl,_,k2,_⟩;exact SqL.of (k2 _ _ (au h1 hD) (nmp hT1 h1 nofun) h1)
 .rintro i m x U H2 hx hm ⟨x0,rfl,h2,k2,hT2⟩;rw[bj]at hx;obtain ⟨b,hb,rfl⟩:=fS.mp hx;obtain ⟨row,hrow,h1b⟩:=sY hB hb;have hi:i<w.length:=by
   have:=(aZ.mp hb).1;lia
  rw[bj]at hrow;obtain ⟨k,hk,rfl⟩:=fS.mp hrow;have hke:w.getD i 0=k:=by rw[aH,hk];rfl
  rw[nk hi,bq,hke];have h2b:=k2 _ _ (au h1b hD) (nmp hT1 h1b nofun) h1b;rw[ai]at hm;refine d3 ?_;refine #[_,rfl,_,rfl,b,aw Pw k,key,rfl,h2b,S.R.at_up k,hT2,λH3 hg3 hT3=>?_];have h3:=hg3 _ _ hDm h2;refine #[_,h3,a0 (by rw[ai,ai,bw];lia),m-1,by lia,by rw[ai];lia,_,rfl,?_,λb o n n2 e=>by rw[ah n];exact hg3 _ _ n2 (k2 b o n n2 e),DU hT3 h3];rw[af,bq];rfl
 .rintro U H2 ⟨x0,rfl,h2,k2,hT2⟩;rw[ai,hbl,bA (aj _)]at h2;exact q D H2 (s1.free hD) (λb o n e=>k2 b o (au (s1 _ _ e) hD) n (s1 _ _ e)) hT2 h2
def bu (a b:List En):List En:=a.filter λe=>decide (e∉b)
def eP {a:List En}{e:En}:e∈bu a b↔e∈a/\e∉b:=by
 unfold bu;rw[d7,decide_eq_true_iff]
def Mj (a:List En):bu a a=[]:=fD.mpr λe h=>by
 rw[aU (λz=>z h)];decide
def Eb {a:List En}(h:a.Nodup):(bu a b).Nodup:=h.filter _
structure Led (f f' g c:List En):Prop where
 eq:f'=dg (bu f g++c)
 gone:g=bu f f'
 come:c=bu f' f
def xk (h1:Rise f)(h2:Rise f')(hg:Rise g)(hc:Rise c)(mg:∀ e,e∈g↔e∈f/\e∉f')(mc:∀ e,e∈c↔e∈f'/\e∉f):Led f f' g c:=by
 have nd:(bu f g++c).Nodup:=by
  refine fB.mpr #[Eb (sW h1),sW hc,λa ha b hb z=>?_];subst z;exact ((mc a).mp hb).2 (eP.mp ha).1
 refine #[jI h2 (va nd) λe=>?_,jI hg (h1.filter _) λe=>?_,jI hc (h2.filter _) λe=>?_]
 .rw[o6,cx,eP,mg,mc];constructor
  .intro h;by_cases hf:e∈f
   .exact .inl #[hf,λz=>z.2 h]
   .exact .inr #[h,hf]
  .rintro (⟨h,n⟩|h)
   .exact Classical.byContradiction λz=>n #[h,z]
   .exact h.1
 .exact (mg e).trans eP.symm
 .exact (mc e).trans eP.symm
def Ec (h1:Rise f)(h2:Rise f'):Led f f' (bu f f') (bu f' f):=xk h1 h2 (h1.filter _) (h2.filter _) (λ_=>eP) (λ_=>eP)
def Ed (h1:Rise f)(h2:Rise f')(hg:bu f f'=[])(hc:bu f' f=[]):f'=f:=jI h2 h1 λe=>by
 constructor
 .intro h;exact Classical.byContradiction λz=>absurd (eP.mpr #[h,z]) (by rw[hc];exact bR)
 .intro h;exact Classical.byContradiction λz=>absurd (eP.mpr #[h,z]) (by rw[hg];exact bR)
section
variable {ps:List Nat}{Pw Pu:List (List Int)}
def i0 (k:Nat)(Pw Pu:List (List Int)):Prop:=∀ j,j≠k->aw Pu j=aw Pw j
def Ee {k j:Nat}(h:i0 k Pw Pu)(n:j≠k):ownE Pu j=ownE Pw j:=by
 unfold ownE;rw[h j n]
def tN (T:aN ps){k:Nat}(hk:k<ps.length+1)(h:i0 k Pw Pu):∀(m j:Nat),ps.length+1-j<=m->j<ps.length+1->isB ps j k=false->ae ps Pu j=ae ps Pw j
 | 0,j,hm,hj,_=>by lia
 | m+1,j,hm,hj,hb=>by
  rw[gk T hj,gk T hj];unfold fN;have njk:j≠k:=λz=>by
   rw[z,fK]at hb;cases hb
  rw[Ee h njk];congr 3;refine oo λc hc=>?_;obtain ⟨hcn,hcp⟩:=cM.mp hc;have hlt:=(bz T hcp).1;rw[tN T hk h m c (by lia) hcn ?_];cases e:isB ps c k with
  | false=>rfl
  | true=>
   rw[(iV T _ k (aj _) hk).mpr (.inr #[c,hcp,e])]at hb;cases hb
def Ef (T:aN ps)(R:bc Pw)(R':bc Pu){k p:Nat}(hk:k<ps.length+1)(h:i0 k Pw Pu)(hb:isB ps j k=true)(hp:par ps j=some p) :
  Led (ae ps Pw p) (ae ps Pu p) (bu (bI (ae ps Pw j)) (bI (ae ps Pu j))) (bu (bI (ae ps Pu j)) (bI (ae ps Pw j))):=by
 have hlt:=bz T hp;have hpn:p<ps.length+1:=by lia
 have npk:p≠k:=λz=>by
  have:=ez T (show k<j by lia);rw[hb]at this;cases this
 have oth:∀ c,par ps c=some p->c≠j->ae ps Pu c=ae ps Pw c:=λc hc n=>by
  refine tN T hk h _ c (aj _) (bz T hc).2 ?_;cases e:isB ps c k with
  | false=>rfl
  | true=>exact (kT T hc hp n _ k (aj _) e hb).elim
 have hr:=λ{r:List (List Int)} (R:bc r)=>(cv T R hlt.2).sublist (dv _);have dis:∀{r r':List (List Int)},bc r->bc r'->(∀ c,par ps c=some p->c≠j->ae ps r' c=ae ps r c)->ownE r' p=ownE r p->∀ e,e∈bI (ae ps r j)->e∉bI (ae ps r' j)->e∉ae ps r' p:=λ{r r'} Q Q' ho hw e he hn hf=>by
  obtain ⟨i,hi,hbi,ei,_⟩:=jF T Q hlt.2 e ((dv _).subset he);rcases (d5 T hpn).mp hf with z|⟨c,hc,z⟩
  .have:=(kY hpn z).2;have eij:i=p:=by lia
   have:=ez T hlt.1;rw[<-eij,hbi]at this;cases this
  .by_cases cj:c=j
   .subst cj;exact hn z
   .obtain ⟨i2,hi2,hb2,e2,_⟩:=jF T Q' (bz T hc).2 e ((dv _).subset z);have eii:i2=i:=by lia
    subst eii;exact kT T hc hp cj _ i2 (aj _) hb2 hbi
 have up:∀{r r':List (List Int)},(∀ c,par ps c=some p->c≠j->ae ps r' c=ae ps r c)->ownE r' p=ownE r p->∀ e,e∈ae ps r p->e∉ae ps r' p->e∈bI (ae ps r j)/\e∉bI (ae ps r' j):=λ{r r'} ho hw e he hn=>by
  refine #[?_,λz=>hn ((d5 T hpn).mpr (.inr #[j,hp,z]))];rcases (d5 T hpn).mp he with z|⟨c,hc,z⟩
  .exact absurd ((d5 T hpn).mpr (.inl (by rw[hw];exact z))) hn
  .by_cases cj:c=j
   .subst cj;exact z
   .exact absurd ((d5 T hpn).mpr (.inr #[c,hc,by rw[ho c hc cj];exact z])) hn
 have ow:=Ee h npk;refine xk (cv T R hpn) (cv T R' hpn) ((hr R).filter _) ((hr R').filter _) (λe=>eP.trans #[λzq0=>(by obtain ⟨a,b⟩:=zq0;exact #[(d5 T hpn).mpr (.inr #[j,hp,a]),dis R R' oth ow e a b]),λzq1=>(by obtain ⟨a,b⟩:=zq1;exact up oth ow e a b)]) (λe=>eP.trans #[λzq2=>(by obtain ⟨a,b⟩:=zq2;exact #[(d5 T hpn).mpr (.inr #[j,hp,a]),dis R' R (λc hc n=>(oth c hc n).symm) ow.symm e a b]),λzq3=>(by obtain ⟨a,b⟩:=zq3;exact up (λc hc n=>(oth c hc n).symm) ow.symm e a b)])
def Eg (T:aN ps)(R:bc Pw)(R':bc Pu){k:Nat}(hk:k<ps.length+1)(h:i0 k Pw Pu):Led (ae ps Pw k) (ae ps Pu k) (bu (ownE Pw k) (ownE Pu k)) (bu (ownE Pu k) (ownE Pw k)):=by
 have oth:∀ c,par ps c=some k->ae ps Pu c=ae ps Pw c:=λc hc=>tN T hk h _ c (aj _) (bz T hc).2 (ez T (bz T hc).1);have half:∀{r r':List (List Int)},bc r'->(∀ c,par ps c=some k->ae ps r' c=ae ps r c)->∀ e,(e∈ownE r k/\e∉ownE r' k)↔e∈ae ps r k/\e∉ae ps r' k:=λ{r r'} Q' ho e=>by
  constructor
  .rintro ⟨a,b⟩;refine #[(d5 T hk).mpr (.inl a),λz=>?_];rcases (d5 T hk).mp z with z|⟨c,hc,z⟩
   .exact b z
   .obtain ⟨i,hi,hbi,ei,_⟩:=jF T Q' (bz T hc).2 e ((dv _).subset z);have:=(kY hk a).2;have eik:i=k:=by lia
    have:=ez T (bz T hc).1;rw[<-eik,hbi]at this;cases this
  .rintro ⟨a,b⟩;refine #[?_,λz=>b ((d5 T hk).mpr (.inl z))];rcases (d5 T hk).mp a with z|⟨c,hc,z⟩
   .exact z
   .exact absurd ((d5 T hk).mpr (.inr #[c,hc,by rw[ho c hc];exact z])) b
 have ori:∀{r:List (List Int)},bc r->Rise (ownE r k):=λ{r} Q=>by
  unfold ownE;exact List.Pairwise.map _ (R:=λa b:Int=>a<b) (λa b (h:a<b)=>fj.mpr (.inl h)) (Q.at_up k)
 exact xk (cv T R hk) (cv T R' hk) ((ori R).filter _) ((ori R').filter _) (λe=>eP.trans (half R' oth e)) (λe=>eP.trans (half R (λc hc=>(oth c hc).symm) e))
end
structure FA (K:Frag)(H:Hp)(p:Addr)(qs:List Addr)(n:Nat)(f:Nat->List En):Prop where
 at_:H p=some (.lst (qs.map V.ref))
 len:qs.length=n
 nd:qs.Nodup
 np:p∉qs
 get:∀(j:Nat) (q:Addr),qs[j]?=some q->∃ ws,H q=some (.lst ws)/\aA K H (f j) ws
section
variable {K:Frag}{H H':Hp}{p:Addr}{qs:List Addr}{n:Nat}{f g:Nat->List En}
def FA.ext (h:FA K H p qs n f)(e:Ext H H'):FA K H' p qs n f:=
 #[e _ _ h.at_ (λ_ z=>nomatch z),h.len,h.nd,h.np,λj q hq=>by
  obtain ⟨ws,h1,h2⟩:=h.get j q hq;exact #[ws,e _ _ h1 nofun,h2.mono e]]
def FA.congr (h:FA K H p qs n f)(e:∀ j,j<n->f j=g j):FA K H p qs n g:=
 #[h.at_,h.len,h.nd,h.np,λj q hq=>by
  rw[<-e j (by have:=(aZ.mp hq).1;have:=h.len;lia)];exact h.get j q hq]
def FA.set (h:FA K H p qs n f){k:Nat}{q':Addr}{l:List En}{ws:List V}(hq:H q'=some (.lst ws))(hw:aA K H l ws)(hn:q'∉qs)(hp:q'≠p):FA K (upd H p (.lst ((qs.map V.ref).set k (.ref q')))) p (qs.set k q') n (λj=>if j=k then l else f j):=by
 refine #[?_,by rw[nQ];exact h.len,?_,λz=>?_,λj q hj=>?_]
 .rw[af,lY]
 .show List.Pairwise _ _;rw[eV];intro i j hi hj hij;rw[nQ]at hi hj;rw[List.getElem_set,List.getElem_set];have old:=eV.mp h.nd i j hi hj hij;split
  .rw[ak (by lia)];exact λz=>hn (z ▸ cE hj)
  .split
   .exact λz=>hn (z ▸ cE hi)
   .exact old
 .rcases j3 z with y|y
  .exact h.np y
  .exact hp y.symm
 .rw[jV]at hj;show ∃ ws,_/\aA K _ (if j=k then l else f j) ws
  by_cases c:k=j
  .rw[aq c]at hj;by_cases c2:k<qs.length
   .rw[aq c2]at hj;have:=aM hj;subst this;rw[aq c.symm];exact #[ws,by rw[ah hp];exact hq,fM h.at_ hw]
   .rw[ak c2]at hj;cases hj
  .rw[ak c]at hj;rw[ak (λz=>c z.symm)];obtain ⟨us,h1,h2⟩:=h.get j q hj;have hqp:q≠p:=λz=>h.np (by rw[<-z];exact dF hj);exact #[us,by rw[ah hqp];exact h1,fM h.at_ h2]
def FA.at (h:FA K H p qs n f){k:Nat}(hk:k<n):∃ q ws,qs[k]?=some q/\H q=some (.lst ws)/\aA K H (f k) ws:=by
 have e:qs[k]?=some (qs[k]'(by have:=h.len;lia)):=aC _;obtain ⟨ws,h1,h2⟩:=h.get k _ e;exact #[_,ws,e,h1,h2]
end
def Eh {K:Frag}{p:Addr}:∀{n:Nat} {qs:List Addr} (m:Nat),qs.length=n->(∀(j:Nat) (q:Addr),qs[j]?=some q->∃ ws,H q=some (.lst ws)/\aA K H (ae ps Pw (m+j)) ws)->bJ K H ps Pw (List.range' m n) qs
 | _,[],_,rfl,_=>.nil
 | _,q::qs,m,rfl,h=>by
  refine .cons (h 0 q rfl) (Eh (p:=p) (m+1) rfl λj q' hj=>?_);have:=h (j+1) q' hj;rwa[show m+(j+1)=m+1+j by lia]at this
def FA.fulls {K:Frag}{p:Addr}{Pw:List (List Int)}{n:Nat}(h:FA K H p qs n (ae ps Pw)):bJ K H ps Pw (List.range n) qs:=by
 rw[uv];exact Eh (p:=p) 0 h.len λj q hj=>by
  rw[je];exact h.get j q hj
structure cJ (K:Frag)(CS:Addr)(H:Hp)(sh dx st p:Addr)(qs:List Addr)(ps:List Nat)(Pw:List (List Int))(t rs:Addr)(as:List Addr):Prop where
 own:H dx=some (.own sh)
 ins:H sh=some (.ins CS dx [("kept",.ref st),("fulls",.ref p)])
 stand:cO H st ps Pw t rs as
 full:FA K H p qs (ps.length+1) (ae ps Pw)
def Tp (H H':Hp):Prop:=∀ b us,H b=some (.tup us)->H' b=some (.tup us)
def xl (e:Tp H H')(h:bD H as Pw):bD H' as Pw:=pImp (λ_ _=>e _ _) h
def jK {st t:Addr}(e:Tp H H')(S:cO H st ps Pw t rs as):cO H' st ps Pw t rs as:=
 #[e _ _ S.st,e _ _ S.tr,e _ _ S.rs,xl e S.at_,S.len,S.T,S.R,S.few,S.keys]
def But.tp {p:Addr}(k:But p H H')(n:∀ us,H p≠some (.tup us)):Tp H H':=λb us e=>k b _ (λz=>n us (z ▸ e)) e
def gx {K:Frag}(k:Tp H H'){es:List (Int×Int)}{ws:List V}(h:aA K H es ws):aA K H' es ws:=pImp (λ_ _ h=>by
  obtain ⟨a,x1,x2,rfl,hT,e1,e2⟩:=(show hasP K H _ _ from h);exact #[a,x1,x2,rfl,k _ _ hT,e1,e2]) h
def FA.tp {K:Frag}{p:Addr}{n:Nat}{f:Nat->List En}(h:FA K H p qs n f)(e:Tp H H')(l:∀ b us,H b=some (.lst us)->H' b=some (.lst us)):FA K H' p qs n f:=
 #[l _ _ h.at_,h.len,h.nd,h.np,λj q hq=>by
  obtain ⟨ws,h1,h2⟩:=h.get j q hq;exact #[ws,l _ _ h1,gx e h2]]
inductive tO (K:Frag)(CS:Addr)(vs:List V)(H:Hp)(Q:VK)(w_1:XK):Prop
 | c:∀(sh dx st:Addr) (ps:List Nat) (Pw:List (List Int)) (t rs:Addr) (as:List Addr),vs=[.ref sh,.ref st]->H dx=some (.own sh)->H sh=some (.ins CS dx [])->cO H st ps Pw t rs as->(∀(p:Addr) (qs:List Addr) (H':Hp),H p=none->(∀ q∈qs,H q=none)->But sh H H'->cJ K CS H' sh dx st p qs ps Pw t rs as->Q .non H')->tO K CS vs H Q w_1
def Ei {K:Frag}:∀{n:Nat} {qs:List Addr} (m:Nat),bJ K H ps Pw (List.range' m n) qs->qs.length=n/\∀(j:Nat) (q:Addr),qs[j]?=some q->∃ ws,H q=some (.lst ws)/\aA K H (ae ps Pw (m+j)) ws
 | 0,_,_,.nil=>#[rfl,λj q h=>by simp at h]
 | n+1,_,m,.cons (b:=q) h r=>by
  obtain ⟨l,g⟩:=Ei (m+1) r;refine #[by rw[cS,l],λj q' hj=>?_];cases j with
  | zero=>
   obtain rfl:=aM hj;exact h
  | succ j=>
   have:=g j q' hj;rwa[show m+1+j=m+(j+1) by lia]at this
def bJ.fa {K:Frag}{p:Addr}{Pw:List (List Int)}{n:Nat}{qs:List Addr}(h:bJ K H ps Pw (List.range n) qs)(hp:H p=some (.lst (qs.map V.ref)))(nd:qs.Nodup)(np:p∉qs):FA K H p qs n (ae ps Pw):=by
 rw[uv]at h;obtain ⟨l,g⟩:=Ei 0 h;exact #[hp,l,nd,np,λj q hj=>by
  have:=g j q hj;rwa[je]at this]
def Ml (T:Txt K mg)(O:OwnC K mg CS)(yX:DI K CS "Shelf.__init__" qE r6)(hE:FC P w K mg base 8 "full_rows" iQ (jH K)):FI P w K mg base CS 9 r6 (tO K CS):=by
 refine yX.ok Jo (λvs H Q E h=>?_) (λf cdv A outer s H vs Q E hr h=>?_)
 .obtain ⟨sh,dx,st,ps,Pw,t,rs,as,rfl,_⟩:=h;rfl
 obtain ⟨sh,dx,st,ps,Pw,t,rs,as,rfl,h1,h2,S,q⟩:=h;refine #[_,(aF (oO (pv 0) (pv 1) rfl)
   (ao (oO (pv 0) (az hE hr (aa (pv 1) ab)) rfl))),?_]
 refine #[_,rfl,_,rfl,sh,CS,dx,[],rfl,h2,O.cl,O.n_kept,by decide,?_];have k1:But sh H (upd H sh (.ins CS dx (putF "kept" (.ref st) []))):=λb o n e=>by rw[ah n];exact e
 have hsd:dx≠sh:=λz=>by rw[z,h2]at h1;cases h1
 have a1:=k1 _ _ hsd h1;have a2:upd H sh (.ins CS dx (putF "kept" (.ref st) [])) sh=some (.ins CS dx [("kept",.ref st)]):=af;have S1:=jK (k1.tp λus z=>by rw[h2]at z;cases z) S
 have hn:∀ b,upd H sh (.ins CS dx (putF "kept" (.ref st) [])) b=none->H b=none:=λb e=>by
  by_cases z:b=sh
  .subst z;rw[a2]at e;cases e
  .rwa[ah z]at e
 generalize upd H sh (.ins CS dx (putF "kept" (.ref st) []))=H1 at k1 a1 a2 S1 hn ⊢;refine #[_,rfl,st,ps,Pw,t,rs,as,rfl,S1,λp qs H2 hp s2 g2 nd hq np F=>?_];have b2:=s2 _ _ a2;refine #[_,rfl,sh,CS,dx,_,rfl,b2,O.cl,O.n_fulls,(by show 1<1000;decide),?_];have k2:But sh H2 (upd H2 sh (.ins CS dx (putF "fulls" (.ref p) [("kept",.ref st)]))):=λb o n e=>by rw[ah n];exact e
 have F2:FA K (upd H2 sh (.ins CS dx (putF "fulls" (.ref p) [("kept",.ref st)]))) p qs (ps.length+1) (ae ps Pw):=by
  exact (F.fa g2 nd np).tp (k2.tp λus z=>by rw[b2]at z;cases z) λb us e=>k2 b _ (λz=>by rw[z,b2]at e;cases e) e
 refine q p qs _ (hn _ hp) (λx hx=>hn _ (hq x hx)) (λb o n e=>k2 b o n (s2 _ _ (k1 b o n e))) #[k2 _ _ hsd (s2 _ _ a1),by rw[af];rfl,jK (k2.tp λus z=>by rw[b2]at z;cases z) (S1.same s2),F2]
inductive xm (K:Frag)(vs:List V)(H:Hp)(Q:VK)(w_1:XK):Prop
 | c:∀(t:Addr) (kn:Nat) (ps:List Nat),vs=[.ref t,.int kn]->H t=some (.tup (bY ps))->ps.length<=900->kn<ps.length+1->Q .non H->xm K vs H Q w_1
inductive xn (CS:Addr)(vs:List V)(H:Hp)(Q:VK)(w_1:XK):Prop
 | c:∀(sh dx st p:Addr),vs=[.ref sh]->H sh=some (.ins CS dx [("kept",.ref st),("fulls",.ref p)])->Q (.ref st) H->xn CS vs H Q w_1
def Mm (O:OwnC K mg CS)(yY:DM K CS "stand" "Shelf.stand" qJ sg):FM P w K mg base CS 1 "stand" sg (xn CS):=by
 refine yY.ok Jq (λvs H Q E h=>?_) (λf cdv A outer s H vs Q E hr h=>?_)
 .obtain ⟨sh,dx,st,p,rfl,_⟩:=h;rfl
 obtain ⟨sh,dx,st,p,rfl,h2,q⟩:=h;refine #[_,(ao (aJ (eN (pv 0) rfl))),?_];exact #[_,rfl,sh,CS,dx,_,_,rfl,h2,O.cl,O.n_kept,rfl,q]
def Mn (T:Txt K mg)(yZ:DF K mg "need_knot" pO rg)(nI:FC P w K mg base 2 "is_one_of_first" kH (nj K)):FC P w K mg base 3 "need_knot" rg (xm K):=by
 refine yZ.ok I0 (λvs H Q E h=>?_) (λf cdv A outer s H vs Q E hr h=>?_)
 .obtain ⟨t,kn,ps,rfl,_⟩:=h;rfl
 obtain ⟨t,kn,ps,rfl,ht,hl,hk,q⟩:=h;refine #[_,(ao (bp (dG (c6 (az nI hr (aa (aP (bH (K:=K)) rfl T.bG bE (aa (pv 0) ab)) (aa (pv 1) ab))))) (ao dX) bx)),?_];have el:=cN ps;refine #[_,rfl,_,_,rfl,.inr (SqT.of ht),_,rfl,_,_,rfl,by lia,by lia,_,rfl,?_];exact iteF q
def nu (x:Int):Prop:=-10^60<x/\x<10^60
inductive xo (K:Frag)(vs:List V)(H:Hp)(Q:VK)(w_1:XK):Prop
 | c:∀(x:Int),vs=[.int x]->nu x->Q .non H->xo K vs H Q w_1
def Mo (T:Txt K mg)(y8:DF K mg "need_key" pA qT)(y9:FC P w K mg base 2 "is_key" mG (tw K)):FC P w K mg base 3 "need_key" qT (xo K):=by
 refine y8.ok IU (λvs H Q E h=>?_) (λf cdv A outer s H vs Q E hr h=>?_)
 .obtain ⟨x,rfl,_⟩:=h;rfl
 obtain ⟨x,rfl,hx,q⟩:=h;refine #[_,(ao (bp (dG (c6 (az y9 hr (aa (pv 0) ab)))) (ao dX) bx)),?_];refine #[_,rfl,_,true,rfl,.int x _ (aO (p:=(if x<0 then -x else x)<10^60) ?_).symm,_,rfl,?_]
 .obtain ⟨h1,h2⟩:=hx;split<;>lia
 exact iteF q
inductive tP (K:Frag)(CS:Addr)(vs:List V)(H:Hp)(Q:VK)(w_1:XK):Prop
 | c:∀(sh dx st p:Addr) (kn:Nat) (x:Int) (qs:List Addr) (ps:List Nat) (Pw:List (List Int)) (t rs:Addr) (as:List Addr),vs=[.ref sh,.int kn,.int x]->cJ K CS H sh dx st p qs ps Pw t rs as->kn<ps.length+1->nu x->(∀(a:Addr),as[kn]?=some a->H a=some (.tup ((aw Pw kn).map V.int))->Q (.ref a) H)->tP K CS vs H Q w_1
def Mp (T:Txt K mg)(O:OwnC K mg CS)(za:DM K CS "row_for" "Shelf.row_for" qF mV)(NS:FC P w K mg base 3 "need_knot" rg (xm K))(NT:FC P w K mg base 3 "need_key" qT (xo K)):FM P w K mg base CS 4 "row_for" mV (tP K CS):=by
 refine za.ok Jp (λvs H Q E h=>?_) (λf cdv A outer s H vs Q E hr h=>?_)
 .obtain ⟨sh,dx,st,p,kn,x,qs,ps,Pw,t,rs,as,rfl,_⟩:=h;rfl
 obtain ⟨sh,dx,st,p,kn,x,qs,ps,Pw,t,rs,as,rfl,S,hk,hx,q⟩:=h;refine #[_,(aF (cF (az NS hr (aa (ax (aL (K:=K)) (eN (pv 0) rfl) ag (λ_ _=>rfl)) (aa (pv 1) ab))))
   (aF (cF (az NT hr (aa (pv 2) ab)))
   (ao (aJ (ax (aL (K:=K)) (ax (aL (K:=K)) (eN (pv 0) rfl) ag (λ_ _=>rfl)) (pv 1) (λ_ _=>rfl)))))),?_]
 obtain ⟨a,g1,g2⟩:=S.stand.at_.get (k:=kn) (by rw[S.stand.len];exact hk);refine #[_,rfl,sh,CS,dx,_,_,rfl,S.ins,O.cl,O.n_kept,rfl,_,_,_,_,rfl,rfl,SqT.of S.stand.st,rfl,_,rfl,t,kn,ps,rfl,S.stand.tr,by have:=S.stand.few;lia,hk,?_];refine #[_,rfl,x,rfl,hx,?_];refine #[_,rfl,sh,CS,dx,_,_,rfl,S.ins,O.cl,O.n_kept,rfl,_,_,_,_,rfl,rfl,SqT.of S.stand.st,rfl,_,rfl,_,_,_,_,rfl,rfl,SqT.of S.stand.rs,fO g1,?_];exact q a g1 g2
inductive xp (K:Frag)(CS mF mS:Addr)(vs:List V)(H:Hp)(Q:VK)(w_1:XK):Prop
 | c:∀(sh dx st p wa:Addr) (key:Int) (qs:List Addr) (ps:List Nat) (Pw:List (List Int)) (t rs:Addr) (as:List Addr) (wy:List Nat),vs=[.ref sh,.ref wa,.int key]->cJ K CS H sh dx st p qs ps Pw t rs as->cI H wa ps wy->TabS mF mS H->(∀(D:Addr) (zs:List V) (H':Hp),H D=none->Kp2 mF mS H H'->TabS mF mS H'->H' D=some (.lst zs)->aA K H' (wy.map λk=>(((aE (ae ps Pw k) key:Nat):Int),((ownB Pw k key:Nat):Int))) zs->Q (.ref D) H')->xp K CS mF mS vs H Q w_1
def Mq (T:Txt K mg)(O:OwnC K mg CS)(zb:DM K CS "find" "Shelf.find" qK si)(jM:FC P w K mg base 4 "need_way" jC (ll K))(yU:FC P w K mg base 7 "search_for_key" mU (tM K mF mS)):FM P w K mg base CS 8 "find" si (xp K CS mF mS):=by
 refine zb.ok Jr (λvs H Q E h=>?_) (λf cdv A outer s H vs Q E hr h=>?_)
 .obtain ⟨sh,dx,st,p,wa,key,qs,ps,Pw,t,rs,as,wy,rfl,_⟩:=h;rfl
 obtain ⟨sh,dx,st,p,wa,key,qs,ps,Pw,t,rs,as,wy,rfl,S,W,TT,q⟩:=h;refine #[_,(aF (cF (az jM hr (aa (ax (aL (K:=K)) (eN (pv 0) rfl) ag (λ_ _=>rfl)) (aa (pv 1) ab))))
   (ao (aJ (az yU hr (aa (ax (aL (K:=K)) (eN (pv 0) rfl) ag (λ_ _=>rfl)) (aa (eN (pv 0) rfl) (aa (pv 1) (aa (pv 2) ab)))))))),?_]
 refine #[_,rfl,sh,CS,dx,_,_,rfl,S.ins,O.cl,O.n_kept,rfl,_,_,_,_,rfl,rfl,SqT.of S.stand.st,rfl,_,rfl,t,wa,ps,wy,rfl,S.stand.tr,by have:=S.stand.few;lia,W,?_];refine #[_,rfl,sh,CS,dx,_,_,rfl,S.ins,O.cl,O.n_kept,rfl,_,_,_,_,rfl,rfl,SqT.of S.stand.st,rfl,_,rfl,sh,CS,dx,_,_,rfl,S.ins,O.cl,O.n_fulls,rfl,_,rfl,_,rfl,st,t,rs,p,wa,key,ps,Pw,as,qs,wy,rfl,S.stand,S.full.at_,S.full.fulls,W,TT,?_];exact q
abbrev kS (e:En):List Key:=[.inl e.1,.inl e.2]
def Mr (h:kS e=kS f):e=f:=by
 obtain ⟨a,b⟩:=e;obtain ⟨c,d⟩:=f;injection h with h1 h2;injection h2 with h2 _;have h1:a=c:=Sum.inl.inj h1;have h2:b=d:=Sum.inl.inj h2;rw[h1,h2]
def kvW (es:List En):List (List Key×V):=es.map λe=>(kS e,.bl true)
def xq (e:En):∀ es:List En,valV (kvW es) (kS e)=if e∈es then some (.bl true) else none
 | []=>rfl
 | f::es=>by
  show valV ((kS f,.bl true)::kvW es) (kS e)=_;by_cases z:f=e
  .subst z;rw[dM rfl,aq cb]
  .rw[cW (λy=>z (Mr y)),xq e es];have hm:(e∈f::es)=(e∈es):=propext #[λh=>(aW.mp h).resolve_left λy=>z y.symm,λh=>bV _ h];by_cases y:e∈es
   .rw[aq y,aq (by rw[hm];exact y)]
   .rw[ak y,ak (by rw[hm];exact y)]
inductive xt (K:Frag)(vs:List V)(H:Hp)(Q:VK)(w_1:XK):Prop
 | c:∀(a c:Addr) (ws us:List V) (es cs:List En),vs=[.ref a,.ref c]->H a=some (.lst ws)->aA K H es ws->es.length<=900->H c=some (.lst us)->aA K H cs us->cs.length<=900->cs.Nodup->(∀(p:Addr) (ws':List V) (H':Hp),H p=none->Same H H'->H' p=some (.lst ws')->aA K H' (bu es cs) ws'->Q (.ref p) H')->xt K vs H Q w_1
def Ms (T:Txt K mg)(zc:DF K mg "without" qo rM):FC P w K mg base 1 "without" rM (xt K):=by
 refine zc.ok vH (λvs H Q E h=>?_) (λf cdv A outer s H vs Q E hr h=>?_)
 .obtain ⟨a,c,ws,us,es,cs,rfl,_⟩:=h;rfl
 obtain ⟨a,c,ws,us,es,cs,rfl,ha,hw,hz,hc,hu,hzc,hnd,q⟩:=h;have hwl:=hw.length;have hul:=hu.length;refine #[_,(aF (aI (i:=2) vH.nd rfl (fQ rfl) AZ)
   (aF (ck PassesOwn.never rfl (c8 (pv 1)) (aQ (i:=3) vH.nd rfl (av rfl)) (ao (iJ (da hr) (pv 2) (pv 3) cL rfl)))
   (ao (aJ (de (N:=["entry","away"]) (own:=1) (cap:=[2]) rfl (c8 (pv 0)) #[rfl,rfl,rfl,rfl,rfl,rfl] (λ_ _ _ _ _=>(aQ (i:=0) (show List.Nodup (["entry","away"]:List Str) by decide +kernel) rfl (av rfl))) (λ_ _ _ _ _=>(gO (aV (Iu (da hr)) (pv 0) (pv 1) (by with_unfolding_all rfl)))) (λ_ _ _ _ _=>(pv 0))))))),?_]
 intro D hD;have k0:But D H (upd H D (.dT [])):=λb o n e=>by rw[ah n];exact e
 have naD:a≠D:=au ha hD;have ncD:c≠D:=au hc hD;refine #[_,rfl,c,rfl,#[_,SqL.of (k0 _ _ ncD hc)],?_];refine iz (xs:=us) (λi U H2=>∃ x3:Option V,U=[some (.ref a),some (.ref c),some (.ref D),x3]/\H2 D=some (.dT (kvW (cs.take i)))/\But D H H2) ?_ ?_ ?_ ?_
 .exact #[_,rfl,af,k0]
 .rintro i U H2 _ ⟨x3,rfl,_,k2⟩;exact SqL.of (k2 _ _ ncD hc)
 .rintro i x U H2 hx ⟨x3,rfl,h2,k2⟩;obtain ⟨e,he,hhas⟩:=hu.get hx;obtain ⟨b,y1,y2,rfl,hb,hy1,hy2⟩:=(show hasP K H e x from hhas);have hy1:y1=.int e.1:=hy1;have hy2:y2=.int e.2:=hy2;subst hy1 hy2;have hi:=(aZ.mp he).1;have htk:cs.take (i+1)=cs.take i++[e]:=by
   rw[cy hi,(aZ.mp he).2]
  have h2b:=k2 _ _ (au hb hD) hb;have hnot:e∉cs.take i:=λz=>by
   have hn2:=hnd;rw[<-eK (i+1) cs,htk]at hn2;have:=(fB.mp (fB.mp hn2).1).2.2 e z e (bP.mpr rfl);exact this rfl
  have hln:(kvW (cs.take i)).length<=1000:=by
   unfold kvW;rw[ai,bw];lia
  refine #[_,rfl,_,rfl,D,_,rfl,DPut.t (k:=kS e) h2 h2b (a0 hln),?_];refine #[_,rfl,?_,λb o n e=>by rw[ah n];exact k2 b o n e];rw[af,iH _ (by rw[xq,ak hnot]),htk];unfold kvW;rw[bq];rfl
 .rintro U H2 ⟨x3,rfl,h2,k2⟩;rw[bA (by lia)]at h2;have s2:Same H H2:=λb o e=>k2 b o (au e hD) e;have h2a:=s2 _ _ ha;refine #[_,rfl,a,rfl,#[_,SqL.of h2a],λp hp=>?_];have nDp:D≠p:=au h2 hp;refine eZ (xs:=ws) (λj U H5=>∃(x0:Option V) (us:List V),U=[x0,some (.ref D)]/\H5 p=some (.lst us)/\aA K H5 (bu (es.take j) cs) us/\us.length<=j/\But p H2 H5) ?_ ?_ ?_ ?_
  .exact #[_,[],rfl,af,.nil,aj _,λb o n e=>by rw[ah n];exact e]
  .rintro j U H5 _ ⟨x0,us,rfl,_,_,_,k5⟩;exact k5.sq (SqL.of h2a) hp
  .rintro j m x U H5 hx hm ⟨x0,us,rfl,h5,hv,hul,k5⟩;have hj:=(aZ.mp hx).1;obtain ⟨e,he,bb,x1,x2,rfl,hb,e1,e2⟩:∃ e,es[j]?=some e/\hasP K H e x:=hw.get hx;have e1':x1=.int e.1:=e1;have e2':x2=.int e.2:=e2;subst e1' e2';have htk:bu (es.take (j+1)) cs=bu (es.take j) cs++bu [e] cs:=by
    unfold bu;rw[cy (by lia),(aZ.mp he).2,c5]
   have b2:=s2 _ _ hb;have b5:=k5 _ _ (au b2 hp) b2;have h5D:=k5 _ _ nDp h2;refine #[_,rfl,_,rfl,D,_,rfl,DGet.t (k:=kS e) h5D b5,_,rfl,?_];rw[xq];by_cases c:e∈cs
   .rw[aq c];refine iteF #[m-1,by lia,by lia,_,_,rfl,h5,?_,by lia,k5];rw[htk,show bu [e] cs=[] from eJ (p:=λe=>decide (e∉cs)) (by simpa using c),cB];exact hv
   .rw[ak c];refine iteT #[_,rfl,_,h5,a0 (by lia),m-1,by lia,by lia,_,_,rfl,af,?_,by rw[bg,cT];lia,λb o n e=>by rw[ah n];exact k5 b o n e];rw[htk,show bu [e] cs=[e] from dw (p:=λe=>decide (e∉cs)) (aO c)];exact (fM h5 hv).append (fM h5 (.cons #[bb,.int e.1,.int e.2,rfl,b5,rfl,rfl] .nil))
  rintro U H5 ⟨x0,us',rfl,h5,hv,_,k5⟩;rw[<-hwl,bA (aj _)]at hv;have hpH:H p=none:=by
   cases e:H p with
   | none=>rfl
   | some o=>
    rw[s2 _ _ e]at hp;cases hp
  exact q p us' H5 hpH (λb o e=>k5 b o (au (s2 _ _ e) hp) (s2 _ _ e)) h5 hv
section
variable {ps:List Nat}{Pw Pu:List (List Int)}{k:Nat}
def upN (ps:List Nat)(k:Nat):Nat->Option Nat
 | 0=>some k
 | m+1=>(upN ps k m).bind (par ps)
def Mt {m j p:Nat}(h:upN ps k m=some j)(hp:par ps j=some p):upN ps k (m+1)=some p:=by
 show (upN ps k m).bind (par ps)=_;rw[h];exact hp
def Ej {m j:Nat}(h:upN ps k m=some j):upN ps k (m+1)=par ps j:=by
 show (upN ps k m).bind (par ps)=_;rw[h];rfl
def tQ {m p:Nat}(h:upN ps k (m+1)=some p):∃ j,upN ps k m=some j/\par ps j=some p:=by
 cases e:upN ps k m with
 | none=>
  have:(upN ps k m).bind (par ps)=some p:=h;rw[e]at this;cases this
 | some j=>
  have:(upN ps k m).bind (par ps)=some p:=h;rw[e]at this;exact #[j,rfl,this]
def xu (T:aN ps):∀{m j:Nat},upN ps k m=some j->j+m<=k
 | 0,j,h=>by
  have:k=j:=aM h;lia
 | m+1,j,h=>by
  obtain ⟨i,h1,h2⟩:=tQ h;have:=xu T h1;have:=(bz T h2).1;lia
def nv (T:aN ps)(hk:k<ps.length+1){m j:Nat}(h:upN ps k m=some j):j<ps.length+1:=by
 have:=xu T h;lia
def xv (T:aN ps){i j:Nat}:∀ d m,upN ps k (m+d)=some i->upN ps k m=some j->i+d<=j
 | 0,m,h1,h2=>by
  rw[ir,h2]at h1;have:=aM h1;lia
 | d+1,m,h1,h2=>by
  obtain ⟨x,g1,g2⟩:=tQ (m:=m+d) h1;have:=xv T d m g1 h2;have:=(bz T g2).1;lia
def tR (T:aN ps)(hk:k<ps.length+1):∀{m j:Nat},upN ps k m=some j->isB ps j k=true
 | 0,j,h=>by
  have:k=j:=aM h;subst this;exact fK
 | m+1,j,h=>by
  obtain ⟨i,h1,h2⟩:=tQ h;exact (iV T _ k (aj _) hk).mpr (.inr #[i,h2,tR T hk h1])
def Ek (T:aN ps)(hk:k<ps.length+1):∀(n j:Nat),ps.length+1-j<=n->isB ps j k=true->∃ m,upN ps k m=some j
 | 0,j,hn,h=>by
  rcases (iV T _ k (aj _) hk).mp h with z|⟨c,hc,_⟩
  .exact #[0,congrArg some z]
  .have:=bz T hc;lia
 | n+1,j,hn,h=>by
  rcases (iV T _ k (aj _) hk).mp h with z|⟨c,hc,hb⟩
  .exact #[0,congrArg some z]
  .have:=bz T hc;obtain ⟨m,hm⟩:=Ek T hk n c (by lia) hb;exact #[m+1,Mt hm hc]
def stL (ps:List Nat)(Pw Pu:List (List Int))(k:Nat):Nat->Nat->List En
 | 0,i=>ae ps Pw i
 | m+1,i=>if upN ps k m=some i then ae ps Pu i else stL ps Pw Pu k m i
def El:∀{m i m':Nat},m'<m->upN ps k m'=some i->stL ps Pw Pu k m i=ae ps Pu i
 | m+1,i,m',h,e=>by
  unfold stL;by_cases z:upN ps k m=some i
  .rw[aq z]
  .rw[ak z];refine El (m':=m') ?_ e;rcases Nat.lt_or_ge m' m with y|y
   .exact y
   .have:m'=m:=by lia
    subst this;exact absurd e z
def tS:∀{m i:Nat},(∀ m',m'<m->upN ps k m'≠some i)->stL ps Pw Pu k m i=ae ps Pw i
 | 0,_,_=>rfl
 | m+1,i,h=>by
  unfold stL;rw[ak (h m (by lia))];exact tS λm' hm=>h m' (by lia)
def Mu (T:aN ps){m j:Nat}(h:upN ps k m=some j):stL ps Pw Pu k m j=ae ps Pw j:=tS λm' hm e=>by
 have:=xv T (m-m') m' (by rw[show m'+(m-m')=m by lia];exact h) e;lia
def Em (T:aN ps)(R:bc Pw)(R':bc Pu)(hk:k<ps.length+1)(h:i0 k Pw Pu){m j:Nat}(hm:upN ps k m=some j)(e:ae ps Pu j=ae ps Pw j):∀{d i:Nat},upN ps k (m+d)=some i->ae ps Pu i=ae ps Pw i
 | 0,i,hi=>by
  rw[ir,hm]at hi;have:=aM hi;subst this;exact e
 | d+1,i,hi=>by
  obtain ⟨x,g1,g2⟩:=tQ (m:=m+d) hi;have ih:=Em T R R' hk h hm e g1;have L:=Ef T R R' hk h (tR T hk g1) g2;rw[ih,Mj]at L;exact Ed (cv T R (nv T hk hi)) (cv T R' (nv T hk hi)) L.gone.symm L.come.symm
def Mv (T:aN ps)(R:bc Pw)(R':bc Pu)(hk:k<ps.length+1)(h:i0 k Pw Pu){m:Nat}(hm:upN ps k m=none\/∃ j,upN ps k m=some j/\ae ps Pu j=ae ps Pw j){i:Nat}(hi:i<ps.length+1):stL ps Pw Pu k m i=ae ps Pu i:=by
 cases e:isB ps i k with
 | false=>
  rw[tS λm' _ z=>by rw[tR T hk z]at e;cases e]
  exact (tN T hk h _ i (aj _) hi e).symm
 | true=>
  obtain ⟨m',e'⟩:=Ek T hk _ i (aj _) e;rcases Nat.lt_or_ge m' m with y|y
  .exact El y e'
  ·rw[tS λx hx z=>by
    have:=xv T (m'-x) x (by rw[show x+(m'-x)=m' by lia];exact e') z;lia]
   rcases hm with hm|⟨j,hm,hj⟩
   .exfalso;have:∀ d,upN ps k (m+d)=none:=λd=>by
     induction d with
     | zero=>exact hm
     | succ d ih=>
      show (upN ps k (m+d)).bind (par ps)=none;rw[ih];rfl
    have:=this (m'-m);rw[show m+(m'-m)=m' by lia,e']at this;cases this
   .exact (Em T R R' hk h hm hj (d:=m'-m) (by rw[show m+(m'-m)=m' by lia];exact e')).symm
end
def xw (ps:List Nat)(Pw Pu:List (List Int))(j:Nat):Tri Int (List En) (List En):=#[(j:Int),bu (ae ps Pw j) (ae ps Pu j),bu (ae ps Pu j) (ae ps Pw j)]
def g9 (ps:List Nat)(Pw Pu:List (List Int))(k:Nat):Nat->List (Tri Int (List En) (List En))
 | 0=>[]
 | m+1=>g9 ps Pw Pu k m++((upN ps k m).map (xw ps Pw Pu)).toList
structure eC (K:Frag)(CS:Addr)(H:Hp)(sh dx st p:Addr)(qs:List Addr)(ps:List Nat)(Pw Pu:List (List Int))(t rs:Addr)(as:List Addr)(k m:Nat):Prop where
 own:H dx=some (.own sh)
 ins:H sh=some (.ins CS dx [("kept",.ref st),("fulls",.ref p)])
 stand:cO H st ps Pu t rs as
 full:FA K H p qs (ps.length+1) (stL ps Pw Pu k m)
def Eo (ps:List Nat)(Pw Pu:List (List Int))(k m:Nat):Prop:=(∀ m' j,m'<m->upN ps k m'=some j->¬(bu (ae ps Pw j) (ae ps Pu j)=[]/\bu (ae ps Pu j) (ae ps Pw j)=[]))/\
 (upN ps k m=none\/∃ j,upN ps k m=some j/\bu (ae ps Pw j) (ae ps Pu j)=[]/\bu (ae ps Pu j) (ae ps Pw j)=[])
structure Ep (K:Frag)(H:Hp)(D:Addr)(Fr:Addr->Prop)(e:Tri Int (List En) (List En))(v:V):Prop where
 ex:∃(u g c:Addr) (gw cw:List V),v=.ref u/\H u=some (.tup [.int e.a,.ref g,.ref c])/\H g=some (.lst gw)/\aA K H e.b gw/\H c=some (.lst cw)/\aA K H e.c cw/\g≠D/\c≠D/\Fr g/\Fr c
def dQ (K:Frag)(H:Hp)(D:Addr)(Fr:Addr->Prop):List (Tri Int (List En) (List En))->List V->Prop:=Paired (Ep K H D Fr)
def Er {R S:Tri Int (List En) (List En)->V->Prop}(h:∀ e v,R e v->S e v){es:List (Tri Int (List En) (List En))}{us:List V}(p:Paired R es us):Paired S es us:=by
 induction p with
 | nil=>exact .nil
 | cons a _ ih=>exact .cons (h _ _ a) ih
def dQ.keep {K:Frag}{H H':Hp}{D:Addr}{Fr:Addr->Prop}(k:∀ b o,b≠D->Fr b->H b=some o->H' b=some o)(tp:Tp H H'){es:List (Tri Int (List En) (List En))}{us:List V}(h:dQ K H D Fr es us):dQ K H' D Fr es us:=Er (λe v z=>by
 obtain ⟨u,g,c,gw,cw,e1,e2,e3,e4,e5,e6,n1,n2,n3,n4⟩:=z.ex;exact #[u,g,c,gw,cw,e1,tp _ _ e2,k _ _ n1 n3 e3,gx tp e4,k _ _ n2 n4 e5,gx tp e6,n1,n2,n3,n4]) h
def dQ.imp {K:Frag}{H:Hp}{D:Addr}{Fr Fr':Addr->Prop}(k:∀ b o,H b=some o->Fr b->Fr' b){es:List (Tri Int (List En) (List En))}{us:List V}(h:dQ K H D Fr es us):dQ K H D Fr' es us:=Er (λe v z=>by
 obtain ⟨u,g,c,gw,cw,e1,e2,e3,e4,e5,e6,n1,n2,n3,n4⟩:=z.ex;exact #[u,g,c,gw,cw,e1,e2,e3,e4,e5,e6,n1,n2,k _ _ e3 n3,k _ _ e5 n4]) h
def dQ.snoc {K:Frag}{D:Addr}{Fr:Addr->Prop}{es:List (Tri Int (List En) (List En))}{us:List V}(h:dQ K H D Fr es us)(g:Ep K H D Fr e v):dQ K H D Fr (es++[e]) (us++[v]):=by
 induction h with
 | nil=>exact .cons g .nil
 | cons a _ ih=>exact .cons a ih
inductive tT (K:Frag)(CS:Addr)(vs:List V)(H:Hp)(Q:VK)(w_1:XK):Prop
 | c:∀(sh dx st p g c:Addr) (gw cw:List V) (kn:Nat) (qs:List Addr) (ps:List Nat) (Pw Pu:List (List Int)) (t rs:Addr) (as:List Addr) (Fr:Addr->Prop),vs=[.ref sh,.int kn,.ref g,.ref c]->eC K CS H sh dx st p qs ps Pw Pu t rs as kn 0->kn<ps.length+1->i0 kn Pw Pu->bc Pw->Pw.length=ps.length+1->Fw Pw->H g=some (.lst gw)->aA K H (bu (ae ps Pw kn) (ae ps Pu kn)) gw->H c=some (.lst cw)->aA K H (bu (ae ps Pu kn) (ae ps Pw kn)) cw->Fr g->Fr c->g∉qs->c∉qs->¬Fr p->(∀ b,H b=none->Fr b)->(∀(D:Addr) (us:List V) (m:Nat) (qs':List Addr) (H':Hp),Eo ps Pw Pu kn m->H D=none->(∀ q∈qs',q∈qs\/H q=none)->But p H H'->cJ K CS H' sh dx st p qs' ps Pu t rs as->H' D=some (.lst us)->dQ K H' D (λb=>Fr b/\b∉qs') (g9 ps Pw Pu kn m) us->Q (.ref D) H')->tT K CS vs H Q w_1
def upV:Option Nat->V
 | none=>.non
 | some j=>.int j
def Goes (ps:List Nat)(Pw Pu:List (List Int))(k m:Nat):Prop:=∀ m' j,m'<m->upN ps k m'=some j->¬(bu (ae ps Pw j) (ae ps Pu j)=[]/\bu (ae ps Pu j) (ae ps Pw j)=[])
structure CarI (K:Frag)(CS:Addr)(Fr:Addr->Prop)(H H2:Hp)(sh dx st p g c D:Addr)(gw cw us:List V)(qs qs':List Addr)(ps:List Nat)(Pw Pu:List (List Int))(t rs:Addr)(as:List Addr)(k m:Nat):Prop where
 half:eC K CS H2 sh dx st p qs' ps Pw Pu t rs as k m
 hg:H2 g=some (.lst gw)
 hc:H2 c=some (.lst cw)
 cur:∀ j,upN ps k m=some j->aA K H2 (bu (ae ps Pw j) (ae ps Pu j)) gw/\aA K H2 (bu (ae ps Pu j) (ae ps Pw j)) cw
 goes:Goes ps Pw Pu k m
 hD:H2 D=some (.lst us)
 told:dQ K H2 D (λb=>Fr b/\b∉qs') (g9 ps Pw Pu k m) us
 gD:g≠D
 cD:c≠D
 gp:Fr g
 cp:Fr c
 gq:g∉qs'
 cq:c∉qs'
 nD:H D=none
 nqs:∀ q∈qs',q∈qs\/H q=none
 but:But p H H2
 dp:D≠p
 dqs:D∉qs'
def eC.keep {K:Frag}{st p:Addr}{Pw:List (List Int)}{t rs:Addr}{k:Nat}{D:Addr}(S:eC K CS H sh dx st p qs ps Pw Pu t rs as k m)(kp:But D H H')(hD:∀ o,H D=some o->∃ us,o=.lst us)(dp:D≠p)(dq:D∉qs):eC K CS H' sh dx st p qs ps Pw Pu t rs as k m:=by
 have nl:∀{b:Addr} {o:HO},H b=some o->(∀ us,o≠.lst us)->H' b=some o:=λ{b o} e n=>kp b o (λz=>by
  subst z;obtain ⟨us,z⟩:=hD _ e;exact n us z) e
 have tp:Tp H H':=λb us e=>nl e nofun;refine #[nl S.own nofun,nl S.ins nofun,jK tp S.stand,kp _ _ dp.symm S.full.at_,S.full.len,S.full.nd,S.full.np,λj q hq=>?_];obtain ⟨ws,h1,h2⟩:=S.full.get j q hq;exact #[ws,kp _ _ (λz=>dq (z ▸ dF hq)) h1,gx tp h2]
def Es {k:Nat}(T:aN ps):∀ m:Nat,(g9 ps Pw Pu k m).length<=m
 | 0=>aj _
 | m+1=>by
  unfold g9;rw[bg];have:=Es (Pw:=Pw) (Pu:=Pu) (k:=k) T m;cases upN ps k m with
  | none=>exact Nat.le_succ_of_le this
  | some j=>exact Nat.succ_le_succ this
def Et (ps:List Nat)(j:Nat):parV ps j=upV (par ps j):=by
 unfold parV;cases par ps j<;>rfl
def Mw (T:Txt K mg)(O:OwnC K mg CS)(zd:DM K CS "carry_up" "Shelf.carry_up" qG mW)(tZ:FC P w K mg base 6 "handed" mK (sN K))(yx:FC P w K mg base 1 "joined_up" mI (sS K))(ze:FC P w K mg base 1 "without" rM (xt K)):FM P w K mg base CS 7 "carry_up" mW (tT K CS):=by
 refine zd.ok jB (λvs H Q E h=>?_) (λf cdv A outer s H vs Q E hr h=>?_)
 .obtain ⟨sh,dx,st,p,g,c,gw,cw,kn,qs,ps,Pw,Pu,t,rs,as,Fr,rfl,_⟩:=h;rfl
 obtain ⟨sh,dx,st,p,g,c,gw,cw,kn,qs,ps,Pw,Pu,t,rs,as,Fr,rfl,S,hk,hB,R,hlen,hkeys,hg,hgw,hc,hcw,ngp,ncp,ngq,ncq,hFp,hF0,q⟩:=h;refine #[_,(bQ (aI (i:=4) jB.nd rfl (av rfl) (cR ab))
   (bQ (oI PassesOwn.never (PW.pt (ix (aV z5 (pv 1) oF (aY _)) (iw (aV gK (aG cz (aP (bH (K:=K)) rfl T.bG bE (aa (pv 2) ab)) (aP (bH (K:=K)) rfl T.bG bE (aa (pv 3) ab))) ag (aY _))))) (bQ (cF (dY F.plainAttrs_list F.slot_list_append F.type_list_append dZ (pv 4) (aa (cm (aa (pv 1) (aa (pv 2) (aa (pv 3) ab)))) ab)))
   (bQ (aI (i:=5) jB.nd rfl (av rfl) (az tZ hr (aa (ax (bh (K:=K)) (eN (pv 0) rfl) (pv 1) (λ_ _=>rfl)) ab)))
   (bQ (j5 (az yx hr (aa (cR (aa (az ze hr (aa (ax (bh (K:=K)) (eN (pv 0) rfl) (pv 1) (λ_ _=>rfl)) (aa (pv 2) ab))) (aa (pv 3) ab))) ab)) (l6 (eN (pv 0) rfl) (pv 1) md))
   (bQ (aI (i:=6) jB.nd rfl (av rfl) (az tZ hr (aa (ax (bh (K:=K)) (eN (pv 0) rfl) (pv 1) (λ_ _=>rfl)) ab)))
   (bQ (aI (i:=2) jB.nd rfl (av rfl) (az ze hr (aa (pv 5) (aa (pv 6) ab))))
   (bQ (aI (i:=3) jB.nd rfl (av rfl) (az ze hr (aa (pv 6) (aa (pv 5) ab))))
   (ao (aI (i:=1) jB.nd rfl (av rfl) (ax (aL (K:=K)) (ax (aL (K:=K)) (eN (pv 0) rfl) ag (λ_ _=>rfl)) (pv 1) (λ_ _=>rfl)))))))))))
   (ao (aJ (pv 4))))),?_]
 intro N0 n0;refine #[(by show 0<=sizeLine;decide),λD hD=>n0 _ _ ?_];intro Nw nw;have T':=S.stand.T;have R':=S.stand.R;have s0:=aD hD (.lst []);refine ve (λU H2=>∃(g c:Addr) (gw cw us:List V) (qs':List Addr) (m:Nat) (x5 x6:Option V),U=[some (.ref sh),some (upV (upN ps kn m)),some (.ref g),some (.ref c),some (.ref D),x5,x6]/\CarI K CS Fr H H2 sh dx st p g c D gw cw us qs qs' ps Pw Pu t rs as kn m)
  (λU H2=>∃(g c:Addr) (gw cw us:List V) (qs':List Addr) (m:Nat) (x5 x6:Option V),U=[some (.ref sh),some (upV (upN ps kn m)),some (.ref g),some (.ref c),some (.ref D),x5,x6]/\CarI K CS Fr H H2 sh dx st p g c D gw cw us qs qs' ps Pw Pu t rs as kn m/\(upN ps kn m=none\/∃ j,upN ps kn m=some j/\bu (ae ps Pw j) (ae ps Pu j)=[]/\bu (ae ps Pu j) (ae ps Pw j)=[]))
  (λU _=>match U with|_::some (.int j)::_=>j.toNat+1|_=>0) ?_ ?_ ?_ ?_
 .refine #[g,c,gw,cw,[],qs,0,_,_,rfl,#[s0 _ _ S.own,s0 _ _ S.ins,S.stand.same s0,S.full.ext s0.ext],s0 _ _ hg,s0 _ _ hc,λj e=>?_,λm' j h=>absurd h (jS _),af,.nil,au hg hD,au hc hD,ngp,ncp,ngq,ncq,hD,λq h=>.inl h,λb o _ e=>s0 b o e,(λz=>by rw[z,S.full.at_]at hD;cases hD),λz=>?_]
  .have:kn=j:=aM e;subst this;exact #[hgw.mono s0.ext,hcw.mono s0.ext]
  .obtain ⟨j,hj,e⟩:=dU z;obtain ⟨ws,w1,_⟩:=S.full.get j D (by rw[aC hj,e]);rw[hD]at w1;cases w1
 .rintro U H2 ⟨g,c,gw,cw,us,qs',m,x5,x6,rfl,I⟩;cases eu:upN ps kn m with
  | none=>
   refine #[_,rfl,rfl,_,rfl,?_];refine iteF ?_;refine iteF ?_;exact #[g,c,gw,cw,us,qs',m,x5,x6,by rw[eu],I,.inl eu]
  | some j=>
   refine #[_,rfl,rfl,_,rfl,?_];refine iteT ?_;refine #[_,rfl,_,_,rfl,.inl (SqL.of I.hg),_,rfl,_,_,rfl,.inl (SqL.of I.hc),_,_,rfl,rfl,_,_,rfl,rfl,_,rfl,?_];obtain ⟨cg,cc⟩:=I.cur j eu;have lg:=cg.length;have lc:=cc.length;refine ite2 (λhpos=>?_) (λhneg=>?_)
   .have hmj:=xu T' eu;have hjn:=nv T' hk eu;have hfew:=S.stand.few;have hul:us.length<=m:=by
     have:=Paired.length I.told;have:=Es (Pw:=Pw) (Pu:=Pu) (k:=kn) T' m;lia
    refine Kj λN B' R0 hN hB' hR'=>?_;intro N1 n1;refine #[_,rfl,.inl #[rfl,_,SqL.of I.hD],?_];refine #[_,rfl,_,rfl,_,rfl,(by show 3<=sizeLine;decide),λu hu=>?_];have su:=aD hu (.tup [upV (some j),.ref g,.ref c]);have huT:upd H2 u (.tup [upV (some j),.ref g,.ref c]) u=some (.tup [.int (j:Int),.ref g,.ref c]):=af;generalize upd H2 u (.tup [upV (some j),.ref g,.ref c])=H3 at su huT ⊢;refine #[_,_,_,rfl,rfl,su _ _ I.hD,a0 (by lia),n1 _ _ ?_];intro N2 n2;have hDq:∀ o,H3 D=some o->∃ us,o=.lst us:=λo e=>#[us,by rw[su _ _ I.hD]at e;exact (aM e).symm];have k4:But D H3 (upd H3 D (.lst (us++[.ref u]))):=λb o n e=>by rw[ah n];exact e
    have S4:eC K CS (upd H3 D (.lst (us++[.ref u]))) sh dx st p qs' ps Pw Pu t rs as kn m:=eC.keep #[su _ _ I.half.own,su _ _ I.half.ins,I.half.stand.same su,I.half.full.ext su.ext] k4 hDq I.dp I.dqs;have tp4:Tp H3 (upd H3 D (.lst (us++[.ref u]))):=k4.tp λus' z=>by rw[su _ _ I.hD]at z;cases z
    have tpS:Tp H2 H3:=λb us e=>su _ _ e;have g4:=k4 _ _ I.gD (su _ _ I.hg);have c4:=k4 _ _ I.cD (su _ _ I.hc);have cg4:=gx tp4 (gx tpS cg);have cc4:=gx tp4 (gx tpS cc);have D4:upd H3 D (.lst (us++[.ref u])) D=some (.lst (us++[.ref u])):=af;have t4:dQ K (upd H3 D (.lst (us++[.ref u]))) D (λb=>Fr b/\b∉qs') (g9 ps Pw Pu kn (m+1)) (us++[.ref u]):=by
     have e:g9 ps Pw Pu kn (m+1)=g9 ps Pw Pu kn m++[xw ps Pw Pu j]:=by
      show _++((upN ps kn m).map (xw ps Pw Pu)).toList=_;rw[eu];rfl
     rw[e];refine dQ.snoc (dQ.keep (λb o n1 _ e=>k4 b o n1 (su _ _ e)) (λb us e=>tp4 _ _ (tpS _ _ e)) I.told) #[u,g,c,gw,cw,rfl,tp4 _ _ huT,g4,cg4,c4,cc4,I.gD,I.cD,#[I.gp,I.gq],#[I.cp,I.cq]]
    have b4:But p H (upd H3 D (.lst (us++[.ref u]))):=λb o n e=>k4 b o (au e hD) (su _ _ (I.but b o n e));clear k4 hDq tp4;generalize upd H3 D (.lst (us++[.ref u]))=H4 at S4 g4 c4 cg4 cc4 D4 t4 b4 ⊢;obtain ⟨qj,ws,f1,f2,f3⟩:=S4.full.at hjn;rw[Mu T' eu]at f3;have hle:=m9 T' R hfew hlen hkeys hjn;have hle':=m9 T' S.stand.R hfew S.stand.len S.stand.keys hjn;refine #[_,rfl,sh,CS,dx,_,_,rfl,S4.ins,O.cl,O.n_fulls,rfl,_,rfl,_,_,_,_,rfl,rfl,SqL.of S4.full.at_,fO f1,qj,ws,_,rfl,f2,f3,by lia,kZ T' R hfew hjn,cv T' R hjn,λB H5 hB5 s5 h5=>n2 _ _ ?_];intro N3 n3;have hh5:aA K H5 (bI (ae ps Pw j)) (cH ws (du (ae ps Pw j))):=sO (f3.mono s5.ext);have tp5:Tp H4 H5:=λb us e=>s5 _ _ e;have S5:eC K CS H5 sh dx st p qs' ps Pw Pu t rs as kn m:=#[s5 _ _ S4.own,s5 _ _ S4.ins,S4.stand.same s5,S4.full.ext s5.ext];have ndg:(bu (ae ps Pw j) (ae ps Pu j)).Nodup:=Eb (m7 T' R hjn);refine #[_,rfl,sh,CS,dx,_,_,rfl,S5.ins,O.cl,O.n_fulls,rfl,_,rfl,_,_,_,_,rfl,rfl,SqL.of S5.full.at_,fO f1,_,rfl,qj,g,ws,gw,_,_,rfl,s5 _ _ f2,f3.mono s5.ext,by lia,s5 _ _ g4,cg4.mono s5.ext,?_,ndg,λW ww H6 hW s6 h6 hw6=>?_]
    .exact bS (dW _ _) (by lia)
    refine #[_,rfl,(by show 2<=sizeLine;decide),λL hL=>?_];have s7:=aD hL (.lst [.ref W,.ref c]);have c7:=s7 _ _ (s6 _ _ (s5 _ _ c4));have hL7:upd H6 L (.lst [.ref W,.ref c]) L=some (.lst ([W,c].map V.ref)):=af;have W7:=s7 _ _ h6;have w7:=hw6.mono s7.ext;generalize upd H6 L (.lst [.ref W,.ref c])=H7 at s7 c7 hL7 W7 w7 ⊢;have s47:Same H4 H7:=s5.trans (s6.trans s7);have cl:(bu (ae ps Pu j) (ae ps Pw j)).length<=(ae ps Pu j).length:=dW _ _;have gl:(bu (ae ps Pw j) (bu (ae ps Pw j) (ae ps Pu j))).length<=(ae ps Pw j).length:=dW _ _;refine #[L,[W,c],[bu (ae ps Pw j) (bu (ae ps Pw j) (ae ps Pu j)),bu (ae ps Pu j) (ae ps Pw j)],rfl,hL7,.cons #[ww,W7,w7] (.cons #[cw,c7,cc4.mono s47.ext] .nil),?_,λJ jw H8 hJ s8 h8 hw8=>?_]
    .rw[jX,jX,List.flatten_nil,cB];have e:=congrArg List.length (Ec (cv T' R hjn) (cv T' R' hjn)).eq;rw[(jv _).length_eq]at e;lia
    rw[jX,jX,List.flatten_nil,cB,<-(Ec (cv T' R hjn) (cv T' R' hjn)).eq]at hw8;have s48:Same H4 H8:=s47.trans s8;have S8:eC K CS H8 sh dx st p qs' ps Pw Pu t rs as kn m:=#[s48 _ _ S4.own,s48 _ _ S4.ins,S4.stand.same s48,S4.full.ext s48.ext];refine #[_,rfl,sh,CS,dx,_,_,rfl,S8.ins,O.cl,O.n_fulls,rfl,_,rfl,p,_,_,j,rfl,rfl,S8.full.at_,m5 (by rw[ai,S8.full.len];exact hjn),n3 _ _ ?_];intro N4 n4;have nn:∀{b:Addr},H7 b=none->H4 b=none:=λ{b} e=>by
     cases e4:H4 b with
     | none=>rfl
     | some o=>
      rw[s47 _ _ e4]at e;cases e
    have hJ4:=nn hJ;have hJp:J≠p:=λz=>by rw[z,S4.full.at_]at hJ4;cases hJ4
    have hJq:J∉qs':=λz=>by
     obtain ⟨i,hi,e⟩:=dU z;obtain ⟨ws,w1,_⟩:=S4.full.get i J (by rw[aC hi,e]);rw[hJ4]at w1;cases w1
    have hJD:D≠J:=λz=>by rw[<-z,D4]at hJ4;cases hJ4
    have hBp:B≠p:=λz=>by rw[z,S4.full.at_]at hB5;cases hB5
    have F9:=S8.full.set (k:=j) h8 hw8 hJq hJp;have k9:But p H8 (upd H8 p (.lst ((qs'.map V.ref).set j (.ref J)))):=λb o n e=>by rw[ah n];exact e
    have tp9:Tp H8 (upd H8 p (.lst ((qs'.map V.ref).set j (.ref J)))):=k9.tp λus' z=>by rw[S8.full.at_]at z;cases z
    have F9':FA K (upd H8 p (.lst ((qs'.map V.ref).set j (.ref J)))) p (qs'.set j J) (ps.length+1) (stL ps Pw Pu kn (m+1)):=F9.congr λi hi=>by
     show _=if upN ps kn m=some i then ae ps Pu i else stL ps Pw Pu kn m i
     rw[eu];by_cases z:i=j
     .rw[aq z,aq (by rw[z]),z]
     .rw[ak z,ak (λy=>z (aM y).symm)]
    have nlp:∀{b:Addr} {o:HO},H8 b=some o->(∀ us,o≠.lst us)->upd H8 p (.lst ((qs'.map V.ref).set j (.ref J))) b=some o:=λ{b o} e n=>k9 b o (λz=>by
     rw[z,S8.full.at_]at e;exact n _ (aM e).symm) e
    have S9:eC K CS (upd H8 p (.lst ((qs'.map V.ref).set j (.ref J)))) sh dx st p (qs'.set j J) ps Pw Pu t rs as kn (m+1):=#[nlp S8.own (λ_ z=>nomatch z),nlp S8.ins (λ_ z=>nomatch z),jK tp9 S8.stand,F9'];have s58:Same H5 H8:=s6.trans (s7.trans s8);have B9:=k9 _ _ hBp (s58 _ _ h5);have hB9:=gx tp9 (hh5.mono s58.ext);have J9:=k9 _ _ hJp h8;have hJ9:=gx tp9 hw8;have D9:=k9 _ _ I.dp (s48 _ _ D4);have t4':=t4.imp (Fr':=λb=>Fr b/\b∉qs'.set j J) λb o e n=>#[n.1,λz=>by
     rcases j3 z with y|y
     .exact n.2 y
     .rw[y,hJ4]at e;cases e]
    have t9:=dQ.keep (λb o _ n e=>k9 b o (λz=>hFp (z ▸ n.1)) (s48 _ _ e)) (λb us e=>tp9 _ _ (s48 _ _ e)) t4';have b9:But p H (upd H8 p (.lst ((qs'.map V.ref).set j (.ref J)))):=λb o n e=>k9 b o n (s48 _ _ (b4 b o n e));clear k9 tp9 nlp F9 F9';generalize upd H8 p (.lst ((qs'.map V.ref).set j (.ref J)))=H9 at S9 B9 hB9 J9 hJ9 D9 t9 b9 ⊢;have fJ:(qs'.set j J)[j]?=some J:=by
     have:=I.half.full.len;rw[jV,aq rfl,aq (by lia)]
    refine #[_,rfl,sh,CS,dx,_,_,rfl,S9.ins,O.cl,O.n_fulls,rfl,_,rfl,_,_,_,_,rfl,rfl,SqL.of S9.full.at_,fO fJ,J,jw,_,rfl,J9,hJ9,by lia,kZ T' R' hfew hjn,cv T' R' hjn,λA' H10 hA10 s10 h10=>n4 _ _ ?_];intro N5 n5;have hh10:aA K H10 (bI (ae ps Pu j)) (cH jw (du (ae ps Pu j))):=sO (hJ9.mono s10.ext);have hl1:=(dv (ae ps Pw j)).length_le;have hl2:=(dv (ae ps Pu j)).length_le;have nd1:=(m7 T' R hjn).sublist (dv (ae ps Pw j));have nd2:=(m7 T' R' hjn).sublist (dv (ae ps Pu j));refine #[_,rfl,_,rfl,B,A',_,_,_,_,rfl,s10 _ _ B9,hB9.mono s10.ext,by lia,h10,hh10,by lia,nd2,λG gw' H11 hG s11 h11 hw11=>n5 _ _ ?_];intro N6 n6;refine #[_,rfl,_,rfl,A',B,_,_,_,_,rfl,s11 _ _ h10,hh10.mono s11.ext,by lia,s11 _ _ (s10 _ _ B9),(hB9.mono s10.ext).mono s11.ext,by lia,nd1,λC cw' H12 hC s12 h12 hw12=>n6 _ _ ?_];have s92:Same H9 H12:=s10.trans (s11.trans s12);have S12:eC K CS H12 sh dx st p (qs'.set j J) ps Pw Pu t rs as kn (m+1):=#[s92 _ _ S9.own,s92 _ _ S9.ins,S9.stand.same s92,S9.full.ext s92.ext];refine #[_,rfl,sh,CS,dx,_,_,rfl,S12.ins,O.cl,O.n_kept,rfl,_,_,_,_,rfl,rfl,SqT.of S12.stand.st,rfl,_,rfl,_,_,_,_,rfl,rfl,SqT.of S12.stand.tr,jE hjn,?_];have tp92:Tp H9 H12:=λb us e=>s92 _ _ e;have hnH:∀{b:Addr},H9 b=none->H b=none\/b=p:=λ{b} e=>by
     by_cases z:b=p
     .exact .inr z
     .refine .inl ?_;cases e4:H b with
      | none=>rfl
      | some o=>
       rw[b9 _ _ z e4]at e;cases e
    have nG:H9 G=none:=s10.free hG;have nC:H9 C=none:=s10.free (s11.free hC);have nqs:∀{b:Addr},H9 b=none->b∉qs'.set j J:=λ{b} e z=>by
     obtain ⟨i,hi,ei⟩:=dU z;obtain ⟨ws,w1,_⟩:=S9.full.get i b (by rw[aC hi,ei]);rw[e]at w1;cases w1
    refine hN _ _ #[#[G,C,gw',cw',us++[.ref u],qs'.set j J,m+1,some (.ref B),some (.ref A'),?_,S12,s12 _ _ h11,h12,λi hi=>?_,λm' i hm' hi=>?_,s92 _ _ D9,dQ.keep (λb o _ _ e=>s92 _ _ e) tp92 t9,?_,?_,?_,?_,nqs nG,nqs nC,hD,λx hx=>?_,λb o n e=>s92 _ _ (b9 b o n e),I.dp,λz=>?_],?_]
    .rw[Ej eu,Et];rfl
    .have L:=Ef T' R R' hk hB (tR T' hk eu) ((Ej eu).symm.trans hi);rw[<-L.gone,<-L.come];exact #[hw11.mono s12.ext,hw12]
    .rcases Nat.lt_or_ge m' m with y|y
     .exact I.goes m' i y hi
     .have:m'=m:=by lia
      subst this;rw[eu]at hi;have:=aM hi;subst this;rintro ⟨z1,z2⟩;rw[z1]at lg;rw[z2]at lc;have:(0:Int)<(gw.length:Int)+cw.length:=bW hpos;rw[gC]at lg lc;lia
    .exact λz=>by rw[z,D9]at nG;cases nG
    .exact λz=>by rw[z,D9]at nC;cases nC
    .exact (hnH nG).elim (hF0 _) λz=>by rw[z,S9.full.at_]at nG;cases nG
    .exact (hnH nC).elim (hF0 _) λz=>by rw[z,S9.full.at_]at nC;cases nC
    .rcases j3 hx with y|y
     .exact I.nqs x y
     .rw[y];refine .inr ?_;cases e4:H J with
      | none=>rfl
      | some o=>
       rw[b4 _ _ hJp e4]at hJ4;cases hJ4
    .rcases j3 z with y|y
     .exact I.dqs y
     .exact hJD y
    .rw[Et];cases ep:par ps j with
     | none=>exact Nat.succ_pos _
     | some i=>
      have:=(bz T' ep).1;show ((i:Int)).toNat+1<((j:Int)).toNat+1;lia
   .have e0:gw.length=0/\cw.length=0:=by
     have:¬ (0:Int)<(gw.length:Int)+cw.length:=λz=>hneg (aO z);lia
    exact #[g,c,gw,cw,us,qs',m,x5,x6,by rw[eu],I,.inr #[j,eu,uA.mp (by lia),uA.mp (by lia)]]
 .refine Bu (λU H Q Q' m h=>?_) (λU H Q Q' m h=>?_)
  .obtain ⟨y1,e1,e3,b,e4,q⟩:=h;exact #[y1,e1,e3,b,e4,m _ _ q]
  .obtain ⟨y1,e1,p1,z1,e2,e3,y2,e4,p2,z2,e5,e6,i1,j1,e7,e8,i2,j2,e9,e10,b,e11,q⟩:=h;exact #[y1,e1,p1,z1,e2,e3,y2,e4,p2,z2,e5,e6,i1,j1,e7,e8,i2,j2,e9,e10,b,e11,m _ _ q]
 .rintro U H2 ⟨g,c,gw,cw,us,qs',m,x5,x6,rfl,I,hm⟩;have hm':upN ps kn m=none\/∃ j,upN ps kn m=some j/\ae ps Pu j=ae ps Pw j:=hm.imp id λ⟨j,h1,h2,h3⟩=>#[j,h1,Ed (cv T' R (nv T' hk h1)) (cv T' R' (nv T' hk h1)) h2 h3];refine nw _ _ ?_;refine #[_,rfl,?_];exact q D us m qs' H2 #[I.goes,hm] hD I.nqs I.but #[I.half.own,I.half.ins,I.half.stand,I.half.full.congr λi hi=>Mv T' R R' hk hB hm' hi] I.hD I.told
def loN (row:List Int)(x:Int):Nat:=(row.filter λy=>decide (y<x)).length
def putR (row:List Int)(x:Int):List Int:=row.take (loN row x)++[x]++row.drop (loN row x)
def outR (row:List Int)(x:Int):List Int:=row.take (loN row x)++row.drop (loN row x+1)
def xx {x:Int}:∀{row:List Int},row.Pairwise (· < ·)->(∀ y∈row.take (loN row x),y<x)/\∀ y∈row.drop (loN row x),x<=y
 | [],_=>#[(λ_ h=>by simp at h),λ_ h=>by simp at h]
 | a::r,h=>by
  obtain ⟨h1,h2⟩:=oB.mp h;by_cases c:a<x
  .have e:loN (a::r) x=loN r x+1:=by
    unfold loN;rw[dw (p:=λy=>decide (y<x)) (aO c),cS]
   obtain ⟨i1,i2⟩:=xx (x:=x) h2;rw[e];refine #[λy hy=>?_,λy hy=>i2 y hy];rcases aW.mp hy with z|z
   .rw[z];exact c
   .exact i1 y z
  .have e:loN (a::r) x=0:=by
    unfold loN;rw[fD.mpr,gC];intro y hy z;have z:=bW z;rcases aW.mp hy with w|w
    .omega
    .have:=h1 y w;lia
   rw[e];refine #[(λy hy=>by simp at hy),λy hy=>?_];rcases aW.mp hy with w|w
   .omega
   .have:=h1 y w;lia
def xy {row:List Int}{y:Int}:y∈putR row x↔y∈row\/y=x:=by
 unfold putR;rw[cx,cx,bP];constructor
 .rintro ((h|h)|h)
  .exact .inl (List.mem_of_mem_take h)
  .exact .inr h
  .exact .inl (uB h)
 .rintro (h|h)
  .rw[<-eK (loN row x) row]at h;rcases cx.mp h with h|h
   .exact .inl (.inl h)
   .exact .inr h
  .exact .inl (.inr h)
def Eu {row:List Int}{x:Int}(h:row.Pairwise (· < ·))(n:x∉row):(putR row x).Pairwise (· < ·):=by
 obtain ⟨h1,h2⟩:=xx (x:=x) h;have h3:∀ y∈row.drop (loN row x),x<y:=λy hy=>by
  have:=h2 y hy;have:y≠x:=λz=>n (z ▸ uB hy);lia
 have hp:=h;rw[<-eK (loN row x) row]at hp;obtain ⟨p1,p2,_⟩:=oy.mp hp;unfold putR;refine oy.mpr #[oy.mpr #[p1,uz _ _,λa ha b hb=>?_],p2,λa ha b hb=>?_]
 .rw[bP.mp hb];exact h1 a ha
 .have:=h3 b hb;rcases cx.mp ha with z|z
  .have:=h1 a z;lia
  .rw[bP.mp z];exact this
def lr (row:List Int)(x:Int):(outR row x).Sublist row:=by
 unfold outR;have:(row.take (loN row x)++row.drop (loN row x+1)).Sublist (row.take (loN row x)++row.drop (loN row x)):=by
  refine List.Sublist.append (List.Sublist.refl _) ?_;rw[<-List.drop_drop];exact List.drop_sublist _ _
 rwa[eK]at this
def Ew {row:List Int}{x y:Int}(h:row.Pairwise (· < ·))(hx:x∈row):y∈outR row x↔y∈row/\y≠x:=by
 obtain ⟨h1,h2⟩:=xx (x:=x) h;have hd:∃ r,row.drop (loN row x)=x::r:=by
  have hm:x∈row.drop (loN row x):=by
   have hx':=hx;rw[<-eK (loN row x) row]at hx';rcases cx.mp hx' with z|z
   .exact absurd (h1 x z) (by lia)
   .exact z
  cases e:row.drop (loN row x) with
  | nil=>rw[e]at hm;cases hm
  | cons a r=>
   have ha:=h2 a (by rw[e];exact cb);rw[e]at hm;rcases aW.mp hm with z|z
   .exact #[r,by rw[z]]
   .have hs:=h.sublist (List.drop_sublist (loN row x) row);rw[e]at hs;have:=(oB.mp hs).1 x z;lia
 obtain ⟨r,hr⟩:=hd;have hr1:row.drop (loN row x+1)=r:=by
  rw[<-List.drop_drop,hr];rfl
 have hs:=h.sublist (List.drop_sublist (loN row x) row);rw[hr]at hs;have hlt:=(oB.mp hs).1;unfold outR;rw[cx,hr1];constructor
 .rintro (z|z)
  .exact #[List.mem_of_mem_take z,λe=>absurd (h1 y z) (by lia)]
  .refine #[uB (by rw[hr];exact bV _ z),λe=>?_];have:=hlt y z;lia
 .rintro ⟨z,n⟩;rw[<-eK (loN row x) row,hr]at z;rcases cx.mp z with z|z
  .exact .inl z
  .rcases aW.mp z with z|z
   .exact absurd z n
   .exact .inr z
section
variable {Pw:List (List Int)}{kn:Nat}{x:Int}{r:List Int}
def lx (h:kn<Pw.length):aw (Pw.set kn r) kn=r:=by
 unfold aw;rw[aH,jV,aq rfl,aq h];rfl
def ly:i0 kn Pw (Pw.set kn r):=λj n=>by
 unfold aw;rw[aH,jV,ak (λz=>n z.symm),aH]
def i3 {k:Nat}{e:En}:e∈ownE Pw k↔e.1∈aw Pw k/\e.2=(k:Int):=by
 unfold ownE;rw[cC];constructor
 .rintro ⟨y,hy,rfl⟩;exact #[hy,rfl]
 .rintro ⟨h1,h2⟩;exact #[e.1,h1,by rw[<-h2]]
def Mx (h:kn<Pw.length):bu (ownE Pw kn) (ownE (Pw.set kn (putR (aw Pw kn) x)) kn)=[]:=by
 refine fD.mpr λe he z=>?_;have z:=bW z;obtain ⟨h1,h2⟩:=i3.mp he;exact z (i3.mpr #[by rw[lx h];exact xy.mpr (.inl h1),h2])
def Mz (h:kn<Pw.length):bu (ownE (Pw.set kn (outR (aw Pw kn) x)) kn) (ownE Pw kn)=[]:=by
 refine fD.mpr λe he z=>?_;have z:=bW z;obtain ⟨h1,h2⟩:=i3.mp he;rw[lx h]at h1;exact z (i3.mpr #[(lr _ _).mem h1,h2])
def Ex {e:En}(h:Rise l)(m:∀ f,f∈l↔f=e):l=[e]:=jI h (uz _ _) λf=>by rw[m f,bP]
def MA (h:kn<Pw.length)(hup:(aw Pw kn).Pairwise (· < ·))(hr:Rise (ownE (Pw.set kn (putR (aw Pw kn) x)) kn))(n:x∉aw Pw kn):bu (ownE (Pw.set kn (putR (aw Pw kn) x)) kn) (ownE Pw kn)=[(x,(kn:Int))]:=by
 refine Ex (hr.filter _) λe=>?_;rw[eP,i3,i3,lx h,xy];constructor
 .rintro ⟨⟨h1|h1,h2⟩,h3⟩
  .exact absurd #[h1,h2] h3
  .exact Prod.ext h1 h2
 .rintro rfl;exact #[#[.inr rfl,rfl],λz=>n z.1]
def MB (h:kn<Pw.length)(hup:(aw Pw kn).Pairwise (· < ·))(hr:Rise (ownE Pw kn))(hx:x∈aw Pw kn):bu (ownE Pw kn) (ownE (Pw.set kn (outR (aw Pw kn) x)) kn)=[(x,(kn:Int))]:=by
 refine Ex (hr.filter _) λe=>?_;rw[eP,i3,i3,lx h,Ew hup hx];constructor
 .rintro ⟨⟨h1,h2⟩,h3⟩;exact Prod.ext (Classical.byContradiction λz=>h3 #[#[h1,z],h2]) h2
 .rintro rfl;exact #[#[hx,rfl],λz=>z.1.2 rfl]
def Ey (R:bc Pw)(hup:r.Pairwise (· < ·))(hk:∀ y∈r,-(10^60)<y/\y<10^60):bc (Pw.set kn r):=by
 refine #[λrow hrow=>?_,λrow hrow=>?_]
 .rcases j3 hrow with z|z
  .exact R.1 row z
  .rw[z]
   first|exact hup|exact hk
 .rcases j3 hrow with z|z
  .exact R.2 row z
  .rw[z]
   first|exact hup|exact hk
end
def MC :atI (bY ps) 0=some .non:=by
 have h:=jE (ps:=ps) (k:=0) (by lia);rw[wC rfl]at h;exact h
inductive xA (K:Frag)(vs:List V)(H:Hp)(Q:VK)(w_1:XK):Prop
 | c:∀(t:Addr) (ps:List Nat),vs=[.ref t]->H t=some (.tup (bY ps))->aN ps->ps.length<=39->(∀ H',Same H H'->Q (.ref t) H')->xA K vs H Q w_1
def MD (T:Txt K mg)(zg:DF K mg "tree_of" pN q9)(nI:FC P w K mg base 2 "is_one_of_first" kH (nj K)):FC P w K mg base 3 "tree_of" q9 (xA K):=by
 refine zg.ok Cu (λvs H Q E h=>?_) (λf cdv A outer s H vs Q E hr h=>?_)
 .obtain ⟨t,ps,rfl,_⟩:=h;rfl
 obtain ⟨t,ps,rfl,ht,hT,hz,q⟩:=h;refine #[_,(cn (bp (dG (c6 (aP vi rfl T.i4 boot_isinstance (aa (pv 0) (aa (cm (aa (fF (v:=.ty "list") rfl T.eR boot_list rfl) (aa (fF (v:=.ty "tuple") rfl T.eS boot_tuple rfl) ab))) ab))))) (ao dX) bx)
   (cn (bp (dG (Ac jm jm ag (aP (bH (K:=K)) rfl T.bG bE (aa (pv 0) ab)) (jx rfl T.Nr))) (ao dX) bx)
   (cn (bp (aV z5 (ax (aL (K:=K)) (pv 0) ag (λ_ _=>rfl)) oF (aY _)) (ao dX) bx)
   (aF (ck PassesOwn.never rfl (j6 rfl T.dR (aa ag (aa (aP (bH (K:=K)) rfl T.bG bE (aa (pv 0) ab)) ab))) (aQ (i:=1) Cu.nd rfl (av rfl)) (ao (bp (dG (c6 (az nI hr (aa (pv 1) (aa (ax (aL (K:=K)) (pv 0) (pv 1) (λ_ _=>rfl)) ab))))) (ao dX) bx)))
   (ao (aJ (c9 (gQ (K:=K)) rfl T.eS boot_tuple (aa (pv 0) ab)))))))),?_]
 refine #[λU' H'=>U'=[some (.ref t),none]/\Same H H',?_,?_]
 .refine #[_,rfl,(by show 2<=sizeLine;decide),λp hp=>?_];have sp:=aD hp (.tup [.ty "list",.ty "tuple"]);refine #[t,p,rfl,af,.inr #[_,sp _ _ ht],_,rfl,?_];refine iteF ?_;exact #[rfl,sp]
 rintro U' H1 ⟨rfl,s1⟩;have h1:=s1 _ _ ht;refine #[λU' H'=>U'=[some (.ref t),none]/\H1=H',?_,?_]
 .refine #[_,rfl,_,_,rfl,.inr (SqT.of h1),_,_,rfl,rfl,_,rfl,?_];refine Bb (by rw[cN];lia) ?_;refine #[_,_,rfl,rfl,_,rfl,?_];rw[aO (by rw[cN];lia)];refine iteF ?_;exact #[rfl,rfl]
 rintro U' H' ⟨rfl,rfl⟩;refine #[λU' H'=>U'=[some (.ref t),none]/\H1=H',?_,?_]
 .refine #[_,rfl,_,_,_,_,rfl,rfl,SqT.of h1,MC,rfl,_,rfl,?_];refine iteF ?_;exact #[rfl,rfl]
 rintro U' H' ⟨rfl,rfl⟩;refine #[_,rfl,_,_,rfl,.inr (SqT.of h1),1,_,rfl,#[by lia,by lia,by rw[cN];lia,by rw[cN];lia],?_];have en:((((bY ps).length:Nat):Int)-1).toNat=ps.length:=by rw[cN];lia
 rw[en];refine ff (n:=ps.length) (λi U H2=>∃ x1:Option V,U=[some (.ref t),x1]/\H2=H1) ?_ ?_ ?_
 .exact #[_,rfl,rfl]
 .rintro i U H2 hi ⟨x1,rfl,rfl⟩;have ek:(1:Int)+(i:Int)=((i+1:Nat):Int):=by lia
  rw[ek];obtain ⟨u,hu⟩:=vY (ps:=ps) (k:=i+1) (by lia) (by lia);have hlt:=(bz hT hu).1;have hat:=jE (ps:=ps) (k:=i+1) (by lia);rw[m6 hu]at hat;refine #[_,rfl,_,rfl,_,rfl,_,_,_,_,rfl,rfl,SqT.of h1,hat,_,_,rfl,by lia,by lia,_,rfl,?_];refine iteF ?_;exact #[_,rfl,rfl]
 .rintro U H2 ⟨x1,rfl,rfl⟩;refine #[_,rfl,t,_,rfl,.inr #[SqT.of h1,?_]];exact q H2 s1
inductive xB (K:Frag)(vs:List V)(H:Hp)(Q:VK)(w_1:XK):Prop
 | c:∀(a:Addr) (row:List Int),vs=[.ref a]->H a=some (.tup (row.map V.int))->row.Pairwise (· < ·)->(∀ x∈row,-(10^60)<x/\x<10^60)->row.length<=63->(∀(b:Addr) (H':Hp),H b=none->Same H H'->H' b=some (.tup (row.map V.int))->Q (.ref b) H')->xB K vs H Q w_1
def ME (T:Txt K mg)(zh:DF K mg "row_of" pT rl)(y9:FC P w K mg base 2 "is_key" mG (tw K)):FC P w K mg base 3 "row_of" rl (xB K):=by
 refine zh.ok Cv (λvs H Q E h=>?_) (λf cdv A outer s H vs Q E hr h=>?_)
 .obtain ⟨a,row,rfl,_⟩:=h;rfl
 obtain ⟨a,row,rfl,ha,hup,hky,hz,q⟩:=h;refine #[_,(cn (bp (dG (c6 (aP vi rfl T.i4 boot_isinstance (aa (pv 0) (aa (cm (aa (fF (v:=.ty "list") rfl T.eR boot_list rfl) (aa (fF (v:=.ty "tuple") rfl T.eS boot_tuple rfl) ab))) ab))))) (ao dX) bx)
   (aF (ck PassesOwn.never rfl (gJ (pv 0)) (aQ (i:=1) Cv.nd rfl (av rfl)) (ao (bp (dG (c6 (az y9 hr (aa (pv 1) ab)))) (ao dX) bx)))
   (cn (bp (aV eL (aP Hi rfl T.bG bE (aa (c9 (Hz rfl) rfl T.Nm boot_set (aa (pv 0) ab)) ab)) (aP (bH (K:=K)) rfl T.bG bE (aa (pv 0) ab)) (aY _)) (ao dX) bx)
   (ao (aJ (c9 (gQ (K:=K)) rfl T.eS boot_tuple (aa (aP (Co Int) rfl T.nA boot_sorted (aa (pv 0) ab)) ab))))))),?_]
 refine #[λU' H'=>U'=[some (.ref a),none]/\Same H H',?_,?_]
 .refine #[_,rfl,(by show 2<=sizeLine;decide),λp hp=>?_];have sp:=aD hp (.tup [.ty "list",.ty "tuple"]);refine #[a,p,rfl,af,.inr #[_,sp _ _ ha],_,rfl,?_];refine iteF ?_;exact #[rfl,sp]
 rintro U' H1 ⟨rfl,s1⟩;have h1:=s1 _ _ ha;refine #[_,rfl,a,rfl,#[_,SqT.of h1],?_];refine uE (xs:=row.map V.int) (λi U H2=>∃ x1:Option V,U=[some (.ref a),x1]/\H2=H1) ?_ ?_ ?_ ?_
 .exact #[_,rfl,rfl]
 .rintro i U H2 _ ⟨x1,rfl,rfl⟩;exact SqT.of h1
 .rintro i x U H2 hx ⟨x1,rfl,rfl⟩;rw[bj]at hx;obtain ⟨y,hy,rfl⟩:=fS.mp hx;have hb:=hky y (dF hy);refine #[_,rfl,_,true,rfl,.int y true ?_,_,rfl,?_]
  .rw[aO (by split<;>lia)]
  refine iteF ?_;exact #[_,rfl,rfl]
 .rintro U H2 ⟨x1,rfl,rfl⟩;have hnd:row.Nodup:=List.Pairwise.imp (λ{a b} (q:a<b)=>by lia) hup;refine #[λU' H'=>U'=[some (.ref a),x1]/\Same H2 H',?_,?_]
  .refine #[_,rfl,a,row,rfl,SqT.of h1,by lia,λl hl=>?_];have sl:=aD hl (.set (λk=>(metI row).any (· == k)) (metI row).length);refine #[l,_,_,rfl,af,by rw[Bs hnd];lia,_,rfl,_,_,rfl,.inr (SqT.of (sl _ _ h1)),_,_,rfl,rfl,_,rfl,?_];refine oW (by rw[Bs hnd,ai];lia) ?_;exact #[rfl,sl]
  rintro U' H3 ⟨rfl,s3⟩;have h3:=s3 _ _ h1;refine #[_,rfl,a,_,row,rfl,SqT.of h3,aA.ints,by lia,λl ws hl hw=>?_];rw[hw.toInts,u9 (List.Pairwise.imp (λ{a b} (h:a<b)=>aU (by lia)) hup)];have sl:=aD hl (.lst (row.map V.int));refine #[l,_,rfl,.inl #[SqL.of af,λb hb=>?_]];have sb:=aD hb (.tup (row.map V.int));have s03:Same H H3:=s1.trans s3;exact q b _ (s03.free (sl.free hb)) (s03.trans (sl.trans sb)) af
def lz (H:Hp)(q:Addr)(n:Nat):Prop:=∃ xs,(H q=some (.lst xs)\/H q=some (.tup xs))/\xs.length=n
def MF (l:List Nat):(l.map λn:Nat=>(n:Int)).sum=((l.sum:Nat):Int):=by
 induction l with
 | nil=>rfl
 | cons a l ih=>
  rw[bK,cP,ih,cP,Int.natCast_add]
inductive tU (K:Frag)(vs:List V)(H:Hp)(Q:VK)(w_1:XK):Prop
 | c:∀(a:Addr) (qs:List Addr) (ls:List Nat),vs=[.ref a]->(H a=some (.lst (qs.map V.ref))\/H a=some (.tup (qs.map V.ref)))->Paired (lz H) qs ls->ls.length<=900->(∀ H',Same H H'->Q (.int ((ls.sum:Nat):Int)) H')->tU K vs H Q w_1
def MG (T:Txt K mg)(zi:DF K mg "long_together" pU mN):FC P w K mg base 1 "long_together" mN (tU K):=by
 refine zi.ok Jc (λvs H Q E h=>?_) (λf cdv A outer s H vs Q E hr h=>?_)
 .obtain ⟨a,qs,ls,rfl,_⟩:=h;rfl
 obtain ⟨a,qs,ls,rfl,ha,hP,hz,q⟩:=h;have hl:=Paired.length hP;refine #[_,(ao (aJ (aP (Hl rfl) rfl T.Nn boot_sum (aa (de (N:=["each"]) (own:=1) (cap:=[]) rfl (Hu (pv 0)) #[rfl,rfl,rfl,rfl,rfl,rfl] (λ_ _ _ _ _=>(aQ (i:=0) (show List.Nodup (["each"]:List Str) by decide +kernel) rfl (av rfl))) (λ_ _ _ _ _=>dN) (λ_ _ _ _ _=>(aP (bH (K:=K)) rfl T.bG bE (aa (pv 0) ab)))) ab)))),?_];have step:∀{D:Addr} (hD:H D=none) {i m:Nat} {x:V} {U:L2.St} {H2:Hp} {fin:Nat->L2.St->Hp->Prop},(qs.map V.ref)[i]?=some x->i+m=(qs.map V.ref).length->(∀ b o,b≠D->H b=some o->H2 b=some o)->H2 D=some (.lst ((ls.take i).map nV))->∃ xs,(SqL K H2 (match x with|.ref q=>q|_=>0) xs\/SqT K H2 (match x with|.ref q=>q|_=>0) xs)/\(∃ q,x=.ref q)/\ls.take (i+1)=ls.take i++[xs.length]/\i<ls.length:=by
  intro D hD i m x U H2 fin hx hm k2 h2;rw[bj]at hx;obtain ⟨qq,hq,rfl⟩:=fS.mp hx;obtain ⟨n,hn,hL⟩:∃ n,ls[i]?=some n/\lz H qq n:=by
   have:∀{qs:List Addr} {ls:List Nat} {i:Nat},Paired (lz H) qs ls->qs[i]?=some qq->∃ n,ls[i]?=some n/\lz H qq n:=by
    intro qs ls i r
    induction r generalizing i with
    | nil=>intro h;simp at h
    | cons a _ ih=>
     intro h;cases i with
     | zero=>
      have e:=aM (show some _=some qq from h);subst e;exact #[_,rfl,a]
     | succ i=>
      obtain ⟨n,h1,h2⟩:=ih (i:=i) (by simpa using h);exact #[n,by simpa using h1,h2]
   exact this hP hq
  have hi:=(aZ.mp hn).1;obtain ⟨xs,hxs,hxl⟩:=hL;refine #[xs,?_,#[qq,rfl],?_,hi]
  .rcases hxs with hxs|hxs
   .exact .inl (SqL.of (k2 _ _ (au hxs hD) hxs))
   .exact .inr (SqT.of (k2 _ _ (au hxs hD) hxs))
  .rw[cy hi,(aZ.mp hn).2,hxl]
 have end_:∀{D:Addr} {H2:Hp},H D=none->H2 D=some (.lst (ls.map nV))->But D H H2->(λxs H Q=>∃(p:Addr) (ns:List Int),xs=[V.ref p]/\SqL K H p (ns.map V.int)/\Q (.int ns.sum) H) [V.ref D] H2 Q:=λ{D H2} hD h2 k2=>by
  refine #[D,ls.map λn:Nat=>(n:Int),rfl,?_,?_]
  .rw[fA];exact SqL.of h2
  .rw[MF];exact q H2 (λb o e=>k2 b o (au e hD) e)
 rcases ha with ha|ha
 .refine #[_,rfl,a,rfl,.inl #[#[_,SqL.of ha],λD hD=>?_]];refine eZ (xs:=qs.map V.ref) (λi U H2=>∃ x0:Option V,U=[x0]/\H2 D=some (.lst ((ls.take i).map nV))/\But D H H2) ?_ ?_ ?_ ?_
  .exact #[_,rfl,af,λb o n e=>by rw[ah n];exact e]
  .rintro i U H2 _ ⟨x0,rfl,_,k2⟩;exact k2.sq (SqL.of ha) hD
  .rintro i m x U H2 hx hm ⟨x0,rfl,h2,k2⟩;obtain ⟨xs,hS,⟨qq,rfl⟩,htk,hi⟩:=step hD (U:=[x0]) (fin:=λ_ _ _=>True) hx hm k2 h2;rw[ai]at hm;refine d3 ?_;refine #[_,rfl,qq,xs,rfl,hS,_,h2,a0 (by rw[ai,bw];lia),m-1,by lia,by rw[ai];lia,_,rfl,?_,λb o n e=>by rw[ah n];exact k2 b o n e];rw[af,htk,bq];rfl
  .rintro U H2 ⟨x0,rfl,h2,k2⟩;rw[ai,bA (by lia)]at h2;exact end_ hD h2 k2
 .refine #[_,rfl,a,rfl,.inr #[#[_,SqT.of ha],λD hD=>?_]];refine jy (xs:=qs.map V.ref) (λi U H2=>∃ x0:Option V,U=[x0]/\H2 D=some (.lst ((ls.take i).map nV))/\But D H H2) ?_ ?_ ?_ ?_
  .exact #[_,rfl,af,λb o n e=>by rw[ah n];exact e]
  .rintro i U H2 _ ⟨x0,rfl,_,k2⟩;exact SqT.of (k2 _ _ (au ha hD) ha)
  .rintro i m x U H2 hx hm ⟨x0,rfl,h2,k2⟩;obtain ⟨xs,hS,⟨qq,rfl⟩,htk,hi⟩:=step hD (U:=[x0]) (fin:=λ_ _ _=>True) hx hm k2 h2;rw[ai]at hm;refine d3 ?_;refine #[_,rfl,qq,xs,rfl,hS,_,h2,a0 (by rw[ai,bw];lia),m-1,by lia,by rw[ai];lia,_,rfl,?_,λb o n e=>by rw[ah n];exact k2 b o n e];rw[af,htk,bq];rfl
  .rintro U H2 ⟨x0,rfl,h2,k2⟩;rw[ai,bA (by lia)]at h2;exact end_ hD h2 k2
inductive xC (K:Frag)(vs:List V)(H:Hp)(Q:VK)(w_1:XK):Prop
 | c:∀(t r:Addr) (ps:List Nat) (Pw:List (List Int)) (as:List Addr),vs=[.ref t,.ref r]->H t=some (.tup (bY ps))->H r=some (.tup (as.map V.ref))->bD H as Pw->Pw.length=ps.length+1->aN ps->bc Pw->ps.length<=40->Fw Pw->(∀(st rs:Addr) (bs:List Addr) (H':Hp),H st=none->Same H H'->cO H' st ps Pw t rs bs->Q (.ref st) H')->xC K vs H Q w_1
def bD.lens :∀{as:List Addr} {Pw:List (List Int)},bD H as Pw->Paired (lz H) as (Pw.map List.length)
 | _,_,.nil=>.nil
 | _,_,.cons h t=>.cons #[_,.inr h,by rw[ai]] (bD.lens t)
def MH (T:Txt K mg)(zj:DF K mg "stand_of" pV rm)(NU:FC P w K mg base 3 "row_of" rl (xB K))(zk:FC P w K mg base 1 "long_together" mN (tU K)):FC P w K mg base 4 "stand_of" rm (xC K):=by
 refine zj.ok Cw (λvs H Q E h=>?_) (λf cdv A outer s H vs Q E hr h=>?_)
 .obtain ⟨t,r,ps,Pw,as,rfl,_⟩:=h;rfl
 obtain ⟨t,r,ps,Pw,as,rfl,ht,hr0,hA,hlen,hT,hR,hfew,hkeys,q⟩:=h;have hal:=hA.length;refine #[_,(cn (bp (dG (c6 (aP vi rfl T.i4 boot_isinstance (aa (pv 1) (aa (cm (aa (fF (v:=.ty "list") rfl T.eR boot_list rfl) (aa (fF (v:=.ty "tuple") rfl T.eS boot_tuple rfl) ab))) ab))))) (ao dX) bx)
   (cn (bp (aV l8 (aP (bH (K:=K)) rfl T.bG bE (aa (pv 1) ab)) (aP (bH (K:=K)) rfl T.bG bE (aa (pv 0) ab)) (aY _)) (ao dX) bx)
   (aF (aI (i:=2) Cw.nd rfl (av rfl) (c9 (gQ (K:=K)) rfl T.eS boot_tuple (aa (de (N:=["row"]) (own:=1) (cap:=[]) rfl (gJ (pv 1)) #[rfl,rfl,rfl,rfl,rfl,rfl] (λ_ _ _ _ _=>(aQ (i:=0) (show List.Nodup (["row"]:List Str) by decide +kernel) rfl (av rfl))) (λ_ _ _ _ _=>dN) (λ_ _ _ _ _=>(az NU hr (aa (pv 0) ab)))) ab)))
   (cn (bp (aV gK (az zk hr (aa (pv 2) ab)) (jx rfl T.EU) (aY _)) (ao dX) bx)
   (ao (aJ (cm (aa (pv 0) (aa (pv 2) ab))))))))),?_]
 refine #[λU' H'=>U'=[some (.ref t),some (.ref r),none]/\Same H H',?_,?_]
 .refine #[_,rfl,(by show 2<=sizeLine;decide),λp hp=>?_];have sp:=aD hp (.tup [.ty "list",.ty "tuple"]);refine #[r,p,rfl,af,.inr #[_,sp _ _ hr0],_,rfl,?_];refine iteF ?_;exact #[rfl,sp]
 rintro U' H1 ⟨rfl,s1⟩;have h1t:=s1 _ _ ht;have h1r:=s1 _ _ hr0;have A1:=hA.ext s1;refine #[λU' H'=>U'=[some (.ref t),some (.ref r),none]/\H1=H',?_,?_]
 .refine #[_,rfl,_,_,rfl,.inr (SqT.of h1r),_,rfl,_,_,rfl,.inr (SqT.of h1t),rfl,_,rfl,?_];refine fh (by rw[ai,cN,hal,hlen]) ?_;exact #[rfl,rfl]
 rintro U' H' ⟨rfl,rfl⟩;refine #[_,rfl,r,rfl,#[_,SqT.of h1r],λD hD=>?_];refine jy (xs:=as.map V.ref) (λi U H2=>∃(bs:List Addr) (x0:Option V),U=[x0]/\H2 D=some (.lst (bs.map V.ref))/\bD H2 bs (Pw.take i)/\But D H1 H2) ?_ ?_ ?_ ?_
 .exact #[[],_,rfl,af,.nil,λb o n e=>by rw[ah n];exact e]
 .rintro i U H2 _ ⟨bs,x0,rfl,_,_,k2⟩;exact SqT.of (k2 _ _ (au h1r hD) h1r)
 .rintro i m x U H2 hx hm ⟨bs,x0,rfl,h2,hB,k2⟩;have hbl:=hB.length;rw[bw]at hbl;rw[ai]at hm;have hi:i<Pw.length:=by
   have:=(aZ.mp hx).1;rw[ai]at this;lia
  obtain ⟨b,hb1,hb2⟩:=A1.get hi;rw[bj,hb1]at hx;have:=aM hx;subst this;have hmem:aw Pw i∈Pw:=by
   unfold aw;rw[aH,aC hi];exact cE hi
  have hrl:=hkeys.row i;have htk:Pw.take (i+1)=Pw.take i++[aw Pw i]:=by
   rw[cy hi];unfold aw;rw[aH,aC hi];rfl
  have h2b:=k2 _ _ (au hb2 hD) hb2;refine d3 ?_;refine #[_,rfl,b,aw Pw i,rfl,h2b,hR.at_up i,hR.at_key i,by lia,λc H3 hc s3 h3=>?_];have h3D:=s3 _ _ h2;have ncD:∀{x:Addr} {o:List V},H3 x=some (.tup o)->x≠D:=λ{x o} e z=>by
   rw[z,h3D]at e;cases e
  have kD:∀ b o,b≠D->H3 b=some o->upd H3 D (.lst (bs.map V.ref++[.ref c])) b=some o:=λb o n e=>by rw[ah n];exact e
  refine #[_,h3D,a0 (by rw[ai];lia),m-1,by lia,by rw[ai];lia,bs++[c],_,rfl,?_,?_,λb o n e=>kD _ _ n (s3 _ _ (k2 b o n e))]
  .rw[af,bq];rfl
  .rw[htk];exact bD.snoc (bD.keep (p:=D) (d:=D) (λa row e=>ncD e) kD (hB.ext s3)) (kD _ _ (ncD h3) h3)
 rintro U H2 ⟨bs,x0,rfl,h2,hB,k2⟩;rw[ai,bA (by lia)]at hB;have s2:Same H1 H2:=λb o e=>k2 b o (au e hD) e;refine #[D,_,rfl,.inl #[SqL.of h2,λrs hrs=>?_]];have s3:=aD hrs (.tup (bs.map V.ref));have h3:upd H2 rs (.tup (bs.map V.ref)) rs=some (.tup (bs.map V.ref)):=af;have s13:=s2.trans s3;have B3:=hB.ext s3;generalize upd H2 rs (.tup (bs.map V.ref))=H3 at s3 h3 s13 B3 ⊢;refine #[λU' H'=>U'=[some (.ref t),some (.ref r),some (.ref rs)]/\Same H3 H',?_,?_]
 .refine #[_,rfl,rs,bs,Pw.map List.length,rfl,.inr h3,B3.lens,by rw[ai];lia,λH4 s4=>?_];have hk:(Pw.map List.length).sum=dC Pw:=rfl;rw[hk];refine #[_,_,rfl,rfl,_,rfl,?_];have hK:=hkeys.k;refine oW (by lia) ?_;exact #[rfl,s4]
 rintro U' H4 ⟨rfl,s4⟩;have s04:=s1.trans (s13.trans s4);refine #[_,rfl,_,rfl,(by show 2<=sizeLine;decide),λst hst=>?_];have ss:=aD hst (.tup [.ref t,.ref rs]);exact q st rs bs _ (s04.free hst) (s04.trans ss) #[af,ss _ _ (s04 _ _ ht),ss _ _ (s4 _ _ h3),(B3.ext s4).ext ss,hlen,hT,hR,hfew,hkeys]
def Ez {zs:List V}{k:Nat}{x:V}(h:k<zs.length):zs.set k x=zs.take k++[x]++zs.drop (k+1):=by
 rw[List.set_eq_take_append_cons_drop,aq h,gG];rfl
inductive tV (K:Frag)(vs:List V)(H:Hp)(Q:VK)(w_1:XK):Prop
 | c:∀(st t rs:Addr) (zs:List V) (k:Nat) (x:V),vs=[.ref st,.int k,x]->H st=some (.tup [.ref t,.ref rs])->H rs=some (.tup zs)->k<zs.length->zs.length<=60->(∀(st' rs':Addr) (H':Hp),Same H H'->H' st'=some (.tup [.ref t,.ref rs'])->H' rs'=some (.tup (zs.set k x))->Q (.ref st') H')->tV K vs H Q w_1
def MI (T:Txt K mg)(zm:DF K mg "with_row" pW mO):FC P w K mg base 1 "with_row" mO (tV K):=by
 refine zm.ok Cy (λvs H Q E h=>?_) (λf cdv A outer s H vs Q E hr h=>?_)
 .obtain ⟨st,t,rs,zs,k,x,rfl,_⟩:=h;rfl
 obtain ⟨st,t,rs,zs,k,x,rfl,hst,hrs,hk,hz,q⟩:=h;refine #[_,(aF (aI (i:=3) Cy.nd rfl (av rfl) (ax (aL (K:=K)) (pv 0) ag (λ_ _=>rfl)))
   (ao (aJ (cm (aa (ax (aL (K:=K)) (pv 0) ag (λ_ _=>rfl)) (aa (aG oT (aG vk (fZ (j9 (K:=K)) (pv 3) iG (fg (pv 1))) (cm (aa (pv 2) ab))) (fZ (j9 (K:=K)) (pv 3) (fg (aG cz (pv 1) ag)) iG)) ab)))))),?_]
 refine #[_,rfl,_,_,_,_,rfl,rfl,SqT.of hst,rfl,?_];refine #[_,rfl,_,_,_,_,rfl,rfl,SqT.of hst,rfl,?_];refine #[_,rfl,_,rfl,_,rfl,rs,zs,rfl,SqT.of hrs,(λz=>?_),λ_ p hp=>?_]
 .have:=z.2;rw[fY]at this;lia
 rw[DS];have g1:=aD hp (.tup (zs.take k));have w1:upd H p (.tup (zs.take k)) p=some (.tup (zs.take k)):=af;generalize upd H p (.tup (zs.take k))=H1 at g1 w1 ⊢;refine #[_,rfl,(by show 1<=sizeLine;decide),λm hm=>?_];have g2:=aD hm (.tup [x]);have w2:upd H1 m (.tup [x]) m=some (.tup [x]):=af;have w12:=g2 _ _ w1;generalize upd H1 m (.tup [x])=H2 at g2 w2 w12 ⊢;have hl1:(zs.take k).length=k:=by rw[bw];lia
 have rest:∀(u:Addr) (H3:Hp),Same H2 H3->H3 u=some (.tup (zs.take k++[x]))->∀{Q':VK},(∀(v:Addr) (H':Hp),Same H3 H'->H' v=some (.tup (zs.set k x))->Q' (.ref v) H')->∀(p2:Addr) (H4:Hp),Same H3 H4->H4 p2=some (.tup (zs.drop (k+1)))->oS K (.ref u) (.ref p2) H4 Q':=λu H3 _ hu Q' q' p2 H4 s4 hp2=>by
  refine #[u,p2,_,_,rfl,rfl,SqT.of (s4 _ _ hu),SqT.of hp2,by simp,?_,λz=>?_,λz v hv=>?_]
  .refine eE (a0 ?_);rw[bg,hl1,d8,cT];lia
  .refine q' u H4 s4 ?_;rw[Ez hk,z,cB];exact s4 _ _ hu
  .refine q' v _ (s4.trans (aD hv _)) ?_;rw[af,Ez hk]
 have fin:∀(u:Addr) (H3:Hp),Same H2 H3->H3 u=some (.tup (zs.take k++[x]))->∀(v:Addr) (H':Hp),Same H3 H'->H' v=some (.tup (zs.set k x))->∀ p,H' p=none->Q (.ref p) (upd H' p (.tup [.ref t,.ref v])):=λu H3 s3 _ v H' s' hv p hp=>by
  have gp:=aD hp (.tup [.ref t,.ref v]);exact q p v _ (g1.trans (g2.trans (s3.trans (s'.trans gp)))) af (gp _ _ hv)
 have e1k:(k:Int)+1=((k+1:Nat):Int):=by lia
 refine #[p,m,_,_,rfl,rfl,SqT.of w12,SqT.of w2,by simp,eE (a0 (by rw[hl1];show k+1<=1000;lia)),λz=>?_,λz u hu=>?_]
 .have e0:zs.take k++[x]=[x]:=by rw[z];rfl
  refine #[_,rfl,_,rfl,_,_,rfl,rfl,_,rfl,rs,zs,rfl,SqT.of (g2 _ _ (g1 _ _ hrs)),(λz=>?_),λ_ p2 hp2=>?_]
  .have:=z.1;rw[e1k,fY]at this;lia
  rw[e1k,nq];exact rest m H2 (λ_ _ e=>e) (by rw[e0];exact w2) (λv H' s' hv=>#[(by show 2<=sizeLine;decide),fin m H2 (λ_ _ e=>e) (by rw[e0];exact w2) v H' s' hv]) p2 _ (aD hp2 _) af
 .have gu:=aD hu (.tup (zs.take k++[x]));have wu:upd H2 u (.tup (zs.take k++[x])) u=some (.tup (zs.take k++[x])):=af;generalize upd H2 u (.tup (zs.take k++[x]))=H3 at gu wu ⊢;refine #[_,rfl,_,rfl,_,_,rfl,rfl,_,rfl,rs,zs,rfl,SqT.of (gu _ _ (g2 _ _ (g1 _ _ hrs))),(λz=>?_),λ_ p2 hp2=>?_]
  .have:=z.1;rw[e1k,fY]at this;lia
  rw[e1k,nq];exact rest u H3 gu wu (λv H' s' hv=>#[(by show 2<=sizeLine;decide),fin u H3 gu wu v H' s' hv]) p2 _ (aD hp2 _) af
def xD {r:List Int}:∀{Pw:List (List Int)} {kn:Nat},kn<Pw.length->dC (Pw.set kn r)+(aw Pw kn).length=dC Pw+r.length
 | [],_,h=>absurd h (jS _)
 | a::Pw,0,_=>by
  unfold dC;rw[List.set_cons_zero,bK,cP,bK,cP];show r.length+_+a.length=_;lia
 | a::Pw,kn+1,h=>by
  have ih:=xD (r:=r) (Pw:=Pw) (kn:=kn) (Nat.lt_of_succ_lt_succ h);unfold dC at ih ⊢;rw[List.set_cons_succ,bK,cP,bK,cP];have e:aw (a::Pw) (kn+1)=aw Pw kn:=rfl;rw[e];lia
def xE (n:Int)(xs:List Int):inV (.int n) (xs.map V.int)=decide (n∈xs):=by
 unfold inV
 induction xs with
 | nil=>rfl
 | cons x xs ih=>
  rw[bK,gB,ih];show (x==n||decide (n∈xs))=decide (n∈x::xs);by_cases h:x=n
  .subst h;simp
  .have h2:¬ n=x:=λz=>h z.symm;simp[h,h2]
def EA :∀{as:List Addr} {Pw:List (List Int)},bD H as Pw->Paired (lz H) as (Pw.map List.length)
 | _,_,.nil=>.nil
 | _,_,.cons h t=>.cons #[_,.inr h,by rw[ai]] (EA t)
section
variable {K:Frag}{H:Hp}{a b:Addr}{xs ys:List V}{n:Nat}{Q:VK}
def EB (h:H a=some (.tup xs))(q:∀ v H',Same H H'->H' v=some (.tup (xs.take n))->Q (.ref v) H'):rSlX K (.ref a) none (some (n:Int)) H Q:=
 #[a,xs,rfl,SqT.of h,λz=>q a H (λ_ _ e=>e) (by
  have:=z.2;rw[fY]at this;rw[bA (by lia)];exact h),λ_ p hp=>q p _ (aD hp _) (by rw[af,DS])]
def EC (h:H a=some (.tup xs))(q:∀ v H',Same H H'->H' v=some (.tup (xs.drop n))->Q (.ref v) H'):rSlX K (.ref a) (some (n:Int)) none H Q:=
 #[a,xs,rfl,SqT.of h,λz=>q a H (λ_ _ e=>e) (by
  have:=z.1;rw[fY]at this;have e:xs.drop n=xs:=by
   rcases Nat.eq_zero_or_pos n with y|y
   .rw[y];rfl
   .have:xs=[]:=uA.mp (by lia);rw[this];exact List.drop_nil
  rw[e];exact h),λ_ p hp=>q p _ (aD hp _) (by rw[af,nq])]
def ED (ha:H a=some (.tup xs))(hb:H b=some (.tup ys))(hy:ys≠[])(hl:xs.length+ys.length<=sizeLine)(q:∀ v H',Same H H'->H' v=some (.tup (xs++ys))->Q (.ref v) H'):vj K (.ref a) (.ref b) H Q:=
 #[a,b,xs,ys,rfl,rfl,SqT.of ha,SqT.of hb,hy,hl,λz=>q b H (λ_ _ e=>e) (by rw[z];exact hb),λ_ p hp=>q p _ (aD hp _) af]
def MJ (ha:H a=some (.tup xs))(hb:H b=some (.tup ys))(hx:xs≠[])(hl:xs.length+ys.length<=sizeLine)(q:∀ v H',Same H H'->H' v=some (.tup (xs++ys))->Q (.ref v) H'):oS K (.ref a) (.ref b) H Q:=
 #[a,b,xs,ys,rfl,rfl,SqT.of ha,SqT.of hb,hx,hl,λz=>q a H (λ_ _ e=>e) (by rw[z,cB];exact ha),λ_ p hp=>q p _ (aD hp _) af]
end
def xF {H:Hp}{v:Addr}{r:List Int}(hv:H v=some (.tup (r.map V.int))):∀{as:List Addr} {Pw:List (List Int)} (kn:Nat),bD H as Pw->bD H (as.set kn v) (Pw.set kn r)
 | _,_,_,.nil=>.nil
 | _,_,0,.cons _ t=>.cons hv t
 | _,_,kn+1,.cons h t=>.cons h (xF hv kn t)
def MK {row:List Int}:(putR row x).length=row.length+1:=by
 unfold putR;rw[bg,bg,bw,d8];have:loN row x<=row.length:=dW _ _;show _+1+_=_;lia
def xG (x:aR H Pt pos q)(k:But b H H')(h1:∀ tab,H b≠some (.tbl tab))(h2:∀ f,H b≠some (.ext f)):aR H' Pt pos q:=by
 obtain ⟨tab,e1,e2,e3⟩:=x.ex;refine #[tab,k _ _ (λz=>h1 tab (z ▸ e1)) e1,e2,?_];rcases e3 with e3|⟨c,e3,e4⟩
 .exact .inl e3
 .exact .inr #[c,e3,k _ _ (λz=>h2 _ (z ▸ (show H c=_ from e4))) e4]
def EE (Q:bc r)(k:Nat):Rise (ownE r k):=by
 unfold ownE;exact List.Pairwise.map _ (R:=λa b:Int=>a<b) (λa b (h:a<b)=>fj.mpr (.inl h)) (Q.at_up k)
def Kd (sh p mp:Addr)(H H':Hp):Prop:=∀ b o,b≠sh->b≠p->b≠mp->H b=some o->H' b=some o
inductive ny (K:Frag)(CS mp:Addr)(f:List Int->Int->List Int)(ok:List (List Int)->Nat->Int->Prop)(vs:List V)(H:Hp)(Q:VK)(w_1:XK):Prop
 | c:∀(sh dx st p:Addr) (kn:Nat) (x:Int) (qs:List Addr) (ps:List Nat) (Pw:List (List Int)) (t rs:Addr) (as:List Addr),vs=[.ref sh,.int kn,.int x]->cJ K CS H sh dx st p qs ps Pw t rs as->kn < ps.length+1->nu x->ok Pw kn x->aR H mp eB lamQ->(∀(D:Addr) (us:List V) (m:Nat) (qs':List Addr) (st' rs':Addr) (as':List Addr) (H':Hp),Eo ps Pw (Pw.set kn (f (aw Pw kn) x)) kn m->H D=none->(∀ q∈qs',q∈qs\/H q=none)->Kd sh p mp H H'->cJ K CS H' sh dx st' p qs' ps (Pw.set kn (f (aw Pw kn) x)) t rs' as'->aR H' mp eB lamQ->H' D=some (.lst us)->
  dQ K H' D (λb=>H b=none/\b∉qs') (g9 ps Pw (Pw.set kn (f (aw Pw kn) x)) kn m) us->Q (.ref D) H')->ny K CS mp f ok vs H Q w_1
def EF (Pw:List (List Int))(kn:Nat)(x:Int):Prop:=x∉aw Pw kn/\Fw (Pw.set kn (putR (aw Pw kn) x))
def EG (Pw:List (List Int))(kn:Nat)(x:Int):Prop:=x∈aw Pw kn
def EH {K:Frag}{st st' rs' v7 t:Addr}{kn:Nat}{r:List Int}(S:cJ K CS H sh dx st p qs ps Pw t rs as)(S2:cJ K CS H2 sh dx st p qs ps Pw t rs as)(hT2:aR H2 mp eB lamQ)
  (g:∀ b o,b≠mp->H b=some o->H2 b=some o) (s28:Same H2 H8) (h7:H8 v7=some (.tup (r.map V.int))) (h8:H8 st'=some (.tup [.ref t,.ref rs'])) (r8:H8 rs'=some (.tup ((as.map V.ref).set kn (.ref v7)))) (R':bc (Pw.set kn r)) (hk:Fw (Pw.set kn r)) :
  eC K CS (upd H8 sh (.ins CS dx (putF "kept" (.ref st') [("kept",.ref st),("fulls",.ref p)]))) sh dx st' p qs ps Pw (Pw.set kn r) t rs' (as.set kn v7) kn 0/\aR (upd H8 sh (.ins CS dx (putF "kept" (.ref st') [("kept",.ref st),("fulls",.ref p)]))) mp eB lamQ/\(∀ b o,b≠sh->b≠mp->H b=some o->upd H8 sh (.ins CS dx (putF "kept" (.ref st') [("kept",.ref st),("fulls",.ref p)])) b=some o)/\
  (∀{b},upd H8 sh (.ins CS dx (putF "kept" (.ref st') [("kept",.ref st),("fulls",.ref p)])) b=none->H b=none)/\∀{b},upd H8 sh (.ins CS dx (putF "kept" (.ref st') [("kept",.ref st),("fulls",.ref p)])) b=none->b∉qs:=by
 have i8:=s28 _ _ S2.ins;have i9:upd H8 sh (.ins CS dx (putF "kept" (.ref st') [("kept",.ref st),("fulls",.ref p)])) sh=some (.ins CS dx [("kept",.ref st'),("fulls",.ref p)]):=af;have k9:But sh H8 (upd H8 sh (.ins CS dx (putF "kept" (.ref st') [("kept",.ref st),("fulls",.ref p)]))):=λb o n e=>by rw[ah n];exact e
 generalize upd H8 sh (.ins CS dx (putF "kept" (.ref st') [("kept",.ref st),("fulls",.ref p)]))=H9 at i9 k9 ⊢;have tp9:Tp H8 H9:=k9.tp λus' z=>by rw[i8]at z;cases z
 have l9:∀ b us,H8 b=some (.lst us)->H9 b=some (.lst us):=λb us e=>k9 b _ (λz=>by rw[z,i8]at e;cases e) e
 have o9:=k9 _ _ (λz=>by have:=S.own;rw[z,S.ins]at this;cases this) (s28 _ _ S2.own)
 have S9:eC K CS H9 sh dx st' p qs ps Pw (Pw.set kn r) t rs' (as.set kn v7) kn 0:=by
  refine #[o9,i9,#[tp9 _ _ h8,tp9 _ _ (s28 _ _ S2.stand.tr),?_,xF (tp9 _ _ h7) kn (xl (λb us e=>tp9 _ _ (s28 _ _ e)) S2.stand.at_),by rw[nQ];exact S.stand.len,S.stand.T,R',S.stand.few,hk],(S2.full.ext s28.ext).tp tp9 l9];rw[lY];exact tp9 _ _ r8
 have T9:=xG (hT2.ext s28.ext) k9 (λtab z=>by rw[i8]at z;cases z) (λf z=>by rw[i8]at z;cases z)
 refine #[S9,T9,λb o n1 n2 e=>k9 b o n1 (s28 _ _ (g b o n2 e)),λ{b} e=>?_,λ{b} e z=>?_]
 .cases eb:H b with
  | none=>rfl
  | some o=>
   by_cases z1:b=sh
   .rw[z1,S9.ins]at e;cases e
   .by_cases z2:b=mp
    .obtain ⟨tab,e1,_⟩:=T9.ex;rw[z2,e1]at e;cases e
    .rw[k9 b o z1 (s28 _ _ (g b o z2 eb))]at e;cases e
 .obtain ⟨i,hi,ei⟩:=dU z;obtain ⟨ws,w1,_⟩:=S9.full.get i b (by rw[aC hi,ei]);rw[e]at w1;cases w1
def ML (T:Txt K mg)(O:OwnC K mg CS)(zo:DM K CS "put" "Shelf.put" qH r9)(zq:FM P w K mg base CS 4 "row_for" mV (tP K CS))(zk:FC P w K mg base 1 "long_together" mN (tU K))(nJ:FC P w K mg base 5 "place" kG (nr K mp))(zr:FC P w K mg base 1 "with_row" mO (tV K))(zt:FM P w K mg base CS 7 "carry_up" mW (tT K CS)):FM P w K mg base CS 8 "put" r9 (ny K CS mp putR EF):=by
 refine zo.ok vK (λvs H Q E h=>?_) (λf cdv A outer s H vs Q E hr h=>?_)
 .obtain ⟨sh,dx,st,p,kn,x,qs,ps,Pw,t,rs,as,rfl,_⟩:=h;rfl
 obtain ⟨sh,dx,st,p,kn,x,qs,ps,Pw,t,rs,as,rfl,S,hk,hx,⟨hnx,hroom⟩,hT,q⟩:=h;refine #[_,(aF (aI (i:=3) vK.nd rfl (av rfl) (jz zq O.cl hr (pv 0) (aa (pv 1) (aa (pv 2) ab))))
   (cn (bp (aV (vg (K:=K)) (pv 2) (pv 3) (by with_unfolding_all rfl)) (ao dX) bx)
   (cn (bp (aV ma (az zk hr (aa (ax (aL (K:=K)) (eN (pv 0) rfl) ag (λ_ _=>rfl)) ab)) (jx rfl T.EU) (aY _)) (ao dX) bx)
   (aF (aI (i:=4) vK.nd rfl (av rfl) (az nJ hr (aa (pv 3) (aa (pv 2) ab))))
   (aF (oO (pv 0) (az zr hr (aa (eN (pv 0) rfl) (aa (pv 1) (aa (aG oT (aG vk (fZ (j9 (K:=K)) (pv 3) iG (fg (pv 4))) (cm (aa (pv 2) ab))) (fZ (j9 (K:=K)) (pv 3) (fg (pv 4)) iG)) ab)))) rfl)
   (ao (aJ (jz zt O.cl hr (pv 0) (aa (pv 1) (aa (cR ab) (aa (cR (aa (cm (aa (pv 2) (aa (pv 1) ab))) ab)) ab))))))))))),?_]
 refine #[_,rfl,sh,dx,_,rfl,S.ins,rfl,_,rfl,_,rfl,sh,dx,st,p,kn,x,qs,ps,Pw,t,rs,as,rfl,S,hk,hx,λa ha hrow=>?_];have hfl:((aw Pw kn).map V.int).all eY=true:=eI.mpr λy hy=>by
  obtain ⟨z,_,rfl⟩:=cC.mp hy;rfl
 refine #[λU' H'=>U'=[some (.ref sh),some (.int kn),some (.int x),some (.ref a),none]/\H=H',?_,?_]
 .refine #[_,rfl,_,rfl,a,_,rfl,.inr (SqT.of hrow),rfl,hfl,_,rfl,?_];show if inV (.int x) ((aw Pw kn).map V.int)=true then _ else _
  rw[xE,aU hnx];exact iteF #[rfl,rfl]
 rintro _ _ ⟨rfl,rfl⟩;have hfew:=S.stand.few;have hK:=S.stand.keys.k;refine #[λU' H1=>U'=[some (.ref sh),some (.int kn),some (.int x),some (.ref a),none]/\Same H H1,?_,?_]
 .refine #[_,rfl,sh,CS,dx,_,_,rfl,S.ins,O.cl,O.n_kept,rfl,_,_,_,_,rfl,rfl,SqT.of S.stand.st,rfl,rs,as,_,rfl,.inr S.stand.rs,EA S.stand.at_,by rw[ai,S.stand.len];lia,λH1 s1=>?_];refine #[_,_,rfl,rfl,_,rfl,?_];exact oW (show ¬ (300:Int)<=((dC Pw:Nat):Int) by lia) #[rfl,s1]
 rintro _ H1 ⟨rfl,s1⟩;have hrow1:=s1 _ _ hrow;refine #[_,rfl,_,rfl,a,aw Pw kn,x,rfl,hrow1,S.stand.R.at_up kn,hT.ext s1.ext,λH2 g2 hT2=>?_];obtain ⟨tab,hmp⟩:∃ tab,H1 mp=some (.tbl tab):=by
  obtain ⟨tab,e,_⟩:=(hT.ext s1.ext).ex;exact #[tab,e]
 have keep2:∀{b:Addr} {o:HO},H b=some o->(∀ tab,o≠.tbl tab)->H2 b=some o:=λ{b o} e n=>g2 b o (λz=>by
  rw[z]at e;have:=s1 _ _ e;rw[hmp]at this;exact n _ (aM this).symm) (s1 _ _ e)
 have tp2:Tp H H2:=λb us e=>keep2 e nofun;have S2:cJ K CS H2 sh dx st p qs ps Pw t rs as:=#[keep2 S.own nofun,keep2 S.ins nofun,jK tp2 S.stand,S.full.tp tp2 λb us e=>keep2 e nofun];have row2:=tp2 _ _ hrow;refine #[_,rfl,sh,CS,dx,_,_,rfl,S2.ins,O.cl,O.n_kept,rfl,_,rfl,?_];refine #[_,rfl,_,rfl,_,rfl,EB row2 λv3 H3 s3 h3=>?_];refine #[_,rfl,(by show 1<=sizeLine;decide),λv4 hv4=>?_];have s4:=aD hv4 (.tup [.int x]);have h4:upd H3 v4 (.tup [.int x]) v4=some (.tup [.int x]):=af;have h34:=s4 _ _ h3;have row4:=s4 _ _ (s3 _ _ row2);generalize upd H3 v4 (.tup [.int x])=H4 at s4 h4 h34 row4 ⊢;have hrl:(aw Pw kn).length<=63:=S.stand.keys.row kn;refine ED h34 h4 nofun (eE (a0 (by rw[bw,ai];show _+1<=1000;lia))) λv5 H5 s5 h5=>?_;refine #[_,rfl,_,rfl,_,rfl,?_];unfold uK;dsimp only;refine EC (s5 _ _ row4) λv6 H6 s6 h6=>?_;refine MJ (s6 _ _ h5) h6 (by simp) (eE (a0 (by rw[bg,bw,d8,ai];show _+1+_<=1000;lia))) λv7 H7 s7 h7=>?_;have s27:Same H2 H7:=s3.trans (s4.trans (s5.trans (s6.trans s7)));have er:((aw Pw kn).map V.int).take (fq (aw Pw kn) x)++[V.int x]++((aw Pw kn).map V.int).drop (fq (aw Pw kn) x)=(putR (aw Pw kn) x).map V.int:=by
  unfold putR;rw[bq,bq,lT,oE];rfl
 rw[er]at h7;have hal:=S.stand.at_.length;refine #[st,t,rs,as.map V.ref,kn,.ref v7,rfl,s27 _ _ S2.stand.st,s27 _ _ S2.stand.rs,by rw[ai,hal,S.stand.len];exact hk,by rw[ai,hal,S.stand.len];lia,λst' rs' H8 s8 h8 r8=>?_];have s28:Same H2 H8:=s27.trans s8;have hkr:kn<Pw.length:=by rw[S.stand.len];exact hk
 have R':bc (Pw.set kn (putR (aw Pw kn) x)):=Ey S.stand.R (Eu (S.stand.R.at_up kn) hnx) λy hy=>by
  rcases xy.mp hy with z|z
  .exact S.stand.R.at_key kn y z
  .rw[z];exact hx
 refine #[_,rfl,sh,CS,dx,_,rfl,s28 _ _ S2.ins,O.cl,O.n_kept,(by show 2<1000;decide),?_];obtain ⟨S9,T9,kd9,al,nq9⟩:=EH (r:=putR (aw Pw kn) x) S S2 hT2 (λb o n e=>g2 b o n (s1 _ _ e)) s28 (s8 _ _ h7) h8 r8 R' hroom;generalize upd H8 sh (.ins CS dx (putF "kept" (.ref st') [("kept",.ref st),("fulls",.ref p)]))=H9 at S9 T9 kd9 al nq9 ⊢;refine #[_,rfl,sh,dx,_,rfl,S9.ins,rfl,_,rfl,(by show 0<=sizeLine;decide),λg hg=>?_];have s10:=aD hg (.lst []);have g10:upd H9 g (.lst []) g=some (.lst []):=af;generalize upd H9 g (.lst [])=H10 at s10 g10 ⊢;refine #[_,rfl,_,rfl,(by show 2<=sizeLine;decide),λu hu=>?_];have s11:=aD hu (.tup [.int x,.int kn]);have u11:upd H10 u (.tup [.int x,.int kn]) u=some (.tup [.int x,.int kn]):=af;generalize upd H10 u (.tup [.int x,.int kn])=H11 at s11 u11 ⊢;refine #[(by show 1<=sizeLine;decide),λc hc=>?_];have s12:=aD hc (.lst [.ref u]);have c12:upd H11 c (.lst [.ref u]) c=some (.lst [.ref u]):=af;generalize upd H11 c (.lst [.ref u])=H12 at s12 c12 ⊢;have s92:Same H9 H12:=s10.trans (s11.trans s12);have S12:eC K CS H12 sh dx st' p qs ps Pw (Pw.set kn (putR (aw Pw kn) x)) t rs' (as.set kn v7) kn 0:=#[s92 _ _ S9.own,s92 _ _ S9.ins,S9.stand.same s92,S9.full.ext s92.ext];have L:=Eg S.stand.T S.stand.R R' hk (ly (Pw:=Pw) (r:=putR (aw Pw kn) x));refine #[sh,dx,st',p,g,c,[],[.ref u],kn,qs,ps,Pw,Pw.set kn (putR (aw Pw kn) x),t,rs',as.set kn v7,(λb=>H b=none),rfl,S12,hk,ly,S.stand.R,S.stand.len,S.stand.keys,s12 _ _ (s11 _ _ g10),?_,c12,?_,al hg,al (s10.free (s11.free hc)),(nq9 hg),(nq9 (s10.free (s11.free hc))),(λz=>by have z:H p=none:=z;rw[S.full.at_]at z;cases z),(λb z=>al (s92.free z)),λD us m qs' H' st hD hq bb sh' hDl told=>?_]
 .rw[<-L.gone,Mx hkr];exact .nil
 .rw[<-L.come,MA hkr (S.stand.R.at_up kn) (EE R' kn) hnx];exact .cons #[u,.int x,.int kn,rfl,s12 _ _ u11,rfl,rfl] .nil
 .refine q D us m qs' st' rs' (as.set kn v7) H' st (al (s92.free hD)) (λy hy=>(hq y hy).imp id λz=>al (s92.free z)) (λb o n1 n2 n3 e=>bb b o n2 (s92 _ _ (kd9 b o n1 n3 e))) sh' ?_ hDl told;have:=S12.full.at_;exact xG (T9.ext s92.ext) bb (λtab z=>by rw[this]at z;cases z) (λf z=>by rw[this]at z;cases z)
def Fw.less {Pw:List (List Int)}{kn:Nat}{r:List Int}(F:Fw Pw)(hk:kn<Pw.length)(h:r.length<=(aw Pw kn).length):Fw (Pw.set kn r):=λj=>by
 have e:=xD (r:=r) hk;by_cases z:j=kn
 .rw[z,lx hk];have:=F kn;lia
 .rw[ly (Pw:=Pw) (r:=r) j z];have:=F j;lia
section
variable {K:Frag}{H:Hp}{a b:Addr}{xs ys:List V}{Q:VK}
def MM (ha:H a=some (.tup xs))(hb:H b=some (.tup ys))(hl:xs.length+ys.length<=sizeLine)(q:∀ v H',Same H H'->H' v=some (.tup (xs++ys))->Q (.ref v) H'):vt K (.ref a) (.ref b) H Q:=
 #[a,b,xs,ys,rfl,rfl,SqT.of ha,SqT.of hb,hl,λz=>q b H (λ_ _ e=>e) (by rw[z];exact hb),λ_=>#[λz=>q a H (λ_ _ e=>e) (by rw[z,cB];exact ha),λ_ p hp=>q p _ (aD hp _) af]]
end
def MN (T:Txt K mg)(O:OwnC K mg CS)(zu:DM K CS "out" "Shelf.out" qI sf)(zq:FM P w K mg base CS 4 "row_for" mV (tP K CS))(nJ:FC P w K mg base 5 "place" kG (nr K mp))(zr:FC P w K mg base 1 "with_row" mO (tV K))(zt:FM P w K mg base CS 7 "carry_up" mW (tT K CS)):FM P w K mg base CS 8 "out" sf (ny K CS mp outR EG):=by
 refine zu.ok vL (λvs H Q E h=>?_) (λf cdv A outer s H vs Q E hr h=>?_)
 .obtain ⟨sh,dx,st,p,kn,x,qs,ps,Pw,t,rs,as,rfl,_⟩:=h;rfl
 obtain ⟨sh,dx,st,p,kn,x,qs,ps,Pw,t,rs,as,rfl,S,hk,hx,hin,hT,q⟩:=h;refine #[_,(aF (aI (i:=3) vL.nd rfl (av rfl) (jz zq O.cl hr (pv 0) (aa (pv 1) (aa (pv 2) ab))))
   (cn (bp (aV (pe (K:=K)) (pv 2) (pv 3) (by with_unfolding_all rfl)) (ao dX) bx)
   (aF (aI (i:=4) vL.nd rfl (av rfl) (az nJ hr (aa (pv 3) (aa (pv 2) ab))))
   (aF (oO (pv 0) (az zr hr (aa (eN (pv 0) rfl) (aa (pv 1) (aa (aG BX (fZ (j9 (K:=K)) (pv 3) iG (fg (pv 4))) (fZ (j9 (K:=K)) (pv 3) (fg (aG cz (pv 4) ag)) iG)) ab)))) rfl)
   (ao (aJ (jz zt O.cl hr (pv 0) (aa (pv 1) (aa (cR (aa (cm (aa (pv 2) (aa (pv 1) ab))) ab)) (aa (cR ab) ab)))))))))),?_]
 refine #[_,rfl,sh,dx,_,rfl,S.ins,rfl,_,rfl,_,rfl,sh,dx,st,p,kn,x,qs,ps,Pw,t,rs,as,rfl,S,hk,hx,λa ha hrow=>?_];have hfl:((aw Pw kn).map V.int).all eY=true:=eI.mpr λy hy=>by
  obtain ⟨z,_,rfl⟩:=cC.mp hy;rfl
 refine #[λU' H'=>U'=[some (.ref sh),some (.int kn),some (.int x),some (.ref a),none]/\H=H',?_,?_]
 .refine #[_,rfl,_,rfl,a,_,rfl,.inr (SqT.of hrow),rfl,hfl,_,rfl,?_];show if (!inV (.int x) ((aw Pw kn).map V.int))=true then _ else _
  rw[xE,aO (show x∈aw Pw kn from hin)];exact iteF #[rfl,rfl]
 rintro _ _ ⟨rfl,rfl⟩;have hfew:=S.stand.few;have s1:Same H H:=λ_ _ e=>e;have hrow1:=s1 _ _ hrow;refine #[_,rfl,_,rfl,a,aw Pw kn,x,rfl,hrow1,S.stand.R.at_up kn,hT.ext s1.ext,λH2 g2 hT2=>?_];obtain ⟨tab,hmp⟩:∃ tab,H mp=some (.tbl tab):=by
  obtain ⟨tab,e,_⟩:=(hT.ext s1.ext).ex;exact #[tab,e]
 have keep2:∀{b:Addr} {o:HO},H b=some o->(∀ tab,o≠.tbl tab)->H2 b=some o:=λ{b o} e n=>g2 b o (λz=>by
  rw[z]at e;have:=s1 _ _ e;rw[hmp]at this;exact n _ (aM this).symm) (s1 _ _ e)
 have tp2:Tp H H2:=λb us e=>keep2 e nofun;have S2:cJ K CS H2 sh dx st p qs ps Pw t rs as:=#[keep2 S.own nofun,keep2 S.ins nofun,jK tp2 S.stand,S.full.tp tp2 λb us e=>keep2 e nofun];have row2:=tp2 _ _ hrow;refine #[_,rfl,sh,CS,dx,_,_,rfl,S2.ins,O.cl,O.n_kept,rfl,_,rfl,?_];refine #[_,rfl,_,rfl,_,rfl,EB row2 λv3 H3 s3 h3=>?_];have hrl:(aw Pw kn).length<=63:=S.stand.keys.row kn;refine #[_,rfl,_,rfl,_,_,rfl,rfl,_,rfl,?_];unfold uK;dsimp only;rw[show ((fq (aw Pw kn) x:Nat):Int)+1=((fq (aw Pw kn) x+1:Nat):Int) from rfl];refine EC (s3 _ _ row2) λv6 H6 s6 h6=>?_;refine MM (s6 _ _ h3) h6 (eE (a0 (by rw[bw,d8,ai];lia))) λv7 H7 s7 h7=>?_;have s27:Same H2 H7:=s3.trans (s6.trans s7);have er:((aw Pw kn).map V.int).take (fq (aw Pw kn) x)++((aw Pw kn).map V.int).drop (fq (aw Pw kn) x+1)=(outR (aw Pw kn) x).map V.int:=by
  unfold outR;rw[bq,lT,oE];rfl
 rw[er]at h7;have hal:=S.stand.at_.length;refine #[st,t,rs,as.map V.ref,kn,.ref v7,rfl,s27 _ _ S2.stand.st,s27 _ _ S2.stand.rs,by rw[ai,hal,S.stand.len];exact hk,by rw[ai,hal,S.stand.len];lia,λst' rs' H8 s8 h8 r8=>?_];have s28:Same H2 H8:=s27.trans s8;have hkr:kn<Pw.length:=by rw[S.stand.len];exact hk
 have R':bc (Pw.set kn (outR (aw Pw kn) x)):=Ey S.stand.R ((S.stand.R.at_up kn).sublist (lr _ _)) λy hy=>S.stand.R.at_key kn y ((lr _ _).mem hy);have hol:=(lr (aw Pw kn) x).length_le;refine #[_,rfl,sh,CS,dx,_,rfl,s28 _ _ S2.ins,O.cl,O.n_kept,(by show 2<1000;decide),?_];obtain ⟨S9,T9,kd9,al,nq9⟩:=EH (r:=outR (aw Pw kn) x) S S2 hT2 (λb o n e=>g2 b o n (s1 _ _ e)) s28 (s8 _ _ h7) h8 r8 R' (S.stand.keys.less hkr hol);generalize upd H8 sh (.ins CS dx (putF "kept" (.ref st') [("kept",.ref st),("fulls",.ref p)]))=H9 at S9 T9 kd9 al nq9 ⊢;refine #[_,rfl,sh,dx,_,rfl,S9.ins,rfl,_,rfl,_,rfl,_,rfl,(by show 2<=sizeLine;decide),λu hu=>?_];have s10:=aD hu (.tup [.int x,.int kn]);have u10:upd H9 u (.tup [.int x,.int kn]) u=some (.tup [.int x,.int kn]):=af;generalize upd H9 u (.tup [.int x,.int kn])=H10 at s10 u10 ⊢;refine #[(by show 1<=sizeLine;decide),λg hg=>?_];have s11:=aD hg (.lst [.ref u]);have g11:upd H10 g (.lst [.ref u]) g=some (.lst [.ref u]):=af;generalize upd H10 g (.lst [.ref u])=H11 at s11 g11 ⊢;refine #[(by show 0<=sizeLine;decide),λc hc=>?_];have s12:=aD hc (.lst []);have c12:upd H11 c (.lst []) c=some (.lst []):=af;generalize upd H11 c (.lst [])=H12 at s12 c12 ⊢;have s92:Same H9 H12:=s10.trans (s11.trans s12);have S12:eC K CS H12 sh dx st' p qs ps Pw (Pw.set kn (outR (aw Pw kn) x)) t rs' (as.set kn v7) kn 0:=#[s92 _ _ S9.own,s92 _ _ S9.ins,S9.stand.same s92,S9.full.ext s92.ext];have L:=Eg S.stand.T S.stand.R R' hk (ly (Pw:=Pw) (r:=outR (aw Pw kn) x));refine #[sh,dx,st',p,g,c,[.ref u],[],kn,qs,ps,Pw,Pw.set kn (outR (aw Pw kn) x),t,rs',as.set kn v7,(λb=>H b=none),rfl,S12,hk,ly,S.stand.R,S.stand.len,S.stand.keys,s12 _ _ g11,?_,c12,?_,al (s10.free hg),al (s10.free (s11.free hc)),(nq9 (s10.free hg)),(nq9 (s10.free (s11.free hc))),(λz=>by have z:H p=none:=z;rw[S.full.at_]at z;cases z),(λb z=>al (s92.free z)),λD us m qs' H' st hD hq bb sh' hDl told=>?_]
 .rw[<-L.gone,MB hkr (S.stand.R.at_up kn) (EE S.stand.R kn) hin];exact .cons #[u,.int x,.int kn,rfl,s12 _ _ (s11 _ _ u10),rfl,rfl] .nil
 .rw[<-L.come,Mz hkr];exact .nil
 .refine q D us m qs' st' rs' (as.set kn v7) H' st (al (s92.free hD)) (λy hy=>(hq y hy).imp id λz=>al (s92.free z)) (λb o n1 n2 n3 e=>bb b o n2 (s92 _ _ (kd9 b o n1 n3 e))) sh' ?_ hDl told;have:=S12.full.at_;exact xG (T9.ext s92.ext) bb (λtab z=>by rw[this]at z;cases z) (λf z=>by rw[this]at z;cases z)
def MO {c A B:Prop}[Decidable c](hc:¬ c)(h:A):if (!decide c)=true then A else B:=by
 rw[aU hc];exact h
def nz (b:Bool)(row:List Int)(x:Int):List Int:=if b then putR row x else outR row x
def tW (Pw:List (List Int))(kn:Nat)(x:Int)(b:Bool):List (List Int):=Pw.set kn (nz b (aw Pw kn) x)
structure fb (H:Hp)(r:Addr)(as:List Addr)(Pw:List (List Int)):Prop where
 at_:H r=some (.tup (as.map V.ref))
 Pw:bD H as Pw
def fb.tp {r:Addr}{Pw:List (List Int)}(h:fb H r as Pw)(e:Tp H H'):fb H' r as Pw:=#[e _ _ h.at_,xl e h.Pw]
def fb.get {r:Addr}{Pw:List (List Int)}(h:fb H r as Pw){k:Nat}(hk:k<Pw.length):∃ a,atI (as.map V.ref) (k:Int)=some (.ref a)/\H a=some (.tup ((aw Pw k).map V.int)):=by
 obtain ⟨a,h1,h2⟩:=h.Pw.get hk;exact #[a,fO h1,h2]
def MP {p:Addr}{o:List V}(s:LS K L d H')(hp:H' p=some (.tup o)):p≠d:=λz=>by
 obtain ⟨_,_,_,e,_⟩:=s.ex;rw[<-z,hp]at e;cases e
def MQ {p:Addr}(s:LS K L d H')(hp:H' p=none):p≠d:=λz=>by
 obtain ⟨_,_,_,e,_⟩:=s.ex;rw[<-z,hp]at e;cases e
def eQ (s:LS K L d H)(k:Keep d H H'):Tp H H':=λb us e=>k b _ (MP s e) e
inductive xH (K:Frag)(vs:List V)(H:Hp)(Q:VK)(w_1:XK):Prop
 | c:∀(d L t r:Addr) (ps:List Nat) (Pw:List (List Int)) (as:List Addr),vs=[.ref d,.ref t,.ref r]->H t=some (.tup (bY ps))->ps.length<=40->fb H r as Pw->Pw.length=ps.length+1->bc Pw->(∀ k,(aw Pw k).length<=62)->LS K L d H->(∀(u:Addr) (kn:Nat) (x:Int) (H':Hp),H u=none->kn<ps.length+1->nu x->H' u=some (.tup [.int kn,.int x,.bl (!decide (x∈aw Pw kn))])->Keep d H H'->LS K L d H'->Q (.ref u) H')->xH K vs H Q w_1
def MR (T:Txt K mg)(zv:DF K mg "_law_step" qA rV)(bM:FC P w K mg base 2 "_law_take" fH (f9 K))(nB:FC P w K mg base 3 "_law_key" kJ (m4 K)):FC P w K mg base 4 "_law_step" rV (xH K):=by
 refine zv.ok qR (λvs H Q E h=>?_) (λf cdv A outer s H vs Q E hr h=>?_)
 .obtain ⟨d,L,t,r,ps,Pw,as,rfl,_⟩:=h;rfl
 obtain ⟨d,L,t,r,ps,Pw,as,rfl,ht,hps,hR,hlen,R,hz,hs,q⟩:=h;refine #[_,(aF (aI (i:=3) qR.nd rfl (av rfl) (az bM hr (aa (pv 0) (aa (aP (bH (K:=K)) rfl T.bG bE (aa (pv 1) ab)) ab))))
   (aF (aI (i:=4) qR.nd rfl (av rfl) (az nB hr (aa (pv 0) ab)))
   (cn (bp (PW.pt (ix (aV gK (aP (bH (K:=K)) rfl T.bG bE (aa (ax (aL (K:=K)) (pv 2) (pv 3) (λ_ _=>rfl)) ab)) ag (aY _)) (iw (aV d9 (az bM hr (aa (pv 0) (aa ag ab))) ag (aY _))))) (ao (aI (i:=4) qR.nd rfl (av rfl) (ax (aL (K:=K)) (ax (aL (K:=K)) (pv 2) (pv 3) (λ_ _=>rfl)) (az bM hr (aa (pv 0) (aa (aP (bH (K:=K)) rfl T.bG bE (aa (ax (aL (K:=K)) (pv 2) (pv 3) (λ_ _=>rfl)) ab)) ab))) (λ_ _=>rfl)))) bx)
   (ao (aJ (cm (aa (pv 3) (aa (pv 4) (aa (iE (pe (K:=K)) (pv 4) (ax (aL (K:=K)) (pv 2) (pv 3) (λ_ _=>rfl)) (by with_unfolding_all rfl)) ab))))))))),?_]
 have el:=cN ps;refine #[_,rfl,_,rfl,_,_,rfl,.inr (SqT.of ht),?_];rw[el];refine #[d,L,((ps.length+1:Nat):Int),rfl,#[by lia,by lia],hs,λn H1 n0 n1 k1 s1=>?_];obtain ⟨kn,rfl⟩:∃ kn:Nat,n=kn:=#[n.toNat,by lia];have hkn:kn<ps.length+1:=by lia
 refine #[_,rfl,d,L,rfl,s1,λx H2 x0 x1 k2 s2=>?_];have k02:=k1.trans k2;have R2:=hR.tp (eQ hs k02);obtain ⟨a,ha,hrow⟩:=R2.get (k:=kn) (by lia);have hl:=hz kn;refine #[λU' H'=>∃ x:Int,U'=[some (.ref d),some (.ref t),some (.ref r),some (.int kn),some (.int x)]/\nu x/\Keep d H H'/\LS K L d H',?_,?_]
 .refine #[_,rfl,_,rfl,_,_,_,_,rfl,rfl,SqT.of R2.at_,ha,_,_,rfl,.inr (SqT.of hrow),_,_,rfl,rfl,_,rfl,?_];refine ite2 (λc=>?_) (λc=>?_)
  .have c':(0:Int)<(((aw Pw kn).map V.int).length:Int):=bW c;rw[ai]at c';refine #[_,rfl,d,L,2,rfl,by decide,s2,λv H3 _ _ k3 s3=>#[rfl,_,rfl,?_]];have R3:=R2.tp (eQ s2 k3);have hrow3:=eQ s2 k3 _ _ hrow;refine ite2 (λ_=>?_) (λ_=>?_)
   .refine #[_,rfl,_,rfl,_,_,_,_,rfl,rfl,SqT.of R3.at_,ha,_,rfl,_,rfl,_,rfl,_,_,_,_,rfl,rfl,SqT.of R3.at_,ha,_,_,rfl,.inr (SqT.of hrow3),?_];rw[ai];refine #[d,L,(((aw Pw kn).length:Nat):Int),rfl,#[by lia,by lia],s3,λn H4 n0 n1 k4 s4=>?_];obtain ⟨i,rfl⟩:∃ i:Nat,n=i:=#[n.toNat,by lia];have hi:i<(aw Pw kn).length:=by lia
    have hrow4:=eQ s3 k4 _ _ hrow3;refine #[_,_,_,_,rfl,rfl,SqT.of hrow4,cG (v:=.int ((aw Pw kn)[i])) (by rw[bj,aC hi];rfl),?_];exact #[_,rfl,R.at_key kn _ (cE hi),k02.trans (k3.trans k4),s4]
   .exact #[x,rfl,#[x0,x1],k02.trans k3,s3]
  .refine iteF ?_;exact #[x,rfl,#[x0,x1],k02,s2]
 rintro _ H3 ⟨x,rfl,hx,k3,s3⟩;have R3:=hR.tp (eQ hs k3);obtain ⟨a,ha,hrow⟩:=R3.get (k:=kn) (by lia);have hfl:((aw Pw kn).map V.int).all eY=true:=eI.mpr λy hy=>by
  obtain ⟨z,_,rfl⟩:=cC.mp hy;rfl
 refine #[_,rfl,_,rfl,_,rfl,_,rfl,_,rfl,_,_,_,_,rfl,rfl,SqT.of R3.at_,ha,a,_,rfl,.inr (SqT.of hrow),rfl,hfl,(by show 3<=sizeLine;decide),λu hu=>?_];rw[xE];have su:=aD hu (.tup [.int kn,.int x,.bl (!decide (x∈aw Pw kn))]);have hu0:H u=none:=by
  cases e:H u with
  | none=>rfl
  | some o=>
   have:=k3 u o (MQ s3 hu) e;rw[hu]at this;cases this
 exact q u kn x _ hu0 hkn hx af (λb o n e=>su _ _ (k3 b o n e)) (s3.same su)
def xI {l:List Int}(h:l.Pairwise (· < ·)):l.Pairwise λa b=>Srt.blt b a=false:=List.Pairwise.imp (λ{a b} (h:a<b)=>aU (by lia)) h
def EI {l:List Int}(h:l.Pairwise (· < ·)):l.Nodup:=List.Pairwise.imp (λ{a b} (q:a<b)=>by lia) h
def EJ {l m:List Int}(h1:l.Pairwise (· < ·))(h2:m.Pairwise (· < ·))(e:∀ x,x∈l↔x∈m):l=m:=by
 have p:=(uy (EI h1) (EI h2)).mpr e;rw[o7 p (xI h1),u9 (xI h2)]
def MS {row:List Int}{x:Int}(h:row.Pairwise (· < ·))(n:x∉row):dg (row++[x])=putR row x:=by
 refine (o7 ?_ (xI (Eu h n))).symm;unfold putR;have:=(List.perm_append_comm (l₁:=[x]) (l₂:=row.drop (loN row x))).append_left (row.take (loN row x));rwa[<-gG,<-gG,eK]at this
def MT {row:List Int}{x:Int}(h:row.Pairwise (· < ·))(hx:x∈row):row.filter (λy=>!decide (y=x))=outR row x:=by
 refine EJ (h.sublist List.filter_sublist) (h.sublist (lr _ _)) λy=>?_;rw[Ew h hx,d7];simp
inductive xJ (K:Frag)(vs:List V)(H:Hp)(Q:VK)(w_1:XK):Prop
 | c:∀(r:Addr) (kn:Nat) (x:Int) (b:Bool) (Pw:List (List Int)) (as:List Addr),vs=[.ref r,.int kn,.int x,.bl b]->fb H r as Pw->kn<Pw.length->Pw.length<=60->bc Pw->(∀ k,(aw Pw k).length<=62)->(b=!decide (x∈aw Pw kn))->(∀(r':Addr) (as':List Addr) (H':Hp),H r'=none->Same H H'->fb H' r' as' (tW Pw kn x b)->Q (.ref r') H')->xJ K vs H Q w_1
def MU (T:Txt K mg)(zw:DF K mg "_law_behind" qB rW):FC P w K mg base 1 "_law_behind" rW (xJ K):=by
 refine zw.ok CD (λvs H Q E h=>?_) (λf cdv A outer s H vs Q E hr h=>?_)
 .obtain ⟨r,kn,x,b,Pw,as,rfl,_⟩:=h;rfl
 obtain ⟨r,kn,x,b,Pw,as,rfl,hR,hkn,hz0,R,hz,hb,q⟩:=h;refine #[_,(aF (aI (i:=4) CD.nd rfl (av rfl) (c9 (iN (K:=K)) rfl T.eR boot_list (aa (pv 0) ab)))
   (cn (bp (c6 (pv 3)) (ao (j5 (c9 (gQ (K:=K)) rfl T.eS boot_tuple (aa (aP (Co Int) rfl T.nA boot_sorted (aa (aG vk (ax (bh (K:=K)) (pv 4) (pv 1) (λ_ _=>rfl)) (cm (aa (pv 2) ab))) ab)) ab)) (l6 (pv 4) (pv 1) md))) (ao (j5 (c9 (gQ (K:=K)) rfl T.eS boot_tuple (aa (de (N:=["_law_other","_law_key_here"]) (own:=1) (cap:=[2]) rfl (gJ (ax (bh (K:=K)) (pv 4) (pv 1) (λ_ _=>rfl))) #[rfl,rfl,rfl,rfl,rfl,rfl] (λ_ _ _ _ _=>(aQ (i:=0) (show List.Nodup (["_law_other","_law_key_here"]:List Str) by decide +kernel) rfl (av rfl))) (λ_ _ _ _ _=>(gO (aV l8 (pv 0) (pv 1) (aY _)))) (λ_ _ _ _ _=>(pv 0))) ab)) (l6 (pv 4) (pv 1) md))))
   (ao (aJ (c9 (gQ (K:=K)) rfl T.eS boot_tuple (aa (pv 4) ab)))))),?_]
 obtain ⟨a,ha,hrow⟩:=hR.get hkn;have hl:=hz kn;have hal:=hR.Pw.length;refine #[_,rfl,r,_,rfl,.inr (SqT.of hR.at_),λl hl0=>?_];have s1:=aD hl0 (.lst (as.map V.ref));have h1:upd H l (.lst (as.map V.ref)) l=some (.lst (as.map V.ref)):=af;generalize upd H l (.lst (as.map V.ref))=H1 at s1 h1 ⊢;refine #[λU' H'=>∃ v:Addr,U'=[some (.ref r),some (.int kn),some (.int x),some (.bl b),some (.ref l)]/\H' l=some (.lst ((as.map V.ref).set kn (.ref v)))/\H' v=some (.tup ((nz b (aw Pw kn) x).map V.int))/\Same H H',?_,?_]
 .have ha1:=s1 _ _ hrow;have nal:∀{c:Addr} {us:List V} {H':Hp},H' l=some (.lst (as.map V.ref))->H' c=some (.tup us)->c≠l:=λe1 e2 z=>by rw[z,e1]at e2;cases e2
  have fin:∀(v:Addr) (H':Hp),Same H1 H'->H' v=some (.tup ((nz b (aw Pw kn) x).map V.int))->∃ v':Addr,[some (V.ref r),some (.int kn),some (.int x),some (.bl b),some (.ref l)]=[some (.ref r),some (.int kn),some (.int x),some (.bl b),some (.ref l)]/\upd H' l (.lst ((as.map V.ref).set kn (.ref v))) l=some (.lst ((as.map V.ref).set kn (.ref v')))/\upd H' l (.lst ((as.map V.ref).set kn (.ref v))) v'=some (.tup ((nz b (aw Pw kn) x).map V.int))/\Same H (upd H' l (.lst ((as.map V.ref).set kn (.ref v)))):=λv H' s' hv=>
   #[v,rfl,af,by rw[ah (nal (s' _ _ h1) hv)];exact hv,λc o e=>by rw[ah (au e hl0)];exact s' _ _ (s1 _ _ e)]
  refine #[_,rfl,_,rfl,?_];cases b with
  | true=>
   refine iteT ?_;have hx:x∉aw Pw kn:=λz=>by rw[aO z]at hb;cases hb
   refine #[_,rfl,_,rfl,_,_,_,_,rfl,rfl,SqL.of h1,ha,_,rfl,(by show 1<=sizeLine;decide),λu hu=>?_];have s2:=aD hu (.tup [.int x]);have h2:upd H1 u (.tup [.int x]) u=some (.tup [.int x]):=af;generalize upd H1 u (.tup [.int x])=H2 at s2 h2 ⊢;refine ED (s2 _ _ ha1) h2 nofun (eE (a0 (by rw[ai];show _+1<=1000;lia))) λv3 H3 s3 h3=>?_;rw[show (aw Pw kn).map V.int++[V.int x]=(aw Pw kn++[x]).map V.int by rw[bq];rfl]at h3;refine #[v3,_,aw Pw kn++[x],rfl,SqT.of h3,aA.ints,(by rw[bg,cT];lia),λl4 ws hl4 hw=>?_];rw[hw.toInts,MS (R.at_up kn) hx];have s4:=aD hl4 (.lst ((putR (aw Pw kn) x).map V.int));refine #[l4,_,rfl,.inl #[SqL.of af,λv5 hv5=>?_]];have s5:=aD hv5 (.tup ((putR (aw Pw kn) x).map V.int));have s15:Same H1 _:=s2.trans (s3.trans (s4.trans s5));refine #[_,rfl,_,rfl,l,_,_,kn,rfl,rfl,s15 _ _ h1,m5 (by rw[ai,hal];exact hkn),?_];exact fin v5 _ s15 af
  | false=>
   refine iteF ?_;have hx:x∈aw Pw kn:=Classical.byContradiction λz=>by rw[aU z]at hb;cases hb
   refine #[_,rfl,_,rfl,_,_,_,_,rfl,rfl,SqL.of h1,ha,a,rfl,#[_,SqT.of ha1],λD hD=>?_];refine jy (xs:=(aw Pw kn).map V.int) (λi U H2=>∃ x0:Option V,U=[x0,some (.int x)]/\H2 D=some (.lst ((((aw Pw kn).take i).filter (λy=>!decide (y=x))).map V.int))/\But D H1 H2) ?_ ?_ ?_ ?_
   .exact #[_,rfl,af,λb o n e=>by rw[ah n];exact e]
   .rintro i U H2 _ ⟨x0,rfl,_,k2⟩;exact SqT.of (k2 _ _ (au ha1 hD) ha1)
   .rintro i m v U H2 hv hm ⟨x0,rfl,h2,k2⟩;rw[ai]at hm;rw[bj]at hv;obtain ⟨y,hy,rfl⟩:=fS.mp hv;obtain ⟨hi,rfl⟩:=aZ.mp hy;have hfl:=dW (λy=>!decide (y=x)) ((aw Pw kn).take i);rw[bw]at hfl;rw[cy hi,c5];refine #[_,rfl,_,rfl,rfl,_,rfl,?_];by_cases c:(aw Pw kn)[i]=x
    .refine fh (show V.int _=V.int _ by rw[c]) ?_;refine #[m-1,by lia,by rw[ai];lia,_,rfl,?_,k2];rw[eJ (by rw[aO c];decide),jY,cB];exact h2
    .refine MO (λz=>c (V.int.inj z)) ?_;refine #[_,rfl,_,h2,a0 (by rw[ai];lia),m-1,by lia,by rw[ai];lia,_,rfl,?_,λb o n e=>by rw[ah n];exact k2 b o n e];rw[af,dw (by rw[aU c];rfl),jY,bq];rfl
   .rintro U H2 ⟨x0,rfl,h2,k2⟩;rw[ai,bA (aj _),MT (R.at_up kn) hx]at h2;have s2:Same H1 H2:=λb o e=>k2 b o (au e hD) e;refine #[D,_,rfl,.inl #[SqL.of h2,λv5 hv5=>?_]];have s15:Same H1 _:=s2.trans (aD hv5 (.tup ((outR (aw Pw kn) x).map V.int)));refine #[_,rfl,_,rfl,l,_,_,kn,rfl,rfl,s15 _ _ h1,m5 (by rw[ai,hal];exact hkn),?_];exact fin v5 _ s15 af
 rintro _ H2 ⟨v,rfl,h2,hv,s2⟩;refine #[_,rfl,l,_,rfl,.inl #[SqL.of h2,λr' hr'=>?_]];have s3:=aD hr' (.tup ((as.map V.ref).set kn (.ref v)));have s03:=s2.trans s3;refine q r' (as.set kn v) _ (s2.free hr') s03 #[?_,xF (s3 _ _ hv) kn (hR.Pw.ext s03)];rw[af,lY]
def dl (Av:List Addr)(H:Hp):Hp:=λb=>if b∈Av then none else H b
section
variable {Av:List Addr}{H H':Hp}
def MV {b:Addr}(h:b∉Av):dl Av H b=H b:=ak h
def MW:Same (dl Av H) H:=λb o e=>by
 unfold dl at e;split at e
 .cases e
 .exact e
def MX (k:KpV Av H H'):Same (dl Av H) (dl Av H'):=λb o e=>by
 unfold dl at e ⊢;split at e
 .cases e
 .rename_i n;rw[ak n];exact k b o n e
def EK {b:Addr}{o:HO}(e:H b=some o)(h:b∉Av):dl Av H b=some o:=by rw[MV h];exact e
end
def optL (ps:List Nat):List (Option Int):=none::ps.map λ(p:Nat)=>some (Int.ofNat p)
def EL {K:Frag}(ps:List Nat):aA K H (optL ps) (bY ps):=by
 refine .cons rfl ?_
 induction ps with
 | nil=>exact .nil
 | cons p ps ih=>exact .cons rfl ih
def xK {K:Frag}:∀{as:List Addr} {Pw:List (List Int)},bD H as Pw->aA K H (Pw.map Tup.mk) (as.map V.ref)
 | _,_,.nil=>.nil
 | _,_,.cons h t=>.cons #[_,_,rfl,SqT.of h,aA.ints] (xK t)
abbrev StD:Type:=Tup (Option Int)×Tup (Tup Int)
def xM (ps:List Nat)(Pw:List (List Int)):StD:=(#[optL ps],#[Pw.map Tup.mk])
def MY {K:Frag}{st t:Addr}(S:cO H st ps Pw t rs as):Rep.has K H (xM ps Pw) (.ref st):=
 #[st,_,_,rfl,S.st,#[_,_,rfl,SqT.of S.tr,EL ps],#[_,_,rfl,SqT.of S.rs,xK S.at_]]
inductive xN (K:Frag)(vs:List V)(H:Hp)(Q:VK)(w_1:XK):Prop
 | c:∀(d L r wa:Addr) (ps w:List Nat) (Pw:List (List Int)) (as:List Addr),vs=[.ref d,.ref r,.ref wa]->fb H r as Pw->Pw.length=ps.length+1->(∀ k,(aw Pw k).length<=62)->cI H wa ps w->LS K L d H->(∀(key:Int) (H':Hp),Keep d H H'->LS K L d H'->Q (.int key) H')->xN K vs H Q w_1
def MZ (T:Txt K mg)(zx:DF K mg "_law_sought" qC rX)(bM:FC P w K mg base 2 "_law_take" fH (f9 K))(nB:FC P w K mg base 3 "_law_key" kJ (m4 K)):FC P w K mg base 4 "_law_sought" rX (xN K):=by
 refine zx.ok qS (λvs H Q E h=>?_) (λf cdv A outer s H vs Q E hr h=>?_)
 .obtain ⟨d,L,r,wa,ps,w,Pw,as,rfl,_⟩:=h;rfl
 obtain ⟨d,L,r,wa,ps,w,Pw,as,rfl,hR,hlen,hz,W,hs,q⟩:=h;refine #[_,(aF (aI (i:=3) qS.nd rfl (av rfl) (az nB hr (aa (pv 0) ab)))
   (aF (aI (i:=4) qS.nd rfl (av rfl) (ax (aL (K:=K)) (pv 1) (ax (bh (K:=K)) (pv 2) (az bM hr (aa (pv 0) (aa (aP (bH (K:=K)) rfl T.bG bE (aa (pv 2) ab)) ab))) (λ_ _=>rfl)) (λ_ _=>rfl)))
   (cn (bp (PW.pt (ix (aV gK (aP (bH (K:=K)) rfl T.bG bE (aa (pv 4) ab)) ag (aY _)) (iw (aV gK (az bM hr (aa (pv 0) (aa ag ab))) ag (aY _))))) (ao (aI (i:=3) qS.nd rfl (av rfl) (aG dI (aG cz (ax (aL (K:=K)) (pv 4) (az bM hr (aa (pv 0) (aa (aP (bH (K:=K)) rfl T.bG bE (aa (pv 4) ab)) ab))) (λ_ _=>rfl)) (az bM hr (aa (pv 0) (aa ag ab)))) ag))) bx)
   (ao (aJ (aP (uI rfl) rfl T.xZ boot_max (aa (aG dI ag (aG iC ag ag)) (aa (aP (Ad rfl) rfl T.x9 boot_min (aa (aG dI (aG iC ag ag) ag) (aa (pv 3) ab))) ab)))))))),?_]
 have hwl:=W.len;have hw0:0<w.length:=l0.mpr W.ne;have nw:wa≠d:=λz=>by
  obtain ⟨_,_,_,e,_⟩:=hs.ex;rw[<-z,W.at_]at e;cases e
 refine #[_,rfl,d,L,rfl,hs,λx H1 x0 x1 k1 s1=>?_];have W1:=k1 _ _ nw W.at_;refine #[_,rfl,_,rfl,_,rfl,_,rfl,_,_,rfl,.inl (SqL.of W1),d,L,_,rfl,by rw[ai];lia,s1,λn H2 n0 n1 k2 s2=>?_];rw[ai]at n1;obtain ⟨i,rfl⟩:∃ i:Nat,n=i:=#[n.toNat,by lia];have W2:=k2 _ _ nw W1;have k02:=k1.trans k2;have R2:=hR.tp (eQ hs k02);obtain ⟨a,ha,hrow⟩:=R2.get (k:=w.getD i 0) (by rw[hlen];exact W.kn _ (lp (by lia)));refine #[_,_,_,_,rfl,rfl,SqL.of W2,gY (by lia),_,_,_,_,rfl,rfl,SqT.of R2.at_,ha,?_];have hl:=hz (w.getD i 0);refine #[λU' H'=>∃ y:Int,U'=[some (.ref d),some (.ref r),some (.ref wa),some (.int y),some (.ref a)]/\Keep d H H'/\LS K L d H',?_,?_]
 .refine #[_,rfl,_,_,rfl,.inr (SqT.of hrow),_,_,rfl,rfl,_,rfl,?_];refine ite2 (λc=>?_) (λc=>?_)
  .have c':(0:Int)<(((aw Pw (w.getD i 0)).map V.int).length:Int):=bW c;rw[ai]at c';refine #[_,rfl,d,L,3,rfl,by decide,s2,λv H3 _ _ k3 s3=>#[_,_,rfl,rfl,_,rfl,?_]];have hrow3:=eQ s2 k3 _ _ hrow;refine ite2 (λ_=>?_) (λ_=>#[x,rfl,k02.trans k3,s3]);refine #[_,rfl,_,rfl,_,rfl,_,_,rfl,.inr (SqT.of hrow3),d,L,_,rfl,by rw[ai];lia,s3,λn H4 n0 n1 k4 s4=>?_];rw[ai]at n1;obtain ⟨j,rfl⟩:∃ j:Nat,n=j:=#[n.toNat,by lia];have hrow4:=eQ s3 k4 _ _ hrow3;have hj:j<(aw Pw (w.getD i 0)).length:=by lia
   refine #[_,_,_,_,rfl,rfl,SqT.of hrow4,cG (v:=.int ((aw Pw (w.getD i 0))[j])) (by rw[bj,aC hj];rfl),?_];refine #[_,rfl,d,L,3,rfl,by decide,s4,λv5 H5 _ _ k5 s5=>?_];exact #[_,_,rfl,rfl,_,_,rfl,rfl,_,rfl,k02.trans (k3.trans (k4.trans k5)),s5]
  .exact #[x,rfl,k02,s2]
 rintro _ H6 ⟨y,rfl,k6,s6⟩;have cp:CPow 10 60:=by unfold CPow;decide
 exact #[_,_,rfl,rfl,cp,_,_,rfl,rfl,_,_,rfl,rfl,cp,_,_,rfl,rfl,_,rfl,_,_,rfl,_,_,rfl,q _ H6 k6 s6]
def EM (n:Nat):(List.replicate n true).all id=true:=eI.mpr λ_ hb=>List.eq_of_mem_replicate hb
inductive xO (K:Frag)(vs:List V)(H:Hp)(Q:VK)(w_1:XK):Prop
 | c:∀(u:Addr) (a b c:Int),vs=[.ref u]->H u=some (.tup [.int a,.int b,.int c])->(∀ H',Same H H'->Q (.bl true) H')->xO K vs H Q w_1
def M0 (T:Txt K mg)(zy:DF K mg "is_line" qh rH)(nH:FC P w K mg base 1 "is_whole" kF (ni K)):FC P w K mg base 2 "is_line" rH (xO K):=by
 refine zy.ok Jk (λvs H Q E h=>?_) (λf cdv A outer s H vs Q E hr h=>?_)
 .obtain ⟨u,a,b,c,rfl,_⟩:=h;rfl
 obtain ⟨u,a,b,c,rfl,hu,q⟩:=h;refine #[_,(cn (bp (PW.pt (jl (dG (c6 (aP (mr (K:=K)) rfl T.i4 boot_isinstance (aa (pv 0) (aa (fF (v:=.ty "tuple") rfl T.eS boot_tuple rfl) ab))))) (jk (aV l8 (aP (bH (K:=K)) rfl T.bG bE (aa (pv 0) ab)) ag (aY _))))) (ao (aJ cL)) bx)
   (ao (aJ (aP (vd rfl) rfl T.xX boot_all (aa (de (N:=["part"]) (own:=1) (cap:=[]) rfl (gJ (pv 0)) #[rfl,rfl,rfl,rfl,rfl,rfl] (λ_ _ _ _ _=>(aQ (i:=0) (show List.Nodup (["part"]:List Str) by decide +kernel) rfl (av rfl))) (λ_ _ _ _ _=>dN) (λ_ _ _ _ _=>(az nH hr (aa (pv 0) ab)))) ab))))),?_]
 refine #[λU' H'=>U'=[some (.ref u)]/\H=H',?_,?_]
 .refine #[_,rfl,_,_,_,_,rfl,.tup hu,Hk,_,rfl,?_];refine iteF ?_;refine #[_,rfl,_,_,rfl,.inr (SqT.of hu),rfl,_,rfl,?_];exact fh rfl #[rfl,rfl]
 rintro _ _ ⟨rfl,rfl⟩;refine #[_,rfl,u,rfl,#[_,SqT.of hu],λD hD=>?_];refine jy (xs:=[.int a,.int b,.int c]) (λi U H2=>∃ x0:Option V,U=[x0]/\H2 D=some (.lst ((List.replicate i true).map V.bl))/\But D H H2) ?_ ?_ ?_ ?_
 .exact #[_,rfl,af,λb o n e=>by rw[ah n];exact e]
 .rintro i U H2 _ ⟨x0,rfl,_,k2⟩;exact SqT.of (k2 _ _ (au hu hD) hu)
 .rintro i m v U H2 hv hm ⟨x0,rfl,h2,k2⟩;have hi:i<3:=(aZ.mp hv).1;have hm3:i+m=3:=hm;obtain ⟨n,rfl⟩:∃ n,v=.int n:=by
   rcases i with _|_|_|i
   .cases hv;exact #[_,rfl]
   .cases hv;exact #[_,rfl]
   .cases hv;exact #[_,rfl]
   .omega
  refine d3 ?_;refine #[_,rfl,_,true,rfl,.int n,_,h2,a0 (by rw[ai,gA];lia),m-1,by lia,(by show i+1+(m-1)=3;lia),_,rfl,?_,λb o n e=>by rw[ah n];exact k2 b o n e];rw[af,ou,bq];rfl
 .rintro U H2 ⟨x0,rfl,h2,k2⟩;exact #[D,List.replicate 3 true,rfl,SqL.of h2,q H2 λb o e=>k2 b o (au e hD) e]
inductive xP (K:Frag)(vs:List V)(H:Hp)(Q:VK)(w_1:XK):Prop
 | c:∀(q:Addr) (key:Int) (ws:List V) (es:List En),vs=[.ref q,nV (aE es key),.int key]->H q=some (.lst ws)->aA K H es ws->Rise es->es.length<=2000->Q (.bl true) H->xP K vs H Q w_1
def M1 (T:Txt K mg)(zA:DF K mg "is_place_in" qi rJ):FC P w K mg base 1 "is_place_in" rJ (xP K):=by
 refine zA.ok Jl (λvs H Q E h=>?_) (λf cdv A outer s H vs Q E hr h=>?_)
 .obtain ⟨q,key,ws,es,rfl,_⟩:=h;rfl
 obtain ⟨q,key,ws,es,rfl,hq,hw,hr',hz,Q0⟩:=h;refine #[_,(cn (bp (dG (Ac jm jm ag (pv 1) (aP (bH (K:=K)) rfl T.bG bE (aa (pv 0) ab)))) (ao (aJ cL)) bx)
   (cn (bp (PW.pt (ix (aV gK (pv 1) ag (aY _)) (iw (aV ma (ax (aL (K:=K)) (ax (bh (K:=K)) (pv 0) (aG dI (pv 1) ag) (λ_ _=>rfl)) ag (λ_ _=>rfl)) (pv 2) (aY _))))) (ao (aJ cL)) bx)
   (ao (aJ (Fj (iE d9 (pv 1) (aP (bH (K:=K)) rfl T.bG bE (aa (pv 0) ab)) (aY _)) (oG (iE ma (ax (aL (K:=K)) (ax (bh (K:=K)) (pv 0) (pv 1) (λ_ _=>rfl)) ag (λ_ _=>rfl)) (pv 2) (aY _)))))))),?_]
 have wl:=hw.length;have hle:=g8 es key;have hget:∀ i,i<es.length->∃ b x y,ws[i]?=some (.ref b)/\H b=some (.tup [.int x,y])/\(x<key↔i<aE es key):=λi hi=>by
  obtain ⟨v,hv⟩:∃ v,ws[i]?=some v:=#[_,aC (by lia)];obtain ⟨e,he,b,y1,y2,rfl,hb,f1,f2⟩:=hw.get hv;have e1:y1=.int e.1:=f1;subst e1;refine #[b,e.1,y2,hv,hb,?_];obtain ⟨hi',rfl⟩:=aZ.mp he;obtain ⟨z1,z2⟩:=nh (key:=key) (lj hr');constructor
  .intro h;refine oz λc=>z2 es[i] ?_ h;rw[List.mem_drop_iff_getElem];exact #[i-aE es key,by lia,by congr 1;lia]
  .intro h;refine z1 es[i] ?_;rw[uq];exact #[i,by lia,rfl]
 refine #[λU' H'=>U'=[some (.ref q),some (nV (aE es key)),some (.int key)]/\H=H',?_,?_]
 .refine #[_,rfl,_,_,rfl,rfl,_,rfl,?_];rw[aO (show (0:Int)<=((aE es key:Nat):Int) by lia)];refine iteT ?_;refine #[_,rfl,_,_,rfl,.inl (SqL.of hq),_,_,rfl,rfl,_,rfl,?_];rw[<-wl,aO (show ((aE es key:Nat):Int)<=((es.length:Nat):Int) by lia)];exact iteF #[rfl,rfl]
 rintro _ _ ⟨rfl,rfl⟩;refine #[λU' H'=>U'=[some (.ref q),some (nV (aE es key)),some (.int key)]/\H=H',?_,?_]
 .refine #[_,rfl,_,_,rfl,rfl,_,rfl,?_];refine ite2 (λc=>?_) (λc=>iteF #[rfl,rfl]);have c':(0:Int)<((aE es key:Nat):Int):=bW c;obtain ⟨b,x,y,hb1,hb3,hb4⟩:=hget (aE es key-1) (by lia);have hat:atI ws (((aE es key:Nat):Int)-1)=some (.ref b):=by
   rw[show ((aE es key:Nat):Int)-1=((aE es key-1:Nat):Int) by lia];exact cG hb1
  refine #[_,rfl,_,rfl,_,_,rfl,rfl,_,_,_,_,rfl,rfl,SqL.of hq,hat,_,_,_,_,rfl,rfl,SqT.of hb3,rfl,_,rfl,_,_,rfl,rfl,_,rfl,?_];rw[aU (show ¬ key<=x by lia)];exact iteF #[rfl,rfl]
 rintro _ _ ⟨rfl,rfl⟩;refine #[_,rfl,_,rfl,_,_,rfl,.inl (SqL.of hq),rfl,_,rfl,?_];rw[<-wl];by_cases c:aE es key=es.length
 .rw[aO (show V.int ((aE es key:Nat):Int)=V.int (es.length:Int) by rw[c])];exact iteT Q0
 .rw[aU (λz=>c (by have:=V.int.inj z;lia))];refine iteF ?_;obtain ⟨b,x,y,hb1,hb3,hb4⟩:=hget (aE es key) (by lia);refine #[_,rfl,_,rfl,_,_,_,_,rfl,rfl,SqL.of hq,cG hb1,_,_,_,_,rfl,rfl,SqT.of hb3,rfl,_,rfl,_,_,rfl,rfl,?_];show Q (.bl (decide (key<=x))) H;rw[aO (show key<=x by lia)];exact Q0
inductive xQ (K:Frag)(vs:List V)(H:Hp)(Q:VK)(w_1:XK):Prop
 | c:∀(br u v:Addr) (ps:List Nat) (Pw:List (List Int)) (xs:List V) (k c:Nat) (key:Int),vs=[.ref br,.ref u,.ref v]->H br=some (.lst xs)->Paired (BrAt [] H ps Pw) (List.range (ps.length+1)) xs->aN ps->bc Pw->ps.length<=40->k<ps.length+1->par ps c=some k->d6 H ps Pw key k (.ref u)->d6 H ps Pw key c (.ref v)->(∀ H',Same H H'->Q (.bl true) H')->xQ K vs H Q w_1
def M5 (T:Txt K mg)(zC:DF K mg "is_near_start" ql rK)(yN:FC P w K mg base 1 "start_in" mQ (tH K)):FC P w K mg base 2 "is_near_start" rK (xQ K):=by
 refine zC.ok CB (λvs H Q E h=>?_) (λf cdv A outer s H vs Q E hr h=>?_)
 .obtain ⟨br,u,v,ps,Pw,xs,k,c,key,rfl,_⟩:=h;rfl
 obtain ⟨br,u,v,ps,Pw,xs,k,c,key,rfl,hbr,hB,hT,hR,few,hk,hc,⟨u',e1,hu⟩,⟨v',e2,hv⟩,q⟩:=h;cases e1
 cases e2
 refine #[_,(aF (aI (i:=3) CB.nd rfl (av rfl) (az yN hr (aa (pv 0) (aa (ax (aL (K:=K)) (pv 1) ag (λ_ _=>rfl)) (aa (ax (aL (K:=K)) (pv 1) ag (λ_ _=>rfl)) (aa (ax (aL (K:=K)) (pv 2) ag (λ_ _=>rfl)) ab))))))
   (ao (aJ (Ab jm jm (pv 3) (ax (aL (K:=K)) (pv 2) ag (λ_ _=>rfl)) (aG cz (pv 3) (jx rfl T.EV)))))),?_]
 refine #[_,rfl,_,rfl,_,_,_,_,rfl,rfl,SqT.of hu,rfl,_,rfl,_,_,_,_,rfl,rfl,SqT.of hu,rfl,_,rfl,_,_,_,_,rfl,rfl,SqT.of hv,rfl,[],br,ps,Pw,xs,k,c,aE (ae ps Pw k) key,rfl,hbr,hB,hT,hk,hc,g8 _ _,λH1 s1=>?_];refine #[_,rfl,_,rfl,_,_,_,_,rfl,rfl,SqT.of (s1 _ _ hv),rfl,_,_,rfl,rfl,_,rfl,?_];have NO:=wX hT hR few hk hc (Pw:=Pw) key;have n1:=NO.lo;have n2:=NO.hi;rw[aO (show ((stN (ae ps Pw c) ((ae ps Pw k).take (aE (ae ps Pw k) key)):Nat):Int)<=((aE (ae ps Pw c) key:Nat):Int) by lia)];refine iteT ?_;refine #[_,rfl,_,_,rfl,rfl,_,_,rfl,rfl,?_];show Q (.bl (decide _)) H1;rw[aO (show ((aE (ae ps Pw c) key:Nat):Int)<=((stN (ae ps Pw c) ((ae ps Pw k).take (aE (ae ps Pw k) key)):Nat):Int)+2 by lia)];exact q _ s1
inductive xR (K:Frag)(vs:List V)(H:Hp)(Q:VK)(w_1:XK):Prop
 | c:∀(st wa pp:Addr) (key:Int) (ps:List Nat) (Pw:List (List Int)) (t rs:Addr) (as:List Addr) (wy:List Nat) (zs:List V),vs=[.ref st,.ref wa,.int key,.ref pp]->cO H st ps Pw t rs as->cI H wa ps wy->H pp=some (.lst zs)->Paired (d6 H ps Pw key) wy zs->(∀ H',Same H H'->Q (.bl true) H')->xR K vs H Q w_1
def M8 (T:Txt K mg)(zD:DF K mg "lets_by" qm rL)(jM:FC P w K mg base 4 "need_way" jC (ll K))(NV:FC P w K mg base 2 "is_line" rH (xO K))(hE:FC P w K mg base 8 "full_rows" iQ (jH K))(nF:FC P w K mg base 2 "bridges_of" kI (ng K))(NW:FC P w K mg base 1 "is_place_in" rJ (xP K))(NX:FC P w K mg base 2 "is_near_start" rK (xQ K)):FC P w K mg base 9 "lets_by" rL (xR K):=by
 refine zD.ok qO (λvs H Q E h=>?_) (λf cdv A outer s H vs Q E hr h=>?_)
 .obtain ⟨st,wa,pp,key,ps,Pw,t,rs,as,wy,zs,rfl,_⟩:=h;rfl
 obtain ⟨st,wa,pp,key,ps,Pw,t,rs,as,wy,zs,rfl,S,W,hpp,hP,q⟩:=h;refine #[_,(bQ (cF (az jM hr (aa (ax (aL (K:=K)) (pv 0) ag (λ_ _=>rfl)) (aa (pv 1) ab))))
   (iW (bp (PW.pt (jl (dG (c6 (aP (mr (K:=K)) rfl T.i4 boot_isinstance (aa (pv 3) (aa (fF (v:=.ty "list") rfl T.eR boot_list rfl) ab))))) (jk (dG (c6 (aP (vd rfl) rfl T.xX boot_all (aa (de (N:=["thing"]) (own:=1) (cap:=[]) rfl (c8 (pv 3)) #[rfl,rfl,rfl,rfl,rfl,rfl] (λ_ _ _ _ _=>(aQ (i:=0) (show List.Nodup (["thing"]:List Str) by decide +kernel) rfl (av rfl))) (λ_ _ _ _ _=>dN) (λ_ _ _ _ _=>(az NV hr (aa (pv 0) ab)))) ab))))))) (ao (aJ cL)) bx)
   (iW (bp (aV (iL (List Int) (huD hr)) (de (N:=["line"]) (own:=1) (cap:=[]) rfl (c8 (pv 3)) #[rfl,rfl,rfl,rfl,rfl,rfl] (λ_ _ _ _ _=>(aQ (i:=0) (show List.Nodup (["line"]:List Str) by decide +kernel) rfl (av rfl))) (λ_ _ _ _ _=>dN) (λ_ _ _ _ _=>(ax (aL (K:=K)) (pv 0) ag (λ_ _=>rfl)))) (pv 1) (aY _)) (ao (aJ cL)) bx)
   (bQ (aI (i:=4) qO.nd rfl (av rfl) (az hE hr (aa (pv 0) ab)))
   (bQ (aI (i:=5) qO.nd rfl (fQ rfl) (az nF hr (aa (ax (aL (K:=K)) (pv 0) ag (λ_ _=>rfl)) (aa (pv 4) ab))))
   (bQ (ck PassesOwn.never rfl (c8 (pv 3)) (aQ (i:=6) qO.nd rfl (av rfl)) (ao (bp (PW.pt (jl (dG (c6 (az NW hr (aa (ax (bh (K:=K)) (pv 4) (ax (aL (K:=K)) (pv 6) ag (λ_ _=>rfl)) (λ_ _=>rfl)) (aa (ax (aL (K:=K)) (pv 6) ag (λ_ _=>rfl)) (aa (pv 2) ab)))))) (jk (aV l8 (ax (aL (K:=K)) (pv 6) ag (λ_ _=>rfl)) (ax (bh (K:=K)) (ax (aL (K:=K)) (ax (bh (K:=K)) (pv 5) (ax (aL (K:=K)) (pv 6) ag (λ_ _=>rfl)) (λ_ _=>rfl)) ag (λ_ _=>rfl)) (ax (aL (K:=K)) (pv 6) ag (λ_ _=>rfl)) (λ_ _=>rfl)) (aY _))))) (ao (aJ cL)) bx)))
   (ao (aJ (aP (vd rfl) rfl T.xX boot_all (aa (de (N:=["line","below","bridges"]) (own:=2) (cap:=[5]) rfl (oZ rfl T.tY (aa (pv 3) (aa (fZ (ph (K:=K)) (pv 3) (fg ag) iG) ab))) #[rfl,rfl,rfl,rfl,rfl,rfl] (λ_ _ _ _ _=>(vh (K:=K) (n:=2) rfl (dH (aQ (i:=0) (show List.Nodup (["line","below","bridges"]:List Str) by decide +kernel) rfl (av rfl)) (dH (aQ (i:=1) (show List.Nodup (["line","below","bridges"]:List Str) by decide +kernel) rfl (av rfl)) iy)))) (λ_ _ _ _ _=>dN) (λ_ _ _ _ _=>(az NX hr (aa (pv 2) (aa (pv 0) (aa (pv 1) ab)))))) ab)))))))))),?_]
 intro N1 n1;have few:=S.few;have wl:=W.len;have zl:=hP.length;refine #[_,rfl,_,_,_,_,rfl,rfl,SqT.of S.st,rfl,_,rfl,t,wa,ps,wy,rfl,S.tr,by lia,W,n1 _ _ ?_];have trip:∀(i:Nat) (v:V),zs[i]?=some v->i<wy.length/\d6 H ps Pw key (wy.getD i 0) v:=λi v hv=>by
  obtain ⟨k,hk,ht⟩:=nc hP hv;refine #[(aZ.mp hk).1,?_];rw[aH,hk];exact ht
 refine #[λU' H'=>U'=[some (.ref st),some (.ref wa),some (.int key),some (.ref pp),none,none,none]/\Same H H',?_,?_]
 .intro N2 n2;refine #[_,rfl,_,_,_,_,rfl,.lst hpp,A9,_,rfl,iteF ?_];refine #[_,rfl,pp,rfl,#[_,SqL.of hpp],λD hD=>?_];refine eZ (xs:=zs) (λi U H2=>∃ x0:Option V,U=[x0]/\H2 D=some (.lst ((List.replicate i true).map V.bl))/\But D H H2) ?_ ?_ ?_ ?_
  .exact #[_,rfl,af,λb o n e=>by rw[ah n];exact e]
  .rintro i U H2 _ ⟨x0,rfl,_,k2⟩;exact SqL.of (k2 _ _ (au hpp hD) hpp)
  .rintro i m v U H2 hv hm ⟨x0,rfl,h2,k2⟩;obtain ⟨hi,u,rfl,hu⟩:=trip i v hv;refine d3 ?_;refine #[_,rfl,u,_,_,_,rfl,k2 _ _ (au hu hD) hu,λH3 s3=>?_];refine #[_,s3 _ _ h2,a0 (by rw[ai,gA];lia),m-1,by lia,by lia,_,rfl,?_,λb o n e=>by rw[ah n];exact s3 _ _ (k2 b o n e)];rw[af,ou,bq];rfl
  .rintro U H2 ⟨x0,rfl,h2,k2⟩;refine #[D,List.replicate zs.length true,rfl,SqL.of h2,_,rfl,?_];rw[EM];exact iteF (n2 _ _ #[rfl,λb o e=>k2 b o (au e hD) e])
 rintro _ H0 ⟨rfl,s0⟩;refine #[λU' H'=>U'=[some (.ref st),some (.ref wa),some (.int key),some (.ref pp),none,none,none]/\Same H H',?_,?_]
 .intro N2 n2;refine #[_,rfl,pp,rfl,#[_,SqL.of (s0 _ _ hpp)],λD hD=>?_];refine eZ (xs:=zs) (λi U H2=>∃ x0:Option V,U=[x0]/\H2 D=some (.lst ((wy.take i).map nV))/\But D H0 H2) ?_ ?_ ?_ ?_
  .exact #[_,rfl,af,λb o n e=>by rw[ah n];exact e]
  .rintro i U H2 _ ⟨x0,rfl,_,k2⟩;exact k2.sq (SqL.of (s0 _ _ hpp)) hD
  .rintro i m v U H2 hv hm ⟨x0,rfl,h2,k2⟩;obtain ⟨hi,u,rfl,hu⟩:=trip i v hv;have hu0:=s0 _ _ hu;refine d3 ?_;refine #[_,rfl,_,_,_,_,rfl,rfl,SqT.of (k2 _ _ (au hu0 hD) hu0),rfl,?_];refine #[_,h2,a0 (by rw[ai,bw];lia),m-1,by lia,by lia,_,rfl,?_,λb o n e=>by rw[ah n];exact k2 b o n e];rw[af,nk hi,bq];rfl
  .rintro U H2 ⟨x0,rfl,h2,k2⟩;have s2:Same H H2:=s0.trans λb o e=>k2 b o (au e hD) e;rw[<-zl,bA (aj _)]at h2;have hn:aA K H2 (wy.map λn:Nat=>(n:Int)) (wy.map nV):=by
    have:=aA.ints (K:=K) (H:=H2) (ns:=wy.map λn:Nat=>(n:Int));rwa[fA]at this
   refine #[_,rfl,_,_,#[D,_,rfl,SqL.of h2,hn],#[_,_,rfl,SqL.of (s2 _ _ W.at_),hn],_,rfl,?_];exact fh rfl (n2 _ _ #[rfl,s2])
 rintro _ H1 ⟨rfl,s1⟩;clear s0;intro N3 n3;refine #[_,rfl,st,ps,Pw,t,rs,as,rfl,S.same s1,λpf qf H2 hpf s2 h2f nd hqf np F=>n3 _ _ ?_];have s02:=s1.trans s2;intro N4 n4;refine #[_,rfl,_,_,_,_,rfl,rfl,SqT.of (s02 _ _ S.st),rfl,_,rfl,st,ps,Pw,t,rs,as,pf,qf,rfl,S.same s02,h2f,F,λbr xs H3 hbr s3 h3b hB=>n4 _ _ ?_];have s03:=s02.trans s3;have F3:=tK (.of s3) F;have h3f:=s3 _ _ h2f;have hpp3:=s03 _ _ hpp;intro N5 n5;refine #[_,rfl,pp,rfl,#[_,SqL.of hpp3],?_];refine iz (xs:=zs) (λi U H'=>∃ x6:Option V,U=[some (.ref st),some (.ref wa),some (.int key),some (.ref pp),some (.ref pf),some (.ref br),x6]/\H3=H') ?_ ?_ ?_ ?_
 .exact #[_,rfl,rfl]
 .rintro i U H' _ ⟨x6,rfl,rfl⟩;exact SqL.of hpp3
 .rintro i v U H' hv ⟨x6,rfl,rfl⟩;refine sI λN B R hN hB' hR=>?_;obtain ⟨hi,u,rfl,hu⟩:=trip i v hv;have hu3:=s03 _ _ hu;have hkn:=W.kn _ (lp hi);generalize wy.getD i 0=k at hkn hu3;obtain ⟨qk,hqk,wk,hwk,hak⟩:=fP F3 hkn;obtain ⟨xb,hxb,bb,ob,jb,yb,rfl,_,_,hbb,hob,_,_⟩:=fP hB hkn;have hfl:=m8 S.T S.len (Pw:=Pw) hkn;have hke:=S.keys.k;refine #[_,rfl,_,rfl,_,_,_,_,rfl,rfl,SqT.of hu3,rfl,_,_,_,_,rfl,rfl,SqL.of h3f,fO hqk,_,rfl,_,_,_,_,rfl,rfl,SqT.of hu3,rfl,_,rfl,qk,key,wk,_,rfl,hwk,hak,cv S.T S.R hkn,by lia,_,rfl,?_];refine iteF ?_;refine #[_,rfl,_,_,_,_,rfl,rfl,SqT.of hu3,rfl,_,rfl,_,rfl,_,_,_,_,rfl,rfl,SqT.of hu3,rfl,_,_,_,_,rfl,rfl,SqL.of h3b,cG hxb,_,_,_,_,rfl,rfl,SqT.of hbb,rfl,_,rfl,_,_,_,_,rfl,rfl,SqT.of hu3,rfl,_,_,_,_,rfl,rfl,SqL.of hob,tD S.T S.R hkn key,rfl,_,rfl,?_];exact fh rfl (hN _ _ #[_,rfl,rfl])
 .rintro U H' ⟨x6,rfl,rfl⟩;refine n5 _ _ ?_;refine #[_,rfl,_,rfl,1,rfl,pp,_,rfl,SqL.of hpp3,λp hp=>?_];rw[show (1:Int)=((1:Nat):Int) from rfl,nq];have g4:=aD hp (.lst (zs.drop 1));have w4:upd H3 p (.lst (zs.drop 1)) p=some (.lst (zs.drop 1)):=af;generalize upd H3 p (.lst (zs.drop 1))=H4 at g4 w4 ⊢;have hpp4:=g4 _ _ hpp3;refine #[pp,p,rfl,#[_,SqL.of hpp4],#[_,SqL.of w4],λD hD=>?_];have hdl:(zs.drop 1).length=zs.length-1:=d8;refine ID (xs:=zs) (ys:=zs.drop 1) (by lia) (λi U H5=>∃ x0 x1:Option V,U=[x0,x1,some (.ref br)]/\H5 D=some (.lst ((List.replicate i true).map V.bl))/\But D H4 H5) ?_ ?_ ?_ ?_
  .exact #[_,_,rfl,af,λb o n e=>by rw[ah n];exact e]
  .rintro i U H5 _ ⟨x0,x1,rfl,_,k5⟩;exact #[SqL.of (k5 _ _ (au hpp4 hD) hpp4),SqL.of (k5 _ _ (au w4 hD) w4)]
  .rintro i m x y U H5 r hx hy hm ⟨x0,x1,rfl,h5,k5⟩ hr0;rw[oh]at hy;obtain ⟨hi,u,rfl,hu⟩:=trip i x hx;obtain ⟨hi1,v,rfl,hv⟩:=trip (1+i) y hy;have gr:=aD hr0 (.tup [V.ref u,V.ref v]);have wr:upd H5 r (.tup [V.ref u,V.ref v]) r=some (.tup [V.ref u,V.ref v]):=af;generalize upd H5 r (.tup [V.ref u,V.ref v])=H6 at gr wr ⊢;have s36:Same H3 H6:=g4.trans (Same.trans (λb o e=>k5 b o (au e hD) e) gr);have s06:=s03.trans s36;refine #[r,_,rfl,SqT.of wr,rfl,_,_,rfl,_,_,rfl,rfl,?_];refine DZ (iteT ?_);have hpar:par ps (wy.getD (1+i) 0)=some (wy.getD i 0):=by rw[Nat.add_comm];exact W.ch i (by lia)
   refine #[_,rfl,_,rfl,_,rfl,br,u,v,ps,Pw,xs,wy.getD i 0,wy.getD (1+i) 0,key,rfl,s36 _ _ h3b,gn (.of s36) hB,S.T,S.R,few,W.kn _ (lp hi),hpar,#[u,rfl,s06 _ _ hu],#[v,rfl,s06 _ _ hv],λH7 s7=>?_];refine #[_,s7 _ _ (gr _ _ h5),a0 (by rw[ai,gA];lia),m-1,by lia,by lia,_,_,rfl,?_,λb o n e=>by rw[ah n];exact s7 _ _ (gr _ _ (k5 b o n e))];rw[af,ou,bq];rfl
  .rintro U H5 ⟨x0,x1,rfl,h5,k5⟩;refine #[D,List.replicate (zs.drop 1).length true,rfl,SqL.of h5,?_];rw[EM];exact q H5 (s03.trans (g4.trans λb o e=>k5 b o (au e hD) e))
abbrev tX:Str:=(envOfC ("_law_by_all" : Str) (aB jA) 0 0 .none).qual ++ "<lambda>"
abbrev EN:Pos:=#[409,46,409,122]
abbrev EO:Pos:=#[415,66,415,142]
structure Tab4 (m0 mF mS mL:Addr)(H:Hp):Prop where
 p:aR H m0 eB lamQ
 f:aR H mF iZ iY
 s:aR H mS Ea D7
 a:aR H mL EN tX
 b:aR H mL EO tX
 n:[m0,mF,mS,mL].Nodup
def K4 (m0 mF mS mL:Addr)(H H':Hp):Prop:=∀ b o,b∉[m0,mF,mS,mL]->H b=some o->H' b=some o
section
variable {m0 mF mS mL:Addr}{H H1 H':Hp}
def K4.trans (a:K4 m0 mF mS mL H H1)(b:K4 m0 mF mS mL H1 H'):K4 m0 mF mS mL H H':=λc o n h=>b c o n (a c o n h)
def K4.of (a:Same H H'):K4 m0 mF mS mL H H':=λc o _ h=>a c o h
def xS (x:aR H m pos q)(k:Kp0 H H')(e:∀ o,H m=some o->H' m=some o):aR H' m pos q:=by
 obtain ⟨tab,h1,h2,h3⟩:=x.ex;refine #[tab,e _ h1,h2,?_];rcases h3 with h3|⟨c,h3,h4⟩
 .exact .inl h3
 .exact .inr #[c,h3,k _ _ nofun h4]
def Tab4.nt (x:Tab4 m0 mF mS mL H){b:Addr}{o:HO}(h:H b=some o)(n:∀ tab,o≠.tbl tab):b∉[m0,mF,mS,mL]:=λz=>by
 simp only[aW,bR,or_false]at z;have:∃ tab,H b=some (.tbl tab):=by
  rcases z with rfl|rfl|rfl|rfl
  .exact bU x.p
  .exact bU x.f
  .exact bU x.s
  .exact bU x.a
 obtain ⟨tab,e⟩:=this;rw[h]at e;exact n _ (aM e)
def Tab4.free (x:Tab4 m0 mF mS mL H){b:Addr}(h:H b=none):b∉[m0,mF,mS,mL]:=λz=>by
 simp only[aW,bR,or_false]at z;have:∃ tab,H b=some (.tbl tab):=by
  rcases z with rfl|rfl|rfl|rfl
  .exact bU x.p
  .exact bU x.f
  .exact bU x.s
  .exact bU x.a
 obtain ⟨tab,e⟩:=this;rw[h]at e;cases e
def Tab4.k0 (x:Tab4 m0 mF mS mL H)(k:K4 m0 mF mS mL H H'):Kp0 H H':=λb o n e=>k b o (x.nt e n) e
def Tab4.same (x:Tab4 m0 mF mS mL H)(e:Same H H'):Tab4 m0 mF mS mL H':=#[x.p.ext e.ext,x.f.ext e.ext,x.s.ext e.ext,x.a.ext e.ext,x.b.ext e.ext,x.n]
def Tab4.ts (x:Tab4 m0 mF mS mL H):TabS mF mS H:=#[x.f,x.s,λz=>by
 have:=x.n;simp[z]at this]
def Tab4.gS (x:Tab4 m0 mF mS mL H)(k:Kp2 mF mS H H')(t:TabS mF mS H'):Tab4 m0 mF mS mL H'/\K4 m0 mF mS mL H H':=by
 have n:=x.n;simp only[cZ,aW,bR,or_false,not_or]at n;have k0:=k.kp0 x.ts;exact #[#[xS x.p k0 λo e=>k _ _ n.1.1 n.1.2.1 e,t.f,t.s,xS x.a k0 λo e=>k _ _ (bf n.2.1.2) (bf n.2.2.1) e,xS x.b k0 λo e=>k _ _ (bf n.2.1.2) (bf n.2.2.1) e,x.n],λb o nb e=>k b o (λz=>nb (by simp[z])) (λz=>nb (by simp[z])) e]
def Tab4.g0 (x:Tab4 m0 mF mS mL H)(g:Gro m0 H H')(t:aR H' m0 eB lamQ):Tab4 m0 mF mS mL H'/\K4 m0 mF mS mL H H':=by
 have n:=x.n;simp only[cZ,aW,bR,or_false,not_or]at n;exact #[#[t,x.f.gro g (bf n.1.1) (bU x.p),x.s.gro g (bf n.1.2.1) (bU x.p),x.a.gro g (bf n.1.2.2) (bU x.p),x.b.gro g (bf n.1.2.2) (bU x.p),x.n],λb o nb e=>g b o (λz=>nb (by simp[z])) e]
def Tab4.gF (x:Tab4 m0 mF mS mL H)(g:Gro mF H H')(t:aR H' mF iZ iY):Tab4 m0 mF mS mL H'/\K4 m0 mF mS mL H H':=by
 have n:=x.n;simp only[cZ,aW,bR,or_false,not_or]at n;exact #[#[x.p.gro g n.1.1 (bU x.f),t,x.s.gro g (bf n.2.1.1) (bU x.f),x.a.gro g (bf n.2.1.2) (bU x.f),x.b.gro g (bf n.2.1.2) (bU x.f),x.n],λb o nb e=>g b o (λz=>nb (by simp[z])) e]
def Tab4.gL (x:Tab4 m0 mF mS mL H)(g:Gro mL H H')(a:aR H' mL EN tX)(b:aR H' mL EO tX):Tab4 m0 mF mS mL H'/\K4 m0 mF mS mL H H':=by
 have n:=x.n;simp only[cZ,aW,bR,or_false,not_or]at n;exact #[#[x.p.gro g n.1.2.2 (bU x.a),x.f.gro g n.2.1.2 (bU x.a),x.s.gro g n.2.2.1 (bU x.a),a,b,x.n],λb o nb e=>g b o (λz=>nb (by simp[z])) e]
end
section
variable {H H':Hp}
def M9 (k:Kp0 H H'):Kp0 (dl Av H) (dl Av H'):=λb o n e=>by
 unfold dl at e ⊢;split at e
 .cases e
 .rename_i z;rw[ak z];exact k b o n e
end
def Tab4.ext (x:Tab4 m0 mF mS mL H)(e:Ext H H'):Tab4 m0 mF mS mL H':=#[x.p.ext e,x.f.ext e,x.s.ext e,x.a.ext e,x.b.ext e,x.n]
structure SNow (K:Frag)(CS m0 mF mS mL a:Addr)(H:Hp)(d sh p:Addr)(qs:List Addr)(ps:List Nat)(Pw:List (List Int)):Prop where
 shelf:∃ dx st t rs as,cJ K CS H sh dx st p qs ps Pw t rs as
 tab:Tab4 m0 mF mS mL H
 ls:LS K a d (dl [sh,p,m0,mF,mS,mL] H)
section
variable {K:Frag}{CS m0 mF mS mL a d sh p dx st t rs:Addr}{H H':Hp}{qs as:List Addr}{ps:List Nat}{Pw:List (List Int)}
def cJ.k0 (S:cJ K CS H sh dx st p qs ps Pw t rs as)(k:Kp0 H H'):cJ K CS H' sh dx st p qs ps Pw t rs as:=#[k _ _ nofun S.own,k _ _ nofun S.ins,L4 k S.stand,S.full.tp (λ_ _ e=>k.tup e) λ_ _ e=>k.lst e]
def cJ.ext (S:cJ K CS H sh dx st p qs ps Pw t rs as)(e:Ext H H'):cJ K CS H' sh dx st p qs ps Pw t rs as:=#[e _ _ S.own nofun,e _ _ S.ins nofun,jK (λb us h=>e _ _ h nofun) S.stand,S.full.ext e]
def SNow.lsH (h:SNow K CS m0 mF mS mL a H d sh p qs ps Pw):LS K a d H:=h.ls.same MW
def SNow.k4 (h:SNow K CS m0 mF mS mL a H d sh p qs ps Pw)(k:K4 m0 mF mS mL H H')(T':Tab4 m0 mF mS mL H'):SNow K CS m0 mF mS mL a H' d sh p qs ps Pw:=by
 obtain ⟨dx,st,t,rs,as,S⟩:=h.shelf;exact #[#[dx,st,t,rs,as,S.k0 (h.tab.k0 k)],T',D6 h.ls (M9 (h.tab.k0 k))]
def Na (s:LS K L d (dl Bv H))(k:Keep d H H')(s':LS K L d H'):LS K L d (dl Bv H'):=by
 obtain ⟨ns,a,l,e,q⟩:=s.ex;obtain ⟨ns',a',l',e',_⟩:=s'.ex;have nd:d∉Bv:=λz=>by
  unfold dl at e;rw[aq z]at e;cases e
 have k':Keep d (dl Bv H) (dl Bv H'):=λb o n h=>by
  unfold dl at h ⊢;split at h
  .cases h
  .rename_i nb;rw[ak nb];exact k b o n h
 exact #[ns,a',l',EK e' nd,oX e k' q]
def SNow.take (h:SNow K CS m0 mF mS mL a H d sh p qs ps Pw)(k:Keep d H H')(s:LS K a d H'):SNow K CS m0 mF mS mL a H' d sh p qs ps Pw:=by
 obtain ⟨dx,st,t,rs,as,S⟩:=h.shelf;have e:=h.lsH.ext k;exact #[#[dx,st,t,rs,as,S.ext e],h.tab.ext e,Na h.ls k s]
def Tab4.deed (x:Tab4 m0 mF mS mL H)(k:∀ b o,b≠sh->b≠p->b≠m0->H b=some o->H' b=some o)(h1:∃ f,H sh=some (.ins CS dx f))(h2:∃ us,H p=some (.lst us))(t:aR H' m0 eB lamQ):Tab4 m0 mF mS mL H':=by
 have n:=x.n;simp only[cZ,aW,bR,or_false,not_or]at n;obtain ⟨f1,h1⟩:=h1;obtain ⟨f2,h2⟩:=h2;have one:∀{m:Addr} {pos:Pos} {q:Str},m≠m0->aR H m pos q->aR H' m pos q:=λ{m pos q} nm x0=>by
  obtain ⟨tab,e1,e2,e3⟩:=x0.ex;refine #[tab,k _ _ (λz=>by rw[z,h1]at e1;cases e1) (λz=>by rw[z,h2]at e1;cases e1) nm e1,e2,?_]
  rcases e3 with e3|⟨c,e3,e4⟩
  .exact .inl e3
  .have e5:H c=_:=e4;obtain ⟨tb,eb⟩:=bU x.p;exact .inr #[c,e3,k _ _ (λz=>by rw[z,h1]at e5;cases e5) (λz=>by rw[z,h2]at e5;cases e5) (λz=>by rw[z,eb]at e5;cases e5) e5]
 exact #[t,one (bf n.1.1) x.f,one (bf n.1.2.1) x.s,one (bf n.1.2.2) x.a,one (bf n.1.2.2) x.b,x.n]
def SNow.deed (h:SNow K CS m0 mF mS mL a H d sh p qs ps Pw)(k:∀ b o,b≠sh->b≠p->b≠m0->H b=some o->H' b=some o)(S':cJ K CS H' sh dx' st' p qs' ps' Pu t' rs' as')(t:aR H' m0 eB lamQ):SNow K CS m0 mF mS mL a H' d sh p qs' ps' Pu/\Tp H H':=by
 obtain ⟨dx,st,t1,rs,as,S⟩:=h.shelf;have kv:KpV [sh,p,m0,mF,mS,mL] H H':=λb o n e=>k b o (λz=>n (by simp[z])) (λz=>n (by simp[z])) (λz=>n (by simp[z])) e;refine #[#[#[dx',st',t',rs',as',S'],h.tab.deed (CS:=CS) (dx:=dx) k #[_,S.ins] #[_,S.full.at_] t,h.ls.same (MX kv)],λb us e=>k b _ (λz=>?_) (λz=>?_) (λz=>?_) e]
 .rw[z,S.ins]at e;cases e
 .rw[z,S.full.at_]at e;cases e
 .obtain ⟨tb,eb⟩:=bU h.tab.p;rw[z,eb]at e;cases e
def SNow.new (s0:LS K a d H0)(hT:Tab4 m0 mF mS mL H0)(s:Same H0 H)(hsh:H0 sh=none)(hp:H0 p=none)(S:cJ K CS H sh dx st p qs ps Pw t rs as):SNow K CS m0 mF mS mL a H d sh p qs ps Pw:=by
 refine #[#[dx,st,t,rs,as,S],hT.same s,D6 s0 λb o n e=>EK (s _ _ e) λz=>?_];rcases aW.mp z with z|z
 .rw[z,hsh]at e;cases e
 rcases aW.mp z with z|z
 .rw[z,hp]at e;cases e
 exact hT.nt e n z
end
def Nb {K:Frag}{H:Hp}{b D:Addr}{row:List Int}{key:Int}{U:L2.St}{Q:Hp->Prop}(hb:H b=some (.tup (row.map V.int)))(hD:H D=none)(hz:row.length<=63)(hst:U=[none,some (.int key)])(q:∀ H',Same H H'->H' D=some (.lst ((row.filter λx=>decide (x<key)).map V.int))->Q H') :
  ∃ W:Nat->Nat->L2.St->Hp->Prop,(∃ m,W 0 m U (upd H D (.lst [])))/\∀ i m U H,W i m U H->((Itt K b).stop i H/\Q H)\/((Itt K b).go i H/\∀ x H',(Itt K b).yld i H x H'->gI 0 x U H' λU2 H2=>uG (tOp (rI0 λi j=>.bl (decide (i<j))) (tVar 0) (tVar 1)) U2 H2 λb H3=>if b=true then tVar 0 U2 H3 λy H4=>∃ xs,H4 D=some (.lst xs)/\xs.length<sizeLine/\∃ m',m'<m/\W (i+1) m' U2 (upd H4 D (.lst (xs++[y]))) else ∃ m',m'<m/\W (i+1) m' U2 H3):=by
 rw[hst];refine jy (xs:=row.map V.int) (λj U H5=>∃(x0:Option V),U=[x0,some (.int key)]/\H5 D=some (.lst (((row.take j).filter λx=>decide (x<key)).map V.int))/\But D H H5) ?_ ?_ ?_ ?_
 .exact #[_,rfl,af,λb o n e=>by rw[ah n];exact e]
 .rintro j U H5 _ ⟨x0,rfl,_,k5⟩;exact SqT.of (k5 _ _ (au hb hD) hb)
 .rintro j m x U H5 hx hm ⟨x0,rfl,h5,k5⟩;rw[bj]at hx;obtain ⟨y,hy,rfl⟩:=fS.mp hx;have hj:=(aZ.mp hy).1;rw[ai]at hm;have htk:row.take (j+1)=row.take j++[y]:=by rw[cy hj,(aZ.mp hy).2]
  have hsl:((row.take j).filter λx=>decide (x<key)).length<=j:=bS (dW _ _) (by rw[bw];lia);refine #[_,rfl,_,rfl,_,_,rfl,rfl,_,rfl,?_];refine ite2 (λc=>?_) (λc=>?_)
  .refine #[_,rfl,_,h5,a0 (by rw[ai];lia),m-1,by lia,by rw[ai];lia,_,rfl,?_,λb o n e=>by rw[ah n];exact k5 b o n e];rw[af,htk,c5,dw (p:=λx=>decide (x<key)) c,bq];rfl
  .refine #[m-1,by lia,by rw[ai];lia,_,rfl,?_,k5];rw[htk,c5,eJ (p:=λx=>decide (x<key)) c,jY,cB];exact h5
 rintro U H5 ⟨y0,rfl,h5,k5⟩;rw[ai,bA (aj _)]at h5;exact q H5 (λb o e=>k5 b o (au e hD) e) h5
abbrev dueF (ps:List Nat)(Pw:List (List Int))(key:Int)(k:Nat):Int×Int:=(((aE (ae ps Pw k) key:Nat):Int),((ownB Pw k key:Nat):Int))
structure jL (H:Hp)(ps:List Nat)(Pw:List (List Int))(key:Int)(wy:List Nat)(D:Addr):Prop where
 ex:∃ zs,H D=some (.lst zs)/\Paired (d6 H ps Pw key) wy zs
def jL.kp {Pw:List (List Int)}{key:Int}{D:Addr}(h:jL H ps Pw key wy D)(k:Kp0 H H'):jL H' ps Pw key wy D:=by
 obtain ⟨zs,h1,h2⟩:=h.ex;exact #[zs,k.lst h1,lq (λb us e=>k.tup e) h2]
def papD (ps:List Nat)(Pw:List (List Int))(key:Int)(wy:List Nat):List T3:=wy.map λk:Nat=>#[(k:Int),((aE (ae ps Pw k) key:Nat):Int),((ownB Pw k key:Nat):Int)]
def xT {K:Frag}{wy:List Nat}{zs:List V}(h2:Paired (d6 H ps Pw key) wy zs):aA K H (papD ps Pw key wy) zs:=by
 unfold papD
 induction h2 with
 | nil=>exact .nil
 | cons g _ ih=>
  obtain ⟨t,rfl,e⟩:=g;exact .cons #[t,_,_,_,rfl,e,rfl,rfl,rfl] ih
def jL.has {K:Frag}{Pw:List (List Int)}{key:Int}{D:Addr}(h:jL H ps Pw key wy D):Rep.has K H (papD ps Pw key wy) (.ref D):=by
 obtain ⟨zs,h1,h2⟩:=h.ex;exact #[D,zs,rfl,SqL.of h1,xT h2]
def ER (T:aN ps)(h:gh ps wy):∀(i:Nat),i<wy.length->isB ps (wy.getD 0 0) (wy.getD i 0)=true
 | 0,_=>fK
 | i+1,hi=>Dz T (ER T h i (by lia)) (h i hi)
def ES {w:List Nat}(T:aN ps)(h:gh ps w):w.Pairwise (· < ·):=by
 have key:∀ d i,i+d+1<w.length->w.getD i 0<w.getD (i+d+1) 0:=by
  intro d
  induction d with
  | zero=>intro i hi;exact (bz T (h i hi)).1
  | succ d ih=>
   intro i hi;have a:=ih i (by lia);have b:=(bz T (h (i+d+1) (by lia))).1;have e:i+(d+1)+1=i+d+1+1:=by lia
   rw[e];lia
 rw[eV];intro i j hi hj hij;have:=key (j-i-1) i (by lia);rw[show i+(j-i-1)+1=j by lia,aH,aH,aC hi,aC hj]at this;exact this
def ET (T:aN ps)(W:cI H wa ps wy):(benL ps (wy.getD 0 0) (ps.length+1)).filter (λk=>decide (k∈wy))=wy:=by
 have h:=EJ (l:=((benL ps (wy.getD 0 0) (ps.length+1)).filter λk=>decide (k∈wy)).map λn:Nat=>(n:Int)) (m:=wy.map λn:Nat=>(n:Int)) (ip.mpr (((sG _ _ _).sublist List.filter_sublist).imp λ{a b} h=>Int.ofNat_lt.mpr h)) (ip.mpr ((ES T W.ch).imp λh=>Int.ofNat_lt.mpr h)) λx=>#[λh=>?_,λh=>?_]
 .exact (List.map_inj_right λa b e=>Int.ofNat.inj e).mp h
 .obtain ⟨n,hn,rfl⟩:=cC.mp h;exact uo (bW (d7.mp hn).2)
 .obtain ⟨n,hn,rfl⟩:=cC.mp h;refine uo (d7.mpr #[gi.mpr #[W.kn _ hn,?_],aO hn]);obtain ⟨i,hi,rfl⟩:=dU hn;have:=ER T W.ch i hi;rwa[aH (i:=i),aC hi]at this
def cI.short (W:cI H wa ps wy)(T:aN ps):wy.length<=ps.length+1:=by
 rw[<-ET T W];exact bS (dW _ _) (kQ _ _ _)
def Nc (T:aN ps)(h:gh ps wy):dg (papD ps Pw key wy)=papD ps Pw key wy:=by
 refine u9 ?_;unfold papD;refine ip.mpr ((ES T h).imp λ{a b} q=>aU ?_);show ¬ ((b:Int)<a\/((b:Int)=a/\_));lia
def Tab4.put {d:Addr}{us vs:List V}(x:Tab4 m0 mF mS mL H)(h:H d=some (.lst us)):Tab4 m0 mF mS mL (upd H d (.lst vs)):=by
 have one:∀{m:Addr} {pos:Pos} {q:Str},aR H m pos q->aR (upd H d (.lst vs)) m pos q:=λ{m pos q} x=>by
  obtain ⟨tab,h1,h2,h3⟩:=x.ex;refine #[tab,?_,h2,?_]
  .rw[ah (λz=>by rw[z,h]at h1;cases h1)]
   exact h1
  rcases h3 with h3|⟨c,h3,h4⟩
  .exact .inl h3
  .refine .inr #[c,h3,?_];have h4':H c=_:=h4;show upd H d (.lst vs) c=_;rw[ah (λz=>by rw[z,h]at h4';cases h4')]
   exact h4'
 exact #[one x.p,one x.f,one x.s,one x.a,one x.b,x.n]
structure BNow (K:Frag)(CS m0 mF mS mL:Addr)(H0 H:Hp)(sh dx st p r wa pf D:Addr)(qs qf:List Addr)(ps:List Nat)(Pw:List (List Int))(t rs:Addr)(as ar:List Addr)(wy:List Nat)(key:Int)(us:List V):Prop where
 S:cJ K CS H sh dx st p qs ps Pw t rs as
 R:fb H r ar Pw
 W:cI H wa ps wy
 hpf:H pf=some (.lst (qf.map V.ref))
 F:bJ K H ps Pw (List.range (ps.length+1)) qf
 D:H D=some (.lst us)
 A:aA K H (wy.map (dueF ps Pw key)) us
 T:Tab4 m0 mF mS mL H
 k:K4 m0 mF mS mL H0 H
section
variable {K:Frag}{CS m0 mF mS mL:Addr}{H0 H H':Hp}{sh dx st p r wa pf D:Addr}{qs qf:List Addr}{ps:List Nat}{Pw:List (List Int)}{t rs:Addr}{as ar:List Addr}{wy:List Nat}{key:Int}{us:List V}
def BNow.k4 (h:BNow K CS m0 mF mS mL H0 H sh dx st p r wa pf D qs qf ps Pw t rs as ar wy key us)(k:K4 m0 mF mS mL H H')(T':Tab4 m0 mF mS mL H'):BNow K CS m0 mF mS mL H0 H' sh dx st p r wa pf D qs qf ps Pw t rs as ar wy key us:=
 have k0:=h.T.k0 k
 #[h.S.k0 k0,h.R.tp (λ_ _ e=>k0.tup e),tL k0 h.W,k0.lst h.hpf,tK k0 h.F,k0.lst h.D,xc k0 h.A,T',h.k.trans k]
def BNow.same (h:BNow K CS m0 mF mS mL H0 H sh dx st p r wa pf D qs qf ps Pw t rs as ar wy key us)(s:Same H H'):BNow K CS m0 mF mS mL H0 H' sh dx st p r wa pf D qs qf ps Pw t rs as ar wy key us:=h.k4 (.of s) (h.T.same s)
def BNow.free {b:Addr}(h:BNow K CS m0 mF mS mL H0 H sh dx st p r wa pf D qs qf ps Pw t rs as ar wy key us)(e:H b=none):H0 b=none:=by
 cases z:H0 b with
 | none=>rfl
 | some o=>
  have:=h.k _ _ (h.T.free e) z;rw[e]at this;cases this
def BNow.has (h:BNow K CS m0 mF mS mL H0 H sh dx st p r wa pf D qs qf ps Pw t rs as ar wy key us):Rep.has K H (wy.map (dueF ps Pw key)) (.ref D):=#[D,us,rfl,SqL.of h.D,h.A]
end
inductive xU (K:Frag)(CS m0 mF mS mL:Addr)(vs:List V)(H:Hp)(Q:VK)(w_1:XK):Prop
 | c:∀(sh dx st p r wa:Addr) (key:Int) (qs:List Addr) (ps:List Nat) (Pw:List (List Int)) (t rs:Addr) (as ar:List Addr) (wy:List Nat),vs=[.ref sh,.ref st,.ref r,.ref wa,.int key]->cJ K CS H sh dx st p qs ps Pw t rs as->fb H r ar Pw->cI H wa ps wy->Tab4 m0 mF mS mL H->(∀ H',K4 m0 mF mS mL H H'->Tab4 m0 mF mS mL H'->Q (.bl true) H')->xU K CS m0 mF mS mL vs H Q w_1
def Nd (T:Txt K mg){mc mp:Addr}(O:OwnC K mg CS)(nK:DFT K mg "_law_by_all" jA rY mc mp)(hBM:BMAt mg base)(hE:FC P w K mg base 8 "full_rows" iQ (jH K))(NY:FC P w K mg base 9 "bridges" rC (spBr K))(NZ:FM P w K mg base CS 8 "find" si (xp K CS mF mS))(N9:FC P w K mg base 6 "places" rF (xj K m0))(Oa:FC P w K mg base 9 "paper_of" rG (xh K mF mS))(Ob:FC P w K mg base 9 "lets_by" rL (xR K))(yS:∀ b,Sub K mg base b->FC P w K mg b 6 "search" mT (tJ P w K mg b mF))(Oc:∀ b,Sub K mg base b->FC P w K mg b 6 "search_beneath" rD (xa P w K mg b mF)):FC P w K mg base 11 "_law_by_all" rY (xU K CS m0 mF mS mp):=by
 refine nK.ok gT (λvs H Q E h=>?_) (λf A outer s H vs Q E hr h=>?_)
 .obtain ⟨sh,dx,st,p,r,wa,key,qs,ps,Pw,t,rs,as,ar,wy,rfl,_⟩:=h;rfl
 obtain ⟨sh,dx,st,p,r,wa,key,qs,ps,Pw,t,rs,as,ar,wy,rfl,S,R,W,TT,q⟩:=h;refine #[_,(bQ (aI (i:=5) gT.nd rfl (fQ rfl) (az hE hr (aa (pv 1) ab)))
   (bQ (aI (i:=6) gT.nd rfl (fQ rfl) (cR ab))
   (bQ (ck PassesOwn.never rfl (c8 (pv 3)) (aQ (i:=7) gT.nd rfl (av rfl)) (bQ (j8 (i:=8) (N:=["_law_entry","_law_key_here"]) (own:=1) (cap:=[4]) gT.nd rfl rfl rfl (c8 (ax (bh (K:=K)) (pv 5) (pv 7) (λ_ _=>rfl))) #[rfl,rfl,rfl,rfl,rfl,rfl] (λ_ _ _ _ _=>(aQ (i:=0) (show List.Nodup (["_law_entry","_law_key_here"]:List Str) by decide +kernel) rfl (av rfl))) (λ_ _ _ _ _=>(gO (aV eL (ax (aL (K:=K)) (pv 0) ag (λ_ _=>rfl)) (pv 1) (aY _)))) (λ_ _ _ _ _=>(pv 0)))
   (ao (cF (dY F.plainAttrs_list F.slot_list_append F.type_list_append dZ (pv 6) (aa (cm (aa (aP (bH (K:=K)) rfl T.bG bE (aa (pv 8) ab)) (aa (aP (bH (K:=K)) rfl T.bG bE (aa (de (N:=["_law_other","_law_key_here"]) (own:=1) (cap:=[4]) rfl (gJ (ax (aL (K:=K)) (pv 2) (pv 7) (λ_ _=>rfl))) #[rfl,rfl,rfl,rfl,rfl,rfl] (λ_ _ _ _ _=>(aQ (i:=0) (show List.Nodup (["_law_other","_law_key_here"]:List Str) by decide +kernel) rfl (av rfl))) (λ_ _ _ _ _=>(gO (aV eL (pv 0) (pv 1) (aY _)))) (λ_ _ _ _ _=>(pv 0))) ab)) ab))) ab))))))
   (iW (bp (PW.pt (jl (aV (iL (List (Int×Int)) (huD hr)) (jz NZ O.cl hr (pv 0) (aa (c9 (iN (K:=K)) rfl T.eR boot_list (aa (pv 3) ab)) (aa (pv 4) ab))) (pv 6) (aY _)) (jk (aV (iL (List Int) (huD hr)) (az N9 hr (aa (pv 1) (aa (c9 (iN (K:=K)) rfl T.eR boot_list (aa (pv 3) ab)) (aa (pv 4) ab)))) (de (N:=["_law_one"]) (own:=1) (cap:=[]) rfl (c8 (pv 6)) #[rfl,rfl,rfl,rfl,rfl,rfl] (λ_ _ _ _ _=>(aQ (i:=0) (show List.Nodup (["_law_one"]:List Str) by decide +kernel) rfl (av rfl))) (λ_ _ _ _ _=>dN) (λ_ _ _ _ _=>(ax (aL (K:=K)) (pv 0) ag (λ_ _=>rfl)))) (aY _))))) (ao (aJ cL)) bx)
   (bQ (aI (i:=9) gT.nd rfl (av rfl) (az NY hr (aa (pv 1) ab)))
   (iW (bp (aV (iL (List (Int×Int)) (huD hr)) (BR (kf:=1) yS hr (pv 9) (c9 (iN (K:=K)) rfl T.eR boot_list (aa (pv 3) ab)) (mw (osc:=aB jA) (N:=["_law_shelf","_law_stand","_law_rows_here","_law_way_here","_law_key_here","_law_fulls","_law_due","_law_knot","_law_some","_law_over","_law_paper","_law_wanted","_law_beneath_it"]) (ps:=["_law_knot","_law_at"]) (caps:=["_law_key_here","_law_fulls"]) (cap:=[4,5]) #[rfl,rfl,rfl,by decide +kernel,by decide +kernel,by decide +kernel,by decide +kernel] (by decide +kernel) (by decide +kernel) rfl rfl rfl rfl (λ_ _ _ _ us hl=>match us,hl with | [_,_],_=>rfl) (λ_=>rfl)) rfl nK.hd hBM (λb _ _ _ _ _ _ _ S hr=>(iE eL (ax (aL (K:=K)) (ax (bh (K:=K)) (ax (bh (K:=K)) (pv 3) (pv 0) (λ_ _=>rfl)) (pv 1) (λ_ _=>rfl)) ag (λ_ _=>rfl)) (pv 2) (aY _)))) (pv 6) (aY _)) (ao (aJ cL)) bx)
   (bQ (aI (i:=10) gT.nd rfl (av rfl) (az Oa hr (aa (pv 1) (aa (c9 (iN (K:=K)) rfl T.eR boot_list (aa (pv 3) ab)) (aa (pv 4) ab)))))
   (bQ (j8 (i:=11) (N:=["_law_k","_law_way_here","_law_due"]) (own:=1) (cap:=[3,6]) gT.nd rfl rfl rfl (fW rfl T.dR (aa (aP (bH (K:=K)) rfl T.bG bE (aa (pv 3) ab)) ab)) #[rfl,rfl,rfl,rfl,rfl,rfl] (λ_ _ _ _ _=>(aQ (i:=0) (show List.Nodup (["_law_k","_law_way_here","_law_due"]:List Str) by decide +kernel) rfl (av rfl))) (λ_ _ _ _ _=>dN) (λ_ _ _ _ _=>(cm (aa (ax (bh (K:=K)) (pv 1) (pv 0) (λ_ _=>rfl)) (aa (ax (aL (K:=K)) (ax (bh (K:=K)) (pv 2) (pv 0) (λ_ _=>rfl)) ag (λ_ _=>rfl)) (aa (ax (aL (K:=K)) (ax (bh (K:=K)) (pv 2) (pv 0) (λ_ _=>rfl)) ag (λ_ _=>rfl)) ab))))))
   (iW (bp (PW.pt (jl (aV (iL (List T3) (huD hr)) (pv 10) (pv 11) (aY _)) (jk (aV Hj (az Ob hr (aa (pv 1) (aa (c9 (iN (K:=K)) rfl T.eR boot_list (aa (pv 3) ab)) (aa (pv 4) (aa (c9 (iN (K:=K)) rfl T.eR boot_list (aa (pv 10) ab)) ab))))) cL (aY _))))) (ao (aJ cL)) bx)
   (bQ (aI (i:=12) gT.nd rfl (av rfl) (BR (kf:=1) Oc hr (pv 9) (ax (bh (K:=K)) (pv 3) ag (λ_ _=>rfl)) (mw (osc:=aB jA) (N:=["_law_shelf","_law_stand","_law_rows_here","_law_way_here","_law_key_here","_law_fulls","_law_due","_law_knot","_law_some","_law_over","_law_paper","_law_wanted","_law_beneath_it"]) (ps:=["_law_knot","_law_at"]) (caps:=["_law_key_here","_law_fulls"]) (cap:=[4,5]) #[rfl,rfl,rfl,by decide +kernel,by decide +kernel,by decide +kernel,by decide +kernel] (by decide +kernel) (by decide +kernel) rfl rfl rfl rfl (λ_ _ _ _ us hl=>match us,hl with | [_,_],_=>rfl) (λ_=>rfl)) rfl nK.hd hBM (λb _ _ _ _ _ _ _ S hr=>(iE eL (ax (aL (K:=K)) (ax (bh (K:=K)) (ax (bh (K:=K)) (pv 3) (pv 0) (λ_ _=>rfl)) (pv 1) (λ_ _=>rfl)) ag (λ_ _=>rfl)) (pv 2) (aY _)))))
   (iW (bp (aV (iL (List T3) (huD hr)) (de (N:=["_law_one","_law_way_here"]) (own:=1) (cap:=[3]) rfl (c8 (pv 12)) #[rfl,rfl,rfl,rfl,rfl,rfl] (λ_ _ _ _ _=>(aQ (i:=0) (show List.Nodup (["_law_one","_law_way_here"]:List Str) by decide +kernel) rfl (av rfl))) (λ_ _ _ _ _=>(gO (aV (vg (K:=K)) (ax (aL (K:=K)) (pv 0) ag (λ_ _=>rfl)) (pv 1) (by with_unfolding_all rfl)))) (λ_ _ _ _ _=>(pv 0))) (aP (vA T3) rfl T.nA boot_sorted (aa (pv 11) ab)) (aY _)) (ao (aJ cL)) bx)
   (bQ (cF (uL F.plainAttrs_list F.slot_list_clear F.type_list_clear AN (pv 10)))
   (bQ (cF (dY F.plainAttrs_list F.slot_list_append F.type_list_append dZ (pv 12) (aa (cm (aa ag (aa ag (aa ag ab)))) ab)))
   (bQ (cF (uL F.plainAttrs_list F.slot_list_clear F.type_list_clear AN (pv 9)))
   (ao (aJ cL)))))))))))))))),?_]
 have hwl:=W.len;intro N1 n1;refine #[_,rfl,st,ps,Pw,t,rs,as,rfl,S.stand,λpf qf H1 hpf s1 h1 _ _ _ hF=>n1 _ _ ?_];intro N2 n2;refine #[(by show 0<=sizeLine;decide),λD hD=>n2 _ _ ?_];have nD:∀{b:Addr} {o:HO},H1 b=some o->b≠D:=λe=>au e hD;have w1:=s1 _ _ W.at_;intro N3 n3;refine #[_,rfl,wa,rfl,#[_,SqL.of (by rw[ah (nD w1)];exact w1)],?_];refine iz (xs:=wy.map nV) (λi U H2=>∃(x7 x8:Option V) (us:List V),U=[some (.ref sh),some (.ref st),some (.ref r),some (.ref wa),some (.int key),some (.ref pf),some (.ref D),x7,x8,none,none,none,none]/\H2 D=some (.lst us)/\aA K H2 ((wy.take i).map (dueF ps Pw key)) us/\But D H1 H2) ?_ ?_ ?_ ?_
 .exact #[_,_,[],rfl,af,.nil,λb o n e=>by rw[ah n];exact e]
 .rintro i U H2 _ ⟨x7,x8,us,rfl,_,_,k2⟩;exact SqL.of (k2 _ _ (nD w1) w1)
 .rintro i x U H2 hx ⟨x7,x8,us,rfl,h2,hA,k2⟩;refine sI λN B R' hN hB' hR'=>?_;obtain ⟨hi,rfl⟩:=jD hx;have hk:wy.getD i 0<ps.length+1:=W.kn _ (lp hi);obtain ⟨qk,hqk,wk,hwk,hak⟩:=fP hF hk;have fz:=m9 S.stand.T S.stand.R S.stand.few S.stand.len S.stand.keys hk;have hwk':=hak.length;have htk1:=nk hi;obtain ⟨b,hb1,hb2⟩:=R.get (k:=wy.getD i 0) (by rw[S.stand.len];exact hk);generalize wy.getD i 0=kn at hk hqk hak fz hwk' htk1 hb1 hb2 ⊢;have hul:=hA.length;rw[ai,bw]at hul;intro N4 n4;refine #[_,rfl,_,rfl,_,_,_,_,rfl,rfl,SqL.of (k2 _ _ (nD h1) h1),fO hqk,qk,rfl,#[_,SqL.of (k2 _ _ (nD hwk) hwk)],λD2 hD2=>?_];have n2':∀{b:Addr} {o:HO},H1 b=some o->b≠D2:=λ{b o} e=>au (k2 _ _ (nD e) e) hD2;refine eZ (xs:=wk) (λj U H5=>∃(x0:Option V) (vs:List V),U=[x0,some (.int key)]/\H5 D2=some (.lst vs)/\vs.length=(((ae ps Pw kn).take j).filter λe=>decide (e.1<key)).length/\But D2 H2 H5) ?_ ?_ ?_ ?_
  .exact #[_,[],rfl,af,rfl,λb o n e=>by rw[ah n];exact e]
  .rintro j U H5 _ ⟨x0,vs,rfl,_,_,k5⟩;exact SqL.of (k5 _ _ (n2' hwk) (k2 _ _ (nD hwk) hwk))
  .rintro j m x U H5 hx hm ⟨x0,vs,rfl,h5,hu,k5⟩;have hj:=(aZ.mp hx).1;obtain ⟨e,he,bb,x1,x2,rfl,hb,e1,e2⟩:∃ e,(ae ps Pw kn)[j]?=some e/\hasP K H1 e x:=nc hak hx;have e1':x1=.int e.1:=e1;subst e1';have htk:(ae ps Pw kn).take (j+1)=(ae ps Pw kn).take j++[e]:=by rw[cy (by lia),(aZ.mp he).2]
   have hsl:(((ae ps Pw kn).take j).filter λe=>decide (e.1<key)).length<=j:=bS (dW _ _) (by rw[bw];lia);refine #[_,rfl,_,_,_,_,rfl,rfl,SqT.of (k5 _ _ (n2' hb) (k2 _ _ (nD hb) hb)),rfl,_,rfl,_,_,rfl,rfl,_,rfl,?_];refine ite2 (λc=>?_) (λc=>?_)
   .refine #[_,rfl,_,h5,a0 (by lia),m-1,by lia,by lia,_,_,rfl,af,?_,λb o n e=>by rw[ah n];exact k5 b o n e];rw[htk,c5,dw (p:=λe:Int×Int=>decide (e.1<key)) c,bg,bg,hu];rfl
   .refine #[m-1,by lia,by lia,_,_,rfl,h5,?_,k5];rw[htk,c5,eJ (p:=λe:Int×Int=>decide (e.1<key)) c,jY,cB];exact hu
  rintro U H5 ⟨x0,vs,rfl,h5,hu,k5⟩;rw[<-hwk',bA (aj _)]at hu;refine n4 _ _ ?_;have s5:Same H2 H5:=λb o e=>k5 b o (au e hD2) e;have up5:∀{b:Addr} {o:HO},H b=some o->H5 b=some o:=λe=>s5 _ _ (k2 _ _ (nD (s1 _ _ e)) (s1 _ _ e));have D5:=s5 _ _ h2;refine #[_,rfl,.inl #[rfl,_,SqL.of D5],_,rfl,_,_,rfl,.inl (SqL.of h5),_,rfl,_,rfl,_,_,_,_,rfl,rfl,SqT.of (up5 R.at_),hb1,b,rfl,#[_,SqT.of (up5 hb2)],λD3 hD3=>?_];refine Nb (up5 hb2) hD3 (S.stand.keys.row _) rfl λH6 s6 h6=>?_;refine #[_,_,rfl,.inl (SqL.of h6),(by show 2<=sizeLine;decide),λu hu'=>?_];rw[ai,hu,show ((ae ps Pw kn).filter λe=>decide (e.1<key)).length=aE (ae ps Pw kn) key from rfl,show ((aw Pw kn).filter λx=>decide (x<key)).length=ownB Pw kn key from rfl];have su:=aD hu' (.tup [.int ((aE (ae ps Pw kn) key:Nat):Int),.int ((ownB Pw kn key:Nat):Int)]);have s2u:=s5.trans (s6.trans su);have h2u:=s2u _ _ h2;refine #[D,us,_,rfl,rfl,h2u,a0 (by lia),hN _ _ #[_,_,us++[.ref u],rfl,af,?_,λb o n e=>by rw[ah n];exact s2u _ _ (k2 b o n e)]];rw[htk1,bq];exact fM h2u ((hA.mono s2u.ext).append (.one #[u,_,_,rfl,af,rfl,rfl]))
 rintro U H2 ⟨x7,x8,us,rfl,h2,hA,k2⟩;rw[ai,bA (aj _)]at hA;refine n3 _ _ ?_;have s2:Same H1 H2:=λb o e=>k2 b o (nD e) e;have s02:=s1.trans s2;have B2:BNow K CS m0 mF mS mp H H2 sh dx st p r wa pf D qs qf ps Pw t rs as ar wy key us:=#[S.k0 (.of s02),R.tp (λ_ _ e=>s02 _ _ e),W.same s02,s2 _ _ h1,tK (.of s2) hF,h2,hA,TT.same s02,.of s02];have ST:=S.stand.T;have SR:=S.stand.R;have few:=S.stand.few;have hfl:∀ k,k<ps.length+1->(ae ps Pw k).length<=1000:=λk hk=>by
  have:=m9 ST SR few S.stand.len S.stand.keys hk;lia
 clear h1 hF h2 hA k2 s2 s02 nD w1 hD hpf s1 R TT S n1 n2 n3 N1 N2 N3;refine #[λU' H'=>U'=[some (.ref sh),some (.ref st),some (.ref r),some (.ref wa),some (.int key),some (.ref pf),some (.ref D),x7,x8,none,none,none,none]/\BNow K CS m0 mF mS mp H H' sh dx st p r wa pf D qs qf ps Pw t rs as ar wy key us,?_,?_]
 .intro N4 n4;refine #[_,rfl,sh,dx,_,rfl,B2.S.ins,rfl,_,rfl,wa,_,rfl,.inl (SqL.of B2.W.at_),λy hy=>?_];have sy:=aD hy (.lst (wy.map nV));have B3:=B2.same sy;refine #[_,rfl,sh,dx,st,p,y,key,qs,ps,Pw,t,rs,as,wy,rfl,B3.S,#[af,W.len,W.ne,W.ch,W.kn],B3.T.ts,λD5 zs H5 hD5 k5 T5 h5 hA5=>?_];obtain ⟨T5',k5'⟩:=B3.T.gS k5 T5;have B5:=B3.k4 k5' T5';refine #[_,rfl,_,_,#[D5,zs,rfl,SqL.of h5,hA5],B5.has,_,rfl,fh rfl ?_];clear B2 B3 hA5 h5 hD5 k5 T5 k5' T5' hy sy;refine #[_,rfl,_,rfl,wa,_,rfl,.inl (SqL.of B5.W.at_),λy2 hy2=>?_];have sy:=aD hy2 (.lst (wy.map nV));have B6:=B5.same sy;refine #[_,rfl,st,y2,ps,Pw,t,rs,as,wy,key,rfl,B6.S.stand,#[af,W.len,W.ne,W.ch,W.kn],B6.T.p,λpl H7 hpl g7 t7 h7=>?_];obtain ⟨T7,k7⟩:=B6.T.g0 g7 t7;have B7:=B6.k4 k7 T7;clear B5 B6 hy2 sy g7 t7 k7 T7 hpl;have hul:=B7.A.length;rw[ai]at hul;refine #[_,rfl,D,rfl,#[_,SqL.of B7.D],λE1 hE1=>?_];refine eZ (xs:=us) (λj U H8=>∃ x0:Option V,U=[x0]/\H8 E1=some (.lst (((wy.take j).map λk=>((ownB Pw k key:Nat):Int)).map V.int))/\But E1 H7 H8) ?_ ?_ ?_ ?_
  .exact #[_,rfl,af,λb o n e=>by rw[ah n];exact e]
  .rintro j U H8 _ ⟨x0,rfl,_,k8⟩;exact k8.sq (SqL.of B7.D) hE1
  .rintro j m x U H8 hx hm ⟨x0,rfl,h8,k8⟩;have hj:=(aZ.mp hx).1;have hjw:j<wy.length:=by lia
   obtain ⟨e,he,hh⟩:=B7.A.get hx;rw[bj,aC hjw]at he;obtain rfl:=aM he;obtain ⟨a,y1,y2,rfl,ha,e1,e2⟩:=(show hasP K H7 _ x from hh);have e2':y2=.int ((ownB Pw wy[j] key:Nat):Int):=e2;subst e2';refine d3 ?_;refine #[_,rfl,_,_,_,_,rfl,rfl,SqT.of (k8 _ _ (au ha hE1) ha),rfl,_,h8,a0 (by rw[ai,ai,bw];lia),m-1,by lia,by lia,_,rfl,?_,λb o n e=>by rw[ah n];exact k8 b o n e];rw[af,cy hjw,bq,bq];rfl
  rintro U H8 ⟨x0,rfl,h8,k8⟩;have s8:Same H7 H8:=λb o e=>k8 b o (au e hE1) e;rw[<-hul,bA (aj _)]at h8;have hp8:=s8 _ _ h7;have ep:((wy.map λk=>fq (aw Pw k) key).map nV)=(wy.map λk=>((ownB Pw k key:Nat):Int)).map V.int:=by
   rw[fA,fA];rfl
  rw[ep]at hp8;exact #[_,_,#[pl,_,rfl,SqL.of hp8,aA.ints],#[E1,_,rfl,SqL.of h8,aA.ints],_,rfl,fh rfl (n4 _ _ #[rfl,B7.same s8])]
 rintro _ H3 ⟨rfl,B3⟩;clear B2;intro N4 n4;refine #[_,rfl,st,ps,Pw,t,rs,as,rfl,B3.S.stand,λbr xs H4 hbr s4 h4 hB4=>n4 _ _ ?_];have B4:=B3.same s4;have fbr:=B3.free hbr;clear B3 n4 N4 s4 hbr;have cap3:∀(U:L2.St),U[4]?=some (some (.int key))->U[5]?=some (some (.ref pf))->∀(j i:Nat) (v:V),([4,5]:List Nat)[j]?=some i->([.int key,.ref pf]:List V)[j]?=some v->U[i]?=some (some v):=λU a1 a2 j i v e1 e2=>by
  rcases j with _|_|j
  .cases e1;cases e2;exact a1
  .cases e1;cases e2;exact a2
  .cases e1
 refine #[λU' H'=>U'=[some (.ref sh),some (.ref st),some (.ref r),some (.ref wa),some (.int key),some (.ref pf),some (.ref D),x7,x8,some (.ref br),none,none,none]/\BNow K CS m0 mF mS mp H H' sh dx st p r wa pf D qs qf ps Pw t rs as ar wy key us/\H' br=some (.lst xs)/\Paired (BrAt [] H' ps Pw) (List.range (ps.length+1)) xs,?_,?_]
 .intro N4 n4;refine #[_,rfl,_,rfl,wa,_,rfl,.inl (SqL.of B4.W.at_),λy hy=>?_];have sy:=aD hy (.lst (wy.map nV));have B5:=B4.same sy;have Wy:cI (upd H4 y (.lst (wy.map nV))) y ps wy:=#[af,W.len,W.ne,W.ch,W.kn];have h5:=sy _ _ h4;have hB5:=gn (.of sy) hB4;generalize upd H4 y (.lst (wy.map nV))=H5 at B5 Wy h5 hB5 ⊢;clear B4 h4 hB4 sy hy;refine #[B5.T.a,[.int key,.ref pf],rfl,cap3 _ rfl rfl,λbs g c' H6 hg hT6 hC hO SB hV=>?_];obtain ⟨T6,k6⟩:=B5.T.gL hg hT6 (hO _ _ rfl B5.T.b);have k06:=B5.T.k0 k6;have B6:=B5.k4 k6 T6;have AF:=xg hV hC T6.f B6.hpf B6.F;have h6:=k06.lst h5;have hB6:=gn k06 hB5;have SE:bF [] mF (λ_ H'=>Gro mF H6 H') ps Pw br xs [] H6:=#[Gro.refl _ _,λa ha=>absurd ha bR,h6,bR,hB6,T6.f];refine #[br,y,g,xs,ps,Pw,wy,key,[],_,_,[],rfl,AF,SE,ST,SR,few,tL k06 Wy,bR,cf _,hfl,λD1 zs1 H7 L' S7 kk7 hD1 h7 hA7 _=>?_];obtain ⟨T7,k7⟩:=T6.gF (λb o n e=>kk7 b o bR n e) S7.tb;have B7:=B6.k4 k7 T7;have k07:=T6.k0 k7;exact #[_,rfl,_,_,#[D1,zs1,rfl,SqL.of h7,hA7],B7.has,_,rfl,fh rfl (n4 _ _ #[rfl,B7,k07.lst h6,gn k07 hB6])]
 rintro _ H5 ⟨rfl,B5,h5,hB5⟩;clear B4 h4 hB4;intro N4 n4;refine #[_,rfl,_,rfl,wa,_,rfl,.inl (SqL.of B5.W.at_),λy hy=>?_];have sy:=aD hy (.lst (wy.map nV));have B6:=B5.same sy;refine #[_,rfl,st,y,key,ps,Pw,t,rs,as,wy,rfl,B6.S.stand,#[af,W.len,W.ne,W.ch,W.kn],B6.T.ts,λpp zs H7 hpp kk7 t7 h7 hP7=>n4 _ _ ?_];obtain ⟨T7,k7⟩:=B6.T.gS kk7 t7;have B7:=B6.k4 k7 T7;have k07:=B6.T.k0 k7;have fpp:=B6.free hpp;have nb:=au (sy _ _ h5) hpp;clear hpp;have b7:=k07.lst (sy _ _ h5);have hB7:=gn k07 (gn (.of sy) hB5);clear B5 h5 hB5 B6 hy sy kk7 t7 T7 k7 k07 n4 N4;intro N4 n4;have hul:=B7.A.length;rw[ai]at hul;refine #[_,rfl,_,_,rfl,.inl (SqL.of B7.W.at_),_,rfl,by rw[ai];lia,by rw[ai];lia,λZ hZ=>?_];rw[ai,fR];refine o8 (n:=wy.length) (λi U H8=>∃(x0:Option V) (vs:List V),U=[x0,some (.ref wa),some (.ref D)]/\H8 Z=some (.lst vs)/\Paired (d6 H8 ps Pw key) (wy.take i) vs/\But Z H7 H8) ?_ ?_ ?_
 .exact #[_,[],rfl,af,.nil,λb o n e=>by rw[ah n];exact e]
 .rintro i m U H8 hm hi ⟨x0,vs,rfl,h8,hP8,k8⟩;rw[jW];have s8:Same H7 H8:=λb o e=>k8 b o (au e hZ) e;have hvl:=Paired.length hP8;rw[bw]at hvl;have iu:i<us.length:=by lia
  obtain ⟨e,he,hh⟩:=B7.A.get (aC iu);rw[bj,aC hi]at he;obtain rfl:=aM he;obtain ⟨a,y1,y2,ea,ha,e1,e2⟩:=(show hasP K H7 _ us[i] from hh);have e1':y1=.int ((aE (ae ps Pw wy[i]) key:Nat):Int):=e1;have e2':y2=.int ((ownB Pw wy[i] key:Nat):Int):=e2;subst e1' e2';have hat:us[i]?=some (.ref a):=by rw[aC iu,ea]
  have eg:wy.getD i 0=wy[i]:=by rw[aH,aC hi];rfl
  have W8:=s8 _ _ B7.W.at_;have D8:=s8 _ _ B7.D;have a8:=s8 _ _ ha;refine d3 ?_;refine #[_,rfl,_,rfl,_,_,_,_,rfl,rfl,SqL.of W8,gY hi,_,rfl,_,rfl,_,_,_,_,rfl,rfl,SqL.of D8,cG hat,_,_,_,_,rfl,rfl,SqT.of a8,rfl,_,rfl,_,rfl,_,_,_,_,rfl,rfl,SqL.of D8,cG hat,_,_,_,_,rfl,rfl,SqT.of a8,rfl,(by show 3<=sizeLine;decide),λu hu=>?_];rw[eg,nk hi,eg];have su:=aD hu (.tup [nV wy[i],.int ((aE (ae ps Pw wy[i]) key:Nat):Int),.int ((ownB Pw wy[i] key:Nat):Int)]);have uu:upd H8 u (.tup [nV wy[i],.int ((aE (ae ps Pw wy[i]) key:Nat):Int),.int ((ownB Pw wy[i] key:Nat):Int)]) u=some (.tup [nV wy[i],.int ((aE (ae ps Pw wy[i]) key:Nat):Int),.int ((ownB Pw wy[i] key:Nat):Int)]):=af;generalize upd H8 u (.tup [nV wy[i],.int ((aE (ae ps Pw wy[i]) key:Nat):Int),.int ((ownB Pw wy[i] key:Nat):Int)])=H9 at su uu ⊢;have z9:=su _ _ h8;have nZ:∀{x:Addr} {us:List V},H9 x=some (.tup us)->x≠Z:=λ{x us} h z=>by
   rw[z,z9]at h;cases h
  refine #[_,z9,a0 (by lia),m-1,by lia,by lia,_,vs++[.ref u],rfl,af,?_,λb o n e=>by rw[ah n];exact su _ _ (k8 b o n e)];exact jJ (dD (λ_ _ zq0=>(by obtain ⟨t,e1,e2⟩:=zq0;exact #[t,e1,by rw[ah (nZ (su _ _ e2))];exact su _ _ e2])) hP8) #[u,rfl,by rw[ah (nZ uu)];exact uu]
 rintro U H8 ⟨x0,vs,rfl,h8,hP8,k8⟩;rw[bA (aj _)]at hP8;refine n4 _ _ ?_;have s8:Same H7 H8:=λb o e=>k8 b o (au e hZ) e;have B8:=B7.same s8;have b8:=s8 _ _ b7;have hB8:=gn (.of s8) hB7;have pp8:jL H8 ps Pw key wy pp:=#[zs,s8 _ _ h7,lq (λ_ _ e=>s8 _ _ e) hP7];have z8:jL H8 ps Pw key wy Z:=#[vs,h8,hP8];clear hP8 h8 k8 s8 hZ hP7 h7 B7 b7 hB7 n4 N4;refine #[λU' H'=>U'=[some (.ref sh),some (.ref st),some (.ref r),some (.ref wa),some (.int key),some (.ref pf),some (.ref D),x7,x8,some (.ref br),some (.ref pp),some (.ref Z),none]/\Same H8 H',?_,?_]
 .intro N4 n4;refine #[_,rfl,_,rfl,_,_,pp8.has,z8.has,_,rfl,fh rfl ?_];refine #[_,rfl,_,rfl,wa,_,rfl,.inl (SqL.of B8.W.at_),λy hy=>?_];have sy:=aD hy (.lst (wy.map nV));obtain ⟨zp,hp1,hp2⟩:=(pp8.kp (.of sy)).ex;refine #[_,rfl,_,rfl,pp,_,rfl,.inl (SqL.of hp1),λy2 hy2=>?_];have s2:=aD hy2 (.lst zp);exact #[st,y,y2,key,ps,Pw,t,rs,as,wy,zp,rfl,B8.S.stand.same (sy.trans s2),#[s2 _ _ af,W.len,W.ne,W.ch,W.kn],af,lq (λ_ _ e=>s2 _ _ e) hp2,λH9 s9=>#[_,_,rfl,rfl,_,rfl,iteF (n4 _ _ #[rfl,sy.trans (s2.trans s9)])]]
 rintro _ H9 ⟨rfl,s9⟩;have B9:=B8.same s9;have b9:=s9 _ _ b8;have hB9:=gn (.of s9) hB8;have pp9:=pp8.kp (.of s9);have z9:=z8.kp (.of s9);clear B8 b8 hB8 pp8 z8 s9;have hw0:0<wy.length:=l0.mpr W.ne;have hk0:wy.getD 0 0<ps.length+1:=W.kn _ (lp hw0);intro N4 n4;refine #[_,rfl,_,rfl,_,_,_,_,rfl,rfl,SqL.of B9.W.at_,gY hw0,?_];refine #[B9.T.b,[.int key,.ref pf],rfl,cap3 _ rfl rfl,λbs g c' HA hg hTA hC hO SB hV=>?_];obtain ⟨TA,kA⟩:=B9.T.gL hg (hO _ _ rfl B9.T.a) hTA;have k0A:=B9.T.k0 kA;have BA:=B9.k4 kA TA;have AF:=xg hV hC TA.f BA.hpf BA.F;have SE:bF [] mF (λ_ H'=>Gro mF HA H') ps Pw br xs [] HA:=#[Gro.refl _ _,λa ha=>absurd ha bR,k0A.lst b9,bR,gn k0A hB9,TA.f];refine #[br,g,xs,ps,Pw,wy.getD 0 0,key,[],_,_,[],rfl,AF,SE,ST,SR,few,hk0,cf _,hfl,λD2 zs2 HB L' SB2 kkB hD2 hB2 hPB _=>n4 _ _ ?_];obtain ⟨TB,kB⟩:=TA.gF (λb o n e=>kkB b o bR n e) SB2.tb;have k0B:=TA.k0 kB;have BB:=BA.k4 kB TB;have fD2:=BA.free hD2;have nb2:=au (k0A.lst b9) hD2;have np2:pp≠D2:=by
  obtain ⟨_,h,_⟩:=(pp9.kp k0A).ex;exact au h hD2
 have bB:=k0B.lst (k0A.lst b9);have ppB:=(pp9.kp k0A).kp k0B;have zB:=(z9.kp k0A).kp k0B;clear AF SE BA hV hC SB hO hTA hg TA kA kB SB2 k0A k0B TB B9 b9 hB9 pp9 z9 n4 N4 kkB hD2;refine #[λU' H'=>U'=[some (.ref sh),some (.ref st),some (.ref r),some (.ref wa),some (.int key),some (.ref pf),some (.ref D),x7,x8,some (.ref br),some (.ref pp),some (.ref Z),some (.ref D2)]/\Same HB H',?_,?_]
 .intro N4 n4;refine #[_,rfl,D2,rfl,#[_,SqL.of hB2],λE1 hE1=>?_];have hbl:=hPB.length;have hb2:=kQ ps (wy.getD 0 0) (ps.length+1);refine eZ (xs:=zs2) (λi U HC=>∃(x0:Option V) (vs:List V),U=[x0,some (.ref wa)]/\HC E1=some (.lst vs)/\Paired (d6 HC ps Pw key) (((benL ps (wy.getD 0 0) (ps.length+1)).take i).filter λk=>decide (k∈wy)) vs/\But E1 HB HC) ?_ ?_ ?_ ?_
  .exact #[_,[],rfl,af,.nil,λb o n e=>by rw[ah n];exact e]
  .rintro i U HC _ ⟨x0,vs,rfl,_,_,kC⟩;exact kC.sq (SqL.of hB2) hE1
  .rintro i m x U HC hx hm ⟨x0,vs,rfl,hC,hPC,kC⟩;have sC:Same HB HC:=λb o e=>kC b o (au e hE1) e;have hi:=(aZ.mp hx).1;obtain ⟨kn,hkn,u,rfl,hu⟩:=nc hPB hx;obtain ⟨hib,rfl⟩:=aZ.mp hkn;have huC:=sC _ _ hu;have hvl:=hPC.length;have hfl2:=dW (λk=>decide (k∈wy)) ((benL ps (wy.getD 0 0) (ps.length+1)).take i);rw[bw]at hfl2;rw[cy hib,c5];generalize (benL ps (wy.getD 0 0) (ps.length+1))[i]=kn at huC;refine #[_,rfl,_,_,_,_,rfl,rfl,SqT.of huC,rfl,_,rfl,wa,_,rfl,.inl (SqL.of (sC _ _ BB.W.at_)),rfl,we _,_,rfl,?_];show if inV (.int (kn:Int)) (wy.map nV)=true then _ else _
   rw[wg];refine ite2 (λc=>?_) (λc=>?_)
   .have nE:∀{x:Addr} {us:List V},HC x=some (.tup us)->x≠E1:=λ{x us} h z=>by rw[z,hC]at h;cases h
    refine #[_,rfl,_,hC,a0 (by lia),m-1,by lia,by lia,_,vs++[.ref u],rfl,af,?_,λb o n e=>by rw[ah n];exact kC b o n e];rw[dw (p:=λk=>decide (k∈wy)) c];exact jJ (dD (λ_ _ zq0=>(by obtain ⟨t,e1,e2⟩:=zq0;exact #[t,e1,by rw[ah (nE e2)];exact e2])) hPC) #[u,rfl,by rw[ah (nE huC)];exact huC]
   .refine #[m-1,by lia,by lia,_,vs,rfl,hC,?_,kC];rw[eJ (p:=λk=>decide (k∈wy)) c,jY,cB];exact hPC
  rintro U HC ⟨x0,vs,rfl,hC,hPC,kC⟩;have sC:Same HB HC:=λb o e=>kC b o (au e hE1) e;rw[<-hbl,bA (aj _),ET ST W]at hPC;obtain ⟨zz,hz1,hz2⟩:=(zB.kp (.of sC)).ex;have hzl:=hz2.length;have wsh:=W.short ST;refine #[_,rfl,Z,zz,papD ps Pw key wy,rfl,SqL.of hz1,xT hz2,by unfold papD;rw[ai];lia,λl ws hl hws=>?_];rw[Nc ST W.ch]at hws;have sl:=aD hl (.lst ws);exact #[_,_,#[E1,vs,rfl,SqL.of (sl _ _ hC),(xT hPC).mono sl.ext],#[l,ws,rfl,SqL.of af,hws.mono sl.ext],_,rfl,fh rfl (n4 _ _ #[rfl,sC.trans sl])]
 rintro _ HC ⟨rfl,sC⟩;have BC:=BB.same sC;obtain ⟨zp,hp1,_⟩:=(ppB.kp (.of sC)).ex;have hC2:=sC _ _ hB2;have bC:=sC _ _ bB;have TC:=BC.T;have kC:=BC.k;have hzl:zs2.length<=900:=by
  have:=hPB.length;have:=kQ ps (wy.getD 0 0) (ps.length+1);lia
 clear BB zB ppB hPB hB2 bB sC BC;intro N4 n4;refine #[_,rfl,.inl #[rfl,_,SqL.of hp1],pp,zp,rfl,rfl,hp1,n4 _ _ ?_];have TD:=TC.put (vs:=[]) hp1;have hD2':upd HC pp (.lst []) D2=some (.lst zs2):=by rw[ah (bf np2)];exact hC2
 have hDb:upd HC pp (.lst []) br=some (.lst xs):=by rw[ah nb];exact bC
 have kD:K4 m0 mF mS mp H (upd HC pp (.lst [])):=λb o n e=>by rw[ah (au e fpp)];exact kC b o n e
 generalize upd HC pp (.lst [])=HD at TD hD2' hDb kD ⊢;clear TC kC bC hC2 hp1 n4 N4;intro N4 n4;refine #[_,rfl,.inl #[rfl,_,SqL.of hD2'],(by show 3<=sizeLine;decide),λu hu=>?_];have su:=aD hu (.tup [.int 0,.int 0,.int 0]);have hu2:=su _ _ hD2';refine #[D2,zs2,_,rfl,rfl,hu2,a0 (by lia),n4 _ _ ?_];have TE:=(TD.same su).put (vs:=zs2++[.ref u]) hu2;have kE:K4 m0 mF mS mp H (upd (upd HD u (.tup [.int 0,.int 0,.int 0])) D2 (.lst (zs2++[.ref u]))):=λb o n e=>by rw[ah (au e fD2)];exact su _ _ (kD b o n e)
 have hEb:upd (upd HD u (.tup [.int 0,.int 0,.int 0])) D2 (.lst (zs2++[.ref u])) br=some (.lst xs):=by rw[ah nb2];exact su _ _ hDb
 generalize upd (upd HD u (.tup [.int 0,.int 0,.int 0])) D2 (.lst (zs2++[.ref u]))=HE at TE kE hEb ⊢;intro N5 n5;refine #[_,rfl,.inl #[rfl,_,SqL.of hEb],br,xs,rfl,rfl,hEb,n5 _ _ ?_];exact q _ (λb o n e=>by rw[ah (au e fbr)];exact kE b o n e) (TE.put hEb)
def Nf {K:Frag}{sh dx st:Addr}{t:Addr}{Q:VK}(S:cO H st ps Pw t rs as)(hsh:H sh=none)(hdx:H dx=none)(hne:dx≠sh)
  (q:∀(p:Addr) (qs:List Addr) (H':Hp),H p=none->(∀ q∈qs,H q=none)->Same H H'->cJ K CS H' sh dx st p qs ps Pw t rs as->Q .non H'):tO K CS [.ref sh,.ref st] (upd (upd H dx (.own sh)) sh (.ins CS dx [])) Q E:=by
 have s1:=aD hdx (.own sh);have hsh1:upd H dx (.own sh) sh=none:=by rw[ah (bf hne)];exact hsh
 have s2:=aD hsh1 (.ins CS dx []);have s12:=s1.trans s2;refine #[sh,dx,st,ps,Pw,t,rs,as,rfl,s2 _ _ af,af,S.same s12,λp qs H' hp hq hb S'=>?_];exact q p qs H' (s12.free hp) (λx hx=>s12.free (hq x hx)) (λb o e=>hb b o (au e hsh) (s12 _ _ e)) S'
structure KNow (K:Frag)(CS m0 mF mS mL a:Addr)(H:Hp)(d sh p t r:Addr)(qs asr:List Addr)(ps:List Nat)(Pw:List (List Int)):Prop where
 now:SNow K CS m0 mF mS mL a H d sh p qs ps Pw
 tree:H t=some (.tup (bY ps))
 Pw:fb H r asr Pw
section
variable {K:Frag}{CS m0 mF mS mL a d sh p t r:Addr}{H H':Hp}{qs asr:List Addr}{ps:List Nat}{Pw:List (List Int)}
def KNow.k4 (h:KNow K CS m0 mF mS mL a H d sh p t r qs asr ps Pw)(k:K4 m0 mF mS mL H H')(T':Tab4 m0 mF mS mL H'):KNow K CS m0 mF mS mL a H' d sh p t r qs asr ps Pw:=
 have k0:=h.now.tab.k0 k
 #[h.now.k4 k T',k0.tup h.tree,h.Pw.tp λb us e=>k0.tup e]
def KNow.same (h:KNow K CS m0 mF mS mL a H d sh p t r qs asr ps Pw)(s:Same H H'):KNow K CS m0 mF mS mL a H' d sh p t r qs asr ps Pw:=h.k4 (.of s) (h.now.tab.same s)
def KNow.take (h:KNow K CS m0 mF mS mL a H d sh p t r qs asr ps Pw)(k:Keep d H H')(s:LS K a d H'):KNow K CS m0 mF mS mL a H' d sh p t r qs asr ps Pw:=#[h.now.take k s,eQ h.now.lsH k _ _ h.tree,h.Pw.tp (eQ h.now.lsH k)]
end
def Wd (Pw:List (List Int))(n m:Nat):Prop:=dC Pw<=n/\∀ j,(aw Pw j).length<=m
def Wd.fw {Pw:List (List Int)}{n:Nat}(h:Wd Pw n m)(hn:n+m<=127):Fw Pw:=λj=>by
 have:=h.1;have:=h.2 j;lia
def Wd.set {Pw:List (List Int)}{n kn:Nat}{r:List Int}(h:Wd Pw n m)(hk:kn<Pw.length)(hr:r.length<=(aw Pw kn).length+1):Wd (Pw.set kn r) (n+1) (m+1):=by
 have e:=xD (r:=r) hk;have:=h.1;refine #[by lia,λj=>?_];by_cases z:j=kn
 .rw[z,lx hk];have:=h.2 kn;lia
 .rw[ly (Pw:=Pw) (r:=r) j z];have:=h.2 j;lia
def Wd.of {Pw:List (List Int)}{n m k:Nat}(f:∀ row∈Pw,row.length<=k)(hk:k<=m)(hn:Pw.length * k<=n):Wd Pw n m:=#[bS (DL f) hn,λj=>by
 by_cases z:j<Pw.length
 .exact bS (f _ (L6 z)) hk
 .unfold aw;rw[aH,eG (by lia)];exact cf _]
structure xV (K:Frag)(m0 mF mS mL a d:Addr)(H:Hp)(t r:Addr)(ps:List Nat)(Pw:List (List Int))(as:List Addr):Prop where
 tree:H t=some (.tup (bY ps))
 rt:fb H r as Pw
 T:aN ps
 R:bc Pw
 few:ps.length<=39
 len:Pw.length=ps.length+1
 wd:Wd Pw 108 9
 ls:LS K a d H
 tab:Tab4 m0 mF mS mL H
inductive lA (K:Frag)(m0 mF mS mL:Addr)(vs:List V)(H:Hp)(Q:VK)(w_1:XK):Prop
 | c:∀(a:Addr) (ns:List Int),vs=[.ref a]->SqL K H a (ns.map V.int)->ns.length<=63->[m0,mF,mS,mL].Nodup->H m0=some (.tbl (List.toArray []))->H mF=some (.tbl (List.toArray []))->H mS=some (.tbl (List.toArray []))->H mL=some (.tbl (List.toArray []))->(∀ H',Q (.bl true) H')->lA K m0 mF mS mL vs H Q w_1
def Ng (T:Txt K mg)(O:OwnC K mg CS)(zE:DF K mg "law" qD rZ)(Od:FC P w K mg base 1 "_law_begin" rN (uT K))(bM:FC P w K mg base 2 "_law_take" fH (f9 K))(Oe:FC P w K mg base 3 "_law_tree" rP (wD K))(EX:FC P w K mg base 5 "_law_rows" rR (wO K))(Og:FC P w K mg base 3 "tree_of" q9 (xA K))(Oh:FC P w K mg base 4 "stand_of" rm (xC K))(Oi:FI P w K mg base CS 9 r6 (tO K CS))(Oj:FC P w K mg base 3 "_law_way" rT (xf K))(Ol:FC P w K mg base 4 "_law_sought" rX (xN K))(Om:FC P w K mg base 11 "_law_by_all" rY (xU K CS m0 mF mS mL))(On:FM P w K mg base CS 1 "stand" sg (xn CS))(Oo:FC P w K mg base 4 "_law_step" rV (xH K))(Oq:FC P w K mg base 1 "_law_behind" rW (xJ K))(Os:FM P w K mg base CS 8 "put" r9 (ny K CS m0 putR EF))(Ot:FM P w K mg base CS 8 "out" sf (ny K CS m0 outR EG)):FC P w K mg base 12 "law" rZ (lA K m0 mF mS mL):=by
 refine zE.ok ef (λvs H Q E h=>?_) (λf cdv A outer s H vs Q E hr h=>?_)
 .obtain ⟨a,ns,rfl,_⟩:=h;rfl
 obtain ⟨a,ns,rfl,hS,_,hnd,hm0,hmF,hmS,hmL,q⟩:=h;have hT0:Tab4 m0 mF mS mL H:=#[#[(List.toArray []),hm0,trivial,.inl rfl],#[(List.toArray []),hmF,trivial,.inl rfl],#[(List.toArray []),hmS,trivial,.inl rfl],#[(List.toArray []),hmL,trivial,.inl rfl],#[(List.toArray []),hmL,trivial,.inl rfl],hnd];refine #[_,(bQ (aI (i:=1) ef.nd rfl (av rfl) (az Od hr (aa (pv 0) ab)))
   (bQ (aI (i:=2) ef.nd rfl (av rfl) (az Oe hr (aa (pv 1) (aa ag ab))))
   (bQ (aI (i:=3) ef.nd rfl (av rfl) (az EX hr (aa (pv 1) (aa (aP (bH (K:=K)) rfl T.bG bE (aa (pv 2) ab)) (aa ag ab)))))
   (iW (bp (aV d9 (az bM hr (aa (pv 1) (aa ag ab))) ag (aY _)) (bQ (aI (i:=2) ef.nd rfl (av rfl) (aG BX (cm (aa oF ab)) (IR rfl rfl T.eS rfl T.dR (aa (aG cz ag (az bM hr (aa (pv 1) (aa ag ab)))) ab))))
   (ao (aI (i:=3) ef.nd rfl (av rfl) (az EX hr (aa (pv 1) (aa (aP (bH (K:=K)) rfl T.bG bE (aa (pv 2) ab)) (aa ag ab))))))) bx)
   (bQ (aI (i:=4) ef.nd rfl (av rfl) (Ip Oi hr O.mgC (aa (az Oh hr (aa (az Og hr (aa (pv 2) ab)) (aa (pv 3) ab))) ab)))
   (bQ (ck PassesOwn.never rfl (fW rfl T.dR (aa (az bM hr (aa (pv 1) (aa ag ab))) ab)) (aQ (i:=5) ef.nd rfl (av rfl)) (bQ (j5 (az Oo hr (aa (pv 1) (aa (pv 2) (aa (pv 3) ab)))) (j4 rfl (dH (aQ (i:=6) ef.nd rfl (av rfl)) (dH (aQ (i:=7) ef.nd rfl (av rfl)) (dH (aQ (i:=8) ef.nd rfl (av rfl)) iy)))))
   (bQ (aI (i:=3) ef.nd rfl (av rfl) (az Oq hr (aa (pv 3) (aa (pv 6) (aa (pv 7) (aa (pv 8) ab))))))
   (ao (bp (c6 (pv 8)) (ao (cF (jz Os O.cl hr (pv 4) (aa (pv 6) (aa (pv 7) ab))))) (ao (cF (jz Ot O.cl hr (pv 4) (aa (pv 6) (aa (pv 7) ab))))))))))
   (bQ (aI (i:=9) ef.nd rfl (av rfl) (Io On O.cl hr (pv 4)))
   (iW (bp (aV (iL (Tup (Option Int)×Tup (Tup Int)) (huD hr)) (pv 9) (cm (aa (pv 2) (aa (pv 3) ab))) (aY _)) (ao (aJ cL)) bx)
   (bQ (ck PassesOwn.never rfl (fW rfl T.dR (aa (aG cz ag (az bM hr (aa (pv 1) (aa ag ab)))) ab)) (aQ (i:=5) ef.nd rfl (av rfl)) (bQ (aI (i:=10) ef.nd rfl (av rfl) (az Oj hr (aa (pv 1) (aa (pv 2) ab))))
   (ao (bp (dG (c6 (az Om hr (aa (pv 4) (aa (pv 9) (aa (pv 3) (aa (pv 10) (aa (az Ol hr (aa (pv 1) (aa (pv 3) (aa (pv 10) ab)))) ab)))))))) (ao (aJ cL)) bx))))
   (ao (aJ cL))))))))))),?_]
 intro N1 n1;refine #[_,rfl,a,ns,rfl,hS,λd H1 _ g1 s1=>n1 _ _ ?_];intro N2 n2;refine #[_,rfl,d,a,12,rfl,by decide,s1,λt ps H2 ht hT hl h2 k2 s2=>n2 _ _ ?_];have hT2:=(hT0.ext g1.ext).ext (s1.ext k2);intro N3 n3;refine #[_,rfl,_,rfl,_,_,rfl,.inr (SqT.of h2),?_];refine #[d,a,(bY ps).length,9,rfl,by rw[cN];lia,by lia,s2,λr0 as0 rows0 H3 hr1 A1 hl1 R1 f1 h3 k3 s3=>n3 _ _ ?_];rw[cN]at hl1;have M3:xV K m0 mF mS mL a d H3 t r0 ps rows0 as0:=#[eQ s2 k3 _ _ h2,#[h3,A1],hT,R1,by lia,hl1,Wd.of f1 (aj _) (by lia),s3,hT2.ext (s2.ext k3)];clear n1 N1 n2 N2 n3 N3 h2 h3 A1 R1 f1 s3 k3 s2 k2 hT2 hT hl1 g1 s1 hT0 hm0 hmF hmS hmL hnd hl;refine #[λU' H'=>∃(t r:Addr) (ps:List Nat) (Pw:List (List Int)) (as:List Addr),U'=[some (.ref a),some (.ref d),some (.ref t),some (.ref r),none,none,none,none,none,none,none]/\xV K m0 mF mS mL a d H' t r ps Pw as,?_,?_]
 .intro N1 n1;refine #[_,rfl,d,a,8,rfl,by decide,M3.ls,λv H4 v0 v1 k4 s4=>?_];have tp4:=eQ M3.ls k4;have M4:xV K m0 mF mS mL a d H4 t r0 ps rows0 as0:=#[tp4 _ _ M3.tree,M3.rt.tp tp4,M3.T,M3.R,M3.few,M3.len,M3.wd,s4,M3.tab.ext (M3.ls.ext k4)];refine #[rfl,_,rfl,ite2 (λ_=>?_) (λ_=>n1 _ _ #[_,_,_,_,_,rfl,M4])];clear M3 tp4 k4;intro N2 n2;refine #[(by show 1<=sizeLine;decide),λe he=>?_];have se:=aD he (.tup [.non]);refine #[_,rfl,d,a,16,rfl,by decide,M4.ls.same se,λx H5 x0 x1 k5 s5=>#[_,_,rfl,rfl,(24+x).toNat,by rw[Int.toNat_of_nonneg (by lia)],by lia,λl hl=>?_]];have hn:(24+x).toNat<=39:=by lia
  have hn1:0<(24+x).toNat:=by lia
  generalize (24+x).toNat=n at hn hn1 hl ⊢;have ee:=eQ (M4.ls.same se) k5 _ _ (af (H:=H4) (a:=e) (o:=.tup [.non]));have sl:=aD hl (.tup ((List.range n).map λi:Nat=>V.int i));refine #[e,l,_,_,rfl,rfl,SqT.of (sl _ _ ee),SqT.of af,eE (a0 (by rw[ai,cU];show 1+_<=_;lia)),nofun,λ_=>#[λz=>?_,λ_ t' ht'=>n2 _ _ ?_]]
  .have:=congrArg List.length z;rw[ai,cU]at this;exact absurd this (by simp;lia)
  have st':=aD ht' (.tup ([V.non]++(List.range n).map λi:Nat=>V.int i));have s6:=s5.same (sl.trans st');have h6:upd (upd H5 l (.tup ((List.range n).map λi:Nat=>V.int i))) t' (.tup ([V.non]++(List.range n).map λi:Nat=>V.int i)) t'=some (.tup (bY (List.range n))):=af;have T6:Tab4 m0 mF mS mL (upd (upd H5 l (.tup ((List.range n).map λi:Nat=>V.int i))) t' (.tup ([V.non]++(List.range n).map λi:Nat=>V.int i))):=((M4.tab.same se).ext ((M4.ls.same se).ext k5)).same (sl.trans st');generalize upd (upd H5 l (.tup ((List.range n).map λi:Nat=>V.int i))) t' (.tup ([V.non]++(List.range n).map λi:Nat=>V.int i))=H6 at s6 h6 T6 ⊢;clear M4 se he ee k5 s5 sl hl st' ht';refine #[_,rfl,_,rfl,_,_,rfl,.inr (SqT.of h6),?_];refine #[d,a,(bY (List.range n)).length,2,rfl,by rw[cN,cU];lia,by lia,s6,λr as Pw H7 _ A7 hl7 R7 f7 h7 k7 s7=>n1 _ _ ?_];rw[cN]at hl7;have ln:=cU (n:=n);exact #[t',r,List.range n,Pw,as,rfl,eQ s6 k7 _ _ h6,#[h7,A7],λi hi=>by rw[List.getElem_range];exact aj _,R7,by lia,hl7,Wd.of f7 (by decide) (by lia),s7,T6.ext (s6.ext k7)]
 clear M3;rintro _ H3 ⟨t,r0,ps,rows0,as0,rfl,M3⟩;have hT:=M3.T;have hl:=M3.few;intro N4 n4;refine #[_,rfl,t,ps,rfl,M3.tree,hT,by lia,λH4 s4=>?_];refine #[_,rfl,t,r0,ps,rows0,as0,rfl,s4 _ _ M3.tree,s4 _ _ M3.rt.at_,M3.rt.Pw.ext s4,M3.len,hT,M3.R,by lia,M3.wd.fw (by decide),λst rs bs H5 hst s5 S5=>?_];have s35:=s4.trans s5;intro sh dx hsh hdx hne;refine Nf S5 hsh hdx hne λp qs H6 hp hqs s6 S6=>#[rfl,n4 _ _ ?_];have s36:=s35.trans s6;have M6:KNow K CS m0 mF mS mL a H6 d sh p t r0 qs as0 ps rows0:=#[SNow.new (M3.ls.same s35) (M3.tab.same s35) s6 hsh hp S6,s36 _ _ M3.tree,M3.rt.tp λ_ _ e=>s36 _ _ e];have R1:=M3.R;have hl1:=M3.len;have hW:=M3.wd;clear s36 s35 S6 S5 M3 n4 N4 s4 s5 s6 hst hsh hdx hne hp hqs;intro N5 n5;refine #[_,rfl,d,a,6,rfl,by decide,M6.now.lsH,λv H7 v0 v1 k7 s7=>#[_,rfl,by lia,by lia,?_]];have M7:=M6.take k7 s7;clear M6;refine ff (n:=v.toNat) (λi U HA=>∃(r:Addr) (asr qs:List Addr) (Pw:List (List Int)) (x5 x6 x7 x8:Option V),U=[some (.ref a),some (.ref d),some (.ref t),some (.ref r),some (.ref sh),x5,x6,x7,x8,none,none]/\KNow K CS m0 mF mS mL a HA d sh p t r qs asr ps Pw/\bc Pw/\Pw.length=ps.length+1/\Wd Pw (108+i) (9+i)) ?_ ?_ ?_
 .exact #[r0,as0,qs,rows0,_,_,_,_,rfl,M7,R1,hl1,hW]
 .clear M7 hW R1 hl1;rintro i U HA hi ⟨r,asr,qs,Pw,x5,x6,x7,x8,rfl,NO,RA,hlen,hW⟩;refine sI λN B R hN hB hR'=>?_;have hz:∀ k,(aw Pw k).length<=62:=λk=>by
   have:=hW.2 k;lia
  intro N3 n3;refine #[_,rfl,_,rfl,_,rfl,d,a,t,r,ps,Pw,asr,rfl,NO.tree,by lia,NO.Pw,hlen,RA,hz,NO.now.lsH,λu kn x HP hu hkn hx huT kP sP=>?_];refine #[u,_,rfl,SqT.of huT,rfl,_,_,rfl,_,_,rfl,_,_,rfl,rfl,n3 _ _ ?_];have NP:=NO.take kP sP;clear NO huT hu kP sP;generalize hb:(!decide (x∈aw Pw kn))=b;have hb:=hb.symm;intro N4 n4;have hkr:kn<Pw.length:=by lia
  refine #[_,rfl,_,rfl,_,rfl,_,rfl,r,kn,x,b,Pw,asr,rfl,NP.Pw,hkr,by lia,RA,hz,hb,λr' as' HQ hr' sQ RQ=>n4 _ _ ?_];have NQ:=NP.same sQ;clear NP;have hW':Wd (tW Pw kn x b) (108+(i+1)) (9+(i+1)):=hW.set hkr (by
   unfold nz;split
   .rw[MK];exact aj _
   .exact Nat.le_succ_of_le (lr _ _).length_le)
  obtain ⟨dx,st,t1,rs1,as1,SQ⟩:=NQ.now.shelf;have fin:∀{dx' st' t' rs':Addr} {qs' as'':List Addr} {HR:Hp},Kd sh p m0 HQ HR->cJ K CS HR sh dx' st' p qs' ps (tW Pw kn x b) t' rs' as''->aR HR m0 eB lamQ->N [some (.ref a),some (.ref d),some (.ref t),some (.ref r'),some (.ref sh),some (.int (0+(i:Int))),some (.int kn),some (.int x),some (.bl b),none,none] HR:=λ{dx' st' t' rs' qs' as'' HR} kd S' tb=>by
   obtain ⟨n',tp⟩:=NQ.now.deed kd S' tb;exact hN _ _ #[r',as',qs',tW Pw kn x b,_,_,_,_,rfl,#[n',tp _ _ NQ.tree,RQ.tp tp],S'.stand.R,S'.stand.len,hW']
  cases b with
  | true=>
   refine #[_,rfl,_,rfl,iteT ?_];refine #[_,rfl,sh,dx,_,rfl,SQ.ins,rfl,_,rfl,_,rfl,sh,dx,st,p,kn,x,qs,ps,Pw,t1,rs1,as1,rfl,SQ,hkn,hx,#[λz=>?_,hW'.fw (by lia)],NQ.now.tab.p,λD us m qs' st' rs' as'' HR _ _ _ kd S' tb _ _=>fin kd S' tb];rw[aO z]at hb;cases hb
  | false=>
   refine #[_,rfl,_,rfl,iteF ?_];refine #[_,rfl,sh,dx,_,rfl,SQ.ins,rfl,_,rfl,_,rfl,sh,dx,st,p,kn,x,qs,ps,Pw,t1,rs1,as1,rfl,SQ,hkn,hx,(show x∈aw Pw kn from Classical.byContradiction λz=>by rw[aU z]at hb;cases hb),NQ.now.tab.p,λD us m qs' st' rs' as'' HR _ _ _ kd S' tb _ _=>fin kd S' tb]
 clear M7 hW R1 hl1 qs;rintro U HA ⟨r,asr,qs,Pw,x5,x6,x7,x8,rfl,NA,RA,hlen,hW⟩;refine n5 _ _ ?_;have hz:∀ k,(aw Pw k).length<=62:=λk=>by
  have:=hW.2 k;lia
 obtain ⟨dx,st,t1,rs1,as1,SA⟩:=NA.now.shelf;intro N6 n6;refine #[_,rfl,sh,dx,_,rfl,SA.ins,rfl,sh,dx,st,p,rfl,SA.ins,n6 _ _ ?_];refine #[λU' H'=>U'=[some (.ref a),some (.ref d),some (.ref t),some (.ref r),some (.ref sh),x5,x6,x7,x8,some (.ref st),none]/\KNow K CS m0 mF mS mL a H' d sh p t r qs asr ps Pw/\cJ K CS H' sh dx st p qs ps Pw t1 rs1 as1,?_,?_]
 .intro N7 n7;refine #[_,rfl,_,rfl,_,rfl,(by show 2<=sizeLine;decide),λu hu=>?_];have su:=aD hu (.tup [.ref t,.ref r]);refine #[xM ps Pw,xM ps Pw,MY (SA.stand.same su),#[u,_,_,rfl,af,#[_,_,rfl,SqT.of (su _ _ NA.tree),EL ps],#[_,_,rfl,SqT.of (su _ _ NA.Pw.at_),xK (NA.Pw.tp λ_ _ e=>su _ _ e).Pw]],_,rfl,?_];exact fh rfl (n7 _ _ #[rfl,NA.same su,SA.k0 (.of su)])
 clear NA SA n5 n6 N5 N6;rintro _ HB ⟨rfl,NB,SB⟩;intro N8 n8;refine #[_,rfl,d,a,4,rfl,by decide,NB.now.lsH,λv2 HC c0 c1 kC sC=>#[_,_,rfl,rfl,_,rfl,by lia,by lia,?_]];have NC:=NB.take kC sC;have SC:=SB.ext (NB.now.lsH.ext kC);clear NB SB;refine ff (n:=(1+v2).toNat) (λi U HA=>∃(x5 x10:Option V),U=[some (.ref a),some (.ref d),some (.ref t),some (.ref r),some (.ref sh),x5,x6,x7,x8,some (.ref st),x10]/\KNow K CS m0 mF mS mL a HA d sh p t r qs asr ps Pw/\cJ K CS HA sh dx st p qs ps Pw t1 rs1 as1) ?_ ?_ ?_
 .exact #[_,_,rfl,NC,SC]
 .clear NC SC;rintro i U HA hi ⟨y5,x10,rfl,NA,SA⟩;refine sI λN B R hN hB hR'=>?_;intro N1 n1;refine #[_,rfl,_,rfl,d,a,t,ps,rfl,NA.tree,hT,by lia,NA.now.lsH,λwa w HB hwa WB kB sB=>n1 _ _ ?_];have NB:=NA.take kB sB;have SB:=SA.ext (NA.now.lsH.ext kB);clear NA SA;refine #[_,rfl,_,rfl,_,rfl,_,rfl,_,rfl,_,rfl,_,rfl,d,a,r,wa,ps,w,Pw,asr,rfl,NB.Pw,hlen,hz,WB,NB.now.lsH,λkey HD kD sD=>?_];have ND:=NB.take kD sD;have eD:=NB.now.lsH.ext kD;have SD:=SB.ext eD;have WD:cI HD wa ps w:=#[eD _ _ WB.at_ nofun,WB.len,WB.ne,WB.ch,WB.kn];exact #[sh,dx,st,p,r,wa,key,qs,ps,Pw,t1,rs1,as1,asr,w,rfl,SD,ND.Pw,WD,ND.now.tab,λHE kE tE=>#[_,rfl,iteF (hN _ _ #[_,_,rfl,ND.k4 kE tE,SD.k0 (ND.now.tab.k0 kE)])]]
 .rintro U HA ⟨y5,x10,rfl,_⟩;exact n8 _ _ (q _)
abbrev lawRoom:Nat:=12
def all_ok (T:Txt K mg){lB lC lD lE lF lG lH lI lJ lK:Addr}(CL:Cls K mg lB lC lD lE lF lG lH lI lJ lK)(O:OwnC K mg CS){mc6 mp6 mc34 mp34 mc38 mp38 mc60 mp60:Addr}(hBM:BMAt mg base)(yF:DF K mg "is_whole" px kF)(yG:DF K mg "is_key" pz mG)(y8:DF K mg "need_key" pA qT)(yg:DF K mg "code" pB qU)(t5:DF K mg "how_many_below" pC mH)(ud:DFT K mg "place" kg kG mc6 mp6)(yp:DF K mg "joined_up" pD mI)(ye:DF K mg "lowest_unlike" pE qV)(yh:DF K mg "turned" pF qW)(yi:DF K mg "labels" pG qX)(yj:DF K mg "neighbours" pH mJ)(yk:DF K mg "least_free" pI qY)(yl:DF K mg "colours" pJ qZ)(yn:DF K mg "marks" pK q0)(yo:DF K mg "handed" pL mK)(yH:DF K mg "is_one_of_first" pM kH)(zg:DF K mg "tree_of" pN q9)(yZ:DF K mg "need_knot" pO rg)(yr:DF K mg "children" pP mM)(yt:DF K mg "beneath" pQ rh)(yI:DF K mg "is_way" pR rj)(yJ:DF K mg "need_way" pS jC)(zh:DF K mg "row_of" pT rl)(zi:DF K mg "long_together" pU mN)(zj:DF K mg "stand_of" pV rm)(zm:DF K mg "with_row" pW mO)(yu:DF K mg "own_entries" pX rp)(yv:DF K mg "full_rows_beneath" pY rq)(yy:DF K mg "full_rows" pZ iQ)(yB:DF K mg "owns_of" p0 rA)(yC:DF K mg "starts_of" p5 rB)(yD:DF K mg "bridges_of" p6 kI)(yE:DF K mg "bridges" p7 rC)(t8:DFT K mg "first_place" kh mP mc34 mp34)(ua:DF K mg "start_in" p8 mQ)(ub:DF K mg "next_place" p9 mR)(yL:DF K mg "search" qa mT)(uc:DFT K mg "search_for_key" kj mU mc38 mp38)(yP:DF K mg "search_beneath" qb rD)(yV:DF K mg "rows_on" qd rE)(yW:DF K mg "places" qe rF)(yT:DF K mg "paper_of" qg rG)(zy:DF K mg "is_line" qh rH)(zA:DF K mg "is_place_in" qi rJ)(zC:DF K mg "is_near_start" ql rK)(zD:DF K mg "lets_by" qm rL)(zc:DF K mg "without" qo rM)(yc:DF K mg "_law_begin" qp rN)(ya:DF K mg "_law_mixed" qr rO)(yd:DF K mg "_law_take" qt fH)(yf:DF K mg "_law_key" qu kJ)(yq:DF K mg "_law_tree" qv rP)(yz:DF K mg "_law_row" qw rQ)(yA:DF K mg "_law_rows" qx rR)(yQ:DF K mg "_law_children" qy rS)(yR:DF K mg "_law_way" qz rT)(zv:DF K mg "_law_step" qA rV)(zw:DF K mg "_law_behind" qB rW)(zx:DF K mg "_law_sought" qC rX)(nK:DFT K mg "_law_by_all" jA rY mc60 mp60)(zE:DF K mg "law" qD rZ)(yX:DI K CS "Shelf.__init__" qE r6)(za:DM K CS "row_for" "Shelf.row_for" qF mV)(zd:DM K CS "carry_up" "Shelf.carry_up" qG mW)(zo:DM K CS "put" "Shelf.put" qH r9)(zu:DM K CS "out" "Shelf.out" qI sf)(Pq:DM K CS "hang" "Shelf.hang" Cr Js)(yY:DM K CS "stand" "Shelf.stand" qJ sg)(Pr:DM K CS "full" "Shelf.full" Cs Jt)(zb:DM K CS "find" "Shelf.find" qK si):FC P w K mg base 12 "law" rZ (lA K mp6 mp34 mp38 mp60):=
 have m:=Kk (P:=P) (w:=w) (base:=base) T ya;have t:=Km T yd m;have c:=Kt (P:=P) (w:=w) (base:=base) T yg;have nb:=KR (P:=P) (w:=w) (base:=base) T yj;have mk:=K2 T yn (KH T yi c (Ky T yh (Kn T ye))) (KW T yl nb (KS T yk)) nb;have hd:=K6 T yo mk;have ch:=Lb (P:=P) (w:=w) (base:=base) T yr;have jo:=K8 (P:=P) (w:=w) (base:=base) T yp;have fr:=Ll T yv (Lc T yt) ch hd (Lk T yu) jo;have fu:=Ln T yy fr;have bo:=LF T yD ch (LD T yC) (LB T yB);have br:=LG T yE fu bo;have ky:=Kp T yf t;have fi:=λ(b:Heap) (S:Sub K mg base b)=>LU (P:=P) (w:=w) (base:=b) T t8 (hBM.lift S) (λb' _=>DQ (base:=b') T t5);have se:=λ(b:Heap) (S:Sub K mg base b)=>LV (P:=P) (w:=w) (base:=b) (mp:=mp34) T yL (fi b S) (DW T ua) (DX T ub);have be:=λ(b:Heap) (S:Sub K mg base b)=>L0 (P:=P) (w:=w) (base:=b) (mp:=mp34) T yP (fi b S) (DX T ub);have wh:=LK (P:=P) (w:=w) (base:=base) T yF;have one:=LM T yH wh;have nd:=LO T yJ (LN T yI one);have fk:=Mc T uc hBM bo se;have ik:=LL T yG wh;have lg:=MG (P:=P) (w:=w) (base:=base) T zi;have kn:=Mn T yZ one;have rf:=Mp T O za kn (Mo T y8 ik);have pl:=Mg (P:=P) (w:=w) (base:=base) T ud hBM (λb=>DQ (base:=b) T t5);have wr:=MI (P:=P) (w:=w) (base:=base) T zm;have cu:=Mw T O zd hd jo (Ms T zc);have pa:=Me T yT nd fu fk;have le:=M8 T zD nd (M0 T zy wh) fu bo (M1 T zA) (M5 T zC (DW T ua));have by_:=Nd T O nK hBM fu br (Mq T O zb nd fk) (Mi T yW (Mh T yV nd) pl) pa le se be
 Ng T O zE (Kl T yc) t (La T yq t) (Lq T yA t (Lp T yz t ky)) (MD T zg one) (MH T zj (ME T zh ik) lg) (Ml T O yX fu) (Mb T yR t (L7 T yQ)) (MZ T zx t ky) by_ (Mm O yY) (MR T zv t ky) (MU T zw) (ML T O zo rf lg pl wr cu) (MN T O zu rf pl wr cu)
end
def u1 {P:List Value->Prop}(h:∀ a,P [a])(us:List Value)(hl:us.length=1):P us:=by
 rcases us with _|⟨a,_|⟨z,us⟩⟩
 .cases hl
 .exact h a
 .exact absurd hl (by simp)
def u2 {P:List Value->Prop}(h:∀ a b,P [a,b])(us:List Value)(hl:us.length=2):P us:=by
 rcases us with _|⟨a,_|⟨b,_|⟨z,us⟩⟩⟩
 .cases hl
 .cases hl
 .exact h a b
 .exact absurd hl (by simp)
def u3 {P:List Value->Prop}(h:∀ a b c,P [a,b,c])(us:List Value)(hl:us.length=3):P us:=by
 rcases us with _|⟨a,_|⟨b,_|⟨c,_|⟨z,us⟩⟩⟩⟩
 .cases hl
 .cases hl
 .cases hl
 .exact h a b c
 .exact absurd hl (by simp)
def u4 {P:List Value->Prop}(h:∀ a b c d,P [a,b,c,d])(us:List Value)(hl:us.length=4):P us:=by
 rcases us with _|⟨a,_|⟨b,_|⟨c,_|⟨d,_|⟨z,us⟩⟩⟩⟩⟩
 .cases hl
 .cases hl
 .cases hl
 .cases hl
 .exact h a b c d
 .exact absurd hl (by simp)
def u5 {P:List Value->Prop}(h:∀ a b c d e,P [a,b,c,d,e])(us:List Value)(hl:us.length=5):P us:=by
 rcases us with _|⟨a,_|⟨b,_|⟨c,_|⟨d,_|⟨e,_|⟨z,us⟩⟩⟩⟩⟩⟩
 .cases hl
 .cases hl
 .cases hl
 .cases hl
 .cases hl
 .exact h a b c d e
 .exact absurd hl (by simp)
structure AD (K:Frag)(x:Str)(st:Stmt):Prop where
 ex:∃(f:Addr) (oc:Value) (od:Option Addr) (kV dc pm:Value) (an:Option Addr) (cd ct:Value) (sl:Array (Option Value)),nsIn K mainGlobals x=some (some (.ref f))/\K.lookup f=some #[oc,od,.func (fnOf x x (eO st) (dk st) (aB st) .none kV dc pm an cd ct),sl]/\codeIn K cd x=true/\keepIn K (.ref f)=true
def AD.of {K:Frag}{x:Str}{st:Stmt}{f:Addr}{oc:Value}{od:Option Addr}{kV dc pm:Value}{an:Option Addr}{cd ct:Value}{sl:Array (Option Value)}(a:nsIn K mainGlobals x=some (some (.ref f)))(l:K.lookup f=some #[oc,od,.func (fnOf x x (eO st) (dk st) (aB st) .none kV dc pm an cd ct),sl])(c:codeIn K cd x=true)(k:keepIn K (.ref f)=true):AD K x st:=#[f,oc,od,kV,dc,pm,an,cd,ct,sl,a,l,c,k]
def AD.df {K:Frag}{h:Heap}{mg:Str->Option Value}{st:Stmt}{ps:List Str}(a:AD K x st)(X:K.In h)(G:h.Ns mainGlobals mg)
  (hb:∀(kV doc pm:Value) (an:Option Addr) (cdv ct:Value) (us:List Value),us.length=ps.length->bindArgs (fnOf x x (eO st) (dk st) (aB st) .none kV doc pm an cdv ct) #[us,[]]=pure (ps.zip us):=by
   first|exact λ_ _ _ _ _ _=>u1 λ_=>rfl|exact λ_ _ _ _ _ _=>u2 λ_ _=>rfl|exact λ_ _ _ _ _ _=>u3 λ_ _ _=>rfl|exact λ_ _ _ _ _ _=>u4 λ_ _ _ _=>rfl|exact λ_ _ _ _ _ _=>u5 λ_ _ _ _ _=>rfl|exact λ_ _ _ _ _ _=>u6 λ_ _ _ _ _ _=>rfl):DF K mg x st ps:=by
 obtain ⟨f,oc,od,kV,dc,pm,an,cd,ct,sl,a,l,c,k⟩:=a.ex;exact #[_,_,jt l c k,(jt l c k).binds hb,mg_of X G a]
def AD.dft {K:Frag}{h:Heap}{mg:Str->Option Value}{st:Stmt}{ps:List Str}{mc mp:Addr}(a:AD K x st)(X:K.In h)(G:h.Ns mainGlobals mg)(t:tabIn K x=some (mc,mp))(hh:codeHdIn K mc mp=true)
  (hb:∀(kV doc pm:Value) (an:Option Addr) (cdv ct:Value) (us:List Value),us.length=ps.length->bindArgs (fnOf x x (eO st) (dk st) (aB st) .none kV doc pm an cdv ct) #[us,[]]=pure (ps.zip us):=by
   first|exact λ_ _ _ _ _ _=>u1 λ_=>rfl|exact λ_ _ _ _ _ _=>u2 λ_ _=>rfl|exact λ_ _ _ _ _ _=>u3 λ_ _ _=>rfl|exact λ_ _ _ _ _ _=>u4 λ_ _ _ _=>rfl|exact λ_ _ _ _ _ _=>u5 λ_ _ _ _ _=>rfl|exact λ_ _ _ _ _ _=>u6 λ_ _ _ _ _ _=>rfl):DFT K mg x st ps mc mp:=by
 obtain ⟨f,oc,od,kV,dc,pm,an,cd,ct,sl,a,l,c,k⟩:=a.ex;have e:cd=.ref mc:=L2.HV a l t;subst e;exact #[#[_,_,_,_,_,_,_,_,_,l,c,k,mg_of X G a,(jt l c k).binds hb],hh]
structure AM (K:Frag)(C:Addr)(m q:Str)(st:Stmt):Prop where
 ex:∃(f:Addr) (oc:Value) (od:Option Addr) (kV dc pm:Value) (an:Option Addr) (cd ct:Value) (sl:Array (Option Value)),findIn K (.ref C) m=some (some (.ref f))/\W.isFn K (.ref f)=true/\K.lookup f=some #[oc,od,.func (fnOf m q (eO st) (dk st) (aB st) .none kV dc pm an cd ct),sl]/\codeIn K cd q=true/\keepIn K (.ref f)=true
def AM.of {K:Frag}{C:Addr}{m q:Str}{st:Stmt}{f:Addr}{oc:Value}{od:Option Addr}{kV dc pm:Value}{an:Option Addr}{cd ct:Value}{sl:Array (Option Value)}(a:findIn K (.ref C) m=some (some (.ref f)))(i:W.isFn K (.ref f)=true)(l:K.lookup f=some #[oc,od,.func (fnOf m q (eO st) (dk st) (aB st) .none kV dc pm an cd ct),sl])(c:codeIn K cd q=true)(k:keepIn K (.ref f)=true):AM K C m q st:=#[f,oc,od,kV,dc,pm,an,cd,ct,sl,a,i,l,c,k]
def AM.dm {K:Frag}{st:Stmt}{ps:List Str}(a:AM K C m q st)
  (hb:∀(kV doc pm:Value) (an:Option Addr) (cdv ct:Value) (us:List Value),us.length=ps.length->bindArgs (fnOf m q (eO st) (dk st) (aB st) .none kV doc pm an cdv ct) #[us,[]]=pure (ps.zip us):=by
   first|exact λ_ _ _ _ _ _=>u1 λ_=>rfl|exact λ_ _ _ _ _ _=>u2 λ_ _=>rfl|exact λ_ _ _ _ _ _=>u3 λ_ _ _=>rfl|exact λ_ _ _ _ _ _=>u4 λ_ _ _ _=>rfl|exact λ_ _ _ _ _ _=>u5 λ_ _ _ _ _=>rfl|exact λ_ _ _ _ _ _=>u6 λ_ _ _ _ _ _=>rfl):DM K C m q st ps:=by
 obtain ⟨f,oc,od,kV,dc,pm,an,cd,ct,sl,a,i,l,c,k⟩:=a.ex;exact #[_,_,jt l c k,(jt l c k).binds hb,#[a,i,k]]
def AM.di {K:Frag}{q:Str}{st:Stmt}{ps:List Str}(a:AM K C "__init__" q st)(mk:W.makesIn K C=true)(kc:keepIn K (.ref C)=true)
  (hb:∀(kV doc pm:Value) (an:Option Addr) (cdv ct:Value) (us:List Value),us.length=ps.length->bindArgs (fnOf "__init__" q (eO st) (dk st) (aB st) .none kV doc pm an cdv ct) #[us,[]]=pure (ps.zip us):=by
   first|exact λ_ _ _ _ _ _=>u1 λ_=>rfl|exact λ_ _ _ _ _ _=>u2 λ_ _=>rfl|exact λ_ _ _ _ _ _=>u3 λ_ _ _=>rfl|exact λ_ _ _ _ _ _=>u4 λ_ _ _ _=>rfl|exact λ_ _ _ _ _ _=>u5 λ_ _ _ _ _=>rfl|exact λ_ _ _ _ _ _=>u6 λ_ _ _ _ _ _=>rfl):DI K C q st ps:=by
 obtain ⟨f,oc,od,kV,dc,pm,an,cd,ct,sl,a,i,l,c,k⟩:=a.ex;exact #[_,_,jt l c k,(jt l c k).binds hb,#[mk,a,i,kc]]
def Nh {l:OpenLaw}{K:Frag}{h:Heap}{mg:Str->Option Value}{fa mc6 mp6 mc34 mp34 mc38 mp38 mc60 mp60 lB lC lD lE lF lG lH lI lJ lK CS:Addr}(X:K.In h)(G:h.Ns mainGlobals mg)(hfa:mg "law" = some (.ref fa)){t_KNOT_NUMBERS:Tok}{t_TURNS:Tok}{t_MOST_KNOTS:Tok}{t_MOST_KEYS:Tok}{t_MOST_BEHIND_START:Tok}(a1:AD K "is_whole" px)(a2:AD K "is_key" pz)(a3:AD K "need_key" pA)(a4:AD K "code" pB)(a5:AD K "how_many_below" pC)(a6:AD K "place" kg)(a7:AD K "joined_up" pD)(a8:AD K "lowest_unlike" pE)(a9:AD K "turned" pF)(a10:AD K "labels" pG)(a11:AD K "neighbours" pH)(a12:AD K "least_free" pI)(a13:AD K "colours" pJ)(a14:AD K "marks" pK)(a15:AD K "handed" pL)(a16:AD K "is_one_of_first" pM)(a17:AD K "tree_of" pN)(a18:AD K "need_knot" pO)(a19:AD K "children" pP)(a20:AD K "beneath" pQ)(a21:AD K "is_way" pR)(a22:AD K "need_way" pS)(a23:AD K "row_of" pT)(a24:AD K "long_together" pU)(a25:AD K "stand_of" pV)(a26:AD K "with_row" pW)(a27:AD K "own_entries" pX)(a28:AD K "full_rows_beneath" pY)(a29:AD K "full_rows" pZ)(a30:AD K "owns_of" p0)(a31:AD K "starts_of" p5)(a32:AD K "bridges_of" p6)(a33:AD K "bridges" p7)(a34:AD K "first_place" kh)(a35:AD K "start_in" p8)(a36:AD K "next_place" p9)(a37:AD K "search" qa)(a38:AD K "search_for_key" kj)(a39:AD K "search_beneath" qb)(a40:AD K "rows_on" qd)(a41:AD K "places" qe)(a42:AD K "paper_of" qg)(a43:AD K "is_line" qh)(a44:AD K "is_place_in" qi)(a45:AD K "is_near_start" ql)(a46:AD K "lets_by" qm)(a47:AD K "without" qo)(a48:AD K "_law_begin" qp)(a49:AD K "_law_mixed" qr)(a50:AD K "_law_take" qt)(a51:AD K "_law_key" qu)(a52:AD K "_law_tree" qv)(a53:AD K "_law_row" qw)(a54:AD K "_law_rows" qx)(a55:AD K "_law_children" qy)(a56:AD K "_law_way" qz)(a57:AD K "_law_step" qA)(a58:AD K "_law_behind" qB)(a59:AD K "_law_sought" qC)(a60:AD K "_law_by_all" jA)(a61:AD K "law" qD)(t6:tabIn K "place" = some (mc6,mp6))(h6:codeHdIn K mc6 mp6=true)(t34:tabIn K "first_place" = some (mc34,mp34))(h34:codeHdIn K mc34 mp34=true)(t38:tabIn K "search_for_key" = some (mc38,mp38))(h38:codeHdIn K mc38 mp38=true)(t60:tabIn K "_law_by_all" = some (mc60,mp60))(h60:codeHdIn K mc60 mp60=true)(o_C:nsIn K mainGlobals "Shelf" = some (some (.ref CS)))(o_g:W.plainGet K CS Str.empty=true)(o_h:W.hasDictIn K CS=true)(o_p:W.plainOver K CS=true)(o_s:findIn K (.ref CS) "__setattr__" = some (some (.builtin "object.__setattr__")))(o_m:W.makesIn K CS=true)(o_k:keepIn K (.ref CS)=true)(Ou:findIn K (.ref CS) "kept" = some none)(Ov:findIn K (.ref CS) "fulls" = some none)(Ow:AM K CS "__init__" "Shelf.__init__" qE)(Ox:AM K CS "row_for" "Shelf.row_for" qF)(Oy:AM K CS "carry_up" "Shelf.carry_up" qG)(Oz:AM K CS "put" "Shelf.put" qH)(OA:AM K CS "out" "Shelf.out" qI)(OB:AM K CS "hang" "Shelf.hang" Cr)(OC:AM K CS "stand" "Shelf.stand" qJ)(OD:AM K CS "full" "Shelf.full" Cs)(OE:AM K CS "find" "Shelf.find" qK)(OF:nsIn K mainGlobals "BridgeError" = some (some (.ref lB)))(OG:nsIn K mainGlobals "NoTree" = some (some (.ref lC)))(OH:nsIn K mainGlobals "NoWay" = some (some (.ref lD)))(OI:nsIn K mainGlobals "NoStand" = some (some (.ref lE)))(OJ:nsIn K mainGlobals "Twice" = some (some (.ref lF)))(OK:nsIn K mainGlobals "Missing" = some (some (.ref lG)))(OL:nsIn K mainGlobals "NoRoom" = some (some (.ref lH)))(OM:nsIn K mainGlobals "NoKnot" = some (some (.ref lI)))(ON:nsIn K mainGlobals "NoKey" = some (some (.ref lJ)))(OO:nsIn K mainGlobals "Shelf" = some (some (.ref lK)))(OP:nsIn K mainGlobals "abs" = some none)(OQ:nsIn K mainGlobals "all" = some none)(OR:nsIn K mainGlobals "bool" = some none)(OS:nsIn K mainGlobals "dict" = some none)(OT:nsIn K mainGlobals "enumerate" = some none)(OU:nsIn K mainGlobals "int" = some none)(OV:nsIn K mainGlobals "isinstance" = some none)(OW:nsIn K mainGlobals "len" = some none)(OX:nsIn K mainGlobals "list" = some none)(OY:nsIn K mainGlobals "max" = some none)(OZ:nsIn K mainGlobals "min" = some none)(O0:nsIn K mainGlobals "range" = some none)(O1:nsIn K mainGlobals "reversed" = some none)(O2:nsIn K mainGlobals "set" = some none)(O3:nsIn K mainGlobals "sorted" = some none)(O4:nsIn K mainGlobals "sum" = some none)(O7:nsIn K mainGlobals "tuple" = some none)(O8:nsIn K mainGlobals "zip" = some none)(O9:nsIn K mainGlobals "KNOT_NUMBERS" = some (some (.int 64 t_KNOT_NUMBERS)))(Pa:nsIn K mainGlobals "TURNS" = some (some (.int 5 t_TURNS)))(Pb:nsIn K mainGlobals "MOST_KNOTS" = some (some (.int 40 t_MOST_KNOTS)))(Pc:nsIn K mainGlobals "MOST_KEYS" = some (some (.int 300 t_MOST_KEYS)))(Pd:nsIn K mainGlobals "MOST_BEHIND_START" = some (some (.int 2 t_MOST_BEHIND_START))) :
  ∃ fd:FuncData,(∀(s:Shared) (v:Value),BindsTo s fd #[[v],[]] [("_law_script",v)])/\∀ base:Heap,K.In base->base.Ns mainGlobals mg->L2.BMAt mg base->FnOk l.prog w K mg base CX0 lawRoom fa fd ["_law_script"] (lA K mp6 mp34 mp38 mp60):=by
 obtain ⟨f,oc,od,kV,dc,pm,an,cd,ct,sl,a,l,c,k⟩:=a61.ex;have e:=hfa.symm.trans (mg_of X G a);cases e
 have T:Txt K mg:=#[mg_none_of X G OP,mg_none_of X G OQ,mg_none_of X G OR,mg_none_of X G OS,mg_none_of X G OT,mg_none_of X G OU,mg_none_of X G OV,mg_none_of X G OW,mg_none_of X G OX,mg_none_of X G OY,mg_none_of X G OZ,mg_none_of X G O0,mg_none_of X G O1,mg_none_of X G O2,mg_none_of X G O3,mg_none_of X G O4,mg_none_of X G O7,mg_none_of X G O8,#[_,mg_of X G O9],#[_,mg_of X G Pa],#[_,mg_of X G Pb],#[_,mg_of X G Pc],#[_,mg_of X G Pd]];have CL:Cls K mg lB lC lD lE lF lG lH lI lJ lK:=#[mg_of X G OF,mg_of X G OG,mg_of X G OH,mg_of X G OI,mg_of X G OJ,mg_of X G OK,mg_of X G OL,mg_of X G OM,mg_of X G ON,mg_of X G OO];have O:OwnC K mg CS:=#[#[o_g,o_h,o_p,o_s],mg_of X G o_C,Ou,Ov];exact #[_,λs v=>.of_eq rfl,λbase _ _ hBM=>(all_ok (P:=_) (w:=w) (base:=base) T CL O hBM (a1.df X G) (a2.df X G) (a3.df X G) (a4.df X G) (a5.df X G) (a6.dft X G t6 h6) (a7.df X G) (a8.df X G) (a9.df X G) (a10.df X G) (a11.df X G) (a12.df X G) (a13.df X G) (a14.df X G) (a15.df X G) (a16.df X G) (a17.df X G) (a18.df X G) (a19.df X G) (a20.df X G) (a21.df X G) (a22.df X G) (a23.df X G) (a24.df X G) (a25.df X G) (a26.df X G) (a27.df X G) (a28.df X G) (a29.df X G) (a30.df X G) (a31.df X G) (a32.df X G) (a33.df X G) (a34.dft X G t34 h34) (a35.df X G) (a36.df X G) (a37.df X G) (a38.dft X G t38 h38) (a39.df X G) (a40.df X G) (a41.df X G) (a42.df X G) (a43.df X G) (a44.df X G) (a45.df X G) (a46.df X G) (a47.df X G) (a48.df X G) (a49.df X G) (a50.df X G) (a51.df X G) (a52.df X G) (a53.df X G) (a54.df X G) (a55.df X G) (a56.df X G) (a57.df X G) (a58.df X G) (a59.df X G) (a60.dft X G t60 h60) (a61.df X G) (Ow.di o_m o_k) (Ox.dm) (Oy.dm) (Oz.dm) (OA.dm) (OB.dm) (OC.dm) (OD.dm) (OE.dm)).at (mg_of X G a) l]
def walk {l:OpenLaw}{q:Program}{loose:List Str}{XP:(Str->Option Value)->Heap->Prop}{YP:World->Heap->Prop}{d:DefRec}{K:Params->Frag}{mc6 mp6 mc34 mp34 mc38 mp38 mc60 mp60:Addr}(hn:l.most=some 63)(hdf:d.params.defaults=[])
  (hY:∀(w:World) (h:Heap),YP w h->(K w.params).In h) (hYT6:∀(w:World) (h:Heap),YP w h->h.get? mp6=some (W.tabObj (List.toArray []))) (hC6:∀(w:World),codeHdIn (K w.params) mc6 mp6=true) (hD6:∀(w:World),(K w.params).lookup mp6=none) (hYT34:∀(w:World) (h:Heap),YP w h->h.get? mp34=some (W.tabObj (List.toArray []))) (hC34:∀(w:World),codeHdIn (K w.params) mc34 mp34=true) (hD34:∀(w:World),(K w.params).lookup mp34=none) (hYT38:∀(w:World) (h:Heap),YP w h->h.get? mp38=some (W.tabObj (List.toArray []))) (hC38:∀(w:World),codeHdIn (K w.params) mc38 mp38=true) (hD38:∀(w:World),(K w.params).lookup mp38=none) (hYT60:∀(w:World) (h:Heap),YP w h->h.get? mp60=some (W.tabObj (List.toArray []))) (hC60:∀(w:World),codeHdIn (K w.params) mc60 mp60=true) (hD60:∀(w:World),(K w.params).lookup mp60=none) (hNE:[mp6,mp34,mp38,mp60].Nodup)
  (F:∀(w:World) (mg:Str->Option Value) (fa:Addr) (h:Heap),(K w.params).In h->h.Ns mainGlobals mg->mg d.name=some (.ref fa)->
   ∃ fd:FuncData,(∀(s:Shared) (u:Value),BindsTo s fd #[[u],[]] [("_law_script",u)])/\∀ base:Heap,(K w.params).In base->base.Ns mainGlobals mg->L2.BMAt mg base->FnOk l.prog w (K w.params) mg base CX0 lawRoom fa fd ["_law_script"] (lA (K w.params) mp6 mp34 mp38 mp60)) :
  W.WalkO q loose XP YP l.row.toRowW d [] (λf vs=>PySem.call f vs):=
 L2.HU (n:=63) (k:=lawRoom) (x := "_law_script") (tabs:=[(mc6,mp6),(mc34,mp34),(mc38,mp38),(mc60,mp60)]) (sp:=λw=>lA (K w.params) mp6 mp34 mp38 mp60) hn (by decide) hdf #[rfl,by decide,by decide,rfl] hY (λw h Y q hq=>(aW.mp hq).elim (λz=>z ▸ hYT6 w h Y) (λhq=>(aW.mp hq).elim (λz=>z ▸ hYT34 w h Y) (λhq=>(aW.mp hq).elim (λz=>z ▸ hYT38 w h Y) (λhq=>(aW.mp hq).elim (λz=>z ▸ hYT60 w h Y) (λhq=>absurd hq bR))))) (λw q hq=>(aW.mp hq).elim (λz=>z ▸ #[hC6 w,hD6 w]) (λhq=>(aW.mp hq).elim (λz=>z ▸ #[hC34 w,hD34 w]) (λhq=>(aW.mp hq).elim (λz=>z ▸ #[hC38 w,hD38 w]) (λhq=>(aW.mp hq).elim (λz=>z ▸ #[hC60 w,hD60 w]) (λhq=>absurd hq bR))))) F (λ_ _ a ns hl hT hS=>#[a,ns,rfl,hS,hl,hNE,hT _ cb,hT _ (bV _ cb),hT _ (bV _ (bV _ cb)),hT _ (bV _ (bV _ (bV _ cb))),λ_=>rfl])
end My
open PySem PySem.W PyProof.Rows
end
namespace PySem.W.Fast
def tw5783150590743220604:=0
def tw15520279169992064053:=0
def tw16149780551838320448:=0
def tw4612275976077657892:=0
def tw5811909340123346502:=0
def tw4662764407473368144:=0
def tw14457717078974370507:=0
def tw12649328183822678701:=0
def tw1587495529246869899:=0
def tw175378675759681908:=0
def tw13962840293721492098:=0
def tw175413634431855412:=0
def tw16118843203869237260:=0
def tw14468287066904098405:=0
def tw4145394558218813639:=0
def tw17303707315877126:=0
def tw10373062422526004591:=0
def tw7194336357006172483:=0
def tw6213445055780828808:=0
def tw16801636084488960261:=0
def tw3860859994119103119:=0
def tw7875555161760418891:=0
def tw4425235576875179956:=0
def tw18147579025055187855:=0
def tw16290821514790036859:=0
def tw9201227561342489179:=0
def tw18054397552881410139:=0
def tw2886775896151972420:=0
def tw5951597338961442363:=0
def tw11903061630408758111:=0
def tw2426521801380870808:=0
def tw15195626208726464992:=0
def tw6090842516865530164:=0
def tw12592605614885837253:=0
def tw6940166718847432257:=0
def tw16804751158137627622:=0
def tw2150065947308006478:=0
def tw11713211093477623980:=0
def tw4948795358317707127:=0
def tw16920127220950693790:=0
def tw16326732822084905795:=0
def tw9591616946290490932:=0
def tw9366957435050671176:=0
def tw14185834684807372927:=0
def tw9202065024091714374:=0
def tw13978827434490957273:=0
def tw2576404883692055393:=0
def tw10250258609192783290:=0
def tw16271498686017691386:=0
def tw14510930274138070172:=0
def tw11153920241637937047:=0
def tw6038232114395764079:=0
def tw2787403639908023940:=0
def tw7110273767118691830:=0
def tw15812358227632316326:=0
def tw10852124562806078023:=0
def tw7190148665402919488:=0
def tw13972323874944281583:=0
def tw2415533941318271513:=0
def tw1300667447040452077:=0
def tw14748615194502745649:=0
def tw10822951773167998092:=0
def tw5623296585591118184:=0
def tw3160582534691930498:=0
def tw12422914204030590889:=0
def tw12611193515960093426:=0
def tw15335695993648341940:=0
def tw12211321706714330604:=0
def tw16252171656832277315:=0
def tw5745486078848097474:=0
def tw17611888584789879668:=0
def tw18431462339519366294:=0
def tw11611356063046946515:=0
def tw16810666108093741394:=0
def tw10877930955997207619:=0
def tw10581142115415069228:=0
def tw17373983878414434612:=0
def tw16003150117406104237:=0
def tw8749671563075187520:=0
def tw16828115684198172836:=0
def tw6787610553209340715:=0
def tw6732753176488103921:=0
def tw8978222606074325246:=0
def tw18224463912959732224:=0
def tw18398857171948442382:=0
def tw1164381740405189323:=0
def tw3629372764747985469:=0
def tw14899283435483340239:=0
def tw15692374511275217779:=0
def tw1181203049958276114:=0
def tw4350394186596697856:=0
def tw3215429857417765913:=0
def tw12752735624629746492:=0
def tw5034777350862086624:=0
def tw17160457002131003149:=0
def tw2592114881068840179:=0
def tw6240308575100060933:=0
def tw17318168586362970032:=0
def tw11045163647227519970:=0
def tw5420139869906082754:=0
def tw8312485237492967732:=0
def tw12026650644231840155:=0
def tw494410735314884066:=0
def tw15210641156751795360:=0
def tw9108107127427856074:=0
def tw12146374320683246246:=0
def tw11526678644040673756:=0
def tw4317951576716041770:=0
def tw7263178449251973614:=0
def tw8821379160932827053:=0
def tw1173591584663078117:=0
def tw15978759580081942625:=0
def tw8552794021300967313:=0
def tw7405020294060619849:=0
def tw696455009839997759:=0
def tw6603837336891339951:=0
def tw16737188131370314741:=0
def tw17836250214208059575:=0
def tw6551740713865981141:=0
def tw5933435098698986340:=0
def tw16628473513892199328:=0
def tw13905802449089662126:=0
def tw1005831402183499600:=0
def tw766287680458719646:=0
def tw11146118425643940038:=0
def tw6268842021925605522:=0
def tw15279083342561887573:=0
def tw7970760121505873967:=0
def tw2013011969115010470:=0
def tw380906598541504551:=0
def tw13149501403047350614:=0
def tw1364865121508609658:=0
def tw1314865161432972012:=0
def tw15538533374434592547:=0
def tw1387573560470404953:=0
def tw9694295869455560534:=0
def tw2681134342780748373:=0
def tw3365660445234714287:=0
def tw9311409529529317377:=0
def tw4588295633222353101:=0
def tw17622254605196191739:=0
def tw9731653808627608080:=0
def tw6354145545131526261:=0
def tw6151889924597891572:=0
def tw4869334434526955945:=0
def tw9807433129010438559:=0
def tw4849334369957920273:=0
def tw2639518425329480793:=0
def tw2389481778606691760:=0
def tw3444172427626158240:=0
def tw2329284673614150320:=0
def tw2240572471537021999:=0
def tw13845124451273222241:=0
def tw10704428069044133474:=0
def tw7795259637607237439:=0
def tw7456781191406485417:=0
def tw10805017073293898130:=0
def tw5664119725906648793:=0
def tw16564141613811100777:=0
def tw92756687824839967:=0
def tw5184104857699724693:=0
def tw4488042454554170272:=0
def tw13991365994418316034:=0
def tw13414543190519893337:=0
def tw5924037283416533963:=0
def tw3099774976813593005:=0
def tw17836845458224314904:=0
def tw14601052529345224283:=0
def tw10351854010546773312:=0
def tw15310015458416446066:=0
def tw1854955040201461993:=0
def tw543317799388020470:=0
def tw10585625891405919520:=0
def tw16479039742699680536:=0
def tw13918977196539379801:=0
def tw4911095156579093841:=0
def tw11823452682919768670:=0
def tw581683373272501242:=0
def tw6953415915120642539:=0
def tw2867810096196266816:=0
def tw7632264050197881876:=0
def tw2515335144530038114:=0
def tw6003822363308426018:=0
def tw15993935675874118132:=0
def tw11951690682988709154:=0
def tw18022426575038066443:=0
def tw1153731359581273072:=0
def tw16077097497051726942:=0
def tw14267426004947367529:=0
def tw8377281650207092977:=0
def tw5416221374424197381:=0
def tw16596949902256419995:=0
def tw2659781001309197636:=0
def tw3812611737719662672:=0
def tw3136030151316308240:=0
def tw18131805102946548800:=0
def tw15015054899458066944:=0
def tw3502579304157140906:=0
def tw8934696673664551346:=0
def tw11813629667539242998:=0
end PySem.W.Fast
set_option maxRecDepth 100000 in
set_option maxHeartbeats 0 in
theorem PySem.Challenge.cw_bridgefind_k71_whole_one_answer_by_all_r_holds : PySem.Challenge.rw_bridgefind_k71_whole_one_answer_by_all_r.Holds := by
 w_on; o_law; k_head; (case hw=>w_witness2)
 k_fill
 refine My.walk (l:=PySem.Challenge.rw_bridgefind_k71_whole_one_answer_by_all_r) (mc6:=171) (mp6:=167) (mc34:=345) (mp34:=341) (mc38:=373) (mp38:=369) (mc60:=586) (mp60:=584) rfl rfl (fun w h Y=>PySem.W.km_in_of Y) (fun w h Y=>PySem.W.km_tabs_of Y 167 (by decide)) (fun w=>by kernel_rfl) (fun w=>by kernel_rfl) (fun w h Y=>PySem.W.km_tabs_of Y 341 (by decide)) (fun w=>by kernel_rfl) (fun w=>by kernel_rfl) (fun w h Y=>PySem.W.km_tabs_of Y 369 (by decide)) (fun w=>by kernel_rfl) (fun w=>by kernel_rfl) (fun w h Y=>PySem.W.km_tabs_of Y 584 (by decide)) (fun w=>by kernel_rfl) (fun w=>by kernel_rfl) (by decide) ?F
 case F=>
  intro w mg fa h KX G hmg
  refine' My.Nh (mc6:=171) (mp6:=167) (mc34:=345) (mp34:=341) (mc38:=373) (mp38:=369) (mc60:=586) (mp60:=584) KX G hmg ?_ ?_ ?_ ?_ ?_ ?_ ?_ ?_ ?_ ?_ ?_ ?_ ?_ ?_ ?_ ?_ ?_ ?_ ?_ ?_ ?_ ?_ ?_ ?_ ?_ ?_ ?_ ?_ ?_ ?_ ?_ ?_ ?_ ?_ ?_ ?_ ?_ ?_ ?_ ?_ ?_ ?_ ?_ ?_ ?_ ?_ ?_ ?_ ?_ ?_ ?_ ?_ ?_ ?_ ?_ ?_ ?_ ?_ ?_ ?_ ?_ ?_ ?_ ?_ ?_ ?_ ?_ ?_ ?_ ?_ ?_ ?_ ?_ ?_ ?_ ?_ ?_ ?_ ?_ ?_ ?_ ?_ ?_ ?_ ?_ ?_ ?_ ?_ ?_ ?_ ?_ ?_ ?_ ?_ ?_ ?_ ?_ ?_ ?_ ?_ ?_ ?_ ?_ ?_ ?_ ?_ ?_ ?_ ?_ ?_ ?_ ?_ ?_ ?_ ?_ ?_ ?_ ?_ ?_ ?_
  any_goals k_is
  all_goals first | refine' My.AD.of ?_ ?_ ?_ ?_ | refine' My.AM.of ?_ ?_ ?_ ?_ ?_ | skip
  any_goals k_is
  all_goals kernel_rfl

