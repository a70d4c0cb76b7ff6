import PyProof.Rows.All
import Wide.All
import OpenK.AllK
import Wide.FinOn
import PyProof.EqAt
import PyProof.EqKinds
import PyProof.TupleCall
import PyProof.NeKinds
import Lean
import PyProof.ReprRoads
import PyProof.CallStr
import PyProof.Rows.SeqMore2
import PyProof.ZipIter
import PyProof.TupleIter
import PyProof.EnumIter
import PySem.Challenge.RW_bridgefind_k54_whole_answers_carried_alo
set_option autoImplicit true
set_option relaxedAutoImplicit true
set_option Elab.async false
set_option linter.all false
set_option maxRecDepth 100000
set_option maxHeartbeats 1000000
def nG {i m n:Nat}(e:i+m=n)(h:i < n):m - 1 < m:=by lia
def nH {i m n:Nat}(e:i+m=n)(h:i < n):i+1+(m - 1)=n:=by lia
def tT {α:Type}{xs:List α}{i:Nat}{x:α}(h:xs[i]?=some x):i < xs.length:=(List.getElem?_eq_some_iff.mp h).1
def zC {α β:Type}{f:α->β}{xs:List α}{i:Nat}{x:α}(h:xs[i]?=some x):i < (xs.map f).length:=by rw[List.length_map];exact tT h
def zD {α β:Type}{f:α->β}{xs:List α}{i:Nat}(h:i < xs.length):i < (xs.map f).length:=by rw[List.length_map];exact h
local macro_rules|`(tactic|lia)=>`(tactic|first | (with_reducible (first | assumption | exact Nat.le_of_lt ‹_› | exact Nat.lt_add_one_of_le ‹_› | exact Nat.lt_add_one _ | exact Nat.le_add_right _ _ | exact Nat.le_add_left _ _ | exact Nat.le_of_lt_add_one ‹_› | exact Nat.lt_of_le_of_lt (Nat.zero_le _) ‹_› | exact Nat.sub_lt ‹_› Nat.one_pos | exact nG ‹_› ‹_› | exact nH ‹_› ‹_› | exact nG ‹_› (tT ‹_›) | exact nH ‹_› (tT ‹_›) | exact nG ‹_› (zC ‹_›) | exact nH ‹_› (zC ‹_›) | exact nG ‹_› (zD ‹_›) | exact nH ‹_› (zD ‹_›) | exact Nat.sub_le _ _ | exact Nat.add_sub_of_le ‹_› | exact Nat.le_refl _ | exact Nat.le_trans ‹_› ‹_› | exact Nat.lt_of_lt_of_le ‹_› ‹_› | exact Nat.lt_of_le_of_lt ‹_› ‹_› | exact Nat.le_trans (Nat.le_of_lt ‹_›) ‹_› | exact Nat.lt_of_lt_of_eq ‹_› ‹_› | exact Nat.lt_of_lt_of_eq ‹_› (Eq.symm ‹_›) | exact Nat.le_of_eq ‹_› | exact Nat.le_of_eq (Eq.symm ‹_›) | exact Nat.lt_of_lt_of_le ‹_› (Nat.le_add_right _ _) | exact Nat.le_antisymm ‹_› ‹_› | exact Eq.symm ‹_› | exact Int.natCast_nonneg _ | exact Int.ofNat_lt.mpr ‹_› | exact Int.ofNat_lt.mp ‹_› | exact Int.ofNat_le.mpr ‹_› | exact Int.le_of_lt ‹_›)) | cutsat|omega)
abbrev aA:=@PySem.wpAny_bind
abbrev bg:=@PySem.wpAny_pure
abbrev dX:=@PySem.wpAny_mono
abbrev ar:=@if_pos
abbrev az:=@if_neg
abbrev au:=@Or.inl
abbrev eE:=@Or.inr
abbrev bE:=@Ne.symm
abbrev tU:=@beq_eq_false_iff_ne
abbrev lB:=@Decidable.byContradiction
abbrev bF:=@PySem.boot_len
open PySem.W (Frag nsIn codeIn keepIn tabIn codeHdIn mg_of mg_none_of fnOf OpenLaw kitOne mroIn findIn)
abbrev af:=@List.length_map
abbrev av:=@Nat.le_refl
abbrev aD:=@List.getElem?_eq_getElem
abbrev aF:=@List.getD_eq_getElem?_getD
abbrev aN:=@List.map_append
abbrev aQ:=@List.getElem?_map
abbrev aU:=@decide_eq_true
abbrev aV:=@Option.some.inj
abbrev aY:=@List.getElem?_eq_some_iff
abbrev aZ:=@PySem.Heap.lt_size
abbrev a0:=@List.mem_singleton
abbrev bh:=@List.take_of_length_le
abbrev bq:=@List.mem_cons
abbrev bt:=@List.length_take
abbrev bB:=@List.length_append
abbrev bD:=@PySem.Heap.get?_push_of_some
abbrev bH:=@decide_eq_false
abbrev bI:=@List.mem_map
abbrev bK:=@List.map_cons
abbrev bL:=@List.mem_cons_self
abbrev bO:=@List.mem_append
abbrev bP:=@List.size_toArray
abbrev bT:=@List.map_map
abbrev bX:=@Nat.ne_of_lt
abbrev bY:=@List.length_range
abbrev cp:=@List.mem_cons_of_mem
abbrev cx:=@List.take_succ_eq_append_getElem
abbrev cC:=@List.mem_range
abbrev cD:=@Nat.le_trans
abbrev cE:=@of_decide_eq_true
abbrev cH:=@Nat.lt_of_lt_of_le
abbrev cI:=@Option.map_eq_some_iff
abbrev cJ:=@List.getElem_mem
abbrev cN:=@Bool.false_ne_true
abbrev cS:=@Nat.zero_le
abbrev cV:=@PySem.Heap.get?_push_size
abbrev cW:=@List.mem_of_getElem?
abbrev cZ:=@List.sum_cons
abbrev c6:=@List.nodup_cons
abbrev dh:=@List.mem_filter
abbrev di:=@List.append_nil
abbrev dj:=@List.length_singleton
abbrev dk:=@List.getElem?_eq_none
abbrev dq:=@List.not_mem_nil
abbrev dH:=@List.length_cons
abbrev dI:=@List.filter_cons_of_pos
abbrev dJ:=@List.map_congr_left
abbrev dP:=@Nat.lt_irrefl
abbrev dQ:=@List.mem_append_right
abbrev dR:=@List.filter_cons_of_neg
abbrev dY:=@List.getElem?_range
abbrev eA:=@Int.toNat_natCast
abbrev eB:=@List.filter_append
abbrev eF:=@List.length_replicate
abbrev eP:=@Nat.le_of_lt
abbrev eQ:=@List.length_drop
abbrev eR:=@List.lookup_cons
abbrev eS:=@List.range_succ
abbrev fb:=@Nat.lt_of_le_of_lt
abbrev fc:=@List.pairwise_iff_getElem
abbrev fe:=@List.ext_getElem?
abbrev ff:=@List.all_eq_true
abbrev fg:=@List.length_filter_le
abbrev fh:=@List.length_reverse
abbrev fG:=@List.mem_append_left
abbrev fH:=@Array.length_toList
abbrev fI:=@List.any_cons
abbrev fJ:=@List.pairwise_map
abbrev fK:=@List.nodup_append
abbrev fL:=@List.getElem_of_mem
abbrev gi:=@List.getElem?_append_right
abbrev gj:=@Bool.and_eq_true
abbrev gk:=@List.length_set
abbrev gn:=@List.idxOf_lt_length_iff
abbrev gq:=@List.drop_eq_nil_of_le
abbrev gw:=@List.filter_eq_nil_iff
abbrev gQ:=@Nat.le_succ
abbrev gR:=@List.map_nil
abbrev gT:=@List.mem_reverse
abbrev gU:=@Nat.min_eq_left
abbrev gV:=@Int.zero_add
abbrev gW:=@List.take_append_drop
abbrev iS:=@Int.natCast_nonneg
abbrev iT:=@List.getElem?_append_left
abbrev iU:=@PySem.Heap.get?_update_other
abbrev iV:=@List.length_nil
abbrev iW:=@Nat.le_of_not_lt
abbrev iX:=@Nat.add_le_add_right
abbrev iY:=@Nat.not_lt_zero
abbrev iZ:=@Bool.eq_false_iff
abbrev i0:=@Nat.pos_of_ne_zero
abbrev i3:=@List.map_set
abbrev i4:=@List.replicate_succ'
abbrev jB:=@Nat.ne_of_gt
abbrev jC:=@List.find?_cons
abbrev jD:=@List.nodup_nil
abbrev jE:=@List.map_id
abbrev jF:=@List.append_assoc
abbrev jG:=@List.eq_nil_of_length_eq_zero
abbrev jH:=@Nat.testBit_succ
abbrev jI:=@Nat.add_sub_cancel
abbrev jJ:=@List.mem_flatten
abbrev jK:=@List.flatten_append
abbrev jL:=@List.nodup_range
abbrev jM:=@List.pairwise_cons
abbrev jN:=@List.filter_map
abbrev jO:=@List.filter_congr
abbrev lC:=@List.filterMap_cons
abbrev lD:=@List.of_mem_zip
abbrev lE:=@List.getElem?_cons_succ
abbrev lF:=@List.take_length
abbrev lG:=@Nat.pow_succ
abbrev lH:=@List.getElem?_take
abbrev lI:=@Nat.sub_self
abbrev lJ:=@List.filter_eq_self
abbrev lK:=@of_decide_eq_false
abbrev lL:=@Nat.add_comm
abbrev lM:=@Nat.sub_zero
abbrev lN:=@List.length_pos_iff
abbrev lO:=@List.drop_zero
abbrev nI:=@Bool.eq_iff_iff
abbrev nJ:=@PySem.Heap.get?_update_self
abbrev nK:=@List.all_cons
abbrev nM:=@Int.emod_nonneg
abbrev nN:=@Int.emod_lt_of_pos
abbrev nO:=@Bool.not_eq_true'
abbrev nQ:=@List.getElem?_reverse
abbrev nR:=@List.getElem_idxOf
abbrev nS:=@List.reverse_cons
abbrev nU:=@List.map_take
abbrev nW:=@List.take_zero
abbrev nX:=@List.getElem?_drop
abbrev nY:=@List.getElem?_set
abbrev nZ:=@List.length_zip
abbrev n8:=@List.pairwise_lt_range
abbrev n9:=@Nat.min_eq_right
abbrev oa:=@Nat.lt_of_not_le
abbrev oe:=@List.filter_filter
abbrev og:=@List.idxOf_append
abbrev tV:=@List.getElem?_replicate
abbrev tW:=@Nat.add_le_add_left
abbrev tX:=@List.zip_cons_cons
abbrev tY:=@Array.perm_iff_toList_perm
abbrev tZ:=@Bool.false_eq_true
abbrev ua:=@List.mem_take_iff_getElem
abbrev ub:=@List.perm_ext_iff_of_nodup
abbrev uc:=@List.length_pos_of_mem
abbrev ud:=@List.pairwise_append
abbrev ue:=@List.take_succ_cons
abbrev uf:=@List.drop_succ_cons
abbrev ug:=@List.getElem_range
section
local macro_rules|`(#[$xs,*])=>`(⟨$xs,*⟩)
namespace L2
open PySem PySem.Spec PyProof.Rows
abbrev Key:=Sum Int Str
def i5:Key->Value->Bool
  | .inl k,v=>Value.isInt k v
  | .inr x,v=>Value.isStrOf x v
def keyH (w:World):Key->Int
  | .inl k=>hashInt k
  | .inr x=>hashStr w x
def fM:∀{k:Key} {v:Value},i5 k v=true->(∃ i t,k=Sum.inl i/\v=Value.int i t)\/(∃ x t,k=Sum.inr x/\v=Value.str x t)
  | .inl i,v,h=>by
    obtain ⟨t,e⟩:=Value.isInt_shape (k:=i) (v:=v) h;exact .inl #[i,t,rfl,e]
  | .inr x,v,h=>by
    obtain ⟨t,e⟩:=Value.isStrOf_shape (x:=x) (v:=v) h;exact .inr #[x,t,rfl,e]
def EJ (i:Int)(t:Tok):i5 (.inl i) (.int i t)=true:=by simp[i5,Value.isInt]
def EK (x:Str)(t:Tok):i5 (.inr x) (.str x t)=true:=by simp[i5,Value.isStrOf]
def EL (a b:Int):decide ((Sum.inl a:Key)=Sum.inl b)=(a==b):=by
  by_cases e:a=b
  · subst e;simp
  · have h:¬ (Sum.inl a:Key)=Sum.inl b:=λq=>e (Sum.inl.inj q)
    rw[bH h];exact (beq_eq_false_iff_ne.mpr e).symm
def EM (a b:Str):decide ((Sum.inr a:Key)=Sum.inr b)=decide (a=b):=by
  by_cases e:a=b
  · subst e;simp
  · have h:¬ (Sum.inr a:Key)=Sum.inr b:=λq=>e (Sum.inr.inj q)
    rw[bH h,bH e]
def EN (a:Int)(b:Str):decide ((Sum.inl a:Key)=Sum.inr b)=false:=bH (λq=>nomatch q)
def EO (a:Str)(b:Int):decide ((Sum.inr a:Key)=Sum.inl b)=false:=bH (λq=>nomatch q)
def cb (prog:Program)(w:World):PySem.KeyKind prog w Key where
  is:=i5
  hash:=keyH w
  inj:=λv a b ha hb=>by
    rcases fM ha with ⟨i,t,rfl,rfl⟩|⟨x,t,rfl,rfl⟩
    · rcases fM hb with ⟨j,u,rfl,e⟩|⟨y,u,rfl,e⟩
      · injection e with e1 _;rw[e1]
      · exact nomatch e
    · rcases fM hb with ⟨j,u,rfl,e⟩|⟨y,u,rfl,e⟩
      · exact nomatch e
      · injection e with e1 _;rw[e1]
  byValue:=λk v h=>by
    rcases fM h with ⟨i,t,rfl,rfl⟩|⟨x,t,rfl,rfl⟩<;>rfl
  pyHash:=λhv h=>by
    rcases fM hv with ⟨i,t,rfl,rfl⟩|⟨x,t,rfl,rfl⟩
    · exact wpAny_pyHash_int h
    · exact wpAny_pyHash_str h
  eqBool:=λhu hv h=>by
    rcases fM hu with ⟨i,t,rfl,rfl⟩|⟨x,t,rfl,rfl⟩
    · rcases fM hv with ⟨j,u,rfl,rfl⟩|⟨y,u,rfl,rfl⟩
      · rw[EL]at h;exact wpAny_eqBool_int h
      · rw[EN]at h;exact SeqAt.EqAt.int_str i t y u _ _ _ _ h
    · rcases fM hv with ⟨j,u,rfl,rfl⟩|⟨y,u,rfl,rfl⟩
      · rw[EO]at h;exact SeqAt.EqAt.str_int x t j u _ _ _ _ h
      · rw[EM]at h;exact wpAny_eqBool_str h
  «strs»:=λk x t v h=>by
    rcases fM h with ⟨i,u,rfl,e⟩|⟨y,u,rfl,e⟩
    · exact nomatch e
    · injection e with e1 _
      subst e1;cases v<;>rfl
def ER (prog:Program)(w:World)(k:Key)(v:Value):(cb prog w).is k v=i5 k v:=rfl
def ES (prog:Program)(w:World)(i:Int)(t:Tok):(cb prog w).is (.inl i) (.int i t)=true:=EJ i t
def ET (prog:Program)(w:World)(x:Str)(t:Tok):(cb prog w).is (.inr x) (.str x t)=true:=EK x t
inductive V where
  | non|bl (b:Bool)|int (i:Int)|str (x:Str)|byt (b:Array UInt8)|flt (b:UInt64)|ref (a:Addr)|ty (n:String)
  deriving DecidableEq
def RelV:V->Value->Prop
  | .non,u=>u=Value.none
  | .bl b,u=>u=Value.bool b
  | .int i,u=>∃ t,u=Value.int i t
  | .str x,u=>∃ t,u=Value.str x t
  | .byt b,u=>∃ t,u=Value.bytes b t
  | .flt b,u=>∃ t,u=Value.float b t
  | .ref a,u=>u=Value.ref a
  | .ty n,u=>u=Value.type n
abbrev Vals:List V->List Value->Prop:=Paired RelV
def Vals.length {xs:List V}{us:List Value}(r:Vals xs us):xs.length=us.length:=Paired.length r
def Vals.get:∀{xs:List V} {us:List Value} {i:Nat} {x:V},Vals xs us->xs[i]?=some x->∃ u,us[i]?=some u/\RelV x u
  | _,_,_,_,.nil,e=>by simp at e
  | _,_,0,_,.cons r _,e=>by simp at e;subst e;exact #[_,rfl,r]
  | _,_,i+1,x,.cons _ t,e=>by
    obtain ⟨u,h1,h2⟩:=Vals.get (i:=i) (x:=x) t (by simpa using e);exact #[u,by simpa using h1,h2]
def Vals.set {x:V}{u:Value}(r:RelV x u):∀{xs:List V} {us:List Value} (i:Nat),Vals xs us->Vals (xs.set i x) (us.set i u)
  | _,_,_,.nil=>.nil
  | _,_,0,.cons _ t=>.cons r t
  | _,_,i+1,.cons q t=>.cons q (Vals.set r i t)
def Vals.append:∀{xs ys:List V} {us ws:List Value},Vals xs us->Vals ys ws->Vals (xs++ys) (us++ws)
  | _,_,_,_,.nil,s=>s
  | _,_,_,_,.cons r t,s=>.cons r (Vals.append t s)
def Vals.take:∀{xs:List V} {us:List Value} (n:Nat),Vals xs us->Vals (xs.take n) (us.take n)
  | _,_,0,_=>.nil
  | _,_,_+1,.nil=>.nil
  | _,_,n+1,.cons r t=>.cons r (Vals.take n t)
def Vals.drop:∀{xs:List V} {us:List Value} (n:Nat),Vals xs us->Vals (xs.drop n) (us.drop n)
  | _,_,0,r=>r
  | _,_,_+1,.nil=>.nil
  | _,_,n+1,.cons _ t=>Vals.drop n t
def RelO:Option V->Option Value->Prop
  | some v,some u=>RelV v u
  | none,none=>True
  | _,_=>False
def KV {κ:Type}:List (κ×V)->List (κ×Value)->Prop:=Paired λ(p:κ×V) (q:κ×Value)=>p.1=q.1/\RelV p.2 q.2
def kV:Key->V
  | .inl i=>.int i
  | .inr x=>.str x
inductive HO where
  | lst (xs:List V)
  | tup (xs:List V)
  | dK (kvs:List (Key×V))|dT (kvs:List (List Key×V))
  | set (S:Int->Bool) (n:Nat)
  | ins (C dx:Addr) (fs:List (Str×V))
  | own (x:Addr)
  | xd (fs:List (Str×V))
  | met (f x:Addr)
  | rng (lo hi:Int)
  | frz (o:Obj) (u:HO)
  | tbl (ps:Array Value)
  | ext (φ:Heap->Prop)
abbrev Hp:=Addr->Option HO
def upd (H:Hp)(a:Addr)(o:HO):Hp:=λb=>if b=a then some o else H b
def ah {a:Addr}:upd H a o a=some o:=by unfold upd;rw[ar rfl]
def ak {a b:Addr}(h:b≠a):upd H a o b=H b:=by unfold upd;rw[az h]
def EU {a:Addr}:upd (upd H a o) a u=upd H a u:=by
  funext b;unfold upd;split<;>rfl
def zE {H:Hp}{a b:Addr}{o u:HO}(h:H a=some o)(h':H b=some u)(d:o≠u):a≠b:=by
  intro e;subst e;rw[h]at h';exact d (aV h')
def aq {H:Hp}{a b:Addr}{o:HO}(h:H a=some o)(h':H b=none):a≠b:=by
  intro e;subst e;rw[h]at h';cases h'
section
variable (P:Program)(w:World)
def bU (H:Hp)(h:Heap)(a:Addr):HO->Prop
  | .lst xs=>xs.length<=sizeLine/\∃(its:List Value) (n:Nat),Vals xs its/\h.get? a=some { cls:=.type "list",data:=.seq its.toArray n }
  | .tup xs=>xs.length<=sizeLine/\∃ its:List Value,Vals xs its/\IsTup h a its.toArray
  | .dK kvs=>kvs.length<=sizeLine/\(a==sysModules)=false/\∃ vs,KV kvs vs/\h.DictOf (cb P w) a vs
  | .dT kvs=>kvs.length<=sizeLine/\(a==sysModules)=false/\∃ xs:List (List Key×Addr×Value),
      Paired (λ(p:List Key×V) (q:List Key×Addr×Value)=>p.1=q.1/\H q.2.1=some (.tup (p.1.map kV))/\RelV p.2 q.2.2) kvs xs/\
      ∃ o es ep,h.get? a=some o/\o.ExactDict/\o.data=.dict es ep/\es.toList=xs.map (entryOfKey (tupleKind (cb P w)))/\(xs.map (·.1)).Nodup
  | .set S n=>h.SetOf (intKind P w) a S n
  | .ins C dx fs=>H dx=some (.own a)/\fs.length<=1000/\dx≠a/\h.get? a=some (W.instObj C dx)/\
      ∃ mA,h.Ns1 dx mA/\(∀ f,RelO (fs.lookup f) (mA f))/\PySem.Within mA (fs.map (·.1))
  | .own _=>∃ o,h.get? a=some o
  | .xd fs=>∃ mA,h.Ns1 a mA/\∀ f,RelO (fs.lookup f) (mA f)
  | .rng lo hi=>∃ t u v,h.get? a=some { cls:=.type "range",data:=.fields (List.toArray [.int lo t,.int hi u,.int 1 v]) }
  | .frz o u=>h.get? a=some o/\bU H h a u
  | .tbl ps=>h.get? a=some { cls:=.none,data:=.fields ps }
  | .met f x=>h.get? a=some (W.methodObj (.ref f) (.ref x))
  | .ext φ=>φ h/\(∃ o,h.get? a=some o)/\∀ h1 h2:Heap,φ h1->(∀ o,h1.get? a=some o->h2.get? a=some o)->φ h2
def HOk (H:Hp)(h:Heap):Prop:=∀ a o,H a=some o->bU P w H h a o
end
section
variable {P:Program}{w:World}{H H':Hp}{h h':Heap}{a:Addr}{o:HO}
def bU.lt (x:bU P w H h a o):a<h.objs.size:=by
  cases o with
  | lst xs=>obtain ⟨_,_,_,_,e⟩:=x;exact aZ e
  | tup xs=>obtain ⟨_,_,_,p⟩:=x;exact p.lt
  | dK kvs=>obtain ⟨_,_,_,_,o,_,_,e,_⟩:=x;exact aZ e
  | dT kvs=>obtain ⟨_,_,_,_,o,_,_,e,_⟩:=x;exact aZ e
  | set S n=>obtain ⟨o,_,_,_,e,_⟩:=x;exact aZ e
  | ins C dx fs=>obtain ⟨_,_,_,e,_⟩:=x;exact aZ e
  | own y=>obtain ⟨_,e⟩:=x;exact aZ e
  | xd fs=>obtain ⟨_,⟨_,_,_,e,_⟩,_⟩:=x;exact aZ e
  | rng lo hi=>obtain ⟨_,_,_,e⟩:=x;exact aZ e
  | frz ob u=>obtain ⟨e,_⟩:=x;exact aZ e
  | tbl ps=>exact aZ (show h.get? a=some _ from x)
  | met f y=>exact aZ (show h.get? a=some _ from x)
  | ext φ=>obtain ⟨_,⟨_,e⟩,_⟩:=x;exact aZ e
def Paired.mapP {α β:Type}{F G:α->β->Prop}:∀{l₁:List α} {l₂:List β},Paired F l₁ l₂->(∀ a b,F a b->G a b)->Paired G l₁ l₂
  | _,_,.nil,_=>.nil
  | _,_,.cons r t,f=>.cons (f _ _ r) (Paired.mapP t f)
def bU.stay (x:bU P w H h a o)(k:∀ b u,(b=a\/H b=some (.own a))->h.get? b=some u->h'.get? b=some u)
    (ho:∀ b,H b=some (.own a)->H' b=some (.own a)) (ht:∀ b xs,H b=some (.tup xs)->H' b=some (.tup xs)):bU P w H' h' a o:=by
  induction o with
  | lst xs=>obtain ⟨z,its,n,r,e⟩:=x;exact #[z,its,n,r,k _ _ (.inl rfl) e]
  | tup xs=>obtain ⟨z,its,r,ob,e,c⟩:=x;exact #[z,its,r,ob,k _ _ (.inl rfl) e,c]
  | dK kvs=>obtain ⟨z,y,vs,r,ob,es,ep,e,c⟩:=x;exact #[z,y,vs,r,ob,es,ep,k _ _ (.inl rfl) e,c]
  | dT kvs=>
    obtain ⟨z,y,xs,r,ob,es,ep,e,c⟩:=x;exact #[z,y,xs,Paired.mapP r λp q z=>#[z.1,ht _ _ z.2.1,z.2.2],ob,es,ep,k _ _ (.inl rfl) e,c]
  | set S n=>obtain ⟨ob,es,ep,t,e,c⟩:=x;exact #[ob,es,ep,t,k _ _ (.inl rfl) e,c]
  | ins C dx fs=>
    obtain ⟨d,z,ne,e,mA,⟨od,es,ep,e2,c⟩,r⟩:=x;exact #[ho _ d,z,ne,k _ _ (.inl rfl) e,mA,#[od,es,ep,k _ _ (.inr d) e2,c],r]
  | own y=>obtain ⟨ob,e⟩:=x;exact #[ob,k _ _ (.inl rfl) e]
  | xd fs=>obtain ⟨mA,⟨od,es,ep,e,c⟩,r⟩:=x;exact #[mA,#[od,es,ep,k _ _ (.inl rfl) e,c],r]
  | rng lo hi=>obtain ⟨t,u,v,e⟩:=x;exact #[t,u,v,k _ _ (.inl rfl) e]
  | frz ob u ih=>obtain ⟨e,q⟩:=x;exact #[k _ _ (.inl rfl) e,ih q]
  | tbl ps=>
    have e:h.get? a=some { cls:=.none,data:=.fields ps }:=x;show h'.get? a=some { cls:=.none,data:=.fields ps };exact k a _ (.inl rfl) e
  | met f y=>
    have e:h.get? a=some (W.methodObj (.ref f) (.ref y)):=x;show h'.get? a=some (W.methodObj (.ref f) (.ref y));exact k a _ (.inl rfl) e
  | ext φ=>obtain ⟨p,⟨o,e⟩,st⟩:=x;exact #[st _ _ p λo q=>k _ _ (.inl rfl) q,#[o,k _ _ (.inl rfl) e],st]
def HOk.lt (x:HOk P w H h)(e:H a=some o):a<h.objs.size:=(x a o e).lt
def HOk.fresh (x:HOk P w H h)(e:h.objs.size<=a):H a=none:=by
  cases q:H a with
  | none=>rfl
  | some u=>exact absurd (cH (x.lt q) e) (dP _)
def HOk.kept (x:HOk P w H h)(k:∀ b u,h.get? b=some u->h'.get? b=some u):HOk P w H h':=λa o e=>
  (x a o e).stay (λb u _ q=>k b u q) (λ_ q=>q) λ_ _ q=>q
def HOk.laid (x:HOk P w H h)(k:∀ b u,h.get? b=some u->h'.get? b=some u)(hp:h.objs.size<=a)(new:bU P w (upd H a o) h' a o):HOk P w (upd H a o) h':=λb u e=>by
  have hn:=x.fresh hp;by_cases hb:b=a
  · subst hb;rw[ah]at e;cases e;exact new
  · rw[ak hb]at e
    exact (x b u e).stay (λc v _ q=>k c v q) (λc q=>by rw[ak (aq q hn)];exact q) λc xs q=>by rw[ak (aq q hn)];exact q
end
def Rd (H:Hp)(a:Addr)(u:HO):Prop:=H a=some u\/∃ o,H a=some (.frz o u)
def Rd.ok {w:World}{h:Heap}{a:Addr}(r:Rd H a u)(x:HOk P w H h):bU P w H h a u:=by
  rcases r with r|⟨o,r⟩
  · exact x a u r
  · obtain ⟨_,q⟩:=x a _ r
    exact q
def Mut:Option HO->Prop
  | some (.lst _)=>True
  | some (.dK _)=>True
  | some (.dT _)=>True
  | some (.set _ _)=>True
  | some (.ins _ _ _)=>True
  | some (.ext _)=>True
  | _=>False
section
variable {P:Program}{w:World}{H:Hp}{h h':Heap}{x e:Addr}{o':HO}
def HOk.write (ok:HOk P w H h)(mu:Mut (H x))(he:e=x\/H e=some (.own x))(k:∀ b u,b≠e->h.get? b=some u->h'.get? b=some u)(heo:∃ u,h'.get? e=some u)
    (new:bU P w (upd H x o') h' x o'):HOk P w (upd H x o') h':=λb u q=>by
  have nown:∀ c y,H c=some (.own y)->c≠x:=λc y r z=>by subst z;rw[r]at mu;exact mu
  have ntup:∀ c xs,H c=some (.tup xs)->c≠x:=λc xs r z=>by subst z;rw[r]at mu;exact mu
  by_cases hb:b=x
  · subst hb;rw[ah]at q;cases q;exact new
  · rw[ak hb]at q
    by_cases hbe:b=e
    · have q':H b=some (.own x):=by
        rcases he with z|z
        · exact absurd (hbe.trans z) hb
        · rw[hbe];exact z
      rw[q]at q';cases q'
      obtain ⟨v,hv⟩:=heo;exact #[v,by rw[hbe];exact hv]
    · refine (ok b u q).stay (λc v hc r=>k c v ?_ r) (λc r=>by rw[ak (nown c b r)];exact r) λc xs r=>by rw[ak (ntup c xs r)];exact r
      rcases hc with rfl|hc
      · exact hbe
      · rintro rfl
        rcases he with z|z
        · exact nown c b hc z
        · rw[hc]at z;cases z;exact hb rfl
end
structure Un (fs ex:List Addr)(H H':Hp)(h h':Heap):Prop where
  keep:∀ b o,h.get? b=some o->H b=none->b∉fs->b∉ex->h'.get? b=some o
  slot:∀ b o,h.get? b=some o->H b=none->b∈fs->b∉ex->∃ sl,h'.get? b=some { o with slots:=sl }
  free:∀ b o,h.get? b=some o->H b=none->b∉ex->H' b=none
  there:∀ b o,h.get? b=some o->b∉ex->∃ o',h'.get? b=some o'
  tups:∀ b xs,H b=some (.tup xs)->H' b=some (.tup xs)
  frzs:∀ b o u,H b=some (.frz o u)->H' b=some (.frz o u)
  tbls:∀ b ps,H b=some (.tbl ps)->∃ more,H' b=some (.tbl (ps++more))
section
variable {fs fs' ex ex':List Addr}{H H1 H2:Hp}{h h1 h2 h':Heap}{a x e:Addr}{o:HO}
def Un.any (u:Un fs ex H H1 h h1){b:Addr}{ob:Obj}(q:h.get? b=some ob)(n:H b=none)(hx:b∉ex):∃ sl,h1.get? b=some { ob with slots:=sl }:=by
  by_cases hb:b∈fs
  · exact u.slot b ob q n hb hx
  · exact #[ob.slots,u.keep b ob q n hb hx]
def Un.kept (k:∀ b u,h.get? b=some u->h'.get? b=some u):Un fs ex H H h h':=
  #[λb ob q _ _ _=>k b ob q,λb ob q _ _ _=>#[ob.slots,k b ob q],λ_ _ _ n _=>n,λb ob q _=>#[ob,k b ob q],λ_ _ q=>q,λ_ _ _ q=>q,λ_ ps q=>#[(List.toArray []),by rw[q];simp]]
def Un.refl:Un fs ex H H h h:=Un.kept λ_ _ q=>q
def Un.laid (k:∀ b u,h.get? b=some u->h'.get? b=some u)(hp:h.objs.size<=a)(hn:H a=none):Un fs ex H (upd H a o) h h' where
  keep:=λb u q _ _ _=>k b u q
  slot:=λb u q _ _ _=>#[u.slots,k b u q]
  free:=λb u q n _=>by rw[ak (bX (cH (aZ q) hp))];exact n
  there:=λb u q _=>#[u,k b u q]
  tups:=λb xs q=>by rw[ak (aq q hn)];exact q
  frzs:=λb u xs q=>by rw[ak (aq q hn)];exact q
  tbls:=λb ps q=>#[(List.toArray []),by rw[ak (aq q hn),q];simp]
def Un.write (mu:Mut (H x))(he:e=x\/H e=some (.own x))(k:∀ b u,b≠e->h.get? b=some u->h'.get? b=some u)(heo:∃ u,h'.get? e=some u):Un fs ex H (upd H x o) h h':=by
  have hx:∀ b,H b=none->b≠x:=λb n z=>by subst z;rw[n]at mu;exact mu
  have hb:∀ b,H b=none->b≠e:=λb n z=>by
    subst z;rcases he with r|r
    · exact hx b n r
    · rw[n]at r;cases r
  have hm:∀ b u,H b=some u->¬ Mut (some u)->b≠x:=λb u q nm z=>by subst z;rw[q]at mu;exact nm mu
  refine #[λb u q n _ _=>k b u (hb b n) q,λb u q n _ _=>#[u.slots,k b u (hb b n) q],λb u q n _=>by rw[ak (hx b n)];exact n,λb u q _=>?_,
    λb xs q=>by rw[ak (hm b _ q λz=>z)];exact q,λb u xs q=>by rw[ak (hm b _ q λz=>z)];exact q,λb ps q=>#[(List.toArray []),by rw[ak (hm b _ q λz=>z),q];simp]]
  by_cases hbe:b=e
  · subst hbe;exact heo
  · exact #[u,k b u hbe q]
end
def trk (h:Heap)(H:Hp):List Addr:=(List.range h.objs.size).filter λa=>(H a).isSome
def hidT (h:Heap)(H:Hp):Heap:=W.hideAll h (trk h H)
def EV (h:Heap)(H:Hp):(hidT h H).objs.size=h.objs.size:=W.hideAll_size _ _
def EW {h:Heap}{H:Hp}{b:Addr}{o:Obj}(e:h.get? b=some o)(n:H b=none):(hidT h H).get? b=some o:=
  W.hideAll_get _ e λhm=>by
    have q:(H b).isSome=true:=(dh.mp hm).2;rw[n]at q;simp at q
def EX {b:Addr}{o:Obj}(e:(hidT h H).get? b=some o):h.get? b=some o/\H b=none:=by
  have e':h.get? b=some o:=W.of_hideAll (trk h H) e;refine #[e',?_];cases q:H b with
  | none=>rfl
  | some x=>
    have hm:b∈trk h H:=dh.mpr #[cC.mpr (aZ e'),by simp[q]];have z:(hidT h H).get? b=none:=W.hideAll_none (trk h H) hm;rw[z]at e;cases e
def EY (g h:Heap)(L:Addr):List (Addr×Obj):=(List.range h.objs.size).filterMap λa=>if a=L\/(g.get? a).isSome=true then none else (h.get? a).map λo=>(a,o)
def rest (g h:Heap)(L d:Addr):List (Addr×Obj):=(EY g h L).filter λp=>decide (p.1≠d)
structure Mod (K:Frag)(mg:Str->Option Value)(base:Heap):Prop where
  kin:K.In base
  glob:base.Ns mainGlobals mg
  blt:∃ mb,base.Ns builtinsNs mb/\∀ x:Str,x ≠ "__name__"->mb x=bootBuiltins x
  nolimit:base.NoLimit
structure Cx where
  prog:Program
  w:World
  K:Frag
  mg:Str->Option Value
  base:Heap
  A:Around
  N:List Str
  s₀:Shared
  H₀:Hp
  env:Env
  outer:List Env
  stack:List Env
  ex:List Addr
  fn:Str->Bool
  calm:Bool
  pn:List (Addr×Obj)
  xe:Value->Shared->Prop
def frs (l:List Env):List Addr:=l.filterMap (·.frame)
abbrev Cx.fs (X:Cx):List Addr:=frs X.outer
def Vis (sc:Scope)(x:Str):Prop:=sc.names.lookup x=some .local\/sc.names.lookup x=some .cell\/sc.names.lookup x=some .free
def Loc (sc:Scope)(x:Str):Prop:=sc.names.lookup x=some .local\/sc.names.lookup x=some .cell
def Look (env:Env)(h:Heap)(m:Str->Option Value)(x:Str)(u:Value):Prop:=
  (env.kindOf x=some .local/\m x=some u)\/((env.kindOf x=some .cell\/env.kindOf x=some .free)/\∃ c,env.cells.lookup x=some c/\h.IsCell c (some u))
structure Cx.Ok (X:Cx):Prop where
  mod:Mod X.K X.mg X.base
  kind:X.env.scope.kind=.function
  glob:X.env.globals=mainGlobals
  blt:X.env.builtins=builtinsNs
  above:X.s₀.heap.objs.size<=X.env.locals
  inj:∀ x y c,X.env.cells.lookup x=some c->X.env.cells.lookup y=some c->x=y
  has:∀ x,(X.env.kindOf x=some .cell\/X.env.kindOf x=some .free)->∃ c,X.env.cells.lookup x=some c
  cab:∀ x c,X.fn x=true->X.env.cells.lookup x=some c->X.s₀.heap.objs.size<=c
  hd:X.calm=true->X.A.handled=none
  frames:X.A.frames=some X.stack
  stk:X.stack=X.outer\/(X.stack=X.env::X.outer/\X.env.frame=some X.env.locals)
  exf:∀ b∈X.ex,b≠X.env.locals/\∀ x c,X.env.cells.lookup x=some c->c≠b
  bs:∀ b o,X.base.get? b=some o->X.s₀.heap.get? b=some o/\X.H₀ b=none
  bsz:X.base.objs.size<=X.s₀.heap.objs.size
  noex:∀ b o,X.base.get? b=some o->b∉X.ex
  exfs:∀ b∈X.ex,b∉X.fs
  funs:X.s₀.heap.FunFrames X.base X.outer
  frf:∀ b∈X.fs,X.H₀ b=none
structure Inv (X:Cx)(OG:List (Addr×Obj))(U:List (Option V))(H:Hp)(s:Shared):Prop where
  ok:X.Ok
  os:s.os=X.s₀.os
  bare:AllBare s.gens
  base:Un X.fs X.ex X.H₀ H X.s₀.heap s.heap
  loc:∃ m,s.heap.Ns X.env.locals m/\∀(i:Nat) (x:Str) (v:V),X.N[i]?=some x->U[i]?=some (some v)->Vis X.env.scope x->∃ u,RelV v u/\Look X.env s.heap m x u
  cell:∀ x c,X.env.cells.lookup x=some c->∃ v,s.heap.IsCell c v
  free:H X.env.locals=none
  freeC:∀ x c,X.env.cells.lookup x=some c->H c=none
  pin:∀ p∈X.pn++OG,s.heap.get? p.1=some p.2/\H p.1=none/\p.1≠X.env.locals/\p.1∉X.fs/\∀ v,p.2.data≠.cell v
  hok:HOk X.prog X.w H s.heap
  len:U.length=X.N.length
section
variable {X:Cx}{OG:List (Addr×Obj)}{U:List (Option V)}{H H':Hp}{s:Shared}{h':Heap}
def Cx.Ok.nofr (ok:X.Ok){b:Addr}{o:Obj}(e:X.base.get? b=some o):b∉X.fs:=λhb=>by
  have:=(ok.funs.mem hb).1;rw[e]at this;cases this
def Inv.bs (I:Inv X OG U H s):∀ b o,X.base.get? b=some o->s.heap.get? b=some o/\H b=none:=λb o e=>
  #[I.base.keep b o (I.ok.bs b o e).1 (I.ok.bs b o e).2 (I.ok.nofr e) (I.ok.noex b o e),I.base.free b o (I.ok.bs b o e).1 (I.ok.bs b o e).2 (I.ok.noex b o e)]
def Inv.bk (I:Inv X OG U H s):∀ b o,X.base.get? b=some o->s.heap.get? b=some o:=λb o e=>(I.bs b o e).1
def Inv.mod (I:Inv X OG U H s):Mod X.K X.mg X.base:=I.ok.mod
def Inv.kIn (I:Inv X OG U H s):X.K.In s.heap:=I.ok.mod.kin.keeps I.bk
def Inv.lt (I:Inv X OG U H s):X.env.locals<s.heap.objs.size:=let ⟨_,hn,_⟩:=I.loc;hn.lt
def Inv.sz (I:Inv X OG U H s):X.s₀.heap.objs.size<=s.heap.objs.size:=cD I.ok.above (eP I.lt)
def Inv.nofs (I:Inv X OG U H s){a:Addr}(h:s.heap.objs.size<=a):a∉X.fs:=λhb=>by
  obtain ⟨_,o,ho,_⟩:=I.ok.funs.mem hb;exact absurd (cH (aZ ho) (cD I.sz h)) (dP _)
def Inv.cne (I:Inv X OG U H s):∀ x c,X.env.cells.lookup x=some c->c≠X.env.locals:=λx c e z=>by
  obtain ⟨v,o,ho,hd⟩:=I.cell x c e;obtain ⟨m,⟨o',es,ep,ho',hd',_⟩,_⟩:=I.loc;rw[z,ho']at ho;cases ho;rw[hd']at hd;cases hd
def Inv.funs (I:Inv X OG U H s):s.heap.FunFrames X.base X.outer:=by
  have all:∀(l:List Env),(∀ b∈frs l,b∈X.fs)->X.s₀.heap.FunFrames X.base l->s.heap.FunFrames X.base l:=by
    intro l
    induction l with
    | nil=>intro _ _;trivial
    | cons env r ih=>
      intro hs hl;obtain ⟨hk,⟨L,o,hf,hn,ho,hd⟩,hr⟩:=hl;have hL:L∈X.fs:=hs L (by unfold frs;rw[lC,hf];exact bL);obtain ⟨sl,e⟩:=I.base.slot L o ho (I.ok.frf L hL) hL λz=>I.ok.exfs L z hL;exact #[hk,#[L,_,hf,hn,e,hd],ih (λb hb=>hs b (by unfold frs;rw[lC,hf];exact cp _ hb)) hr]
  exact all X.outer (λ_ hb=>hb) I.ok.funs
def Inv.stack (I:Inv X OG U H s):s.heap.FunFrames X.base X.stack:=by
  rcases I.ok.stk with e|⟨e,hf⟩
  · rw[e];exact I.funs
  · rw[e]
    obtain ⟨m,hn,_⟩:=I.loc;refine .cons (by rw[I.ok.kind];decide) hf hn ?_ I.funs;exact Heap.get?_none_of_le (cD I.ok.bsz I.ok.above)
def Inv.stkSub (I:Inv X OG U H s):∀ b∈frs X.stack,b∈X.env.locals::X.fs:=λb hb=>by
  rcases I.ok.stk with e|⟨e,hf⟩
  · rw[e]at hb;exact cp _ hb
  · rw[e]at hb
    unfold frs at hb;rw[lC,hf]at hb;exact hb
def Inv.stkFree (I:Inv X OG U H s):∀ b∈frs X.stack,H b=none:=λb hb=>by
  rcases bq.mp (I.stkSub b hb) with e|hb
  · rw[e];exact I.free
  · obtain ⟨_,o,ho,_⟩:=I.ok.funs.mem hb
    exact I.base.free b o ho (I.ok.frf b hb) λz=>I.ok.exfs b z hb
def Inv.step {g':Array GenState}{t':Nat}{d':Drawn}{ch:List Addr}(I:Inv X OG U H s)
    (hch:∀ b∈ch,(b∈X.ex\/X.s₀.heap.objs.size<=b)/\b≠X.env.locals/\(∀ x c,X.env.cells.lookup x=some c->c≠b)/\∀ p∈X.pn++OG,p.1≠b)
    (keep:∀ b o,b≠X.env.locals->b∉X.fs->b∉ch->s.heap.get? b=some o->H b=none->h'.get? b=some o)
    (slot:∀ b o,b≠X.env.locals->b∈X.fs->b∉ch->s.heap.get? b=some o->H b=none->∃ sl,h'.get? b=some { o with slots:=sl }) (free:∀ b o,b∉ch->s.heap.get? b=some o->H b=none->H' b=none)
    (there:∀ b o,b∉ch->s.heap.get? b=some o->∃ o',h'.get? b=some o')
    (tups:∀ b xs,H b=some (.tup xs)->H' b=some (.tup xs)) (frzs:∀ b o u,H b=some (.frz o u)->H' b=some (.frz o u)) (tbls:∀ b ps,H b=some (.tbl ps)->∃ more,H' b=some (.tbl (ps++more)))
    (ns:∀ m,s.heap.Ns X.env.locals m->h'.Ns X.env.locals m) (hok:HOk X.prog X.w H' h') (hg:AllBare g') :
    Inv X OG U H' { s with heap:=h',gens:=g',drawn:=d',toks:=t' }:=by
  have neL:∀ b o,X.s₀.heap.get? b=some o->b≠X.env.locals:=λb o e=>bX (cH (aZ e) I.ok.above);have neC:∀ b o,X.s₀.heap.get? b=some o->b∉X.ex->b∉ch:=λb o e hx hb=>by
    rcases (hch b hb).1 with z|z
    · exact hx z
    · exact absurd (cH (aZ e) z) (dP _)
  have cellK:∀ x c,X.env.cells.lookup x=some c->∀ v,s.heap.IsCell c v->h'.IsCell c v:=λx c e v ⟨o,ho,hd⟩=>by
    have nch:c∉ch:=λz=>(hch c z).2.2.1 x c e rfl;by_cases hc:c∈X.fs
    · obtain ⟨sl,q⟩:=slot c o (I.cne x c e) hc nch ho (I.freeC x c e)
      exact #[_,q,hd]
    · exact #[o,keep c o (I.cne x c e) hc nch ho (I.freeC x c e),hd]
  refine #[I.ok,I.os,hg,#[λb o e n hb hx=>?_,λb o e n hb hx=>?_,λb o e n hx=>?_,λb o e hx=>?_,λb xs e=>tups b xs (I.base.tups b xs e),λb o xs e=>frzs b o xs (I.base.frzs b o xs e),λb ps e=>?_],?_,λx c e=>?_,?_,λx c e=>?_,λp hp=>?_,hok,I.len]
  · exact keep b o (neL b o e) hb (neC b o e hx) (I.base.keep b o e n hb hx) (I.base.free b o e n hx)
  · obtain ⟨sl,e1⟩:=I.base.slot b o e n hb hx
    obtain ⟨sl',e2⟩:=slot b _ (neL b o e) hb (neC b o e hx) e1 (I.base.free b o e n hx);exact #[sl',e2]
  · obtain ⟨o',e1⟩:=I.base.there b o e hx
    exact free b o' (neC b o e hx) e1 (I.base.free b o e n hx)
  · obtain ⟨o',e1⟩:=I.base.there b o e hx
    exact there b o' (neC b o e hx) e1
  · obtain ⟨m1,e1⟩:=I.base.tbls b ps e
    obtain ⟨m2,e2⟩:=tbls b _ e1;exact #[m1++m2,by rw[e2,Array.append_assoc]]
  · obtain ⟨m,hn,hl⟩:=I.loc
    refine #[m,ns m hn,λi x v e1 e2 e3=>?_];obtain ⟨u,r,l⟩:=hl i x v e1 e2 e3;refine #[u,r,?_];rcases l with l|⟨k,c,e,z⟩
    · exact .inl l
    · exact .inr #[k,c,e,cellK x c e _ z]
  · obtain ⟨v,z⟩:=I.cell x c e
    exact #[v,cellK x c e v z]
  · obtain ⟨m,⟨o,_,_,ho,_⟩,_⟩:=I.loc
    exact free _ o (λz=>(hch _ z).2.1 rfl) ho I.free
  · obtain ⟨v,o,ho,hd⟩:=I.cell x c e
    exact free c o (λz=>(hch c z).2.2.1 x c e rfl) ho (I.freeC x c e)
  · obtain ⟨e,n,ne,nf,d⟩:=I.pin p hp
    have nch:p.1∉ch:=λz=>(hch p.1 z).2.2.2 p hp rfl;exact #[keep p.1 p.2 ne nf nch e n,free p.1 p.2 nch e n,ne,nf,d]
def Inv.un {t':Nat}(I:Inv X OG U H s)(u:Un X.fs [] H H' s.heap h')(hok:HOk X.prog X.w H' h'):Inv X OG U H' { s with heap:=h',toks:=t' }:=by
  obtain ⟨m,⟨o,es,ep,ho,r⟩,_⟩:=id I.loc;obtain ⟨sl,hL⟩:=u.any ho I.free (by simp);exact I.step (g':=s.gens) (d':=s.drawn) (ch:=[]) (λ_ z=>nomatch z) (λb o _ hb _ e n=>u.keep b o e n hb (by simp)) (λb o _ hb _ e n=>u.slot b o e n hb (by simp)) (λb o _ e n=>u.free b o e n (by simp)) (λb o _ e=>u.there b o e (by simp)) u.tups u.frzs u.tbls (λm' hm=>by
    obtain ⟨o',es',ep',ho',r'⟩:=hm;rw[ho]at ho';cases ho'
    exact #[_,es',ep',hL,r']) hok I.bare
def Inv.call {g':Array GenState}{t':Nat}{d':Drawn}{ch:List Addr}(I:Inv X OG U H s)(u:Un (frs X.stack) ch H H' s.heap h')(hok:HOk X.prog X.w H' h')(hg:AllBare g')
    (hch:∀ b∈ch,(b∈X.ex\/X.s₀.heap.objs.size<=b)/\b≠X.env.locals/\(∀ x c,X.env.cells.lookup x=some c->c≠b)/\∀ p∈X.pn++OG,p.1≠b) :
    Inv X OG U H' { s with heap:=h',gens:=g',drawn:=d',toks:=t' }:=by
  obtain ⟨m,⟨o,es,ep,ho,r⟩,_⟩:=id I.loc;obtain ⟨sl,hL⟩:=u.any ho I.free λz=>(hch _ z).2.1 rfl;exact I.step (ch:=ch) hch (λb o hL hb hc e n=>u.keep b o e n (λz=>(bq.mp (I.stkSub b z)).elim hL hb) hc) (λb o _ _ hc e n=>u.any e n hc) (λb o hc e n=>u.free b o e n hc) (λb o hc e=>u.there b o e hc) u.tups u.frzs u.tbls (λm' hm=>by
    obtain ⟨o',es',ep',ho',r'⟩:=hm;rw[ho]at ho';cases ho'
    exact #[_,es',ep',hL,r']) hok hg
def Inv.turned {t':Nat}{it:Addr}(I:Inv X OG U H s)(k:∀ b o,b≠it->s.heap.get? b=some o->h'.get? b=some o)(hn:H it=none)(hL:it≠X.env.locals)
    (h1:it∈X.ex\/X.s₀.heap.objs.size<=it) (h2:∀ x c,X.env.cells.lookup x=some c->c≠it) (h3:∀ p∈X.pn++OG,p.1≠it):Inv X OG U H { s with heap:=h',toks:=t' }:=by
  have nit:∀ b u,H b=some u->b≠it:=λb u e z=>by rw[z,hn]at e;cases e
  refine I.step (g':=s.gens) (d':=s.drawn) (ch:=[it]) (λb hb=>?_) (λb o _ _ hc e _=>k b o (λz=>hc (by simp[z])) e) (λb o _ _ hc e _=>#[o.slots,k b o (λz=>hc (by simp[z])) e]) (λ_ _ _ _ n=>n)
    (λb o hc e=>#[o,k b o (λz=>hc (by simp[z])) e]) (λ_ _ e=>e) (λ_ _ _ e=>e) (λb ps e=>#[(List.toArray []),by rw[e];simp]) (λm hm=>?_) (λb u e=>?_) I.bare
  · have e:b=it:=by simpa using hb
    subst e;exact #[h1,hL,h2,h3]
  · obtain ⟨o,es,ep,ho,r⟩:=hm
    exact #[o,es,ep,k _ o (bE hL) ho,r]
  · refine (I.hok b u e).stay (λc v hc q=>k c v ?_ q) (λ_ q=>q) λ_ _ q=>q
    rcases hc with z|z
    · rw[z];exact nit b u e
    · exact nit c _ z
def Inv.tok (I:Inv X OG U H s)(t:Nat):Inv X OG U H { s with toks:=t }:=I.un (h':=s.heap) (t':=t) Un.refl I.hok
def Inv.kept {t':Nat}(I:Inv X OG U H s)(k:∀ b u,s.heap.get? b=some u->h'.get? b=some u):Inv X OG U H { s with heap:=h',toks:=t' }:=I.un (Un.kept k) (I.hok.kept k)
def Inv.laid {a:Addr}{t':Nat}(I:Inv X OG U H s)(k:∀ b u,s.heap.get? b=some u->h'.get? b=some u)(hp:s.heap.objs.size<=a)(new:bU X.prog X.w (upd H a o) h' a o) :
    Inv X OG U (upd H a o) { s with heap:=h',toks:=t' }:=I.un (Un.laid k hp (I.hok.fresh hp)) (I.hok.laid k hp new)
def Inv.write {x e:Addr}{t':Nat}(I:Inv X OG U H s)(mu:Mut (H x))(he:e=x\/H e=some (.own x))(k:∀ b u,b≠e->s.heap.get? b=some u->h'.get? b=some u)(heo:∃ u,h'.get? e=some u)
    (new:bU X.prog X.w (upd H x o) h' x o):Inv X OG U (upd H x o) { s with heap:=h',toks:=t' }:=I.un (Un.write mu he k heo) (I.hok.write mu he k heo new)
def Inv.pins_of {pins':List (Addr×Obj)}(I:Inv X OG U H s)(h:∀ p∈pins',s.heap.get? p.1=some p.2/\H p.1=none/\p.1≠X.env.locals/\p.1∉X.fs/\∀ v,p.2.data≠.cell v):Inv X pins' U H s:=
  #[I.ok,I.os,I.bare,I.base,I.loc,I.cell,I.free,I.freeC,λp hp=>(bO.mp hp).elim (λz=>I.pin p (fG _ z)) (h p),I.hok,I.len]
def zF {N:List Str}(hN:N.Nodup){i j:Nat}{x:Str}(a:N[i]?=some x)(b:N[j]?=some x):i=j:=by
  obtain ⟨h1,e1⟩:=aY.mp a;obtain ⟨h2,e2⟩:=aY.mp b;exact (List.getElem_inj hN).mp (e1.trans e2.symm)
def zG {M:Model}{A:Around}{E:Value->Shared->Prop}{i:Nat}{x:Str}{v:V}{u:Value}{Q:Unit->Shared->Prop}(I:Inv X OG U H s)(hN:X.N.Nodup)(hi:X.N[i]?=some x)(hx:Loc X.env.scope x)(r:RelV v u)
    (h:∀ s',Inv X OG (U.set i (some v)) H s'->(∃ a,Heap.SameBut a s.heap s'.heap/\(a=X.env.locals\/X.env.cells.lookup x=some a))->Q () s') (hf:X.fn x=true\/X.env.scope.names.lookup x=some .local:=by first|exact .inl rfl|exact .inr rfl|assumption):wpAny M A (storeName X.env x u) Q E s:=by
  obtain ⟨m,hn,hl⟩:=id I.loc;have hcls:(X.env.scope.kind == .class||(X.env.scope.kind == .module&&X.env.locals != X.env.globals))=false:=by rw[I.ok.kind];rfl
  have hiσ:i<U.length:=by rw[I.len];exact (aY.mp hi).1
  have cne:=I.cne;have tracked:∀{a:Addr} {h':Heap},(∃ o,s.heap.get? a=some o/\H a=none)->Heap.SameBut a s.heap h'->HOk X.prog X.w H h':=λ{a h'} ha hs b ob e=>by
    obtain ⟨_,_,hfree⟩:=ha;refine (I.hok b ob e).stay (λc w' hc q=>(hs.2 c ?_).trans q) (λ_ q=>q) λ_ _ q=>q;rintro rfl;rcases hc with rfl|hc
    · rw[hfree]at e;cases e
    · rw[hfree]at hc;cases hc
  rcases hx with hk|hk
  · refine wpAny_storeName_local hk hn (λh' hn' hs=>?_) hcls
    obtain ⟨oL,_,_,hoL,_⟩:=id hn;refine h _ #[I.ok,I.os,I.bare,#[λb o e n hb hx=>?_,λb o e n hb hx=>?_,I.base.free,λb o e hx=>?_,I.base.tups,I.base.frzs,I.base.tbls],#[_,hn',λj y v' e1 e2 e3=>?_],λy c e=>?_,I.free,I.freeC,λp hp=>?_,tracked #[oL,hoL,I.free] hs,by simpa using I.len] #[_,hs,.inl rfl]
    · exact (hs.2 b (bX (cH (aZ e) I.ok.above))).trans (I.base.keep b o e n hb hx)
    · obtain ⟨sl,e1⟩:=I.base.slot b o e n hb hx
      exact #[sl,(hs.2 b (bX (cH (aZ e) I.ok.above))).trans e1]
    · obtain ⟨o',e1⟩:=I.base.there b o e hx
      exact #[o',(hs.2 b (bX (cH (aZ e) I.ok.above))).trans e1]
    · by_cases hj:j=i
      · subst hj
        rw[hi]at e1;cases e1
        rw[List.getElem?_set_self hiσ]at e2;cases e2
        exact #[u,r,.inl #[hk,by simp]]
      · rw[List.getElem?_set_ne (bE hj)]at e2
        obtain ⟨u',r',q⟩:=hl j y v' e1 e2 e3;refine #[u',r',?_];rcases q with ⟨k,e⟩|⟨k,c,e,z⟩
        · refine .inl #[k,?_]
          have:y≠x:=λe=>hj (zF hN e1 (e ▸ hi));simp[this,e]
        · exact .inr #[k,c,e,z.sameBut hs (cne y c e)]
    · obtain ⟨w',z⟩:=I.cell y c e
      exact #[w',z.sameBut hs (cne y c e)]
    · obtain ⟨e,n,ne,nf,d⟩:=I.pin p hp
      exact #[(hs.2 p.1 ne).trans e,n,ne,nf,d]
  · have hfn:X.fn x=true:=by
      rcases hf with z|z
      · exact z
      · rw[z]at hk;cases hk
    obtain ⟨c,hc⟩:=I.ok.has x (.inl hk);obtain ⟨w',z⟩:=I.cell x c hc;refine wpAny_storeName_cell I.ok.kind hk hc z (λh' hc' hs=>?_);obtain ⟨oc,hoc,hocd⟩:=id z;refine h { s with heap:=h' } #[I.ok,I.os,I.bare,#[λb o e n hb hx=>?_,λb o e n hb hx=>?_,I.base.free,λb o e hx=>?_,I.base.tups,I.base.frzs,I.base.tbls],#[m,hn.sameBut hs (bE (cne x c hc)),λj y v' e1 e2 e3=>?_],λy c' e=>?_,I.free,I.freeC,λp hp=>?_,tracked #[oc,hoc,I.freeC x c hc] hs,by simpa using I.len] #[c,hs,.inr hc]
    · exact (hs.2 b (bX (cH (aZ e) (I.ok.cab x c hfn hc)))).trans (I.base.keep b o e n hb hx)
    · obtain ⟨sl,e1⟩:=I.base.slot b o e n hb hx
      exact #[sl,(hs.2 b (bX (cH (aZ e) (I.ok.cab x c hfn hc)))).trans e1]
    · obtain ⟨o',e1⟩:=I.base.there b o e hx
      exact #[o',(hs.2 b (bX (cH (aZ e) (I.ok.cab x c hfn hc)))).trans e1]
    · by_cases hj:j=i
      · subst hj
        rw[hi]at e1;cases e1
        rw[List.getElem?_set_self hiσ]at e2;cases e2
        exact #[u,r,.inr #[.inl hk,c,hc,hc']]
      · rw[List.getElem?_set_ne (bE hj)]at e2
        obtain ⟨u',r',q⟩:=hl j y v' e1 e2 e3;refine #[u',r',?_];rcases q with q|⟨k,c',e,z'⟩
        · exact .inl q
        · refine .inr #[k,c',e,z'.sameBut hs ?_]
          rintro rfl;exact hj (zF hN e1 (I.ok.inj _ _ _ e hc ▸ hi))
    · by_cases hcc:c'=c
      · subst hcc;exact #[_,hc']
      · obtain ⟨w2,z2⟩:=I.cell y c' e
        exact #[w2,z2.sameBut hs hcc]
    · obtain ⟨e,n,ne,nf,d⟩:=I.pin p hp
      refine #[(hs.2 p.1 ?_).trans e,n,ne,nf,d];intro q;rw[q,hoc]at e;have q':oc=p.2:=aV e;exact d w' (by rw[<-q'];exact hocd)
def zH {M:Model}{A:Around}{E:Value->Shared->Prop}{i:Nat}{x:Str}{v:V}{u:Value}{Q:Unit->Shared->Prop}(I:Inv X OG U H s)(hN:X.N.Nodup)(hi:X.N[i]?=some x)(hx:Loc X.env.scope x)(r:RelV v u)
    (h:∀ s',Inv X OG (U.set i (some v)) H s'->Q () s') (hf:X.fn x=true\/X.env.scope.names.lookup x=some .local:=by first|exact .inl rfl|exact .inr rfl|assumption):wpAny M A (storeName X.env x u) Q E s:=
  zG I hN hi hx r (λs' I' _=>h s' I') hf
def Inv.call' {s':Shared}{ch:List Addr}(I:Inv X OG U H s)(ho:s'.os=s.os)(u:Un (frs X.stack) ch H H' s.heap s'.heap)(hok:HOk X.prog X.w H' s'.heap)(hg:AllBare s'.gens)
    (hch:∀ b∈ch,(b∈X.ex\/X.s₀.heap.objs.size<=b)/\b≠X.env.locals/\(∀ x c,X.env.cells.lookup x=some c->c≠b)/\∀ p∈X.pn++OG,p.1≠b):Inv X OG U H' s':=by
  obtain ⟨h',g',d',t',o'⟩:=s';have e:o'=s.os:=ho;subst e;exact I.call (g':=g') (t':=t') (d':=d') u hok hg hch
end
abbrev XK:=Value->Option Addr->Hp->Prop
abbrev St:=List (Option V)
abbrev VK:=V->Hp->Prop
abbrev TE:=St->Hp->VK->Prop
abbrev TT:=St->Hp->(Bool->Hp->Prop)->Prop
abbrev TA:=St->Hp->(List V->Hp->Prop)->Prop
structure Ends where
  nx:St->Hp->Prop
  rt:VK
  bk:St->Hp->Prop:=λ_ _=>False
  ct:St->Hp->Prop:=λ_ _=>False
abbrev TS:=Ends->St->Hp->Prop
inductive EP (X:Cx)(OG:List (Addr×Obj))(U:St)(Q:VK)(u:Value)(s':Shared):Prop
  | c:∀ v H',Inv X OG U H' s'->RelV v u->Q v H'->EP X OG U Q u s'
def TP (X:Cx)(OG:List (Addr×Obj))(U:St)(Q:Bool->Hp->Prop)(b:Bool)(s':Shared):Prop:=∃ H',Inv X OG U H' s'/\Q b H'
inductive AP (X:Cx)(OG:List (Addr×Obj))(U:St)(Q:List V->Hp->Prop)(us:List Value)(s':Shared):Prop
  | c:∀ vs H',Inv X OG U H' s'->Vals vs us->Q vs H'->AP X OG U Q us s'
def SP (X:Cx)(OG:List (Addr×Obj))(D:Ends)(f:Flow)(s':Shared):Prop:=
  match f with
  | .next=>∃ U' H',Inv X OG U' H' s'/\D.nx U' H'
  | .brk=>∃ U' H',Inv X OG U' H' s'/\D.bk U' H'
  | .cont=>∃ U' H',Inv X OG U' H' s'/\D.ct U' H'
  | .ret u=>∃ v U' H',Inv X OG U' H' s'/\RelV v u/\D.rt v H'
def PE (X:Cx)(e:Expr)(t:TE):Prop:=
  ∀(OG:List (Addr×Obj)) (s:Shared) (U:St) (H:Hp) (Q:VK),Inv X OG U H s->t U H Q->wpAny (model X.prog X.w) X.A (eval e X.env) (EP X OG U Q) X.xe s
def PT (X:Cx)(e:Expr)(t:TT):Prop:=
  ∀(OG:List (Addr×Obj)) (s:Shared) (U:St) (H:Hp) (Q:Bool->Hp->Prop),Inv X OG U H s->t U H Q->wpAny (model X.prog X.w) X.A (isTrue e X.env (eval e X.env)) (TP X OG U Q) X.xe s
def PW (X:Cx)(e:Expr)(t:TT):Prop:=
  ∀(whole:Sem Value) (OG:List (Addr×Obj)) (s:Shared) (U:St) (H:Hp) (Q:Bool->Hp->Prop),Inv X OG U H s->t U H Q->wpAny (model X.prog X.w) X.A (isTrue e X.env whole) (TP X OG U Q) X.xe s
def PW.pt {t:TT}(h:PW X e t):PT X e t:=h _
def PA (X:Cx)(es:List Expr)(t:TA):Prop:=
  ∀(pos:Pos) (OG:List (Addr×Obj)) (s:Shared) (U:St) (H:Hp) (Q:List V->Hp->Prop),Inv X OG U H s->t U H Q->wpAny (model X.prog X.w) X.A (spliced (backTo pos (starEach es X.env))) (AP X OG U Q) X.xe s
def PS (X:Cx)(st:Stmt)(t:TS):Prop:=
  ∀(OG:List (Addr×Obj)) (s:Shared) (U:St) (H:Hp) (D:Ends),Inv X OG U H s->t D U H->wpAny (model X.prog X.w) X.A (exec st X.env) (SP X OG D) X.xe s
def PSs (X:Cx)(st:List Stmt)(t:TS):Prop:=
  ∀(OG:List (Addr×Obj)) (s:Shared) (U:St) (H:Hp) (D:Ends),Inv X OG U H s->t D U H->wpAny (model X.prog X.w) X.A (execs st X.env) (SP X OG D) X.xe s
def thn {α:Type}{t:Sem α}{Q Q':α->Shared->Prop}{M:Model}{A:Around}{E:Value->Shared->Prop}{s:Shared}(h:wpAny M A t Q E s)(hQ:∀ a s,Q a s->Q' a s):wpAny M A t Q' E s:=dX h hQ λ_ _ x=>x
section
variable {X:Cx}
inductive tVar (i:Nat)(U:St)(H:Hp)(Q:VK):Prop
  | c:∀ v,U[i]?=some (some v)->Q v H->tVar i U H Q
def tC (v:V):TE:=λ_ H Q=>Q v H
def EZ {i:Nat}{x:Str}{pos:Pos}(hN:X.N[i]?=some x)(hv:Vis X.env.scope x)(hd:(x==("__debug__" : Str))=false:=by decide)(hcd:(x==("__classdict__" : Str))=false:=by decide):PE X (.Name x pos) (tVar i):=by
  intro OG s U H Q I h;obtain ⟨v,e,h⟩:=h;obtain ⟨m,hn,hl⟩:=I.loc;obtain ⟨u,r,l⟩:=hl i x v hN e hv;have fin:EP X OG U Q u s:=#[v,H,I,r,h];rcases l with ⟨hk,hm⟩|⟨hk,c,hc,hcell⟩
  · exact wpAny_Name (wpAny_loadName_local I.ok.kind hk hn hm fin) hd
  · rcases hk with hk|hk
    · exact wpAny_Name (wpAny_loadName_cell I.ok.kind hk hc hcell fin) hd
    · exact wpAny_Name (wpAny_loadName_free I.ok.kind hk hc hcell fin hcd) hd
def ag {i j pos}:PE X (.Constant (.int i) j pos) (tC (.int i)):=λ_ _ _ H _ I h=>wpAny_Constant_int #[.int i,H,I.tok _,#[_,rfl],h]
def bV {b j pos}:PE X (.Constant (.bool b) j pos) (tC (.bl b)):=λ_ _ _ H _ I h=>Constant_bool #[.bl b,H,I,rfl,h]
def eU {j pos}:PE X (.Constant .none j pos) (tC .non):=λ_ _ _ H _ I h=>Constant_none #[.non,H,I,rfl,h]
def fj {x j pos}:PE X (.Constant (.str x) j pos) (tC (.str x)):=λ_ _ _ H _ I h=>Calls.Constant_str #[.str x,H,I.tok _,#[_,rfl],h]
def Gl (X:Cx)(x:Str):Prop:=X.env.kindOf x=some .globalImplicit
def lP {E:Value->Shared->Prop}{u:Value}{pos:Pos}{Q:Value->Shared->Prop}(I:Inv X OG U H s)(hg:Gl X x)(hm:X.mg x=some u)(h:Q u s)
    (hd:(x==("__debug__" : Str))=false:=by decide):wpAny (model X.prog X.w) X.A (eval (.Name x pos) X.env) Q E s:=
  Calls.Name_function_global I.ok.kind hg (Calls.loadGlobal_global (by rw[I.ok.glob];exact I.mod.glob.keeps I.bk) hm h) hd
def gx {E:Value->Shared->Prop}{u:Value}{pos:Pos}{Q:Value->Shared->Prop}(I:Inv X OG U H s)(hg:Gl X x)(hm:X.mg x=none)(hv:bootBuiltins x=some u)(h:Q u s)
    (hn:x ≠ "__name__":=by decide) (hd:(x==("__debug__" : Str))=false:=by decide):wpAny (model X.prog X.w) X.A (eval (.Name x pos) X.env) Q E s:=by
  obtain ⟨mb,h1,h2⟩:=I.mod.blt;exact Calls.Name_function_global I.ok.kind hg (Calls.loadGlobal_builtin (by rw[I.ok.glob];exact I.mod.glob.keeps I.bk) hm (by rw[I.ok.blt];exact h1.keeps I.bk) ((h2 x hn).trans hv) h) hd
def E1 {v:V}{u:Value}{pos:Pos}(hg:Gl X x)(hm:X.mg x=some u)(r:RelV v u)(hd:(x==("__debug__" : Str))=false:=by decide):PE X (.Name x pos) (tC v):=
  λ_ _ _ H _ I h=>lP I hg hm #[v,H,I,r,h] hd
def jP {v:V}{u:Value}{pos:Pos}(hg:Gl X x)(hm:X.mg x=none)(hv:bootBuiltins x=some u)(r:RelV v u)(hn:x ≠ "__name__":=by decide)(hd:(x==("__debug__" : Str))=false:=by decide):PE X (.Name x pos) (tC v):=
  λ_ _ _ H _ I h=>gx I hg hm hv #[v,H,I,r,h] hn hd
variable {a b:Expr}{ta tb:TE}{pos:Pos}
inductive GtB (Q:Bool->Hp->Prop)(x:V)(H1:Hp):Prop
  | c:∀ c,x=.bl c->Q c H1->GtB Q x H1
def tB (t:TE):TT:=λU H Q=>t U H λx H1=>GtB Q x H1
def dM {t:TE}(h:PE X e t)(he:∀ whole,isTrue e X.env whole=(do let v <-whole;standAt e.pos;holding [v] (truthy v)):=by intro _;rfl):PT X e (tB t):=by
  intro OG s U H Q I hw;refine isTrue_plain (thn (h OG s U H _ I hw) λv s1 zq0=>?_) (he _);obtain ⟨x,H1,I1,r1,q1⟩:=zq0;obtain ⟨d,rfl,q⟩:=q1;cases r1
  exact wpAny_truthy_bool #[H1,I1,q]
variable {tA tB':TT}{rest:List Expr}
def tAnd (t u:TT):TT:=λU H Q=>t U H λc H1=>if c=true then u U H1 Q else Q false H1
def tOr (t u:TT):TT:=λU H Q=>t U H λc H1=>if c=true then Q true H1 else u U H1 Q
def tNot (t:TT):TT:=λU H Q=>t U H λc H1=>Q (!c) H1
def jQ (ha:PT X a tA):PW X (.BoolOp .And [a] pos) tA:=by
  intro wh OG s U H Q I h;refine isTrue_and (thn (ha OG s U H Q I h) λc s1 e=>?_);cases c with
  | true=>exact isTrue_and_nil e
  | false=>exact e
def fN (ha:PT X a tA):PW X (.BoolOp .Or [a] pos) tA:=by
  intro wh OG s U H Q I h;refine isTrue_or (thn (ha OG s U H Q I h) λc s1 e=>?_);cases c with
  | false=>exact isTrue_or_nil e
  | true=>exact e
def jR (ha:PT X a tA)(hb:PW X (.BoolOp .And (b::rest) pos) tB'):PW X (.BoolOp .And (a::b::rest) pos) (tAnd tA tB'):=by
  intro wh OG s U H Q I h;refine isTrue_and (thn (ha OG s U H _ I h) λc s1 zq0=>?_);obtain ⟨H1,I1,q1⟩:=zq0;cases c with
  | true=>exact hb wh OG s1 U H1 Q I1 q1
  | false=>exact #[H1,I1,q1]
def fO (ha:PT X a tA)(hb:PW X (.BoolOp .Or (b::rest) pos) tB'):PW X (.BoolOp .Or (a::b::rest) pos) (tOr tA tB'):=by
  intro wh OG s U H Q I h;refine isTrue_or (thn (ha OG s U H _ I h) λc s1 zq0=>?_);obtain ⟨H1,I1,q1⟩:=zq0;cases c with
  | true=>exact #[H1,I1,q1]
  | false=>exact hb wh OG s1 U H1 Q I1 q1
def dZ (ha:PT X a tA):PT X (.UnaryOp .Not a pos) (tNot tA):=by
  intro OG s U H Q I h;exact isTrue_not (ha OG s U H (λc H1=>Q (!c) H1) I h)
inductive zI (tb:TE)(U:St)(Q:VK)(x:V)(H1:Hp):Prop
  | c:∀ c,x=.bl c->(if c=true then tb U H1 Q else Q (.bl false) H1)->zI tb U Q x H1
def E2 (ta tb:TE):TE:=λU H Q=>ta U H λx H1=>zI tb U Q x H1
inductive zJ (tb:TE)(U:St)(Q:VK)(x:V)(H1:Hp):Prop
  | c:∀ c,x=.bl c->(if c=true then Q (.bl true) H1 else tb U H1 Q)->zJ tb U Q x H1
def tOrV (ta tb:TE):TE:=λU H Q=>ta U H λx H1=>zJ tb U Q x H1
inductive zK (Q:VK)(x:V)(H1:Hp):Prop
  | c:∀ c,x=.bl c->Q (.bl (!c)) H1->zK Q x H1
def E3 (ta:TE):TE:=λU H Q=>ta U H λx H1=>zK Q x H1
def jS {op}{t:TE}(h:PE X a t):PE X (.BoolOp op [a] pos) t:=λOG s U H Q I hw=>BoolOp_one (h OG s U H Q I hw)
def oh (ha:PE X a ta)(hb:PE X (.BoolOp .And (b::rest) pos) tb):PE X (.BoolOp .And (a::b::rest) pos) (E2 ta tb):=by
  intro OG s U H Q I h;refine BoolOp_and (thn (ha OG s U H _ I h) λv s1 zq0=>?_);obtain ⟨x,H1,I1,r1,q1⟩:=zq0;obtain ⟨c,rfl,q1⟩:=q1;cases r1
  refine wpAny_truthy_bool ?_;cases c with
  | true=>exact hb OG s1 U H1 Q I1 q1
  | false=>exact #[.bl false,H1,I1,rfl,q1]
def zL (ha:PE X a ta)(hb:PE X (.BoolOp .Or (b::rest) pos) tb):PE X (.BoolOp .Or (a::b::rest) pos) (tOrV ta tb):=by
  intro OG s U H Q I h;refine BoolOp_or (thn (ha OG s U H _ I h) λv s1 zq0=>?_);obtain ⟨x,H1,I1,r1,q1⟩:=zq0;obtain ⟨c,rfl,q1⟩:=q1;cases r1
  refine wpAny_truthy_bool ?_;cases c with
  | false=>exact hb OG s1 U H1 Q I1 q1
  | true=>exact #[.bl true,H1,I1,rfl,q1]
def E4 (ha:PE X a ta):PE X (.UnaryOp .Not a pos) (E3 ta):=by
  intro OG s U H Q I h;refine UnaryOp_ (thn (ha OG s U H _ I h) λv s1 zq0=>?_);obtain ⟨x,H1,I1,r1,q1⟩:=zq0;obtain ⟨c,rfl,q1⟩:=q1;cases r1
  exact not_of (wpAny_truthy_bool #[.bl (!c),H1,I1,rfl,q1])
def tIf (t:TT)(ta tb:TE):TE:=λU H Q=>t U H λc H1=>if c=true then ta U H1 Q else tb U H1 Q
def lQ (hc:PT X c tA)(ha:PE X a ta)(hb:PE X b tb):PE X (.IfExp c a b pos) (tIf tA ta tb):=by
  intro OG s U H Q I h;refine wpAny_IfExp (thn (hc OG s U H _ I h) λd s1 zq0=>?_);obtain ⟨H1,I1,q1⟩:=zq0;cases d with
  | true=>exact ha OG s1 U H1 Q I1 q1
  | false=>exact hb OG s1 U H1 Q I1 q1
end
def SqL (K:Frag)(H:Hp)(a:Addr)(xs:List V):Prop:=
  Rd H a (.lst xs)\/
    ∃(o:Obj) (its:Array Value) (n:Nat),K.lookup a=some o/\o.cls=.type "list"/\o.dict=none/\o.data=.seq its n/\its.size<=sizeLine/\Vals xs its.toList
def SqT (K:Frag)(H:Hp)(a:Addr)(xs:List V):Prop:=
  Rd H a (.tup xs)\/
    ∃(o:Obj) (its:Array Value) (n:Nat),K.lookup a=some o/\o.cls=.type "tuple"/\o.data=.seq its n/\its.size<=sizeLine/\Vals xs its.toList
def absV:Value->Option V
  | .none=>some .non
  | .bool b=>some (.bl b)
  | .int i _=>some (.int i)
  | .str x _=>some (.str x)
  | .bytes b _=>some (.byt b)
  | .float b _=>some (.flt b)
  | .ref a=>some (.ref a)
  | .type n=>some (.ty n)
  | _=>none
def RelV.abs {x:V}{u:Value}(r:RelV x u):absV u=some x:=by
  cases x with
  | non=>cases r;rfl
  | bl _=>cases r;rfl
  | int _=>obtain ⟨t,rfl⟩:=r;rfl
  | str _=>obtain ⟨t,rfl⟩:=r;rfl
  | byt _=>obtain ⟨t,rfl⟩:=r;rfl
  | flt _=>obtain ⟨t,rfl⟩:=r;rfl
  | ref _=>cases r;rfl
  | ty _=>cases r;rfl
def RelV.inj {x y:V}{u:Value}(r:RelV x u)(q:RelV y u):x=y:=aV (r.abs.symm.trans q.abs)
def Vals.inj:∀{xs ys:List V} {us:List Value},Vals xs us->Vals ys us->xs=ys
  | _,_,_,.nil,.nil=>rfl
  | _,_,_,.cons r t,.cons r' t'=>by rw[r.inj r',Vals.inj t t']
section
variable {X:Cx}{OG:List (Addr×Obj)}{U:St}{H:Hp}{s:Shared}{a:Addr}{xs ys:List V}
def SqL.of {K:Frag}(h:H a=some (.lst xs)):SqL K H a xs:=.inl (.inl h)
def SqT.of {K:Frag}(h:H a=some (.tup xs)):SqT K H a xs:=.inl (.inl h)
def Inv.list (I:Inv X OG U H s)(h:SqL X.K H a xs):∃ its:List Value,Vals xs its/\PlainL s.heap a its.toArray/\xs.length<=sizeLine:=by
  rcases h with h|⟨o,its,n,hk,hc,hd,hs,hz,r⟩
  · obtain ⟨z,its,n,r,e⟩:=h.ok I.hok
    exact #[its,r,#[_,n,e,rfl,rfl,rfl],z]
  · refine #[its.toList,r,#[o,n,I.kIn a o hk,hc,hd,by simpa using hs],?_]
    have e:=r.length;simp only[fH]at e;lia
def Inv.tuple (I:Inv X OG U H s)(h:SqT X.K H a xs):∃ its:List Value,Vals xs its/\IsTup s.heap a its.toArray/\xs.length<=sizeLine:=by
  rcases h with h|⟨o,its,n,hk,hc,hs,hz,r⟩
  · obtain ⟨z,its,r,p⟩:=h.ok I.hok
    exact #[its,r,p,z]
  · refine #[its.toList,r,#[o,I.kIn a o hk,hc,n,by simpa using hs],?_]
    have e:=r.length;simp only[fH]at e;lia
def Inv.list_inj (I:Inv X OG U H s)(h:SqL X.K H a xs)(h':SqL X.K H a ys):xs=ys:=by
  obtain ⟨its,r,⟨o,n,e,_,_,d⟩,_⟩:=I.list h;obtain ⟨its',r',⟨o',n',e',_,_,d'⟩,_⟩:=I.list h';rw[e]at e';cases e'
  rw[d]at d';injection d' with d1 _;have:its=its':=by simpa using congrArg Array.toList d1
  subst this;exact r.inj r'
def Inv.tuple_inj (I:Inv X OG U H s)(h:SqT X.K H a xs)(h':SqT X.K H a ys):xs=ys:=by
  obtain ⟨its,r,⟨o,e,_,n,d⟩,_⟩:=I.tuple h;obtain ⟨its',r',⟨o',e',_,n',d'⟩,_⟩:=I.tuple h';rw[e]at e';cases e'
  rw[d]at d';injection d' with d1 _;have:its=its':=by simpa using congrArg Array.toList d1
  subst this;exact r.inj r'
end
abbrev Cx.wish (X:Cx)(E:Value->Shared->Prop):Cx:={ X with xe:=E }
abbrev Cx.nox (X:Cx):Cx:=X.wish λ_ _=>False
def Cx.Ok.wish {X:Cx}(ok:X.Ok)(E:Value->Shared->Prop):(X.wish E).Ok:=
  #[ok.mod,ok.kind,ok.glob,ok.blt,ok.above,ok.inj,ok.has,ok.cab,ok.hd,ok.frames,ok.stk,ok.exf,ok.bs,ok.bsz,ok.noex,ok.exfs,ok.funs,ok.frf]
def Cx.Ok.unwish {X:Cx}{E:Value->Shared->Prop}(ok:(X.wish E).Ok):X.Ok:=
  #[ok.mod,ok.kind,ok.glob,ok.blt,ok.above,ok.inj,ok.has,ok.cab,ok.hd,ok.frames,ok.stk,ok.exf,ok.bs,ok.bsz,ok.noex,ok.exfs,ok.funs,ok.frf]
section
variable {X:Cx}{OG:List (Addr×Obj)}{U:St}{H:Hp}{s:Shared}{E:Value->Shared->Prop}
def Inv.wish (I:Inv X OG U H s)(E:Value->Shared->Prop):Inv (X.wish E) OG U H s:=#[I.ok.wish E,I.os,I.bare,I.base,I.loc,I.cell,I.free,I.freeC,I.pin,I.hok,I.len]
def Inv.unwish (I:Inv (X.wish E) OG U H s):Inv X OG U H s:=#[I.ok.unwish,I.os,I.bare,I.base,I.loc,I.cell,I.free,I.freeC,I.pin,I.hok,I.len]
def SP.unwish {f:Flow}(h:SP (X.wish E) OG D f s'):SP X OG D f s':=by
  cases f with
  | next=>obtain ⟨U',H',I,q⟩:=h;exact #[U',H',I.unwish,q]
  | brk=>obtain ⟨U',H',I,q⟩:=h;exact #[U',H',I.unwish,q]
  | cont=>obtain ⟨U',H',I,q⟩:=h;exact #[U',H',I.unwish,q]
  | ret u=>obtain ⟨v,U',H',I,r,q⟩:=h;exact #[v,U',H',I.unwish,r,q]
def PSs.nox {st:List Stmt}{t:TS}(h:PSs X.nox st t):PSs X st t:=λOG s U H D I hw=>
  dX (h OG s U H D (I.wish _) hw) (λ_ _ q=>q.unwish) λ_ _ z=>False.elim z
end
section
variable {X:Cx}{st:Stmt}{rest:List Stmt}{t u:TS}{e:Expr}{te:TE}{pos:Pos}
def E5:TS:=λD U H=>D.nx U H
def tSeq (t u:TS):TS:=λD U H=>t { D with nx:=u D } U H
def bz:PSs X [] E5:=λ_ _ U H _ I h=>wpAny_execs_nil #[U,H,I,h]
def aK (h1:PS X st t)(h2:PSs X rest u):PSs X (st::rest) (tSeq t u):=by
  intro OG s U H D I h;refine wpAny_execs_cons (thn (h1 OG s U H { D with nx:=u D } I h) λf s1 q=>?_);cases f with
  | next=>
    obtain ⟨U',H',I',q⟩:=q;exact h2 OG s1 U' H' D I' q
  | ret v=>exact q
  | brk=>exact q
  | cont=>exact q
def aw (h1:PS X st t):PSs X [st] t:=by
  intro OG s U H D I h;refine wpAny_execs_cons (thn (h1 OG s U H D I h) λf s1 q=>?_);cases f with
  | next=>exact wpAny_execs_nil q
  | ret v=>exact q
  | brk=>exact q
  | cont=>exact q
def Inv.quiet {s:Shared}(I:Inv X OG U H s):interactive X.env=false:=by simp[interactive,I.ok.kind]
def E6 (te:TE):TS:=λD U H=>te U H λ_ H1=>D.nx U H1
def dB (he:PE X e te)(hs:swapsWith e none pos.line X.env=pure false:=by rfl):PS X (.Expr e pos) (E6 te):=by
  intro OG s U H D I h;exact wpAny_Expr_any (thn (he OG s U H _ I h) λv s1 zq0=>(by obtain ⟨x,H1,I1,r1,q1⟩:=zq0;exact #[U,H1,I1,q1])) I.quiet hs
def tRet (te:TE):TS:=λD U H=>te U H D.rt
def aE (he:PE X e te):PS X (.Return (some e) pos) (tRet te):=by
  intro OG s U H D I h;exact wpAny_Return_some (thn (he OG s U H _ I h) λv s1 zq0=>(by obtain ⟨x,H1,I1,r1,q1⟩:=zq0;exact #[x,U,H1,I1,r1,q1]))
def tIfS (c:TT)(t u:TS):TS:=λD U H=>c U H λb H1=>if b=true then t D U H1 else u D U H1
def bu {a:List Stmt}(hc:PT X c tc)(ha:PSs X a t)(hb:PSs X b u):PS X (.If c a b pos) (tIfS tc t u):=by
  intro OG s U H D I h;refine wpAny_If (thn (hc OG s U H _ I h) λd s1 zq0=>?_);obtain ⟨H1,I1,q1⟩:=zq0;cases d with
  | true=>exact ha OG s1 U H1 D I1 q1
  | false=>exact hb OG s1 U H1 D I1 q1
def E7:TS:=λ_ _ _=>False
def uh:PS X st E7:=λ_ _ _ _ _ _ h=>h.elim
end
abbrev TG:=V->St->Hp->(St->Hp->Prop)->Prop
abbrev TGs:=List V->St->Hp->(St->Hp->Prop)->Prop
def PG (X:Cx)(target:Expr)(t:TG):Prop:=
  ∀(OG:List (Addr×Obj)) (s:Shared) (U:St) (H:Hp) (v:V) (u:Value) (Q:St->Hp->Prop),Inv X OG U H s->RelV v u->t v U H Q->
    wpAny (model X.prog X.w) X.A (assign target X.env u) (λ_ s'=>∃ U' H',Inv X OG U' H' s'/\Q U' H') X.xe s
def PGs (X:Cx)(ts:List Expr)(t:TGs):Prop:=
  ∀(OG:List (Addr×Obj)) (s:Shared) (U:St) (H:Hp) (vs:List V) (us:List Value) (Q:St->Hp->Prop),Inv X OG U H s->Vals vs us->t vs U H Q->
    wpAny (model X.prog X.w) X.A (assignInOrder ((assignEach ts X.env).map (·.2)) us) (λ_ s'=>∃ U' H',Inv X OG U' H' s'/\Q U' H') X.xe s
abbrev TSet:=V->V->V->Hp->(Hp->Prop)->Prop
def PSet (X:Cx)(t:TSet):Prop:=
  ∀(OG:List (Addr×Obj)) (s:Shared) (U:St) (H:Hp) (o i v:V) (ov iv u:Value) (Q:Hp->Prop),Inv X OG U H s->RelV o ov->RelV i iv->RelV v u->t o i v H Q->
    wpAny (model X.prog X.w) X.A (setItem ov iv u) (λ_ s'=>∃ H',Inv X OG U H' s'/\Q H') X.xe s
section
variable {X:Cx}{pos:Pos}
def gX (i:Nat):TG:=λv U H Q=>Q (U.set i (some v)) H
def aP {i:Nat}{x:Str}(hN:X.N.Nodup)(hi:X.N[i]?=some x)(hx:Loc X.env.scope x)(hf:X.fn x=true\/X.env.scope.names.lookup x=some .local:=by first|exact .inl rfl|exact .inr rfl|assumption):PG X (.Name x pos) (gX i):=by
  intro OG s U H v u Q I r h;exact wpAny_assign_Name (zH I hN hi hx r (λs' I'=>#[_,H,I',h]) hf)
inductive gNil (vs:List V)(U:St)(H:Hp)(Q:St->Hp->Prop):Prop
  | c:vs=[]->Q U H->gNil vs U H Q
inductive oi (t:TG)(u:TGs)(vs:List V)(U:St)(H:Hp)(Q:St->Hp->Prop):Prop
  | c:∀ v r,vs=v::r->(t v U H λU' H'=>u r U' H' Q)->oi t u vs U H Q
def fP:PGs X [] gNil:=by
  intro OG s U H vs us Q I r h;obtain ⟨e,h⟩:=h;subst e;cases r
  exact assignInOrder_nil #[U,H,I,h]
def c7 {t:TG}(h1:PG X e t)(h2:PGs X es u)
    (hs:(assignEach (e::es) X.env).map (·.2)=assign e X.env::(assignEach es X.env).map (·.2):=by rfl):PGs X (e::es) (oi t u):=by
  intro OG s U H vs us Q I r h;obtain ⟨v,vr,e1,h⟩:=h;subst e1;cases r with
  | cons r rr=>
    rw[hs];refine assignInOrder_cons (thn (h1 OG s U H _ _ _ I r h) λ_ s1 zq0=>?_);obtain ⟨U1,H1,I1,q1⟩:=zq0;exact h2 OG s1 U1 H1 _ _ Q I1 rr q1
inductive gTup (K:Frag)(n:Nat)(t:TGs)(v:V)(U:St)(H:Hp)(Q:St->Hp->Prop):Prop
  | c:∀ a xs,v=.ref a->SqT K H a xs->xs.length=n->t xs U H Q->gTup K n t v U H Q
def i8 {k:Nat}{t:TGs}{n:Nat}(hc:X.calm=true)(h:PGs X es t)
    (hn:(assignEach es X.env).length=n:=by rfl) (hst:(assignEach es X.env).findIdx? (·.1)=none:=by rfl):PG X (.Tuple es k pos) (gTup X.K n t):=by
  intro OG s U H v u Q I r hw;obtain ⟨a,xs,e1,hq,hl,hw⟩:=hw;subst e1;cases r
  obtain ⟨its,rv,ht,hz⟩:=I.tuple hq;refine assign_Tuple_tuple (I.ok.hd hc) ht (by simp[hn,<-hl,rv.length]) hst λh' hx=>?_;have I1:Inv X OG U H { s with heap:=h' }:=I.kept (t':=s.toks) λb o e=>hx b o (bX (aZ e)) e;exact h OG _ U H xs _ Q I1 (by simpa using rv) hw
def gSub (to ti:TE)(t:TSet):TG:=λv U H Q=>to U H λo H1=>ti U H1 λi H2=>t o i v H2 λH3=>Q U H3
def ui {t:TSet}(ho:PE X o to)(hi:PE X i ti)(hs:PSet X t)
    (ha:∀ v,assign (.Subscript o i pos) X.env v=(do
      let ov <-holding [v] (eval o X.env)
      let iv <-holding [v,ov] (eval i X.env)
      standAt pos
      holding [v,ov,iv] (setItem ov iv v)
      release [v,ov,iv] []):=by intro _;rfl):PG X (.Subscript o i pos) (gSub to ti t):=by
  intro OG s U H v u Q I r h;rw[ha];refine aA (wpAny_holding (thn (ho OG s U H _ I h) λov s1 zq0=>?_));obtain ⟨x,H1,I1,r1,q1⟩:=zq0;refine aA (wpAny_holding (thn (hi OG s1 U H1 _ I1 q1) λiv s2 zq0=>?_));obtain ⟨y,H2,I2,r2,q2⟩:=zq0;refine aA (wpAny_standAt (aA (wpAny_holding (thn (hs OG s2 U H2 x y v ov iv u _ I2 r1 r2 r q2) λ_ s3 zq0=>?_))));obtain ⟨H3,I3,q3⟩:=zq0;exact wpAny_release #[U,H3,I3,q3]
def tAsg (te:TE)(g:TG):TS:=λD U H=>te U H λx H1=>g x U H1 D.nx
def oj (he:PE X e te)(hg:PG X tg g)(hs:swapsWithSole [tg] e pos.line X.env=pure false:=by rfl)(hw:swappedStores [tg] e X.env=pure none:=by rfl)
    (h1:(assignEach [tg] X.env).map (·.2)=[assign tg X.env]:=by rfl):PS X (.Assign [tg] e pos) (tAsg te g):=by
  intro OG s U H D I h;refine wpAny_Assign_stores (thn (he OG s U H _ I h) λv s1 zq0=>?_) hs hw;obtain ⟨x,H1,I1,r1,q1⟩:=zq0;rw[h1];exact thn (hg OG s1 U H1 x v _ I1 r1 q1) λ_ s2 q=>q
def aL {i:Nat}{x:Str}{pos':Pos}(hN:X.N.Nodup)(hi:X.N[i]?=some x)(hx:Loc X.env.scope x)(he:PE X e te)(hs:swapsWith e (some (.Name x pos')) pos.line X.env=pure false:=by rfl)(hf:X.fn x=true\/X.env.scope.names.lookup x=some .local:=by first|exact .inl rfl|exact .inr rfl|assumption) :
    PS X (.Assign [.Name x pos'] e pos) (tAsg te (gX i)):=by
  intro OG s U H D I h;refine wpAny_Assign_Name (thn (he OG s U H _ I h) λv s1 zq0=>?_) hs;obtain ⟨y,H1,I1,r1,q1⟩:=zq0;exact zH I1 hN hi hx r1 (λs2 I2=>#[_,H1,I2,q1]) hf
end
section
variable {X:Cx}{pos:Pos}
def uj (c:TT)(tb:TS):TS:=λD U H=>∃ W:Nat->St->Hp->Prop,(∃ m,W m U H)/\∀ m U H,W m U H->
  c U H λb H1=>if b=true then ∃ N:St->Hp->Prop,(∀ U' H',N U' H'->∃ m',m'<m/\W m' U' H')/\tb { D with nx:=N,ct:=N,bk:=D.nx } U H1 else D.nx U H1
def uk (hp:PassesOwn (model X.prog X.w) X.A X.env X.xe)(hc:PT X c tc)(hb:PSs X body tb):PS X (.While c body [] pos) (uj tc tb):=by
  intro OG s U H D I h;obtain ⟨W,⟨m0,w0⟩,turn⟩:=h;refine wpAny_While (codeAny_whileLoop (λn s'=>∃ U' H',Inv X OG U' H' s'/\W n U' H') ?_ m0 #[U,H,I,w0]);rintro n s1 ⟨U1,H1,I1,w1⟩;refine wpAny_passesOwn hp (thn (hc OG s1 U1 H1 _ I1 (turn n U1 H1 w1)) λb s2 zq0=>?_);obtain ⟨H2,I2,q2⟩:=zq0;cases b with
  | true=>
    obtain ⟨N,hN,q2⟩:=q2;rw[ar rfl];refine wpAny_passesOwn hp (thn (hb OG s2 U1 H2 _ I2 q2) λf s3 q3=>?_);cases f with
    | next=>
      obtain ⟨U3,H3,I3,n3⟩:=q3;obtain ⟨m',hm,w3⟩:=hN U3 H3 n3;exact #[m',hm,U3,H3,I3,w3]
    | cont=>
      obtain ⟨U3,H3,I3,n3⟩:=q3;obtain ⟨m',hm,w3⟩:=hN U3 H3 n3;exact #[m',hm,U3,H3,I3,w3]
    | brk=>exact q3
    | ret v=>exact q3
  | false=>
    rw[az cN];exact wpAny_execs_nil #[U1,H2,I2,q2]
end
structure It where
  go:Nat->Hp->Prop
  yld:Nat->Hp->V->Hp->Prop
  stop:Nat->Hp->Prop
def FpOk (X:Cx)(OG:List (Addr×Obj))(H:Hp)(b:Addr):Prop:=
  H b=none/\b≠X.env.locals/\b∉X.fs/\(b∈X.ex\/X.s₀.heap.objs.size<=b)/\(∀ x c,X.env.cells.lookup x=some c->c≠b)/\∀ p∈X.pn++OG,p.1≠b
def Inv.fpOk {H':Hp}{s:Shared}{b:Addr}(I:Inv X OG U H s)(hb:s.heap.objs.size<=b)(hn:H' b=none):FpOk X OG H' b:=by
  refine #[hn,jB (cH I.lt hb),I.nofs hb,.inr (cD I.sz hb),λx c e z=>?_,λp hp z=>?_]
  · obtain ⟨v,q⟩:=I.cell x c e
    exact absurd (cH q.lt (by rw[z];exact hb)) (dP _)
  · exact absurd (cH (aZ (I.pin p hp).1) (by rw[z];exact hb)) (dP _)
structure Turn (P:Program)(w:World)(K:Frag)(tg:Expr)(J:It)(fp:List Addr)(it:Addr)(tn:Nat->Heap->Prop):Prop where
  mem:it∈fp
  obj:∀ i h,tn i h->∀ b∈fp,∃ o,h.get? b=some o/\∀ v,o.data≠.cell v
  keep:∀ i h h',tn i h->(∀ b∈fp,∀ o,h.get? b=some o->h'.get? b=some o)->tn i h'
  item:∀(X:Cx),X.prog=P->X.w=w->X.K=K->X.calm=true->∀(i:Nat) (OG:List (Addr×Obj)) (s:Shared) (U:St) (H:Hp) (E:Value->Shared->Prop),Inv X OG U H s->(∀ b∈fp,FpOk X OG H b)->tn i s.heap->J.go i H->
    wpAny (model P w) X.A (pyNext (.ref it)) (λr s1=>∃ u,r=some u/\
      wpAny (model P w) X.A (letOwnedTupleGo tg (.ref it) u) (λ_ s2=>∃ x H',Inv X OG U H' s2/\RelV x u/\J.yld i H x H'/\tn (i+1) s2.heap/\∀ b∈fp,H' b=none) E s1) E s
  done:∀(X:Cx),X.prog=P->X.w=w->X.K=K->X.calm=true->∀(i:Nat) (OG:List (Addr×Obj)) (s:Shared) (U:St) (H:Hp) (E:Value->Shared->Prop),Inv X OG U H s->(∀ b∈fp,FpOk X OG H b)->tn i s.heap->J.stop i H->
    wpAny (model P w) X.A (pyNext (.ref it)) (λr s1=>r=none/\Inv X OG U H s1) E s
  self:∀(A:Around) (i:Nat) (s:Shared) (Q:Value->Shared->Prop) (E:Value->Shared->Prop),tn i s.heap->Q (.ref it) s->wpAny (model P w) A (pyIter (.ref it)) Q E s
abbrev TI:=St->Hp->(It->Hp->Prop)->Prop
inductive PIE (X:Cx)(OG:List (Addr×Obj))(U:St)(tg:Expr)(R:It->Hp->Prop)(itv:Value)(s2:Shared):Prop
  | c:∀(it:Addr) (fp:List Addr) (tn:Nat->Heap->Prop) (J:It) (H':Hp),itv=.ref it->Inv X OG U H' s2->Turn X.prog X.w X.K tg J fp it tn->tn 0 s2.heap->(∀ b∈fp,FpOk X OG H' b)->R J H'->PIE X OG U tg R itv s2
def PI (X:Cx)(tg iter:Expr)(wi:TI):Prop:=
  ∀(OG:List (Addr×Obj)) (s:Shared) (U:St) (H:Hp) (R:It->Hp->Prop),Inv X OG U H s->wi U H R->
    wpAny (model X.prog X.w) X.A (eval iter X.env) (λv s1=>wpAny (model X.prog X.w) X.A (pyIter v) (PIE X OG U tg R) X.xe s1) X.xe s
def jT {M:Model}{A:Around}{E:Value->Shared->Prop}{s:Shared}{tg:Expr}{it:Addr}{u:Value}{o:Obj}{n:String}{vs:Array Value}{Q:Unit->Shared->Prop}(ho:s.heap.get? it=some o)(hc:o.cls=.type n)(hd:o.data=.fields vs)
    (hn:["enumerate","zip","dict_itemiterator","dict_reverseitemiterator","odict_iterator","itertools.zip_longest","itertools.pairwise"].contains n=false) (hQ:Q () s):wpAny M A (letOwnedTupleGo tg (.ref it) u) Q E s:=by
  unfold letOwnedTupleGo;cases tg<;>first
    | exact bg hQ
    | (cases u <;> first
        | exact bg hQ
        | (refine aA (wpAny_load ho ?_)
           rw[hc,hd];show wpAny M A (if (["enumerate","zip","dict_itemiterator","dict_reverseitemiterator","odict_iterator","itertools.zip_longest","itertools.pairwise"].contains n&&vs[0]?==some (rawInt _))=true then _ else _) Q E s
           rw[az (by intro h;rw[hn,Bool.false_and]at h;cases h)]
           exact bg hQ))
def Itl (K:Frag)(a:Addr):It:=
  #[λi H=>∃ xs x,SqL K H a xs/\xs[i]?=some x,λi H x H'=>H'=H/\∀ xs,SqL K H a xs->xs[i]?=some x,λi H=>∃ xs,SqL K H a xs/\xs.length<=i]
def Itt (K:Frag)(a:Addr):It:=
  #[λi H=>∃ xs x,SqT K H a xs/\xs[i]?=some x,λi H x H'=>H'=H/\∀ xs,SqT K H a xs->xs[i]?=some x,λi H=>∃ xs,SqT K H a xs/\xs.length<=i]
def Itr (lo:Int)(n:Nat):It:=#[λi _=>i<n,λi H x H'=>H'=H/\x=.int (lo+i),λi _=>n<=i]
def zM {K:Frag}(a it:Addr):Turn P w K tg (Itl K a) [it] it (λi h=>h.IsListIter it a i) where
  mem:=by simp
  obj:=λi h st b hb=>by
    have e:b=it:=by simpa using hb
    subst e;obtain ⟨o,e,c,d⟩:=st;exact #[o,e,λv z=>by rw[d]at z;cases z]
  keep:=λi h h' st k=>st.at λo e=>k it (by simp) o e
  item:=by
    intro X hP hw hK hc i OG s U H E I hf st hg;subst hP hw hK;obtain ⟨xs,x,hq,hx⟩:=hg;obtain ⟨its,rv,p,hz⟩:=I.list hq;obtain ⟨u,hu,ru⟩:=rv.get hx;obtain ⟨f0,f1,f2,f3,f4,f5⟩:=hf it (by simp);refine wpAny_pyNext_list_item st p.isList (x:=u) (by simpa using hu) λh' st' sb=>?_;have I1:Inv X OG U H { s with heap:=h' }:=I.turned (t':=s.toks) (λb o hb e=>(sb.2 b hb).trans e) f0 f1 f3 f4 f5;obtain ⟨o,e,c,d⟩:=id st';exact #[u,rfl,jT (s:={ s with heap:=h' }) e c d (by decide) #[x,H,I1,ru,#[rfl,λys hy=>by rw[I.list_inj hy hq];exact hx],st',λb hb=>(hf b hb).1]]
  done:=by
    intro X hP hw hK hc i OG s U H E I hf st hg;subst hP hw hK;obtain ⟨xs,hq,hx⟩:=hg;obtain ⟨its,rv,p,hz⟩:=I.list hq;obtain ⟨f0,f1,f2,f3,f4,f5⟩:=hf it (by simp);have hl:=rv.length;exact wpAny_pyNext_list_end (I.ok.hd hc) st p.isList (by simp;lia) λh' eb=>#[rfl,I.turned (t':=s.toks) (λb o hb e=>eb b o hb e) f0 f1 f3 f4 f5]
  self:=λ_ _ _ _ _ st h=>wpAny_pyIter_listiter st h
def zN {K:Frag}(a it:Addr):Turn P w K tg (Itt K a) [it] it (λi h=>h.IsTupleIter it a i) where
  mem:=by simp
  obj:=λi h st b hb=>by
    have e:b=it:=by simpa using hb
    subst e;obtain ⟨o,e,c,d⟩:=st;exact #[o,e,λv z=>by rw[d]at z;cases z]
  keep:=λi h h' st k=>st.at λo e=>k it (by simp) o e
  item:=by
    intro X hP hw hK hc i OG s U H E I hf st hg;subst hP hw hK;obtain ⟨xs,x,hq,hx⟩:=hg;obtain ⟨its,rv,p,hz⟩:=I.tuple hq;obtain ⟨u,hu,ru⟩:=rv.get hx;obtain ⟨f0,f1,f2,f3,f4,f5⟩:=hf it (by simp);refine wpAny_pyNext_tuple_item st (show s.heap.IsTuple a its.toArray from p) (x:=u) (by simpa using hu) λh' st' sb=>?_;have I1:Inv X OG U H { s with heap:=h' }:=I.turned (t':=s.toks) (λb o hb e=>(sb.2 b hb).trans e) f0 f1 f3 f4 f5;obtain ⟨o,e,c,d⟩:=id st';exact #[u,rfl,jT (s:={ s with heap:=h' }) e c d (by decide) #[x,H,I1,ru,#[rfl,λys hy=>by rw[I.tuple_inj hy hq];exact hx],st',λb hb=>(hf b hb).1]]
  done:=by
    intro X hP hw hK hc i OG s U H E I hf st hg;subst hP hw hK;obtain ⟨xs,hq,hx⟩:=hg;obtain ⟨its,rv,p,hz⟩:=I.tuple hq;obtain ⟨f0,f1,f2,f3,f4,f5⟩:=hf it (by simp);have hl:=rv.length;exact wpAny_pyNext_tuple_end (I.ok.hd hc) st (show s.heap.IsTuple a its.toArray from p) (by simp;lia) λh' eb=>#[rfl,I.turned (t':=s.toks) (λb o hb e=>eb b o hb e) f0 f1 f3 f4 f5]
  self:=λ_ _ _ _ _ st h=>wpAny_pyIter_tupleiter st h
def E8 {K:Frag}(it:Addr)(lo:Int)(n:Nat):Turn P w K tg (Itr lo n) [it] it (λi h=>IsRangeIter h it (lo+(i:Nat)*1) ((n:Int)-(i:Nat)) 1) where
  mem:=by simp
  obj:=λi h st b hb=>by
    have e:b=it:=by simpa using hb
    subst e;exact #[_,st,λv z=>by
      have z':Data.fields _=Data.cell v:=z;cases z']
  keep:=λi h h' st k=>k it (by simp) _ st
  item:=by
    intro X hP hw hK hc i OG s U H E I hf st hg;subst hP hw hK;obtain ⟨f0,f1,f2,f3,f4,f5⟩:=hf it (by simp);have W:=Walks.range (prog:=X.prog) (w:=X.w) (I.ok.hd hc) it lo 1 n;refine W.item i s _ _ hg st λv h' tk hv st' kk=>?_;obtain ⟨t,rfl⟩:=hv;have I1:Inv X OG U H { s with heap:=h',toks:=tk }:=I.turned (λb o hb e=>kk b o (by simpa using hb) e) f0 f1 f3 f4 f5;refine #[_,rfl,jT (s:={ s with heap:=h',toks:=tk }) (n := "range_iterator") st' rfl rfl (by decide) #[.int (lo+i),H,I1,#[t,?_],#[rfl,rfl],st',λb hb=>(hf b hb).1]];rw[Int.mul_one]
  done:=by
    intro X hP hw hK hc i OG s U H E I hf st hg;subst hP hw hK;obtain ⟨f0,f1,f2,f3,f4,f5⟩:=hf it (by simp);exact wpAny_pyNext_range_end (I.ok.hd hc) st (by have:n<=i:=hg;lia) λh' eb=>#[rfl,I.turned (t':=s.toks) (λb o hb e=>eb b o hb e) f0 f1 f3 f4 f5]
  self:=λ_ _ _ _ _ st h=>wpAny_pyIter_rangeiter st h
section
variable {X:Cx}{tg:Expr}
inductive zO (K:Frag)(R:It->Hp->Prop)(x:V)(H1:Hp):Prop
  | c:∀ a,x=.ref a->(∃ xs,SqL K H1 a xs)->R (Itl K a) H1->zO K R x H1
def zP (K:Frag)(tl:TE):TI:=λU H R=>tl U H λx H1=>zO K R x H1
inductive zQ (K:Frag)(R:It->Hp->Prop)(x:V)(H1:Hp):Prop
  | c:∀ a,x=.ref a->(∃ xs,SqT K H1 a xs)->R (Itt K a) H1->zQ K R x H1
def iTup (K:Frag)(tl:TE):TI:=λU H R=>tl U H λx H1=>zQ K R x H1
def cQ (hl:PE X l tl):PI X tg l (zP X.K tl):=by
  intro OG s U H R I h;refine thn (hl OG s U H _ I h) λv s1 zq0=>?_;obtain ⟨x,H1,I1,r1,q1⟩:=zq0;obtain ⟨a,e,⟨xs,hq⟩,q⟩:=q1;subst e;cases r1
  obtain ⟨its,rv,p,hz⟩:=I1.list hq;refine wpAny_pyIter_list p.isList ?_;refine #[s1.heap.objs.size,[s1.heap.objs.size],_,_,H1,rfl,I1.kept (t':=s1.toks) λb o e=>bD _ e,zM a _,#[_,cV _ rfl,rfl,rfl],λb hb=>?_,q];have e:b=s1.heap.objs.size:=by simpa using hb
  subst e;exact I1.fpOk (av _) (I1.hok.fresh (av _))
def fm (hl:PE X l tl):PI X tg l (iTup X.K tl):=by
  intro OG s U H R I h;refine thn (hl OG s U H _ I h) λv s1 zq0=>?_;obtain ⟨x,H1,I1,r1,q1⟩:=zq0;obtain ⟨a,e,⟨xs,hq⟩,q⟩:=q1;subst e;cases r1
  obtain ⟨its,rv,p,hz⟩:=I1.tuple hq;refine wpAny_pyIter_tuple (show s1.heap.IsTuple a its.toArray from p) ?_;refine #[s1.heap.objs.size,[s1.heap.objs.size],_,_,H1,rfl,I1.kept (t':=s1.toks) λb o e=>bD _ e,zN a _,#[_,cV _ rfl,rfl,rfl],λb hb=>?_,q];have e:b=s1.heap.objs.size:=by simpa using hb
  subst e;exact I1.fpOk (av _) (I1.hok.fresh (av _))
def zR {R:It->Hp->Prop}{E:Value->Shared->Prop}{lo hi:Int}{t u v:Tok}{tk:Nat}(I:Inv X OG U H s)(h1:-(2^62)<=lo)(h2:lo<2^62)(h3:-(2^62)<=hi)(h4:hi<2^62)
    (q:R (Itr lo (hi-lo).toNat) H):wpAny (model X.prog X.w) X.A (pyIter (.ref s.heap.objs.size)) (PIE X OG U tg R) E { s with heap:=s.heap.push { cls:=.type "range",data:=.fields (List.toArray [.int lo t,.int hi u,.int 1 v]) },toks:=tk }:=by
  refine wpAny_pyIter_range (IsRange.new ..) (small_one h1 h2 h3 h4) ?_;have I1:Inv X OG U H { s with heap:=s.heap.push { cls:=.type "range",data:=.fields (List.toArray [.int lo t,.int hi u,.int 1 v]) },toks:=tk }:=I.kept λb o e=>bD _ e;refine #[(s.heap.push { cls:=.type "range",data:=.fields (List.toArray [.int lo t,.int hi u,.int 1 v]) }).objs.size,[(s.heap.push { cls:=.type "range",data:=.fields (List.toArray [.int lo t,.int hi u,.int 1 v]) }).objs.size],_,_,H,rfl,
    I1.kept (t':=tk) λb o e=>bD _ e,E8 _ lo (hi-lo).toNat,?_,λb hb=>?_,q]
  · have e1:lo+((0:Nat):Int)*1=lo:=by simp
    have e2:(((hi-lo).toNat:Nat):Int)-((0:Nat):Int)=Builtin.Range.rangeSize lo hi 1:=by rw[rangeSize_one];split<;>lia
    show IsRangeIter _ _ (lo+((0:Nat):Int)*1) ((((hi-lo).toNat:Nat):Int)-((0:Nat):Int)) 1;rw[e1,e2];exact cV _ rfl
  · have e:b=(s.heap.push { cls:=.type "range",data:=.fields (List.toArray [.int lo t,.int hi u,.int 1 v]) }).objs.size:=by simpa using hb
    subst e;exact I1.fpOk (av _) (I1.hok.fresh (av _))
inductive zS (R:It->Hp->Prop)(vs:List V)(H1:Hp):Prop
  | c:∀(j:Int),vs=[.int j]->-(2^62)<=j->j<2^62->R (Itr 0 j.toNat) H1->zS R vs H1
def E9 (ta:TA):TI:=λU H R=>ta U H λvs H1=>zS R vs H1
inductive zT (R:It->Hp->Prop)(vs:List V)(H1:Hp):Prop
  | c:∀(i j:Int),vs=[.int i,.int j]->(-(2^62)<=i/\i<2^62/\-(2^62)<=j/\j<2^62)->R (Itr i (j-i).toNat) H1->zT R vs H1
def Fb (ta:TA):TI:=λU H R=>ta U H λvs H1=>zT R vs H1
def fQ {a:Expr}{p pos:Pos}(hg:Gl X "range")(hm:X.mg "range" = none)(ha:PA X [a] ta)(hs:starEach [a] X.env=[(false,eval a X.env)]:=by rfl):PI X tg (.Call (.Name "range" p) [a] [] pos) (E9 ta):=by
  intro OG s U H R I h;refine Call_ (gx I hg hm boot_range (PyProof.Rows.callWith_type1 (thn (ha pos OG s U H _ I h) λus s1 zq0=>?_) hs rfl));obtain ⟨vs,H1,I1,r1,q1⟩:=zq0;obtain ⟨j,e,q1,q2,q⟩:=q1;subst e;cases r1 with
  | cons r rr=>
    cases rr
    obtain ⟨t,rfl⟩:=r;exact call_range_1 (zR I1 (by lia) (by lia) q1 q2 (by simpa using q))
def gY {a b:Expr}{p pos:Pos}(hg:Gl X "range")(hm:X.mg "range" = none)(ha:PA X [a,b] ta)(hs:starEach [a,b] X.env=[(false,eval a X.env),(false,eval b X.env)]:=by rfl)(hs2:starEach [b] X.env=[(false,eval b X.env)]:=by rfl) :
    PI X tg (.Call (.Name "range" p) [a,b] [] pos) (Fb ta):=by
  intro OG s U H R I h;refine Call_ (gx I hg hm boot_range (PyProof.Rows.callWith_type1 (thn (ha pos OG s U H _ I h) λus s1 zq0=>?_) (by rw[hs,hs2]) (by rw[hs2];rfl)));obtain ⟨vs,H1,I1,r1,q1⟩:=zq0;obtain ⟨i,j,e,⟨q1,q2,q3,q4⟩,q⟩:=q1;subst e;cases r1 with
  | cons r rr=>
    cases rr with
    | cons r' rr=>
      cases rr
      obtain ⟨t,rfl⟩:=r;obtain ⟨t',rfl⟩:=r';exact call_range_2 (zR I1 q1 q2 q3 q4 q)
def tFor (wi:TI)(g:TG)(tb:TS):TS:=λD U H=>wi U H λJ H1=>∃ W:Nat->Nat->St->Hp->Prop,(∃ m,W 0 m U H1)/\∀ i m U H,W i m U H->
  (J.stop i H/\D.nx U H)\/(J.go i H/\∃ N:St->Hp->Prop,(∀ U' H',N U' H'->∃ m',m'<m/\W (i+1) m' U' H')/\∀ x H',J.yld i H x H'->g x U H' λU2 H2=>tb { D with nx:=N,ct:=N,bk:=D.nx } U2 H2)
def lR (fp:List Addr)(h:Heap):List (Addr×Obj):=fp.filterMap λb=>(h.get? b).map λo=>(b,o)
def om {fp:List Addr}{h:Heap}{b:Addr}{o:Obj}(hb:b∈fp)(e:h.get? b=some o):(b,o)∈lR fp h:=List.mem_filterMap.mpr #[b,hb,by rw[e];rfl]
def Fc {p:Addr×Obj}(hp:p∈lR fp h):p.1∈fp/\h.get? p.1=some p.2:=by
  obtain ⟨b,hb,e⟩:=List.mem_filterMap.mp hp;cases q:h.get? b with
  | none=>rw[q]at e;cases e
  | some o=>
    rw[q]at e;have e':(b,o)=p:=aV e;subst e';exact #[hb,q]
def Inv.pinned {s:Shared}{fp:List Addr}(I:Inv X OG U H s)(hf:∀ b∈fp,FpOk X OG H b)(ho:∀ b∈fp,∃ o,s.heap.get? b=some o/\∀ v,o.data≠.cell v):Inv X (OG++lR fp s.heap) U H s:=
  I.pins_of λp hp=>(bO.mp hp).elim (λz=>I.pin p (dQ _ z)) λz=>by
    obtain ⟨hb,e⟩:=Fc z;obtain ⟨f0,f1,f2,_⟩:=hf p.1 hb;obtain ⟨o,e',d⟩:=ho p.1 hb;rw[e]at e';cases e'
    exact #[e,f0,f1,f2,d]
def Inv.unpinned {OG pl:List (Addr×Obj)}{s:Shared}(I:Inv X (OG++pl) U H s):Inv X OG U H s:=I.pins_of λp hp=>I.pin p (dQ _ (fG _ hp))
def cO {pos:Pos}(hp:PassesOwn (model X.prog X.w) X.A X.env X.xe)(hc:X.calm=true)(hi:PI X tg iter wi)(hg:PG X tg g)(hb:PSs X body tb)
    (hs:∀ x,foldedSetIterable iter X.env x=pure x:=by intro _;rfl):PS X (.For tg iter body [] pos) (tFor wi g tb):=by
  intro OG s U H D I h;refine wpAny_For (thn (hi OG s U H _ I h) λv s1 h1=>thn h1 λitv s2 h2=>?_) hs;obtain ⟨it,fp,tn,J,H2,e,I2,T,st2,f2,W,⟨m0,w0⟩,turn⟩:=h2;subst e;have stat:∀{H':Hp},(∀ b∈fp,H' b=none)->∀ b∈fp,FpOk X OG H' b:=λhn b hb=>#[hn b hb,(f2 b hb).2];refine codeAny_forLoop_any (λn s'=>∃ i U' H',Inv X OG U' H' s'/\tn i s'.heap/\(∀ b∈fp,H' b=none)/\W i n U' H') ?_ m0 #[0,U,H2,I2,st2,λb hb=>(f2 b hb).1,w0];rintro n s3 ⟨i,U3,H3,I3,st3,fr3,w3⟩;rcases turn i n U3 H3 w3 with ⟨stop,qn⟩|⟨go,N,hN,step⟩
  · refine wpAny_passesOwn hp (thn (T.done X rfl rfl rfl hc i OG s3 U3 H3 X.xe I3 (stat fr3) st3 stop) λr s4 zq0=>?_)
    obtain ⟨hr,I4⟩:=zq0;subst hr;exact wpAny_execs_nil #[U3,H3,I4,qn]
  · refine wpAny_passesOwn hp (thn (T.item X rfl rfl rfl hc i OG s3 U3 H3 X.xe I3 (stat fr3) st3 go) λr s4 zq0=>?_)
    obtain ⟨u,hr,h4⟩:=zq0;subst hr;refine wpAny_passesOwn hp (thn h4 λ_ s5 zq0=>?_);obtain ⟨x,H5,I5,r5,y5,st5,fr5⟩:=zq0;have I5':=I5.pinned (stat fr5) (T.obj _ _ st5);refine wpAny_passesOwn hp (thn (hg _ s5 U3 H5 x u _ I5' r5 (step x H5 y5)) λ_ s6 zq0=>?_);obtain ⟨U6,H6,I6,q6⟩:=zq0;refine wpAny_passesOwn hp (thn (hb _ s6 U6 H6 _ I6 q6) λf s7 q7=>?_);have again:∀{U7:St} {H7:Hp},Inv X (OG++lR fp s5.heap) U7 H7 s7->N U7 H7->∃ m,m<n/\∃ i U' H',Inv X OG U' H' s7/\tn i s7.heap/\(∀ b∈fp,H' b=none)/\W i m U' H':=λ{U7 H7} I7 n7=>by
      obtain ⟨m',hm,w7⟩:=hN U7 H7 n7;refine #[m',hm,i+1,U7,H7,I7.unpinned,T.keep _ _ _ st5 λb hb o e=>(I7.pin (b,o) (dQ _ (dQ _ (om hb e)))).1,λb hb=>?_,w7];obtain ⟨o,e,d⟩:=T.obj _ _ st5 b hb;exact (I7.pin (b,o) (dQ _ (dQ _ (om hb e)))).2.1
    cases f with
    | next=>obtain ⟨U7,H7,I7,n7⟩:=q7;exact again I7 n7
    | cont=>obtain ⟨U7,H7,I7,n7⟩:=q7;exact again I7 n7
    | brk=>obtain ⟨U7,H7,I7,q7⟩:=q7;exact #[U7,H7,I7.unpinned,q7]
    | ret v=>obtain ⟨x7,U7,H7,I7,r7,q7⟩:=q7;exact #[x7,U7,H7,I7.unpinned,r7,q7]
end
def lS {K:Frag}{a:Addr}{g:TG}{tb:TS}{D:Ends}{U:St}{H:Hp}(Pv:Nat->St->Hp->Prop)(h0:Pv 0 U H)(hl:∀ i U H,i<=xs.length->Pv i U H->SqL K H a xs)
    (hs:∀ i x U H,xs[i]?=some x->Pv i U H->g x U H λU2 H2=>tb { D with nx:=Pv (i+1),ct:=Pv (i+1),bk:=D.nx } U2 H2) (hd:∀ U H,Pv xs.length U H->D.nx U H) :
    ∃ W:Nat->Nat->St->Hp->Prop,(∃ m,W 0 m U H)/\∀ i m U H,W i m U H->
      ((Itl K a).stop i H/\D.nx U H)\/((Itl K a).go i H/\∃ N:St->Hp->Prop,(∀ U' H',N U' H'->∃ m',m'<m/\W (i+1) m' U' H')/\∀ x H',(Itl K a).yld i H x H'->g x U H' λU2 H2=>tb { D with nx:=N,ct:=N,bk:=D.nx } U2 H2):=by
  refine #[λi m U H=>m=xs.length-i/\i<=xs.length/\Pv i U H,#[xs.length,by simp,cS _,h0],?_];rintro i m U H ⟨rfl,hi,p⟩;have q:=hl i U H hi p;by_cases hlt:i<xs.length
  · refine .inr #[#[xs,xs[i],q,by simp[hlt]],Pv (i+1),λU' H' p'=>#[xs.length-(i+1),by lia,rfl,hlt,p'],λx H' y=>?_]
    obtain ⟨e,y⟩:=y;subst e;exact hs i x U _ (y xs q) p
  · have e:i=xs.length:=by lia
    subst e;exact .inl #[#[xs,q,av _],hd U H p]
def oq {K:Frag}{a:Addr}{g:TG}{tb:TS}{D:Ends}{U:St}{H:Hp}(Pv:Nat->St->Hp->Prop)(h0:Pv 0 U H)(hl:∀ i U H,i<=xs.length->Pv i U H->SqT K H a xs)
    (hs:∀ i x U H,xs[i]?=some x->Pv i U H->g x U H λU2 H2=>tb { D with nx:=Pv (i+1),ct:=Pv (i+1),bk:=D.nx } U2 H2) (hd:∀ U H,Pv xs.length U H->D.nx U H) :
    ∃ W:Nat->Nat->St->Hp->Prop,(∃ m,W 0 m U H)/\∀ i m U H,W i m U H->
      ((Itt K a).stop i H/\D.nx U H)\/((Itt K a).go i H/\∃ N:St->Hp->Prop,(∀ U' H',N U' H'->∃ m',m'<m/\W (i+1) m' U' H')/\∀ x H',(Itt K a).yld i H x H'->g x U H' λU2 H2=>tb { D with nx:=N,ct:=N,bk:=D.nx } U2 H2):=by
  refine #[λi m U H=>m=xs.length-i/\i<=xs.length/\Pv i U H,#[xs.length,by simp,cS _,h0],?_];rintro i m U H ⟨rfl,hi,p⟩;have q:=hl i U H hi p;by_cases hlt:i<xs.length
  · refine .inr #[#[xs,xs[i],q,by simp[hlt]],Pv (i+1),λU' H' p'=>#[xs.length-(i+1),by lia,rfl,hlt,p'],λx H' y=>?_]
    obtain ⟨e,y⟩:=y;subst e;exact hs i x U _ (y xs q) p
  · have e:i=xs.length:=by lia
    subst e;exact .inl #[#[xs,q,av _],hd U H p]
def fR {lo:Int}{n:Nat}{g:TG}{tb:TS}{D:Ends}{U:St}{H:Hp}(Pv:Nat->St->Hp->Prop)(h0:Pv 0 U H)
    (hs:∀ i U H,i<n->Pv i U H->g (.int (lo+i)) U H λU2 H2=>tb { D with nx:=Pv (i+1),ct:=Pv (i+1),bk:=D.nx } U2 H2) (hd:∀ U H,Pv n U H->D.nx U H) :
    ∃ W:Nat->Nat->St->Hp->Prop,(∃ m,W 0 m U H)/\∀ i m U H,W i m U H->
      ((Itr lo n).stop i H/\D.nx U H)\/((Itr lo n).go i H/\∃ N:St->Hp->Prop,(∀ U' H',N U' H'->∃ m',m'<m/\W (i+1) m' U' H')/\∀ x H',(Itr lo n).yld i H x H'->g x U H' λU2 H2=>tb { D with nx:=N,ct:=N,bk:=D.nx } U2 H2):=by
  refine #[λi m U H=>m=n-i/\i<=n/\Pv i U H,#[n,by simp,cS _,h0],?_];rintro i m U H ⟨rfl,hi,p⟩;by_cases hlt:i<n
  · refine .inr #[hlt,Pv (i+1),λU' H' p'=>#[n-(i+1),by lia,rfl,hlt,p'],λx H' y=>?_]
    obtain ⟨e,y⟩:=y;subst e y;exact hs i U _ hlt p
  · have e:i=n:=by lia
    subst e;exact .inl #[av _,hd U H p]
def Fd {c:TT}{tb:TS}{D:Ends}{U:St}{H:Hp}(Pv:St->Hp->Prop)(μ:St->Hp->Nat)(h0:Pv U H)
    (hs:∀ U H,Pv U H->c U H λb H1=>if b=true then tb { D with nx:=λU' H'=>Pv U' H'/\μ U' H'<μ U H,ct:=λU' H'=>Pv U' H'/\μ U' H'<μ U H,bk:=D.nx } U H1 else D.nx U H1)
    (mono:∀ U H Q Q',(∀ b H1,Q b H1->Q' b H1)->c U H Q->c U H Q'):uj c tb D U H:=by
  refine #[λm U H=>m=μ U H/\Pv U H,#[_,rfl,h0],?_];rintro m U H ⟨rfl,p⟩;refine mono U H _ _ (λb H1 q=>?_) (hs U H p);cases b with
  | true=>exact #[_,λU' H' ⟨p',l⟩=>#[_,l,rfl,p'],q]
  | false=>exact q
abbrev R2:=V->V->Hp->VK->Prop
def OpR (X:Cx)(f:Value->Value->Sem Value)(r:R2):Prop:=
  ∀(OG:List (Addr×Obj)) (s:Shared) (U:St) (H:Hp) (x y:V) (v u:Value) (Q:VK),Inv X OG U H s->RelV x v->RelV y u->r x y H Q->
    wpAny (model X.prog X.w) X.A (f v u) (EP X OG U Q) X.xe s
def UnR (X:Cx)(f:Value->Sem Value)(r:V->Hp->VK->Prop):Prop:=
  ∀(OG:List (Addr×Obj)) (s:Shared) (U:St) (H:Hp) (x:V) (v:Value) (Q:VK),Inv X OG U H s->RelV x v->r x H Q->
    wpAny (model X.prog X.w) X.A (f v) (EP X OG U Q) X.xe s
def cT (X:Cx)(f:Value)(r:List V->Hp->VK->Prop):Prop:=
  ∀(OG:List (Addr×Obj)) (s:Shared) (U:St) (H:Hp) (xs:List V) (us:List Value) (Q:VK),Inv X OG U H s->Vals xs us->r xs H Q->
    wpAny (model X.prog X.w) X.A (call f us) (EP X OG U Q) X.xe s
def tOp (r:R2)(ta tb:TE):TE:=λU H Q=>ta U H λx H1=>tb U H1 λy H2=>r x y H2 Q
def tUn (r:V->Hp->VK->Prop)(ta:TE):TE:=λU H Q=>ta U H λx H1=>r x H1 Q
inductive rI (C:Int->Int->Prop)(g:Int->Int->V)(x:V)(y:V)(H:Hp)(Q:VK):Prop
  | c:∀ i j,x=.int i->y=.int j->C i j->Q (g i j) H->rI C g x y H Q
inductive rI0 (g:Int->Int->V)(x:V)(y:V)(H:Hp)(Q:VK):Prop
  | c:∀ i j,x=.int i->y=.int j->Q (g i j) H->rI0 g x y H Q
inductive rU (g:Int->V)(x:V)(H:Hp)(Q:VK):Prop
  | c:∀ i,x=.int i->Q (g i) H->rU g x H Q
section
variable {X:Cx}{a b c:Expr}{ta tb tc:TE}{pos:Pos}
def binT (ha:PE X a ta)(hb:PE X b tb){R:V->V->Hp->Prop}(I:Inv X OG U H s)
    (h:ta U H λx H1=>tb U H1 λy H2=>R x y H2) {Q:Value->Shared->Prop} {f:Value->Value->Sem Value}
    (hf:∀ v u s2 x y H2,Inv X OG U H2 s2->RelV x v->RelV y u->R x y H2->wpAny (model X.prog X.w) X.A (f v u) Q X.xe s2) :
    wpAny (model X.prog X.w) X.A (eval a X.env) (λv s₁=>wpAny (model X.prog X.w) X.A (eval b X.env) (λu s₂=>wpAny (model X.prog X.w) X.A (f v u) Q X.xe s₂) X.xe s₁) X.xe s:=by
  refine thn (ha OG s U H _ I h) λv s1 zq0=>?_;obtain ⟨x,H1,I1,r1,q1⟩:=zq0;refine thn (hb OG s1 U H1 _ I1 q1) λu s2 zq0=>?_;obtain ⟨y,H2,I2,r2,q2⟩:=zq0;exact hf v u s2 x y H2 I2 r1 r2 q2
def aG {op:Operator}(ho:OpR X (binaryOp op) r)(ha:PE X a ta)(hb:PE X b tb):PE X (.BinOp a op b pos) (tOp r ta tb):=by
  intro OG s U H Q I h;exact wpAny_BinOp (binT ha hb I h λv u s2 x y H2 I2 rx ry q=>ho OG s2 U H2 x y v u Q I2 rx ry q)
def gy {op:UnaryOp}(ho:UnR X (unaryOp op) r)(ha:PE X a ta):PE X (.UnaryOp op a pos) (tUn r ta):=by
  intro OG s U H Q I h;exact UnaryOp_ (thn (ha OG s U H _ I h) λv s1 zq0=>(by obtain ⟨x,H1,I1,r1,q1⟩:=zq0;exact ho OG s1 U H1 x v Q I1 r1 q1))
def opI {f:Value->Value->Sem Value}{C:Int->Int->Prop}{g:Int->Int->Int}
    (rule:∀(i j:Int) (t u:Tok) (s:Shared) (Q:Value->Shared->Prop) (E:Value->Shared->Prop),C i j->Q (.int (g i j) s.toks) { s with toks:=s.toks+1 }->wpAny (model X.prog X.w) X.A (f (.int i t) (.int j u)) Q E s) :
    OpR X f (rI C λi j=>.int (g i j)):=by
  intro OG s U H x y v u Q I rx ry h;obtain ⟨i,j,rfl,rfl,hc,q⟩:=h;obtain ⟨t,rfl⟩:=rx;obtain ⟨t',rfl⟩:=ry;exact rule i j t t' s _ _ hc #[.int (g i j),H,I.tok _,#[_,rfl],q]
def opI0 {f:Value->Value->Sem Value}{g:Int->Int->Int}
    (rule:∀(i j:Int) (t u:Tok) (s:Shared) (Q:Value->Shared->Prop) (E:Value->Shared->Prop),Q (.int (g i j) s.toks) { s with toks:=s.toks+1 }->wpAny (model X.prog X.w) X.A (f (.int i t) (.int j u)) Q E s) :
    OpR X f (rI0 λi j=>.int (g i j)):=by
  intro OG s U H x y v u Q I rx ry h;obtain ⟨i,j,rfl,rfl,q⟩:=h;obtain ⟨t,rfl⟩:=rx;obtain ⟨t',rfl⟩:=ry;exact rule i j t t' s _ _ #[.int (g i j),H,I.tok _,#[_,rfl],q]
def opB0 {f:Value->Value->Sem Value}{g:Int->Int->Bool}
    (rule:∀(i j:Int) (t u:Tok) (s:Shared) (Q:Value->Shared->Prop) (E:Value->Shared->Prop),Q (.bool (g i j)) s->wpAny (model X.prog X.w) X.A (f (.int i t) (.int j u)) Q E s) :
    OpR X f (rI0 λi j=>.bl (g i j)):=by
  intro OG s U H x y v u Q I rx ry h;obtain ⟨i,j,rfl,rfl,q⟩:=h;obtain ⟨t,rfl⟩:=rx;obtain ⟨t',rfl⟩:=ry;exact rule i j t t' s _ _ #[.bl (g i j),H,I,rfl,q]
def CDiv (i j:Int):Prop:=0<j/\j<1073741824
def CPow (i j:Int):Prop:=0<=j/\j<=1000000/\i.natAbs<2^64
def CMul (i j:Int):Prop:=(-(2^64)<i/\i<2^64)\/(-(2^64)<j/\j<2^64)
def CMul.ok (h:CMul i j):IntMulOk i j:=by
  rcases h with ⟨h1,h2⟩|⟨h1,h2⟩
  · exact .of_left (intBits_le_64 h1 h2)
  · exact .of_right (intBits_le_64 h1 h2)
def Fe (k:Nat):(0:Int)<=2^k:=by
  rw[two_pow_cast];exact iS _
def cf:OpR X (binaryOp .Add) (rI0 λi j=>.int (i+j)):=opI0 λ_ _ _ _ _ _ _ q=>add_int q
def cF:OpR X (binaryOp .Sub) (rI0 λi j=>.int (i-j)):=opI0 λ_ _ _ _ _ _ _ q=>sub_int q
def eC:OpR X (binaryOp .Mult) (rI CMul λi j=>.int (i*j)):=opI λ_ _ _ _ _ _ _ hc q=>mul_int q hc.ok
def um:OpR X (binaryOp .FloorDiv) (rI CDiv λi j=>.int (i/j)):=opI λi j _ _ _ _ _ hc q=>by
  have h1:(0:Int)<j:=hc.1;have h2:j<1073741824:=hc.2;exact floordiv_int (by lia) (by rw[Int.fdiv_eq_ediv_of_nonneg i (by lia)];exact q) (.inl (PyProof.noPylong_small (by lia)))
def gZ:OpR X (binaryOp .Mod) (rI (λ_ j=>0<j) λi j=>.int (i%j)):=opI λi j _ _ _ _ _ hc q=>by
  have h1:(0:Int)<j:=hc;exact mod_int' (by lia) (by rw[Int.fmod_eq_emod_of_nonneg i (by lia)];exact q)
def fS:OpR X (binaryOp .Pow) (rI CPow λi j=>.int (i^j.toNat)):=opI λ_ _ _ _ _ _ _ hc q=>pow_int_small hc.1 hc.2.1 hc.2.2 q
def Ff:OpR X (binaryOp .RShift) (rI (λ_ j=>0<=j) λi j=>.int (i/2^j.toNat)):=opI λi j _ _ _ _ _ hc q=>
  rshift_int hc (by rw[Int.fdiv_eq_ediv_of_nonneg i (Fe _)];exact q)
def zU:OpR X (binaryOp .BitAnd) (rI0 λi j=>.int (Builtin.bitAnd i j)):=opI0 λ_ _ _ _ _ _ _ q=>and_int q
def Fg:OpR X (binaryOp .BitXor) (rI0 λi j=>.int (Builtin.bitXor i j)):=opI0 λ_ _ _ _ _ _ _ q=>xor_int q
def unI {f:Value->Sem Value}{g:Int->Int}
    (rule:∀(i:Int) (t:Tok) (s:Shared) (Q:Value->Shared->Prop) (E:Value->Shared->Prop),Q (.int (g i) s.toks) { s with toks:=s.toks+1 }->wpAny (model X.prog X.w) X.A (f (.int i t)) Q E s) :
    UnR X f (rU λi=>.int (g i)):=by
  intro OG s U H x v Q I rx h;obtain ⟨i,rfl,q⟩:=h;obtain ⟨t,rfl⟩:=rx;exact rule i t s _ _ #[.int (g i),H,I.tok _,#[_,rfl],q]
def gA:UnR X (unaryOp .USub) (rU λi=>.int (-i)):=unI λ_ _ _ _ _ q=>neg_int q
end
def scal:V->V->Bool
  | .non,.non=>true|.non,.int _=>true|.int _,.non=>true|.non,.bl _=>true|.bl _,.non=>true|.non,.str _=>true|.str _,.non=>true
  | .int _,.int _=>true|.bl _,.bl _=>true|.str _,.str _=>true|.byt _,.byt _=>true
  | .int _,.str _=>true|.str _,.int _=>true|.bl _,.str _=>true|.str _,.bl _=>true
  | _,_=>false
inductive rEq (x:V)(y:V)(H:Hp)(Q:VK):Prop
  | c:scal x y=true->Q (.bl (decide (x=y))) H->rEq x y H Q
inductive rNe (x:V)(y:V)(H:Hp)(Q:VK):Prop
  | c:scal x y=true->Q (.bl (!decide (x=y))) H->rNe x y H Q
def zV {i j:Int}:decide (V.int i=V.int j)=(i==j):=by
  rw[nI];simp
def zW {i j:Bool}:decide (V.bl i=V.bl j)=(i==j):=by
  rw[nI];simp
def zX {i j:Str}:decide (V.str i=V.str j)=(i==j):=by
  rw[nI];simp
def zY {i j:Array UInt8}:decide (V.byt i=V.byt j)=(i.toList==j.toList):=by
  rw[nI];cases i
  cases j
  simp
section
variable {X:Cx}{a b c:Expr}{ta tb tc:TE}{pos:Pos}
def cv {Q:VK}{k k':Bool}(I:Inv X OG U H s)(q:Q (.bl k) H)(e:k=k'):EP X OG U Q (.bool k') s:=by
  subst e;exact #[.bl k,H,I,rfl,q]
def dr:OpR X (compareOp .Eq) rEq:=by
  intro OG s U H x y v u Q I rx ry h;obtain ⟨hs,q⟩:=h;cases x with
  | non=>
    cases rx
    cases y with
    | non=>cases ry;exact PySem.EqNone.eq_none_none (cv I q (by simp))
    | bl j=>cases ry;exact PySem.EqNone.eq_none_bool (cv I q (by simp))
    | int j=>obtain ⟨t',rfl⟩:=ry;exact PySem.EqNone.eq_none_int (cv I q (by simp))
    | str j=>obtain ⟨t',rfl⟩:=ry;exact PySem.EqNone.eq_none_str (cv I q (by simp))
    | _=>exact absurd (show false=true from hs) cN
  | bl i=>
    cases rx
    cases y with
    | non=>cases ry;exact PySem.EqNone.eq_bool_none (cv I q (by simp))
    | bl j=>cases ry;exact eq_bool (cv I q zW)
    | str j=>obtain ⟨t',rfl⟩:=ry;exact PySem.EqMixed.eq_bool_str (cv I q (by simp))
    | _=>exact absurd (show false=true from hs) cN
  | int i=>
    obtain ⟨t,rfl⟩:=rx;cases y with
    | non=>cases ry;exact PySem.EqNone.eq_int_none (cv I q (by simp))
    | int j=>obtain ⟨t',rfl⟩:=ry;exact eq_int (cv I q zV)
    | str j=>obtain ⟨t',rfl⟩:=ry;exact PySem.EqMixed.eq_int_str (cv I q (by simp))
    | _=>exact absurd (show false=true from hs) cN
  | str i=>
    obtain ⟨t,rfl⟩:=rx;cases y with
    | non=>cases ry;exact PySem.EqNone.eq_str_none (cv I q (by simp))
    | bl j=>cases ry;exact PySem.EqMixed.eq_str_bool (cv I q (by simp))
    | int j=>obtain ⟨t',rfl⟩:=ry;exact PySem.EqMixed.eq_str_int (cv I q (by simp))
    | str j=>obtain ⟨t',rfl⟩:=ry;exact eq_str (cv I q zX)
    | _=>exact absurd (show false=true from hs) cN
  | byt i=>
    obtain ⟨t,rfl⟩:=rx;cases y with
    | byt j=>obtain ⟨t',rfl⟩:=ry;exact W.eq_bytes (cv I q zY)
    | _=>exact absurd (show false=true from hs) cN
  | _=>cases y<;>exact absurd (show false=true from hs) cN
def hE:OpR X (compareOp .NotEq) rNe:=by
  intro OG s U H x y v u Q I rx ry h;obtain ⟨hs,q⟩:=h;cases x with
  | non=>
    cases rx
    cases y with
    | non=>cases ry;exact PySem.EqNone.ne_none_none (cv I q (by simp))
    | bl j=>cases ry;exact PySem.EqNone.ne_none_bool (cv I q (by simp))
    | int j=>obtain ⟨t',rfl⟩:=ry;exact PySem.EqNone.ne_none_int (cv I q (by simp))
    | str j=>obtain ⟨t',rfl⟩:=ry;exact PySem.EqNone.ne_none_str (cv I q (by simp))
    | _=>exact absurd (show false=true from hs) cN
  | bl i=>
    cases rx
    cases y with
    | non=>cases ry;exact PySem.EqNone.ne_bool_none (cv I q (by simp))
    | bl j=>cases ry;exact ne_bool (cv I q (congrArg not zW))
    | str j=>obtain ⟨t',rfl⟩:=ry;exact PySem.EqMixed.ne_bool_str (cv I q (by simp))
    | _=>exact absurd (show false=true from hs) cN
  | int i=>
    obtain ⟨t,rfl⟩:=rx;cases y with
    | non=>cases ry;exact PySem.EqNone.ne_int_none (cv I q (by simp))
    | int j=>obtain ⟨t',rfl⟩:=ry;exact ne_int (cv I q (congrArg not zV))
    | str j=>obtain ⟨t',rfl⟩:=ry;exact PySem.EqMixed.ne_int_str (cv I q (by simp))
    | _=>exact absurd (show false=true from hs) cN
  | str i=>
    obtain ⟨t,rfl⟩:=rx;cases y with
    | non=>cases ry;exact PySem.EqNone.ne_str_none (cv I q (by simp))
    | bl j=>cases ry;exact PySem.EqMixed.ne_str_bool (cv I q (by simp))
    | int j=>obtain ⟨t',rfl⟩:=ry;exact PySem.EqMixed.ne_str_int (cv I q (by simp))
    | str j=>obtain ⟨t',rfl⟩:=ry;exact ne_str (cv I q (congrArg not zX))
    | _=>exact absurd (show false=true from hs) cN
  | byt i=>
    obtain ⟨t,rfl⟩:=rx;cases y with
    | byt j=>obtain ⟨t',rfl⟩:=ry;exact W.ne_bytes (cv I q (congrArg not zY))
    | _=>exact absurd (show false=true from hs) cN
  | _=>cases y<;>exact absurd (show false=true from hs) cN
def eG:OpR X (compareOp .Lt) (rI0 λi j=>.bl (decide (i<j))):=opB0 λ_ _ _ _ _ _ _ q=>lt_int q
def lT:OpR X (compareOp .LtE) (rI0 λi j=>.bl (decide (i<=j))):=opB0 λ_ _ _ _ _ _ _ q=>le_int q
def i9:OpR X (compareOp .Gt) (rI0 λi j=>.bl (decide (j<i))):=opB0 λ_ _ _ _ _ _ _ q=>gt_int q
def lU:OpR X (compareOp .GtE) (rI0 λi j=>.bl (decide (j<=i))):=opB0 λ_ _ _ _ _ _ _ q=>ge_int q
def Fh:OpR X (compareOp .Is) (λx y H Q=>y=.non/\Q (.bl (decide (x=.non))) H):=by
  intro OG s U H x y v u Q I rx ry h;obtain ⟨rfl,q⟩:=h;cases ry
  refine is_none_gen (cv I q ?_);cases x<;>first
    | (cases rx;rfl)
    | (obtain ⟨t,rfl⟩:=rx;rfl)
def Fi:OpR X (compareOp .IsNot) (λx y H Q=>y=.non/\Q (.bl (!decide (x=.non))) H):=by
  intro OG s U H x y v u Q I rx ry h;obtain ⟨rfl,q⟩:=h;cases ry
  refine isnot_none_gen (cv I q ?_);cases x<;>first
    | (cases rx;rfl)
    | (obtain ⟨t,rfl⟩:=rx;rfl)
def aS (b:Expr){op:CmpOp}(h:op≠.In:=by decide)(h2:op≠.NotIn:=by decide):behindInMarks op b=false:=by
  have e1:(op==CmpOp.In)=false:=by cases op<;>first|rfl|exact absurd rfl h
  have e2:(op==CmpOp.NotIn)=false:=by cases op<;>first|rfl|exact absurd rfl h2
  cases b<;>simp[behindInMarks,e1,e2]
def d3 {op:CmpOp}(ho:OpR X (compareOp op) r)(ha:PE X a ta)(hb:PE X b tb)(hm:behindInMarks op b=false):PE X (.Compare a [op] [b] pos) (tOp r ta tb):=by
  intro OG s U H Q I h;exact wpAny_Compare1 (binT ha hb I h λv u s2 x y H2 I2 rx ry q=>ho OG s2 U H2 x y v u Q I2 rx ry q) hm
inductive zZ (Q:Bool->Hp->Prop)(x:V)(H':Hp):Prop
  | c:∀ k,x=.bl k->Q k H'->zZ Q x H'
def z4 (t:TE):TT:=λU H Q=>t U H λx H'=>zZ Q x H'
def aX {op:CmpOp}(ho:OpR X (compareOp op) r)(ha:PE X a ta)(hb:PE X b tb)(hm:behindInMarks op b=false):PT X (.Compare a [op] [b] pos) (z4 (tOp r ta tb)):=by
  intro OG s U H Q I h;refine wpAny_isTrue_Compare1 (thn (ha OG s U H _ I h) λv s1 ⟨x,H1,I1,r1,q1⟩=>thn (hb OG s1 U H1 _ I1 q1) λu s2 ⟨y,H2,I2,r2,q2⟩=>
    thn (ho OG s2 U H2 x y v u _ I2 r1 r2 q2) λc s3 ⟨z,H3,I3,r3,k,e,q3⟩=>?_) hm
  subst e;cases r3
  exact wpAny_truthy_bool #[H3,I3,q3]
inductive z5 (r':R2)(tc:TE)(U:St)(Q:VK)(y:V)(z:V)(H3:Hp):Prop
  | c:∀ k,z=.bl k->(if k=true then tc U H3 λw' H4=>r' y w' H4 Q else Q (.bl false) H3)->z5 r' tc U Q y z H3
def z6 (r r':R2)(ta tb tc:TE):TE:=λU H Q=>ta U H λx H1=>tb U H1 λy H2=>r x y H2 λz H3=>z5 r' tc U Q y z H3
def z7 {op op':CmpOp}(ho:OpR X (compareOp op) r)(ho':OpR X (compareOp op') r')(ha:PE X a ta)(hb:PE X b tb)(hc:PE X c tc)
    (hm:lastMarks [op,op'] [b,c]=false:=by with_unfolding_all rfl):PE X (.Compare a [op,op'] [b,c] pos) (z6 r r' ta tb tc):=by
  intro OG s U H Q I h;refine Compare_chain (thn (ha OG s U H _ I h) λv s1 ⟨x,H1,I1,r1,q1⟩=>chain_link (thn (hb OG s1 U H1 _ I1 q1) λu s2 ⟨y,H2,I2,r2,q2⟩=>
    thn (ho OG s2 U H2 x y v u _ I2 r1 r2 q2) λd s3 ⟨z,H3,I3,r3,k,e,q3⟩=>?_)) hm
  subst e;cases r3
  refine wpAny_truthy_bool ?_;cases k with
  | false=>exact ite_ff #[.bl false,H3,I3,rfl,q3]
  | true=>exact ite_tt (chain_last (thn (hc OG s3 U H3 _ I3 q3) λw' s4 ⟨z',H4,I4,r4,q4⟩=>ho' OG s4 U H4 y z' u w' Q I4 r2 r4 q4))
def Fj {op op':CmpOp}(ho:OpR X (compareOp op) r)(ho':OpR X (compareOp op') r')(ha:PE X a ta)(hb:PE X b tb)(hc:PE X c tc)
    (hm:lastMarks [op,op'] [b,c]=false:=by with_unfolding_all rfl):PT X (.Compare a [op,op'] [b,c] pos) (z4 (z6 r r' ta tb tc)):=by
  intro OG s U H Q I h;refine isTrue_chain (thn (ha OG s U H _ I h) λv s1 ⟨x,H1,I1,r1,q1⟩=>test_link (thn (hb OG s1 U H1 _ I1 q1) λu s2 ⟨y,H2,I2,r2,q2⟩=>
    thn (ho OG s2 U H2 x y v u _ I2 r1 r2 q2) λd s3 ⟨z,H3,I3,r3,k,e,q3⟩=>?_)) hm
  subst e;cases r3
  refine wpAny_truthy_bool ?_;cases k with
  | false=>
    obtain ⟨k',e',q'⟩:=q3;cases e'
    exact ite_ff #[H3,I3,q']
  | true=>
    refine ite_tt (test_last (thn (hc OG s3 U H3 _ I3 q3) λw' s4 zq0=>?_));obtain ⟨z',H4,I4,r4,q4⟩:=zq0;refine thn (ho' OG s4 U H4 y z' u w' _ I4 r2 r4 q4) λd' s5 zq1=>?_;obtain ⟨z2,H5,I5,r5,k2,e2,q5⟩:=zq1;subst e2;cases r5
    exact wpAny_truthy_bool #[H5,I5,q5]
def ou:(sizeLine:Nat)<2^63:=by rw[sizeLine_eq];decide
def d4 {x:V}{us:List Value}(r:Vals [x] us):∃ u,us=[u]/\RelV x u:=by
  cases r with
  | cons r1 r2=>cases r2;exact #[_,rfl,r1]
def hW {x y:V}{us:List Value}(r:Vals [x,y] us):∃ u w',us=[u,w']/\RelV x u/\RelV y w':=by
  cases r with
  | cons r1 r2=>
    cases r2 with
    | cons r3 r4=>cases r4;exact #[_,_,rfl,r1,r3]
def ja:cT X (.builtin "abs") (λxs H Q=>∃ i,xs=[.int i]/\Q (.int (if i<0 then -i else i)) H):=by
  intro OG s U H xs us Q I r h;obtain ⟨i,rfl,q⟩:=h;obtain ⟨u,rfl,t,rfl⟩:=d4 r;exact call_abs_int λu tk=>#[.int (if i<0 then -i else i),H,I.tok _,#[_,rfl],q]
def lV (hc:X.calm=true):cT X (.builtin "max") (λxs H Q=>∃ i j,xs=[.int i,.int j]/\Q (.int (if j>i then j else i)) H):=by
  intro OG s U H xs us Q I r h;obtain ⟨i,j,rfl,q⟩:=h;obtain ⟨u,w',rfl,⟨t,rfl⟩,⟨t',rfl⟩⟩:=hW r;refine max_two_ints (I.ok.hd hc) λh' tk k=>#[_,H,I.kept k,?_,q];by_cases hj:j>i
  · rw[ar hj,ar hj];exact #[_,rfl]
  · rw[az hj,az hj];exact #[_,rfl]
def z8 (hc:X.calm=true):cT X (.builtin "min") (λxs H Q=>∃ i j,xs=[.int i,.int j]/\Q (.int (if j<i then j else i)) H):=by
  intro OG s U H xs us Q I r h;obtain ⟨i,j,rfl,q⟩:=h;obtain ⟨u,w',rfl,⟨t,rfl⟩,⟨t',rfl⟩⟩:=hW r;refine min_two_ints (I.ok.hd hc) λh' tk k=>#[_,H,I.kept k,?_,q];by_cases hj:j<i
  · rw[ar hj,ar hj];exact #[_,rfl]
  · rw[az hj,az hj];exact #[_,rfl]
def uo:cT X (.type "int") (λxs H Q=>(∃ i,xs=[.int i]/\Q (.int i) H)\/∃ k,xs=[.bl k]/\Q (.int (if k then 1 else 0)) H):=by
  intro OG s U H xs us Q I r h;rcases h with ⟨i,rfl,q⟩|⟨k,rfl,q⟩
  · obtain ⟨u,rfl,t,rfl⟩:=d4 r
    exact call_int_int #[.int i,H,I,#[_,rfl],q]
  · obtain ⟨u,rfl,r1⟩:=d4 r
    cases r1
    exact call_int_bool #[.int (if k then 1 else 0),H,I.tok _,#[_,rfl],q]
end
structure ObjM (h:Heap)(x dx C:Addr)(mA:Str->Option Value):Prop where
  obj:h.get? x=some (W.instObj C dx)
  ns:h.Ns1 dx mA
  ne:dx≠x
def Fk {h:Heap}{dx:Addr}{mA:Str->Option Value}(n:h.Ns1 dx mA):∃ od,h.get? dx=some od/\∀ name,W.lookIn name od=some (mA name):=by
  obtain ⟨o,es,ep,ho,hd,hk,_,hm⟩:=n;refine #[o,ho,λname=>?_];have e:=hm name;unfold nsFind findBy at e;rw[<-Array.find?_toList]at e;unfold W.lookIn;rw[hd];dsimp only;split
  · rename_i y q
    rw[q]at e;exact congrArg some e
  · rename_i q
    rw[q]at e;have a:es.toList.any (·.refKey)=false:=by
      rw[List.any_eq_false];intro y hy;obtain ⟨z,t,hkey⟩:=hk y (Array.mem_toList_iff.mp hy);simp[DictEntry.refKey,hkey]
    have a':¬ es.toList.any (·.refKey)=true:=by rw[a];exact cN
    rw[az a'];exact congrArg some e
def ObjM.look (I:ObjM h x dx C mA):∃ od,W.InstAt h x (W.instObj C dx) C (some od)/\∀ name,W.lookIn name od=some (mA name):=
  let ⟨od,ho,hl⟩:=Fk I.ns
  #[od,#[I.obj,rfl,rfl,ho],hl]
def RelO.some_of {v:V}{o:Option Value}(r:RelO (some v) o):∃ u,o=some u/\RelV v u:=by
  cases o with
  | none=>exact (show False from r).elim
  | some u=>exact #[u,rfl,r]
section
variable {P:Program}{w:World}{H H':Hp}{h h':Heap}{a C dx:Addr}{fs fs':List (Str×V)}
def Fl (hok:HOk P w H h)(e:H a=some (.ins C dx fs)):∃ mA,ObjM h a dx C mA/\(∀ f,RelO (fs.lookup f) (mA f))/\PySem.Within mA (fs.map (·.1))/\fs.length<=1000/\H dx=some (.own a):=by
  obtain ⟨d,z,ne,ob,mA,n,r,q⟩:=(show bU P w H h a (.ins C dx fs) from hok a _ e);exact #[mA,#[ob,n,ne],r,q,z,d]
end
structure Cls (K:Frag)(C:Addr):Prop where
  pg:W.plainGet K C Str.empty=true
  hd:W.hasDictIn K C=true
  po:W.plainOver K C=true
  sa:findIn K (.ref C) "__setattr__" = some (some (.builtin "object.__setattr__"))
def Cls.get {K:Frag}(c:Cls K C)(f:Str):W.plainGet K C f=true:=c.pg
section
variable {X:Cx}{OG:List (Addr×Obj)}{U:St}{H:Hp}{s:Shared}{A:Around}{E:Value->Shared->Prop}{Q:Value->Shared->Prop}{c:Value}{b:Bool}
inductive TyOf (K:Frag)(H:Hp):V->Value->Prop where
  | non:TyOf K H .non (.type "NoneType")
  | bl (x:Bool):TyOf K H (.bl x) (.type "bool")
  | int (i:Int):TyOf K H (.int i) (.type "int")
  | str (x:Str):TyOf K H (.str x) (.type "str")
  | flt (x:UInt64):TyOf K H (.flt x) (.type "float")
  | lst {a:Addr} {xs:List V} (e:H a=some (.lst xs)):TyOf K H (.ref a) (.type "list")
  | frz {a:Addr} {o:Obj} {xs:List V} (e:H a=some (.frz o (.lst xs))):TyOf K H (.ref a) (.type "list")
  | tup {a:Addr} {xs:List V} (e:H a=some (.tup xs)):TyOf K H (.ref a) (.type "tuple")
  | dK {a:Addr} {kvs:List (Key×V)} (e:H a=some (.dK kvs)):TyOf K H (.ref a) (.type "dict")
  | dT {a:Addr} {kvs:List (List Key×V)} (e:H a=some (.dT kvs)):TyOf K H (.ref a) (.type "dict")
  | ins {a C dx:Addr} {fs:List (Str×V)} (e:H a=some (.ins C dx fs)) (cl:Cls K C) (ha:findIn K (.ref C) "__class__" = some (some (.builtin "object.__class__")))
      (hn:W.specialIn K (.builtin "object.__class__") "__get__" = some (some (.builtin "getset_descriptor.__get__"))) (htk:W.takesIn K (.builtin "object.__class__")=some true)
      (hm:mroIn K C (.type "object")=some true):TyOf K H (.ref a) (.ref C)
def Fm {x:V}{u t:Value}(I:Inv X OG U H s)(rx:RelV x u)(ty:TyOf X.K H x t)(e:kitOne X.K t c=some b)(h:∀ tk,Q (.bool b) { s with toks:=tk }) :
    wpAny (model X.prog X.w) A (call (.builtin "isinstance") [u,c]) Q E s:=by
  cases ty with
  | non=>cases (show u=Value.none from rx);exact W.kia_one W.kitx_none I.kIn True.intro e nofun h
  | bl y=>cases (show u=Value.bool y from rx);exact W.kia_one W.kitx_bool I.kIn True.intro e nofun h
  | int i=>obtain ⟨t,q⟩:=(show ∃ t,u=Value.int i t from rx);cases q;exact W.kia_one W.kitx_int I.kIn True.intro e nofun h
  | str y=>obtain ⟨t,q⟩:=(show ∃ t,u=Value.str y t from rx);cases q;exact W.kia_one W.kitx_str I.kIn True.intro e nofun h
  | flt y=>obtain ⟨t,q⟩:=(show ∃ t,u=Value.float y t from rx);cases q;exact W.kia_one W.kitx_float I.kIn True.intro e nofun h
  | @lst a xs ea=>
    cases (show u=Value.ref a from rx)
    obtain ⟨_,_,n,_,h1⟩:=(show bU X.prog X.w H s.heap a (.lst xs) from I.hok a _ ea);exact W.kia_one W.kitx_list I.kIn #[_,h1,rfl] e nofun h
  | @frz a ob xs ea=>
    cases (show u=Value.ref a from rx)
    obtain ⟨_,_,_,n,_,h1⟩:=(show bU X.prog X.w H s.heap a (.frz ob (.lst xs)) from I.hok a _ ea);exact W.kia_one W.kitx_list I.kIn #[_,h1,rfl] e nofun h
  | @tup a xs ea=>
    cases (show u=Value.ref a from rx)
    obtain ⟨_,_,_,p⟩:=(show bU X.prog X.w H s.heap a (.tup xs) from I.hok a _ ea);obtain ⟨o,h1,h2,_⟩:=p;exact W.kia_one W.kitx_tuple I.kIn #[o,h1,h2] e nofun h
  | @dK a kvs ea=>
    cases (show u=Value.ref a from rx)
    obtain ⟨_,_,vs,_,p⟩:=(show bU X.prog X.w H s.heap a (.dK kvs) from I.hok a _ ea);obtain ⟨o,es,ep,h1,h2,_⟩:=p;exact W.kia_one W.kitx_dict I.kIn #[o,h1,h2.1] e nofun h
  | @dT a kvs ea=>
    cases (show u=Value.ref a from rx)
    obtain ⟨_,_,xs,_,o,es,ep,h1,h2,_⟩:=(show bU X.prog X.w H s.heap a (.dT kvs) from I.hok a _ ea);exact W.kia_one W.kitx_dict I.kIn #[o,h1,h2.1] e nofun h
  | @ins a C dx fs ea cl ha hn htk hm=>
    cases (show u=Value.ref a from rx)
    obtain ⟨mA,O,_⟩:=Fl I.hok ea;obtain ⟨od,J,_⟩:=O.look;exact W.kia_one (W.kitx_own (cl.get _) cl.hd ha hn htk hm) I.kIn J e nofun h
end
structure Room (k:Nat)(A:Around):Prop where
  hd:A.handled=none
  dp:A.depth+3*k+5<recursionLimit
  un:A.units+16*k+200<cLine
  gd:A.guards=some []
def Room.mono {j k:Nat}{A:Around}(r:Room k A)(h:j<=k):Room j A:=#[r.hd,by have:=r.dp;lia,by have:=r.un;lia,r.gd]
def Room.deeper {k:Nat}{A:Around}(r:Room (k+1) A)(env:Env):Room k (A.deeper env):=
  #[r.hd,by have:=r.dp;show A.depth+1+3*k+5<_;lia,by have:=r.un;show A.units+3+16*k+200<_;lia,r.gd]
def Room.depth {k:Nat}{A:Around}(r:Room k A):A.depth<recursionLimit:=by have:=r.dp;lia
def Room.units {k:Nat}{A:Around}(r:Room k A):A.units+64<cLine:=by have:=r.un;lia
def tNil:TA:=λ_ H Q=>Q [] H
def ox (ta:TE)(tr:TA):TA:=λU H Q=>ta U H λx H1=>tr U H1 λxs H2=>Q (x::xs) H2
section
variable {X:Cx}{e:Expr}{es:List Expr}{te:TE}{t:TA}{pos:Pos}
def ae:PA X [] tNil:=λ_ _ _ _ H Q I h=>Calls.spliced_nil #[[],H,I,.nil,h]
def aa (ha:PE X e te)(hr:PA X es t)(hs:starEach (e::es) X.env=(false,eval e X.env)::starEach es X.env:=by rfl):PA X (e::es) (ox te t):=by
  intro pos OG s U H Q I h;rw[hs];show wpAny _ _ (spliced ((false,eval e X.env)::backTo pos (starEach es X.env))) _ _ s;refine Calls.spliced_cons (thn (ha OG s U H _ I h) λu s1 zq0=>?_);obtain ⟨x,H1,I1,r1,q1⟩:=zq0;exact thn (hr pos OG s1 U H1 _ I1 q1) λus s2 zq0=>(by obtain ⟨xs,H2,I2,r2,q2⟩:=zq0;exact #[x::xs,H2,I2,.cons r1 r2,q2])
inductive z9 (Q:VK)(xs:List V)(H1:Hp):Prop
  | c:xs.length<=sizeLine->(∀ p,H1 p=none->Q (.ref p) (upd H1 p (.tup xs)))->z9 Q xs H1
def tTup (t:TA):TE:=λU H Q=>t U H λxs H1=>z9 Q xs H1
inductive Aa (Q:VK)(xs:List V)(H1:Hp):Prop
  | c:xs.length<=sizeLine->(∀ p,H1 p=none->Q (.ref p) (upd H1 p (.lst xs)))->Aa Q xs H1
def tLst (t:TA):TE:=λU H Q=>t U H λxs H1=>Aa Q xs H1
def cX {x1}(h:PA X es t):PE X (.Tuple es x1 pos) (tTup t):=by
  intro OG s U H Q I hq;refine wpAny_Tuple_spliced (thn (h pos OG s U H _ I hq) λus s1 zq0=>?_);obtain ⟨xs,H1,I1,r,z,q⟩:=zq0;refine #[by rw[<-r.length];exact z,?_];have hf:H1 s1.heap.objs.size=none:=I1.hok.fresh (av _);refine #[.ref s1.heap.objs.size,upd H1 s1.heap.objs.size (.tup xs),I1.laid (t':=s1.toks) (λb u e=>bD _ e) (av _) ?_,rfl,q _ hf];exact #[z,us,r,#[_,cV _ rfl,rfl,_,rfl]]
def cy (h:PA X es t):PE X (.List es pos) (tLst t):=by
  intro OG s U H Q I hq;refine wpAny_List_spliced (thn (h pos OG s U H _ I hq) λus s1 zq0=>?_);obtain ⟨xs,H1,I1,r,z,q⟩:=zq0;refine #[by rw[<-r.length];exact z,?_];have hf:H1 s1.heap.objs.size=none:=I1.hok.fresh (av _);refine #[.ref s1.heap.objs.size,upd H1 s1.heap.objs.size (.lst xs),I1.laid (t':=s1.toks) (λb u e=>bD _ e) (av _) ?_,rfl,q _ hf];exact #[z,us,0,r,cV _ rfl]
end
abbrev Sp:=List V->Hp->VK->XK->Prop
abbrev CXT:=List Env->Hp->Shared->XK->Value->Shared->Prop
structure Env0 (P:Program)(w:World)(K:Frag)(mg:Str->Option Value)(base:Heap)(A:Around)(outer:List Env)(s:Shared)(H:Hp):Prop where
  frames:A.frames=some outer
  mod:Mod K mg base
  bs:∀ b o,base.get? b=some o->s.heap.get? b=some o/\H b=none
  bsz:base.objs.size<=s.heap.objs.size
  funs:s.heap.FunFrames base outer
  frf:∀ b∈frs outer,H b=none
  hok:HOk P w H s.heap
  bare:AllBare s.gens
def CE (outer:List Env)(P:Program)(w:World)(H:Hp)(s:Shared)(Q:VK)(u:Value)(s':Shared):Prop:=
  ∃ v H',s'.os=s.os/\AllBare s'.gens/\Un (frs outer) [] H H' s.heap s'.heap/\HOk P w H' s'.heap/\RelV v u/\Q v H'
def CR (CX:CXT)(outer:List Env)(P:Program)(w:World)(H:Hp)(s:Shared)(Q:VK)(E:XK)(r:Result)(s':Shared):Prop:=
  match r with
  | .ok (.ret u)=>CE outer P w H s Q u s'
  | .ok _=>False
  | .error e=>CX outer H s E e s'
structure FnOk (P:Program)(w:World)(K:Frag)(mg:Str->Option Value)(base:Heap)(CX:CXT)(k:Nat)(f:Addr)(fd:FuncData)(ps:List Str)(sp:Sp):Prop where
  len:∀ vs H Q E,sp vs H Q E->vs.length=ps.length
  run:∀(A:Around) (outer:List Env) (s:Shared) (H:Hp) (args:Args) (us:List Value) (vs:List V) (Q:VK) (E:XK),Room k A->Env0 P w K mg base A outer s H->BindsTo s fd args (ps.zip us)->Vals vs us->sp vs H Q E->
    codeAny (model P w) A (.call (.ref f) args) (CR CX outer P w H s Q E) s
def FnOk.mono {w:World}{K:Frag}{mg:Str->Option Value}{base:Heap}{k:Nat}{f:Addr}{fd:FuncData}(F:FnOk P w K mg base CX j f fd ps sp)(h:j<=k) :
    FnOk P w K mg base CX k f fd ps sp:=#[F.len,λA outer s H args us vs Q E hr=>F.run A outer s H args us vs Q E (hr.mono h)]
section
variable {X:Cx}{OG:List (Addr×Obj)}{U:St}{H:Hp}{s s':Shared}
def Inv.env0 (I:Inv X OG U H s):Env0 X.prog X.w X.K X.mg X.base X.A X.stack s H:=
  #[I.ok.frames,I.ok.mod,I.bs,cD I.ok.bsz I.sz,I.stack,I.stkFree,I.hok,I.bare]
def Inv.after (I:Inv X OG U H s)(h:CE X.stack X.prog X.w H s Q u s'):EP X OG U Q u s':=by
  obtain ⟨v,H',os,bare,un,hok,r,q⟩:=h;obtain ⟨hh,g,d,t,os'⟩:=s';obtain rfl:os'=s.os:=os;exact #[v,H',I.call (h':=hh) (g':=g) (d':=d) (t':=t) (ch:=[]) un hok bare (λb z=>absurd z (by simp)),r,q]
end
def Ab (sp:Sp)(dvs:List V)(E:XK)(t:TA):TE:=λU H Q=>t U H λvs H1=>sp (vs++dvs) H1 Q E
def gD (K:Frag)(fd:FuncData)(ps:List Str)(ds:List Value):Prop:=
  ∀(s:Shared) (us:List Value),K.In s.heap->(us++ds).length=ps.length->BindsTo s fd #[us,[]] (ps.zip (us++ds))
def gD.all {K:Frag}{fd:FuncData}{ps:List Str}(h:∀ us:List Value,us.length=ps.length->bindArgs fd #[us,[]]=pure (ps.zip us)):gD K fd ps []:=λs us _ hl=>by
  rw[di]at hl ⊢;exact .of_eq (h us hl)
def uq (CX:CXT)(X:Cx)(E:XK):Prop:=∀(OG:List (Addr×Obj)) (U:St) (H:Hp) (s:Shared) (e:Value) (s':Shared),Inv X OG U H s->CX X.stack H s E e s'->X.xe e s'
section
variable {X:Cx}{CX:CXT}{k:Nat}{f C:Addr}{fd:FuncData}{ps:List Str}{sp:Sp}{dvs:List V}{ds:List Value}{E:XK}{x m:Str}{p pos apos:Pos}{e o:Expr}{es:List Expr}{ta:TE}{t:TA}
def Ac {Q:VK}{us:List Value}{vs:List V}(F:FnOk X.prog X.w X.K X.mg X.base CX k f fd ps sp)(hr:Room k X.A)(hb:gD X.K fd ps ds)(hd:Vals dvs ds)(hx:uq CX X E)
    (I:Inv X OG U H s) (r:Vals vs us) (h:sp (vs++dvs) H Q E):wpAny (model X.prog X.w) X.A (call (.ref f) us) (EP X OG U Q) X.xe s:=by
  have r2:Vals (vs++dvs) (us++ds):=r.append hd;have hl:(us++ds).length=ps.length:=by rw[<-r2.length];exact F.len _ _ _ _ h
  refine wpAny_call (codeAny_mono (F.run X.A X.stack s H #[us,[]] (us++ds) (vs++dvs) Q E hr I.env0 (hb s us I.kIn hl) r2 h) λr s' hq=>?_);cases r with
  | error e=>exact hx OG U H s e s' I hq
  | ok fl=>
    cases fl with
    | ret u=>exact I.after hq
    | next=>exact False.elim hq
    | brk=>exact False.elim hq
    | cont=>exact False.elim hq
def Fn (F:FnOk X.prog X.w X.K X.mg X.base CX k f fd ps sp)(hr:Room k X.A)(hg:Gl X x)(hm:X.mg x=some (.ref f))(hk:keepIn X.K (.ref f)=true)(hb:gD X.K fd ps ds)(hd:Vals dvs ds)(hx:uq CX X E)
    (ha:PA X (e::es) t) (hdb:(x==("__debug__" : Str))=false:=by decide) (he:starEach (e::es) X.env=(false,eval e X.env)::starEach es X.env:=by rfl) (hpl:(backTo pos (starEach es X.env)).any (·.1)=false:=by rfl) :
    PE X (.Call (.Name x p) (e::es) [] pos) (Ab sp dvs E t):=by
  intro OG s U H Q I h;refine wpAny_Call_Name_kw (lP I hg hm ?_ hdb);refine W.callWith_K (h₀:=X.base) I.ok.mod.kin hk (thn (ha pos OG s U H _ I h) λus s1 zq0=>?_) he hpl;obtain ⟨vs,H1,I1,r,q⟩:=zq0;refine #[I1.kIn,?_];exact Ac F hr hb hd hx I1 r q
end
structure aO (N P:List Str)(sc:Scope):Prop where
  kind:sc.kind=.function
  co:sc.isCoroutine=false
  gen:sc.isGenerator=false
  nd:N.Nodup
  pre:N.take P.length=P
  par:∀ x∈P,sc.names.lookup x=some .local\/sc.names.lookup x=some .cell
  nofree:∀ y∈sc.names,y.2≠.free
def Ad {kindOf:Str->Option NameKind}{x:Str}:∀{binds:List (Str×Value)} {m:Str->Option Value},(∀ v,(x,v)∉binds)->bindL kindOf binds m x=m x
  | [],_,_=>rfl
  | (n,v)::r,m,h=>by
    unfold bindL;rw[Ad λw hw=>h w (cp _ hw)];split
    · have:x≠n:=by rintro rfl;exact h v bL
      simp[this]
    · rfl
def Ae {kindOf:Str->Option NameKind}{x:Str}:∀{binds:List (Str×Value)} {m:Str->Option Value},(∀ v,(x,v)∉binds)->bindC kindOf binds m x=m x
  | [],_,_=>rfl
  | (n,v)::r,m,h=>by
    unfold bindC;rw[Ae λw hw=>h w (cp _ hw)];split
    · rfl
    · have:x≠n:=by rintro rfl;exact h v bL
      simp[this]
def Af {kindOf:Str->Option NameKind}{x:Str}{v:Value}:∀{P:List Str} {vs:List Value} {i:Nat} {m:Str->Option Value},P.Nodup->P[i]?=some x->vs[i]?=some v->kindOf x=some .local->
    bindL kindOf (P.zip vs) m x=some v
  | [],_,_,_,_,h,_,_=>by simp at h
  | _::_,[],_,_,_,_,h,_=>by simp at h
  | p::P,w::vs,0,m,nd,h1,h2,hk=>by
    simp at h1 h2;subst h1;subst h2;show bindL kindOf ((p,w)::P.zip vs) m p=_;unfold bindL;rw[Ad λv hv=>(c6.mp nd).1 (lD hv).1,ar hk];simp
  | p::P,w::vs,i+1,m,nd,h1,h2,hk=>by
    show bindL kindOf ((p,w)::P.zip vs) m x=_;unfold bindL;exact Af (i:=i) (c6.mp nd).2 (by simpa using h1) (by simpa using h2) hk
def Ag {kindOf:Str->Option NameKind}{x:Str}{v:Value}:∀{P:List Str} {vs:List Value} {i:Nat} {m:Str->Option Value},P.Nodup->P[i]?=some x->vs[i]?=some v->kindOf x≠some .local->
    bindC kindOf (P.zip vs) m x=some v
  | [],_,_,_,_,h,_,_=>by simp at h
  | _::_,[],_,_,_,_,h,_=>by simp at h
  | p::P,w::vs,0,m,nd,h1,h2,hk=>by
    simp at h1 h2;subst h1;subst h2;show bindC kindOf ((p,w)::P.zip vs) m p=_;unfold bindC;rw[Ae λv hv=>(c6.mp nd).1 (lD hv).1,az hk];simp
  | p::P,w::vs,i+1,m,nd,h1,h2,hk=>by
    show bindC kindOf ((p,w)::P.zip vs) m x=_;unfold bindC;exact Ag (i:=i) (c6.mp nd).2 (by simpa using h1) (by simpa using h2) hk
def dv (N:List Str)(vs:List V):St:=vs.map some++List.replicate (N.length-vs.length) none
def cxOf (CX:CXT)(P:Program)(w:World)(K:Frag)(mg:Str->Option Value)(base:Heap)(N:List Str)(qual:Str)(scope:Scope)(f:Addr)(cd:Value)(A:Around)(outer:List Env)(s:Shared)(H:Hp)(E:XK):Cx where
  prog:=P
  w:=w
  K:=K
  mg:=mg
  base:=base
  A:=A.deeper (envOfC qual scope s.heap.objs.size f cd)
  N:=N
  s₀:=s
  H₀:=H
  env:=envOfC qual scope s.heap.objs.size f cd
  outer:=outer
  stack:=envOfC qual scope s.heap.objs.size f cd::outer
  ex:=[]
  calm:=true
  fn:=λ_=>true
  pn:=[]
  xe:=λe s'=>wpAny (model P w) (A.deeper (envOfC qual scope s.heap.objs.size f cd)) (leaving (envOfC qual scope s.heap.objs.size f cd) e) (λ_ s''=>CX outer H s E e s'') (λe' s''=>CX outer H s E e' s'') s'
def Ah {sc:Scope}{n:Nat}{x:Str}(h:sc.names.lookup x=some .cell):∃ c,(cellsFrom n sc.names []).lookup x=some c:=by
  have q:=W.cellsFrom_some sc.names n [] (.inl h);exact Option.isSome_iff_exists.mp q
def Fo {K:Frag}{qual:Str}{f:Addr}{cd:Value}{A:Around}{s1:Shared}{us:List Value}{vs:List V}
    (S:aO N ps scope) (hd:A.handled=none) (e0:Env0 P w K mg base A outer s H) (hl:vs.length=ps.length) (r:Vals vs us)
    (x:InCallC s s.heap.objs.size (bindL (envOfC qual scope s.heap.objs.size f cd).kindOf (ps.zip us) λ_=>none) (cellsFrom (s.heap.objs.size+1) scope.names []) (bindC (envOfC qual scope s.heap.objs.size f cd).kindOf (ps.zip us) λ_=>none) s1) :
    Inv (cxOf CX P w K mg base N qual scope f cd A outer s H E) [] (dv N vs) H s1:=by
  have hpl:ps.length<=N.length:=by have:=congrArg List.length S.pre;rw[bt]at this;lia
  obtain ⟨h1,tk,rfl,hk⟩:=x.done;have noA:∀ b:Addr,b∉(cxOf CX P w K mg base N qual scope f cd A outer s H E).ex:=λb z=>absurd (show b∈([]:List Addr) from z) (by simp);refine #[#[e0.mod,S.kind,rfl,rfl,av _,λy z c h1 h2=>?_,λy hy=>?_,λy c _ h=>?_,λ_=>hd,Around.frames_deeper e0.frames,.inr #[rfl,rfl],λb z=>absurd z (noA b),e0.bs,e0.bsz,λb _ _=>noA b,λb z=>absurd z (noA b),e0.funs,e0.frf],
    rfl,e0.bare,Un.kept hk,#[_,x.toInCall.ns,λi y v h1 h2 h3=>?_],λy c h=>#[_,x.cell y c h],e0.hok.fresh (av _),λy c h=>?_,λp hp=>absurd (show p∈([]:List (Addr×Obj)) from hp) (by simp),e0.hok.kept hk,?_]
  · exact name_of_addr x.apart (PySem.mem_of_lookup h1) (PySem.mem_of_lookup h2)
  · have hy:scope.names.lookup y=some .cell\/scope.names.lookup y=some .free:=hy
    rcases hy with hy|hy
    · exact Ah hy
    · exact absurd rfl (S.nofree _ (PySem.mem_of_lookup hy))
  · exact eP (x.above y c (PySem.mem_of_lookup h))
  · have hi:i<vs.length:=by
      unfold dv at h2;by_cases hi:i<vs.length
      · exact hi
      · rw[gi (by simpa using hi)]at h2
        rw[tV]at h2;split at h2<;>cases h2
    have ha:vs[i]?=some v:=by
      unfold dv at h2;rw[iT (by simpa using hi),aQ]at h2;cases e:vs[i]? with
      | none=>rw[e]at h2;cases h2
      | some a=>rw[e]at h2;cases h2;rfl
    obtain ⟨u,hu,rv⟩:=r.get ha;have hp:ps[i]?=some y:=by
      rw[<-S.pre,List.getElem?_take_of_lt (by lia)];exact h1
    have ndP:ps.Nodup:=by rw[<-S.pre];exact S.nd.sublist (List.take_sublist _ _)
    refine #[u,rv,?_];rcases S.par y (cW hp) with k|k
    · exact .inl #[k,Af ndP hp hu k]
    · obtain ⟨c,e⟩:=Ah (n:=s.heap.objs.size+1) k
      refine .inr #[.inl k,c,e,?_];have q:=x.cell y c e;rw[Ag ndP hp hu (by show scope.names.lookup y≠_;rw[k];decide)]at q;exact q
  · exact e0.hok.fresh (eP (x.above y c (PySem.mem_of_lookup h)))
  · unfold dv
    show _=N.length;rw[bB,af,eF];lia
def Ai {K:Frag}{k:Nat}{f:Addr}{name qual:Str}{params:Arguments}{body:List Stmt}{scope:Scope}{dV kV doc pm cdv ct oc:Value}{an od:Option Addr}
    {osl:Array (Option Value)}  {sp:Sp} (lk:K.lookup f=some #[oc,od,.func (fnOf name qual params body scope dV kV doc pm an cdv ct),osl]) (hcd:codeIn K cdv qual=true) (S:aO N ps scope)
    (len:∀ vs H Q E,sp vs H Q E->vs.length=ps.length)
    (hbody:∀(A:Around) (outer:List Env) (s:Shared) (H:Hp) (vs:List V) (Q:VK) (E:XK),Room k (A.deeper (envOfC qual scope s.heap.objs.size f cdv))->sp vs H Q E->
      ∃ t,PSs (cxOf CX P w K mg base N qual scope f cdv A outer s H E) body t/\t { nx:=λ_ H'=>Q .non H',rt:=Q } (dv N vs) H) :
    FnOk P w K mg base CX (k+1) f (fnOf name qual params body scope dV kV doc pm an cdv ct) ps sp:=by
  refine #[len,λA outer s H args us vs Q E hr e0 hb r hsp=>?_];have hl:=len _ _ _ _ hsp;have KX:K.In s.heap:=e0.mod.kin.keeps λb o e=>(e0.bs b o e).1;have lim:s.heap.NoLimit:=e0.mod.nolimit.keeps λb o e=>(e0.bs b o e).1;have hkind:∀ y∈ps.zip us,scope.names.lookup y.1=some .local\/(scope.names.lookup y.1=some .cell/\((cellsFrom (s.heap.objs.size+1) scope.names []).lookup y.1).isSome=true):=λ⟨n,v⟩ hy=>by
    rcases S.par n (lD hy).1 with q|q
    · exact .inl q
    · exact .inr #[q,W.cellsFrom_some _ _ _ (.inl q)]
  refine codeAny_call_function hr.depth (KX _ _ lk) rfl S.co S.gen rfl (W.codeRec_of KX hcd) (hb _ _ _ _ ?_);refine wpAny_newFunctionEnv_cells S.kind hkind λenv he s1 x=>?_;subst he;refine #[lim.keeps x.toInCall.keep,codeAny_func ?_];obtain ⟨t,ht,hq⟩:=hbody A outer s H vs Q E (hr.deeper _) hsp;have I:Inv (cxOf CX P w K mg base N qual scope f cdv A outer s H E) [] (dv N vs) H s1:=Fo S hr.hd e0 hl r x;refine dX (ht [] s1 (dv N vs) H _ I hq) (λfl s' hs=>?_) λe s' hs=>hs;have fin:∀{U':St} {H':Hp} {v:V} {u:Value},Inv (cxOf CX P w K mg base N qual scope f cdv A outer s H E) [] U' H' s'->RelV v u->Q v H'->CE outer P w H s Q u s':=
    λ{U' H' v u} J rv q=>#[v,H',J.os,J.bare,J.base,J.hok,rv,q]
  cases fl with
  | ret u=>
    obtain ⟨v,U',H',J,rv,q⟩:=hs;exact fin J rv q
  | next=>
    obtain ⟨U',H',J,q⟩:=hs;exact fin (v:=V.non) (u:=Value.none) J rfl q
  | brk=>
    obtain ⟨_,_,_,q⟩:=hs;exact False.elim q
  | cont=>
    obtain ⟨_,_,_,q⟩:=hs;exact False.elim q
section
variable {X:Cx}{x:Str}{p pos:Pos}{e:Expr}{es:List Expr}{t:TA}{id T:String}{r:List V->Hp->VK->Prop}
def tCB (r:List V->Hp->VK->Prop)(t:TA):TE:=λU H Q=>t U H λvs H1=>r vs H1 Q
def aT (hc:cT X (.builtin id) r)(hg:Gl X x)(hm:X.mg x=none)(hv:bootBuiltins x=some (.builtin id))(ha:PA X (e::es) t)(hn:x ≠ "__name__":=by decide)(hdb:(x==("__debug__" : Str))=false:=by decide)
    (he:starEach (e::es) X.env=(false,eval e X.env)::starEach es X.env:=by rfl) (hpl:(backTo pos (starEach es X.env)).any (·.1)=false:=by rfl):PE X (.Call (.Name x p) (e::es) [] pos) (tCB r t):=by
  intro OG s U H Q I h;refine wpAny_Call_Name_kw (gx I hg hm hv ?_ hn hdb);exact PyProof.Rows.callWith_builtin1 (thn (ha pos OG s U H _ I h) λus s1 zq0=>(by obtain ⟨vs,H1,I1,r1,q1⟩:=zq0;exact hc OG s1 U H1 vs us Q I1 r1 q1)) he hpl
def dC (hc:cT X (.type T) r)(hg:Gl X x)(hm:X.mg x=none)(hv:bootBuiltins x=some (.type T))(ha:PA X (e::es) t)(hn:x ≠ "__name__":=by decide)(hdb:(x==("__debug__" : Str))=false:=by decide)
    (he:starEach (e::es) X.env=(false,eval e X.env)::starEach es X.env:=by rfl) (hpl:(backTo pos (starEach es X.env)).any (·.1)=false:=by rfl):PE X (.Call (.Name x p) (e::es) [] pos) (tCB r t):=by
  intro OG s U H Q I h;refine wpAny_Call_Name_kw (gx I hg hm hv ?_ hn hdb);exact PyProof.Rows.callWith_type1 (thn (ha pos OG s U H _ I h) λus s1 zq0=>(by obtain ⟨vs,H1,I1,r1,q1⟩:=zq0;exact hc OG s1 U H1 vs us Q I1 r1 q1)) he hpl
end
end L2
namespace HT
open PySem PyProof.Rows
def lexLt:List Int->List Int->Bool
  | [],[]=>false
  | [],_::_=>true
  | _::_,[]=>false
  | x::xs,y::ys=>if x=y then lexLt xs ys else decide (x<y)
def lexLt_cons (x y:Int)(xs ys:List Int):lexLt (x::xs) (y::ys)=if x=y then lexLt xs ys else decide (x<y):=rfl
def lexLt_nil_nil:lexLt [] []=false:=rfl
section
variable {prog:Program}{w:World}{A:Around}{E:Value->Shared->Prop}{s:Shared}
def cat_tup {t b:Addr}{vs ws:List Value}{Q:Value->Shared->Prop}(ht:IsTup s.heap t vs.toArray)(hb:IsTup s.heap b ws.toArray)(hv:vs≠[])
    (h1:ws=[]->Q (.ref t) s) (h2:ws≠[]->Q (.ref s.heap.objs.size) { s with heap:=s.heap.push { cls:=.type "tuple",data:=.seq (vs++ws).toArray } })
    (hsz:vs.length+ws.length<=sizeLine):wpAny (model prog w) A (binaryOp .Add (.ref t) (.ref b)) Q E s:=by
  obtain ⟨⟨cls,dd,data,sl⟩,ho,hc,n,hd⟩:=id ht;obtain ⟨⟨cls2,dd2,data2,sl2⟩,ho2,hc2,n2,hd2⟩:=id hb;simp only at hc hd hc2 hd2;subst hc hd hc2 hd2;have e:vs.toArray++ws.toArray=(vs++ws).toArray:=by simp
  by_cases hw:ws=[]
  · exact concat_meets #[_,ho,rfl] #[_,ho2,rfl] noFill_tuple_add seq_tuple_add PySem.F.slot_tuple_add PySem.F.entry_tuple_add (PySem.F.args_tuple_add_2 _ _)
      (tuple_addW1 t b vs.toArray ws.toArray n n2 dd dd2 sl sl2 (by simpa using hv) (by simp[hw])) #[ho,ho2,h1 hw]
  · refine concat_meets #[_,ho,rfl] #[_,ho2,rfl] noFill_tuple_add seq_tuple_add PySem.F.slot_tuple_add PySem.F.entry_tuple_add (PySem.F.args_tuple_add_2 _ _)
      (tuple_addW2 t b vs.toArray ws.toArray n n2 dd dd2 sl sl2 (by simpa using hv) (by simpa using hw) (by rw[bP,bP];exact hsz)) #[ho,ho2,?_]
    rw[e];exact h2 hw
def sIx (n d:Nat):Option Int->Nat
  | none=>d
  | some v=>if v<0 then (v+(n:Int)).toNat else min v.toNat n
def fT (n d k:Nat):sIx n d (some (k:Int))=min k n:=by
  show (if (k:Int)<0 then ((k:Int)+(n:Int)).toNat else min (k:Int).toNat n)=min k n
  rw[az (by lia),eA]
def Fp (n d:Nat)(hd:d<=n)(o:Option Int):sIx n d o<=n:=by
  cases o with
  | none=>exact hd
  | some v=>
    show (if v<0 then (v+(n:Int)).toNat else min v.toNat n)<=n
    by_cases hv:v<0
    · rw[ar hv];lia
    · rw[az hv];exact Nat.min_le_right _ _
def Aj (v:Int)(n d:Nat):(if v<0 then max (v+(n:Int)) 0 else min v (n:Int))=((sIx n d (some v):Nat):Int):=by
  show (if v<0 then max (v+(n:Int)) 0 else min v (n:Int))=(((if v<0 then (v+(n:Int)).toNat else min v.toNat n):Nat):Int)
  by_cases hv:v<0
  · simp only[ar hv];lia
  · simp only[az hv];lia
def Fq (lo hi:Option Int)(n:Nat):Builtin.Slice.sliceAdjust lo hi 1 (n:Int)=(((sIx n 0 lo:Nat):Int),((sIx n n hi:Nat):Int)):=by
  have h1:¬ ((1:Int)<0):=by lia
  unfold Builtin.Slice.sliceAdjust;simp only[h1,if_false];refine Prod.ext ?_ ?_
  · cases lo with
    | none=>rfl
    | some v=>exact Aj v n 0
  · cases hi with
    | none=>rfl
    | some v=>exact Aj v n n
def Fs (i j:Nat):Builtin.Slice.slicePlaces (i:Int) (j:Int) 1=j-i:=by
  unfold Builtin.Slice.slicePlaces;have h1:(1:Int)>0:=by lia
  simp only[h1,if_true,Int.ediv_one];split<;>lia
def Ak {v:Value}{o:Option Int}{Q:Option Int->Shared->Prop}(p:IsPart v o)(h:Q o s):wpAny (model prog w) A (Builtin.Slice.slicePartIndex v) Q E s:=by
  cases p with
  | none=>exact slicePart_none h
  | int i t=>exact slicePart_int h
def Al {sl:Addr}{vl vu:Value}{lo hi:Option Int}{Q:Int×Int×Nat->Shared->Prop}(hs:s.heap.IsSliceOf sl vl vu .none)(pl:IsPart vl lo)(pu:IsPart vu hi)
    (h:Q (((sIx n 0 lo:Nat):Int),1,sIx n n hi-sIx n 0 lo) s):wpAny (model prog w) A (Builtin.Slice.sliceApplied (.ref sl) (pure (n:Int))) Q E s:=by
  obtain ⟨os,hos,hcs,hds⟩:=id hs;unfold Builtin.Slice.sliceApplied Builtin.Slice.sliceFields;refine aA (aA (wpAny_field hos hds (x:=vl) rfl (aA (wpAny_field hos hds (x:=vu) rfl (aA (wpAny_field hos hds (x:=.none) rfl (bg ?_)))))));refine aA (slicePart_none ?_);show wpAny _ _ (if ((1:Int)==0)=true then _ else _) _ _ s
  rw[az (by decide)];refine aA (Ak pl (aA (Ak pu (aA (bg ?_)))));show wpAny _ _ (match Builtin.Slice.sliceAdjust lo hi 1 (n:Int) with|(lo,hi)=>pure (lo,(1:Int),Builtin.Slice.slicePlaces lo hi 1)) _ _ s
  rw[Fq lo hi n];show wpAny _ _ (pure (((sIx n 0 lo:Nat):Int),(1:Int),Builtin.Slice.slicePlaces ((sIx n 0 lo:Nat):Int) ((sIx n n hi:Nat):Int) 1)) _ _ s;rw[Fs];exact bg h
def Ft (xs:Array Value)(i k:Nat):((List.range k).filterMap λ(m:Nat)=>xs[((i:Int)+(m:Int)*1).toNat]?).toArray=((xs.toList.drop i).take k).toArray:=by
  have e:(λ(m:Nat)=>xs[((i:Int)+(m:Int)*1).toNat]?)=λm=>xs[i+m]?:=by
    funext m
    have:((i:Int)+(m:Int)*1).toNat=i+m:=by lia
    rw[this]
  rw[e];have:=pick_run xs i k;rw[List.filterMap_map]at this;have e2:((λx=>xs[x]?) ∘ λx=>i+x)=λm=>xs[i+m]?:=rfl;rw[e2]at this;rw[this]
def getItem_tuple_cut {t sl:Addr}{items:Array Value}{vl vu:Value}{lo hi:Option Int}{Q:Value->Shared->Prop}(ht:IsTup s.heap t items)(hs:s.heap.IsSliceOf sl vl vu .none)(pl:IsPart vl lo)(pu:IsPart vu hi)
    (hw:¬ (sIx items.size 0 lo=0/\sIx items.size items.size hi=items.size))
    (h:Q (.ref s.heap.objs.size) { s with heap:=s.heap.push { cls:=.type "tuple",data:=.seq ((items.toList.drop (sIx items.size 0 lo)).take (sIx items.size items.size hi-sIx items.size 0 lo)).toArray } })
    (hsz:items.size<=sizeLine):wpAny (model prog w) A (getItem (.ref t) (.ref sl)) Q E s:=by
  have htake:sizeOk (.seq ((items.toList.drop (sIx items.size 0 lo)).take (sIx items.size items.size hi-sIx items.size 0 lo)).toArray):=by
    show ((items.toList.drop (sIx items.size 0 lo)).take (sIx items.size items.size hi-sIx items.size 0 lo)).toArray.size<=sizeLine;rw[bP,bt,eQ,fH];lia
  have hj:sIx items.size items.size hi<=items.size:=Fp _ _ (av _) hi;obtain ⟨os,hos,hcs,hds⟩:=id hs;have hTs:s.TypeIs (.ref sl) "slice":=#[os,hos,hcs];unfold getItem
  try with_reducible refine wpAny_holding ?_
  first|refine aA (bg ?_)|skip
  refine aA (wpAny_sequenceKey ht.typeIs (by decide) ?_);refine aA (wpAny_callSpecial?_slot (name:=Str.ofString "__getitem__") ht.typeIs PyProof.Rows.slot_tuple_getitem
    (wpAny_call_entry PyProof.Rows.slot_tuple_getitem ht.typeIs entry_tuple_getitem ?_ (args_tuple_getitem _ _)))
  show wpAny _ _ (Builtin.Tuple.tupleItemsOf (.ref t) >>= _) _ _ s;refine aA (tupleItemsOf_ ht ?_);refine aA (wpAny_typeOf hTs ?_);rw[ar (by decide)];refine aA (Al hs pl pu ?_);have hno:¬ ((((sIx items.size 0 lo:Nat):Int)==0&&(1:Int)==1&&(sIx items.size items.size hi-sIx items.size 0 lo)==items.size)=true):=by
    intro q;rw[gj,gj]at q;have q1:((sIx items.size 0 lo:Nat):Int)=0:=eq_of_beq q.1.1;have q2:sIx items.size items.size hi-sIx items.size 0 lo=items.size:=eq_of_beq q.2;exact hw #[by lia,by lia]
  show wpAny _ _ (if (((sIx items.size 0 lo:Nat):Int)==0&&(1:Int)==1&&(sIx items.size items.size hi-sIx items.size 0 lo)==items.size)=true then _ else _) _ _ s
  rw[az hno,Ft]
  first
    | exact aA (m:=Builtin.Tuple.tupleExact _) (wpAny_newObj_type (bg ⟨_,rfl,bg h⟩) htake)
    | exact aA (m:=Builtin.Tuple.tupleExact _) (wpAny_newObj_type (aA (bg (bg ⟨_,rfl,bg h⟩))) htake)
    | exact aA (aA (m:=Builtin.Tuple.tupleExact _) (wpAny_newObj_type (bg (bg ⟨_,rfl,bg h⟩)) htake))
    | exact aA (aA (m:=Builtin.Tuple.tupleExact _) (wpAny_newObj_type (bg ⟨_,rfl,bg h⟩) htake))
end
end HT
namespace L2
open PySem PySem.Spec PyProof.Rows
abbrev TO:=St->Hp->(Option Int->Hp->Prop)->Prop
def PO (X:Cx)(e:Option Expr)(t:TO):Prop:=
  ∀(OG:List (Addr×Obj)) (s:Shared) (U:St) (H:Hp) (Q:Option Int->Hp->Prop),Inv X OG U H s->t U H Q->
    wpAny (model X.prog X.w) X.A (evalPart e X.env) (λu s'=>∃ o H',Inv X OG U H' s'/\IsPart u o/\Q o H') X.xe s
def Fu:TO:=λ_ H Q=>Q none H
inductive Am (Q:Option Int->Hp->Prop)(x:V)(H1:Hp):Prop
  | c:∀ i,x=.int i->Q (some i) H1->Am Q x H1
def Fv (t:TE):TO:=λU H Q=>t U H λx H1=>Am Q x H1
section
variable {X:Cx}{e:Expr}{te:TE}{lo hi:Option Expr}{tl th:TO}{pos p2:Pos}
def lW:PO X none Fu:=by
  intro OG s U H Q I h;rw[evalPart_none];exact bg #[none,H,I,.none,h]
def eI (h:PE X e te):PO X (some e) (Fv te):=by
  intro OG s U H Q I hw;rw[evalPart_some];refine thn (h OG s U H _ I hw) λu s1 zq0=>?_;obtain ⟨x,H1,I1,r1,q1⟩:=zq0;obtain ⟨i,rfl,q⟩:=q1;obtain ⟨t,rfl⟩:=r1;exact #[some i,H1,I1,.int i t,q]
def SlR (X:Cx)(r:V->Option Int->Option Int->Hp->VK->Prop):Prop:=
  ∀(OG:List (Addr×Obj)) (s:Shared) (U:St) (H:Hp) (x:V) (v vl vu:Value) (lo hi:Option Int) (sl:Addr) (Q:VK),Inv X OG U H s->RelV x v->s.heap.IsSliceOf sl vl vu .none->IsPart vl lo->IsPart vu hi->r x lo hi H Q->
    ∃ T id,typeLookup (.type T) "__getitem__" = pure (some (.builtin id))/\s.TypeIs v T/\wpAny (model X.prog X.w) X.A (getItem v (.ref sl)) (EP X OG U Q) X.xe s
def tSl (r:V->Option Int->Option Int->Hp->VK->Prop)(te:TE)(tl th:TO):TE:=λU H Q=>te U H λx H1=>tl U H1 λl H2=>th U H2 λu H3=>r x l u H3 Q
def gE (hr:SlR X r)(he:PE X e te)(hl:PO X lo tl)(hu:PO X hi th):PE X (.Subscript e (.Slice lo hi none p2) pos) (tSl r te tl th):=by
  intro OG s U H Q I h;refine Subscript_ (thn (he OG s U H _ I h) λv s1 zq0=>?_);obtain ⟨x,H1,I1,r1,q1⟩:=zq0;refine wpAny_Slice (thn (hl OG s1 U H1 _ I1 q1) λvl s2 zq0=>?_);obtain ⟨l,H2,I2,pl,q2⟩:=zq0;refine thn (hu OG s2 U H2 _ I2 q2) λvu s3 zq1=>?_;obtain ⟨u,H3,I3,pu,q3⟩:=zq1;rw[evalPart_none];refine bg ?_;have I4:Inv X OG U H3 { s3 with heap:=s3.heap.push { cls:=.type "slice",data:=.fields (List.toArray [vl,vu,.none]) } }:=I3.kept (t':=s3.toks) λb ob q=>bD _ q;obtain ⟨T,id,hT,ht,hg⟩:=hr OG { s3 with heap:=s3.heap.push { cls:=.type "slice",data:=.fields (List.toArray [vl,vu,.none]) } } U H3 x v vl vu l u s3.heap.objs.size Q I4 r1 (Heap.IsSliceOf.new ..) pl pu q3;show wpAny (model X.prog X.w) X.A (subscriptTail e (.Slice lo hi none p2) v (.ref s3.heap.objs.size)) (EP X OG U Q) X.xe { s3 with heap:=s3.heap.push { cls:=.type "slice",data:=.fields (List.toArray [vl,vu,.none]) } };exact tail_any (ops:=[.ref s3.heap.objs.size,v]) ht hT hg (by with_unfolding_all rfl)
def cutV (xs:List V)(lo hi:Option Int):List V:=(xs.drop (HT.sIx xs.length 0 lo)).take (HT.sIx xs.length xs.length hi-HT.sIx xs.length 0 lo)
def An (xs:List V)(lo hi:Option Int):(cutV xs lo hi).length<=xs.length:=by
  unfold cutV;rw[bt,eQ];lia
inductive rSlT (K:Frag)(x:V)(lo:Option Int)(hi:Option Int)(H:Hp)(Q:VK):Prop
  | c:∀ a xs,x=.ref a->SqT K H a xs->¬ (HT.sIx xs.length 0 lo=0/\HT.sIx xs.length xs.length hi=xs.length)->(∀ p,H p=none->Q (.ref p) (upd H p (.tup (cutV xs lo hi))))->rSlT K x lo hi H Q
def Fw:SlR X (rSlT X.K):=by
  intro OG s U H x v vl vu lo hi sl Q I rx hs pl pu h;obtain ⟨a,xs,rfl,hx,hw,q⟩:=h;cases rx
  obtain ⟨its,r,ht,hz⟩:=I.tuple hx;have hlen:its.toArray.size=xs.length:=by rw[bP];exact r.length.symm
  refine #["tuple",_,PyProof.Rows.slot_tuple_getitem.lookup,ht.typeIs,?_];refine HT.getItem_tuple_cut ht hs pl pu (by rw[hlen];exact hw) ?_ (by rw[hlen];exact hz);rw[hlen];refine #[.ref s.heap.objs.size,_,I.laid (t':=s.toks) (o:=.tup (cutV xs lo hi)) (λb ob q=>bD _ q) (av _) ?_,rfl,q _ (I.hok.fresh (av _))];exact #[cD (An xs lo hi) hz,_,(r.drop (HT.sIx xs.length 0 lo)).take (HT.sIx xs.length xs.length hi-HT.sIx xs.length 0 lo),IsTup.new _ _]
inductive ur (K:Frag)(x:V)(y:V)(H:Hp)(Q:VK):Prop
  | c:∀ a b xs ys,x=.ref a->y=.ref b->SqT K H a xs->SqT K H b ys->xs≠[]->xs.length+ys.length<=sizeLine->(ys=[]->Q (.ref a) H)->(ys≠[]->∀ p,H p=none->Q (.ref p) (upd H p (.tup (xs++ys))))->ur K x y H Q
def Vals.nil_iff {xs:List V}{us:List Value}(r:Vals xs us):us=[]↔xs=[]:=by
  cases r with
  | nil=>simp
  | cons _ _=>simp
def Ao:OpR X (binaryOp .Add) (ur X.K):=by
  intro OG s U H x y v u Q I rx ry h;obtain ⟨a,b,xs,ys,rfl,rfl,ha,hb,hx,hz,q1,q2⟩:=h;cases rx
  cases ry
  obtain ⟨its,r1,p1,_⟩:=I.tuple ha;obtain ⟨its2,r2,p2,_⟩:=I.tuple hb;refine HT.cat_tup p1 p2 (λz=>hx (r1.nil_iff.mp z)) (λz=>#[.ref a,H,I,rfl,q1 (r2.nil_iff.mp z)]) (λz=>?_) (by rw[<-r1.length,<-r2.length];exact hz);refine #[.ref s.heap.objs.size,_,I.laid (t':=s.toks) (o:=.tup (xs++ys)) (λb ob q=>bD _ q) (av _) ?_,rfl,q2 (λw=>z (r2.nil_iff.mpr w)) _ (I.hok.fresh (av _))];exact #[by rw[bB];exact hz,_,r1.append r2,IsTup.new _ _]
end
def ixN (n:Nat)(i:Int):Option Nat:=if 0<=i then (if i<n then some i.toNat else none) else if -(n:Int)<=i then some (i+n).toNat else none
def atI {α:Type}(xs:List α)(i:Int):Option α:=(ixN xs.length i).bind λj=>xs[j]?
def Ap {j:Nat}(h:ixN n i=some j):seqIndex? i n=some j/\j<n/\-(n:Int)<=i/\i<n:=by
  unfold ixN at h;by_cases h0:0<=i
  · rw[ar h0]at h
    by_cases h1:i<n
    · rw[ar h1]at h
      have e:i.toNat=j:=aV h;exact #[by rw[seqIndex_of h0 h1,e],by lia,by lia,h1]
    · rw[az h1]at h;cases h
  · rw[az h0]at h
    by_cases h1:-(n:Int)<=i
    · rw[ar h1]at h
      have e:(i+n).toNat=j:=aV h;exact #[by rw[seqIndex_neg (by lia) h1,e],by lia,h1,by lia]
    · rw[az h1]at h;cases h
def Aq {α:Type}{xs:List α}{v:α}(h:atI xs i=some v):∃ j,seqIndex? i xs.length=some j/\xs[j]?=some v/\j<xs.length/\-(xs.length:Int)<=i/\i<xs.length:=by
  unfold atI at h;cases e:ixN xs.length i with
  | none=>rw[e]at h;cases h
  | some j=>
    rw[e]at h;obtain ⟨h1,h2,h3,h4⟩:=Ap e;exact #[j,h1,h,h2,h3,h4]
def cL {α:Type}{xs:List α}{j:Nat}{v:α}(h:xs[j]?=some v):atI xs (j:Int)=some v:=by
  have hj:j<xs.length:=(aY.mp h).1;have e:ixN xs.length (j:Int)=some j:=by
    unfold ixN;rw[ar (by lia),ar (by lia)];simp
  unfold atI;rw[e];exact h
def Fx (b:Expr):Prop:=∀ o i,subscripted b false o i=operate [o,i] (getItem o i)
def IxR (X:Cx)(r:R2):Prop:=
  ∀(value slice:Expr) (OG:List (Addr×Obj)) (s:Shared) (U:St) (H:Hp) (x y:V) (v u:Value) (Q:VK),Inv X OG U H s->RelV x v->RelV y u->r x y H Q->
    subscripted slice false v u=operate [v,u] (getItem v u)->wpAny (model X.prog X.w) X.A (subscriptTail value slice v u) (EP X OG U Q) X.xe s
def MtR (X:Cx)(id:String)(r:V->List V->Hp->VK->Prop):Prop:=
  ∀(OG:List (Addr×Obj)) (s:Shared) (U:St) (H:Hp) (x:V) (xs:List V) (v:Value) (us:List Value) (Q:VK),Inv X OG U H s->RelV x v->Vals xs us->r x xs H Q->
    wpAny (model X.prog X.w) X.A (call (.builtin id) (v::us)) (EP X OG U Q) X.xe s
section
variable {X:Cx}{a b:Expr}{ta tb:TE}{pos:Pos}
def aB (hr:IxR X r)(ha:PE X a ta)(hb:PE X b tb)(hs:Fx b):PE X (.Subscript a b pos) (tOp r ta tb):=by
  intro OG s U H Q I h;exact Subscript_ (binT ha hb I h λv u s2 x y H2 I2 rx ry q=>hr a b OG s2 U H2 x y v u Q I2 rx ry q (hs _ _))
inductive rIxL (K:Frag)(x:V)(y:V)(H:Hp)(Q:VK):Prop
  | c:∀ p xs i v,x=.ref p->y=.int i->SqL K H p xs->atI xs i=some v->Q v H->rIxL K x y H Q
inductive rIxT (K:Frag)(x:V)(y:V)(H:Hp)(Q:VK):Prop
  | c:∀ p xs i v,x=.ref p->y=.int i->SqT K H p xs->atI xs i=some v->Q v H->rIxT K x y H Q
def Fy:IxR X (rIxL X.K):=by
  intro value slice OG s U H x y v u Q I rx ry h hs;obtain ⟨p,xs,i,z,rfl,rfl,hq,he,q⟩:=h;cases rx
  obtain ⟨t,rfl⟩:=ry;obtain ⟨its,r,pl,hz⟩:=I.list hq;obtain ⟨j,h1,h2,h3,h4,h5⟩:=Aq he;obtain ⟨w,ew,rw'⟩:=r.get h2;have hl:=r.length;have hn:=ou;have fin:EP X OG U Q w s:=#[z,H,I,rw',q];by_cases h0:0<=i
  · have hj:i.toNat=j:=by
      rw[seqIndex_of h0 h5]at h1;exact aV h1
    exact item_listR pl.isList h0 (by lia) (by rw[hj];simpa using ew) fin hs
  · have hj:(i+(its.toArray.size:Int)).toNat=j:=by
      rw[seqIndex_neg (by lia) h4]at h1;rw[bP,<-hl];exact aV h1
    exact subscriptTail_builtinR (x:=w) pl.isList.typeIs slot_list_getitem.lookup
      (wpAny_getItem_list_neg (Q:=λr s'=>r=w/\EP X OG U Q r s') pl.isList (by lia) (by rw[bP]<;>lia) (by lia) (by rw[hj];simpa using ew) #[rfl,fin]) hs
def Fz:IxR X (rIxT X.K):=by
  intro value slice OG s U H x y v u Q I rx ry h hs;obtain ⟨p,xs,i,z,rfl,rfl,hq,he,q⟩:=h;cases rx
  obtain ⟨t,rfl⟩:=ry;obtain ⟨its,r,pl,hz⟩:=I.tuple hq;obtain ⟨j,h1,h2,h3,h4,h5⟩:=Aq he;obtain ⟨w,ew,rw'⟩:=r.get h2;have hl:=r.length;have hn:=ou;have fin:EP X OG U Q w s:=#[z,H,I,rw',q];exact subscriptTail_builtinR (x:=w) pl.typeIs slot_tuple_getitem.lookup
    (getItem_tuple (j:=j) (Q:=λr s'=>r=w/\EP X OG U Q r s') pl (by lia) (by lia) (by rw[bP,<-hl];exact h1) (by simpa using ew) #[rfl,fin]) hs
def FD (its:List Value)(n j:Nat)(u:Value):Obj.mapSeq (·.setIfInBounds j u) { cls:=.type "list",data:=.seq its.toArray n }={ cls:=.type "list",data:=.seq (its.set j u).toArray n }:=by
  simp[Obj.mapSeq]
def Inv.lst {OG:List (Addr×Obj)}{U:St}{H:Hp}{s:Shared}{p:Addr}{xs:List V}(I:Inv X OG U H s)(h:H p=some (.lst xs)) :
    ∃(its:List Value) (n:Nat),Vals xs its/\s.heap.get? p=some { cls:=.type "list",data:=.seq its.toArray n }/\xs.length<=sizeLine:=by
  obtain ⟨z,its,n,r,e⟩:=I.hok p _ h;exact #[its,n,r,e,z]
def Inv.lstUpd {s:Shared}{p:Addr}{xs ys:List V}{its its':List Value}{n n':Nat}{f:Obj->Obj}(I:Inv X OG U H s)(h:H p=some (.lst xs))
    (ho:s.heap.get? p=some { cls:=.type "list",data:=.seq its.toArray n }) (hf:f { cls:=.type "list",data:=.seq its.toArray n }={ cls:=.type "list",data:=.seq its'.toArray n' }) (r:Vals ys its') (hz:ys.length<=sizeLine) (t:Nat) :
    Inv X OG U (upd H p (.lst ys)) { s with heap:=s.heap.update p f,toks:=t }:=by
  have e:(s.heap.update p f).get? p=some { cls:=.type "list",data:=.seq its'.toArray n' }:=by
    rw[nJ f ho (by rw[hf]<;>rfl),hf]
  refine I.write (x:=p) (e:=p) (by rw[h];trivial) (.inl rfl) (λb u hb q=>(iU _ _ (bE hb)).trans q) #[_,e] ?_;exact #[hz,its',n',r,e]
inductive Ar (o:V)(i:V)(v:V)(H:Hp)(Q:Hp->Prop):Prop
  | c:∀ p xs k j,o=.ref p->i=.int k->H p=some (.lst xs)->ixN xs.length k=some j->Q (upd H p (.lst (xs.set j v)))->Ar o i v H Q
def uu:PSet X Ar:=by
  intro OG s U H o i v ov iv u Q I ro ri rv h;obtain ⟨p,xs,k,j,rfl,rfl,hp,hj,q⟩:=h;cases ro
  obtain ⟨t,rfl⟩:=ri;obtain ⟨its,n,r,ho,hz⟩:=I.lst hp;obtain ⟨h1,h2,h3,h4⟩:=Ap hj;have hl:=r.length;have hn:=ou;have I':Inv X OG U (upd H p (.lst (xs.set j v))) { s with heap:=s.heap.update p (Obj.mapSeq (·.setIfInBounds j u)) }:=
    I.lstUpd hp ho (FD its n j u) (r.set rv j) (by rw[gk];exact hz) s.toks
  by_cases h0:0<=k
  · have hk:k.toNat=j:=by
      rw[seqIndex_of h0 h4]at h1;exact aV h1
    exact W.ki_setAt ho h0 (by lia) (by rw[bP,<-hl];exact h4) (by rw[hk];exact #[_,I',q])
  · have hk:(k+(its.toArray.size:Int)).toNat=j:=by
      rw[seqIndex_neg (by lia) h3]at h1;rw[bP,<-hl];exact aV h1
    exact W.ki_setBack ho (by lia) (by rw[bP,<-hl];exact h3) (by lia) (by rw[hk];exact #[_,I',q])
def FE (lo hi:Option Int)(n:Nat):(sliceBounds lo hi none n).1=((HT.sIx n 0 lo:Nat):Int)/\(sliceBounds lo hi none n).2.1=((HT.sIx n n hi:Nat):Int)/\(sliceBounds lo hi none n).2.2=1:=by
  refine #[?_,?_,rfl]
  · cases lo with
    | none=>simp[sliceBounds,HT.sIx]
    | some i=>
      simp only[sliceBounds,HT.sIx,Option.getD_none,show (1:Int)>0 by decide,if_true];by_cases h:i<0
      · simp only[h,if_true]<;>lia
      · simp only[h,if_false]<;>lia
  · cases hi with
    | none=>simp[sliceBounds,HT.sIx]
    | some i=>
      simp only[sliceBounds,HT.sIx,Option.getD_none,show (1:Int)>0 by decide,if_true];by_cases h:i<0
      · simp only[h,if_true]<;>lia
      · simp only[h,if_false]<;>lia
def FF (its:List Value)(lo hi:Option Int):slicePick its.toArray lo hi none=((its.drop (HT.sIx its.length 0 lo)).take (HT.sIx its.length its.length hi-HT.sIx its.length 0 lo)).toArray:=by
  obtain ⟨h1,h2,h3⟩:=FE lo hi its.toArray.size;unfold slicePick;rw[h1,h2,h3];simp only[sliceRange_one,pick_run,bP]<;>rfl
inductive rSlL (K:Frag)(x:V)(lo:Option Int)(hi:Option Int)(H:Hp)(Q:VK):Prop
  | c:∀ a xs,x=.ref a->SqL K H a xs->(∀ p,H p=none->Q (.ref p) (upd H p (.lst (cutV xs lo hi))))->rSlL K x lo hi H Q
def FG:SlR X (rSlL X.K):=by
  intro OG s U H x v vl vu lo hi sl Q I rx hs pl pu h;obtain ⟨a,xs,rfl,hx,q⟩:=h;cases rx
  obtain ⟨its,r,ht,hz⟩:=I.list hx;have hlen:=r.length;refine #["list",_,slot_list_getitem.lookup,ht.isList.typeIs,?_];refine wpAny_getItem_list_slice ht.isList hs pl pu .none (by simp) ?_ (by rw[bP]<;>lia)
  rw[FF,<-hlen];refine #[.ref s.heap.objs.size,_,I.laid (t':=s.toks) (o:=.lst (cutV xs lo hi)) (λb ob q=>bD _ q) (av _) ?_,rfl,q _ (I.hok.fresh (av _))];exact #[cD (An xs lo hi) hz,_,0,(r.drop (HT.sIx xs.length 0 lo)).take (HT.sIx xs.length xs.length hi-HT.sIx xs.length 0 lo),cV _ rfl]
def fo:V->Bool
  | .non=>true
  | .bl _=>true
  | .int _=>true
  | .str _=>true
  | _=>false
def eqV:V->V->Bool
  | .non,.non=>true
  | .bl a,.bl b=>a==b
  | .bl a,.int b=>(if a then 1 else 0)==b
  | .int a,.bl b=>a==(if b then 1 else 0)
  | .int a,.int b=>a==b
  | .str a,.str b=>a==b
  | _,_=>false
def FH {A:Around}{s:Shared}{y x:V}{u v:Value}(ry:RelV y u)(rx:RelV x v)(fy:fo y=true)(fx:fo x=true):SeqAt.EqAt A s u v (eqV y x):=by
  cases y with
  | non=>
    cases ry
    cases x with
    | non=>cases rx;exact SeqAt.EqAt.same _
    | bl b=>cases rx;exact SeqAt.EqAt.none_bool b
    | int b=>obtain ⟨t,rfl⟩:=rx;exact SeqAt.EqAt.none_int b t
    | str b=>obtain ⟨t,rfl⟩:=rx;exact SeqAt.EqAt.none_str b t
    | _=>exact absurd (show false=true from fx) cN
  | bl a=>
    cases ry
    cases x with
    | non=>cases rx;exact SeqAt.EqAt.bool_none a
    | bl b=>cases rx;exact SeqAt.EqAt.bool_bool a b
    | int b=>obtain ⟨t,rfl⟩:=rx;exact SeqAt.EqAt.bool_int a b t
    | str b=>obtain ⟨t,rfl⟩:=rx;exact SeqAt.EqAt.bool_str a b t
    | _=>exact absurd (show false=true from fx) cN
  | int a=>
    obtain ⟨t',rfl⟩:=ry;cases x with
    | non=>cases rx;exact SeqAt.EqAt.int_none a t'
    | bl b=>cases rx;exact SeqAt.EqAt.int_bool a t' b
    | int b=>obtain ⟨t,rfl⟩:=rx;exact SeqAt.EqAt.int_int a t' b t
    | str b=>obtain ⟨t,rfl⟩:=rx;exact SeqAt.EqAt.int_str a t' b t
    | _=>exact absurd (show false=true from fx) cN
  | str a=>
    obtain ⟨t',rfl⟩:=ry;cases x with
    | non=>cases rx;exact SeqAt.EqAt.str_none a t'
    | bl b=>cases rx;exact SeqAt.EqAt.str_bool a t' b
    | int b=>obtain ⟨t,rfl⟩:=rx;exact SeqAt.EqAt.str_int a t' b t
    | str b=>obtain ⟨t,rfl⟩:=rx;exact SeqAt.EqAt.str_str a t' b t
    | _=>exact absurd (show false=true from fx) cN
  | _=>exact absurd (show false=true from fy) cN
def eqU (x:V)(u:Value):Bool:=match u with
  | .none=>eqV .non x
  | .bool b=>eqV (.bl b) x
  | .int i _=>eqV (.int i) x
  | .str z _=>eqV (.str z) x
  | _=>false
def As {y:V}{u:Value}(r:RelV y u)(f:fo y=true):eqU x u=eqV y x:=by
  cases y with
  | non=>cases r;rfl
  | bl b=>cases r;rfl
  | int i=>obtain ⟨t,rfl⟩:=r;rfl
  | str z=>obtain ⟨t,rfl⟩:=r;rfl
  | _=>exact absurd (show false=true from f) cN
def lX :∀{xs:List V} {us:List Value},Vals xs us->xs.all fo=true->us.any (eqU x)=xs.any λy=>eqV y x
  | _,_,.nil,_=>rfl
  | y::xs,u::us,.cons r t,f=>by
    rw[nK,gj]at f;rw[fI,fI,As r f.1,lX t f.2]
def lY {A:Around}{s:Shared}{x:V}{v:Value}(rx:RelV x v)(fx:fo x=true):∀{xs:List V} {us:List Value},Vals xs us->xs.all fo=true->∀ u∈us,SeqAt.EqAt A s u v (eqU x u)
  | _,_,.nil,_=>λu hu=>by cases hu
  | y::xs,u::us,.cons r t,f=>λu' hu=>by
    rw[nK,gj]at f;rcases bq.mp hu with rfl|hu
    · rw[As r f.1];exact FH r rx f.1 fx
    · exact lY rx fx t f.2 u' hu
def inV (x:V)(xs:List V):Bool:=xs.any λy=>eqV y x
inductive rIn (K:Frag)(neg:Bool)(x:V)(y:V)(H:Hp)(Q:VK):Prop
  | c:∀ p xs,y=.ref p->(SqL K H p xs\/SqT K H p xs)->fo x=true->xs.all fo=true->Q (.bl (if neg then !inV x xs else inV x xs)) H->rIn K neg x y H Q
def FI:OpR X (compareOp .In) (rIn X.K false):=by
  intro OG s U H x y v u Q I rx ry h;obtain ⟨p,xs,rfl,hq,fx,fs,q⟩:=h;cases ry
  rcases hq with hq|hq
  · obtain ⟨its,r,pl,hz⟩:=I.list hq
    refine SeqAt.in_listAt (eqU x) pl.isList (λw hw=>lY rx fx r fs w (by simpa using hw)) #[.bl _,H,I,rfl,?_];rw[show its.toArray.any (eqU x)=its.any (eqU x) by simp,lX r fs];exact q
  · obtain ⟨its,r,pl,hz⟩:=I.tuple hq
    refine SeqAt.in_tupleAt (eqU x) pl (λw hw=>lY rx fx r fs w (by simpa using hw)) #[.bl _,H,I,rfl,?_];rw[show its.toArray.any (eqU x)=its.any (eqU x) by simp,lX r fs];exact q
def FJ:OpR X (compareOp .NotIn) (rIn X.K true):=by
  intro OG s U H x y v u Q I rx ry h;obtain ⟨p,xs,rfl,hq,fx,fs,q⟩:=h;cases ry
  rcases hq with hq|hq
  · obtain ⟨its,r,pl,hz⟩:=I.list hq
    refine SeqAt.notIn_listAt (eqU x) pl.isList (λw hw=>lY rx fx r fs w (by simpa using hw)) #[.bl _,H,I,rfl,?_];rw[show its.toArray.any (eqU x)=its.any (eqU x) by simp,lX r fs];exact q
  · obtain ⟨its,r,pl,hz⟩:=I.tuple hq
    refine SeqAt.notIn_tupleAt (eqU x) pl (λw hw=>lY rx fx r fs w (by simpa using hw)) #[.bl _,H,I,rfl,?_];rw[show its.toArray.any (eqU x)=its.any (eqU x) by simp,lX r fs];exact q
def FK:cT X (.builtin "len") (λxs H Q=>∃ p ys,xs=[.ref p]/\(SqL X.K H p ys\/SqT X.K H p ys)/\Q (.int ys.length) H):=by
  intro OG s U H xs us Q I r h;obtain ⟨p,ys,rfl,hq,q⟩:=h;obtain ⟨u,rfl,rx⟩:=d4 r;cases rx
  have hn:=ou;rcases hq with hq|hq
  · obtain ⟨its,r',pl,hz⟩:=I.list hq
    have hlen:=r'.length;exact Calls.call_len_list pl.isList (by simp only[bP]<;>lia) #[.int ys.length,H,I.tok _,#[s.toks+1,by rw[bP,hlen]],q]
  · obtain ⟨its,r',pl,hz⟩:=I.tuple hq
    have hlen:=r'.length;exact len_tuple pl (by simp only[bP]<;>lia) #[.int ys.length,H,I.tok _,#[s.toks+1,by rw[bP,hlen]],q]
def FL:cT X (.type "list") (λxs H Q=>∃ p ys,xs=[.ref p]/\(SqL X.K H p ys\/SqT X.K H p ys)/\∀ l,H l=none->Q (.ref l) (upd H l (.lst ys))):=by
  intro OG s U H xs us Q I r h;obtain ⟨p,ys,rfl,hq,q⟩:=h;obtain ⟨u,rfl,rx⟩:=d4 r;cases rx
  have fin:∀(its:List Value),Vals ys its->ys.length<=sizeLine->∀(h':Heap) (c':Nat),(∀ b o',s.heap.get? b=some o'->h'.get? b=some o')->
      h'.get? s.heap.objs.size=some { cls:=.type "list",dict:=none,data:=.seq its.toArray c',slots:=(List.toArray []) }->EP X OG U Q (.ref s.heap.objs.size) { s with heap:=h' }:=λits r' hz h' c' kp e=>
    #[.ref s.heap.objs.size,_,I.laid (t':=s.toks) kp (av _) (show bU X.prog X.w _ h' _ (.lst ys) from #[hz,its,c',r',e]),rfl,q _ (I.hok.fresh (av _))]
  rcases hq with hq|hq
  · obtain ⟨its,r',pl,hz⟩:=I.list hq
    have hlen:=r'.length;obtain ⟨o,ho,hc,n,hd⟩:=pl.isList;exact call_list_seq p (.inl rfl) ho hc hd (λh' c' kp e=>fin its r' hz h' c' kp e) (by simp only[bP]<;>lia)
  · obtain ⟨its,r',pl,hz⟩:=I.tuple hq
    have hlen:=r'.length;obtain ⟨o,ho,hc,n,hd⟩:=pl;exact call_list_seq p (.inr rfl) ho hc hd (λh' c' kp e=>fin its r' hz h' c' kp e) (by simp only[bP]<;>lia)
def FM:cT X (.type "tuple") (λxs H Q=>∃ p ys,xs=[.ref p]/\((SqL X.K H p ys/\∀ l,H l=none->Q (.ref l) (upd H l (.tup ys)))\/(SqT X.K H p ys/\Q (.ref p) H))):=by
  intro OG s U H xs us Q I r h;obtain ⟨p,ys,rfl,h⟩:=h;obtain ⟨u,rfl,rx⟩:=d4 r;cases rx
  rcases h with ⟨hq,q⟩|⟨hq,q⟩
  · obtain ⟨its,r',pl,hz⟩:=I.list hq
    have hlen:=r'.length;refine call_tuple_list pl.isList (λh' kp=>?_) (by simp only[bP]<;>lia)
    have I1:Inv X OG U H { s with heap:=h' }:=I.kept (t':=s.toks) kp;have I2:Inv X OG U (upd H h'.objs.size (.tup ys)) { s with heap:=h'.push { cls:=.type "tuple",data:=.seq its.toArray } }:=
      I1.laid (t':=s.toks) (λb o e=>bD _ e) (av _) (show bU X.prog X.w _ _ _ (.tup ys) from #[hz,its,r',IsTup.new _ _])
    exact #[.ref h'.objs.size,_,I2,rfl,q _ (I1.hok.fresh (av _))]
  · obtain ⟨its,r',pl,hz⟩:=I.tuple hq
    exact call_tuple_same pl #[.ref p,H,I,rfl,q]
def tyV (K:Frag)(T:String)(x:V)(H:Hp):Prop:=match x with
  | .str _=>T = "str"
  | .int _=>T = "int"
  | .ref p=>(T = "list"/\∃ xs,SqL K H p xs)\/(T = "tuple"/\∃ o,K.lookup p=some o/\o.cls=.type "tuple"/\o.dict=none)\/
      (T = "dict"/\((∃ kvs,H p=some (.dK kvs))\/∃ kvs,H p=some (.dT kvs)))\/(T = "set"/\∃ S n,H p=some (.set S n))
  | _=>False
def Au {x:V}{v:Value}(I:Inv X OG U H s)(r:RelV x v)(ty:tyV X.K T x H) :
    s.TypeIs v T/\∀ a,v=.ref a->∃ ob,s.heap.get? a=some ob/\ob.dict=none:=by
  cases x with
  | str z=>
    obtain ⟨t,rfl⟩:=r;cases (show T = "str" from ty)
    exact #[typeIs_str s z t,λ_ e=>nomatch e]
  | int i=>
    obtain ⟨t,rfl⟩:=r;cases (show T = "int" from ty)
    exact #[typeIs_int s i t,λ_ e=>nomatch e]
  | ref p=>
    cases r
    rcases ty with ⟨rfl,xs,hq⟩|⟨rfl,o,hk,hc,hd⟩|⟨rfl,hk⟩|⟨rfl,S,n,hk⟩
    · obtain ⟨its,_,pl,_⟩:=I.list hq
      refine #[pl.isList.typeIs,λa e=>?_];cases e
      obtain ⟨o,n,e,c,hd,_⟩:=pl;exact #[o,e,hd]
    · refine #[#[o,I.kIn p o hk,hc],λa e=>?_]
      cases e
      exact #[o,I.kIn _ o hk,hd]
    · have z:∃ o,s.heap.get? p=some o/\o.ExactDict:=by
        rcases hk with ⟨kvs,hk⟩|⟨kvs,hk⟩
        · obtain ⟨_,_,_,_,o,_,_,e,ex,_⟩:=I.hok p _ hk
          exact #[o,e,ex]
        · obtain ⟨_,_,_,_,o,_,_,e,ex,_⟩:=I.hok p _ hk
          exact #[o,e,ex]
      obtain ⟨o,e,ex⟩:=z;refine #[#[o,e,ex.1],λa e2=>?_];cases e2
      exact #[o,e,ex.2.1]
    · obtain ⟨o,_,_,_,e,ex,_⟩:=I.hok p _ hk
      refine #[#[o,e,ex.1],λa e2=>?_];cases e2
      exact #[o,e,ex.2.1]
  | _=>exact False.elim ty
inductive Aw (K:Frag)(T:String)(r:V->List V->Hp->VK->Prop)(Q:VK)(x:V)(H1:Hp):Prop
  | c:tyV K T x H1->r x [] H1 Q->Aw K T r Q x H1
def tBM0 (K:Frag)(T:String)(r:V->List V->Hp->VK->Prop)(to:TE):TE:=λU H Q=>to U H λx H1=>Aw K T r Q x H1
inductive GtBM (K:Frag)(T:String)(r:V->List V->Hp->VK->Prop)(t:TA)(U:St)(Q:VK)(x:V)(H1:Hp):Prop
  | c:tyV K T x H1->(t U H1 λxs H2=>r x xs H2 Q)->GtBM K T r t U Q x H1
def tBM (K:Frag)(T:String)(r:V->List V->Hp->VK->Prop)(to:TE)(t:TA):TE:=λU H Q=>to U H λx H1=>GtBM K T r t U Q x H1
variable {o e:Expr}{es:List Expr}{to:TE}{t:TA}{name:Str}{apos cpos:Pos}{T id:String}{r:V->List V->Hp->VK->Prop}
def FN (pa:PlainAttrs T)(slot:Slot T name id)(hty:typeOf (.builtin id)=pure (.type "method_descriptor"))(hm:MtR X id r)(ho:PE X o to)
    (hbase:attributeBase o name X.env (eval o X.env)=eval o X.env:=by rfl) (hline:(apos.endLine==cpos.line)=true:=by rfl):PE X (.Call (.Attribute o name apos) [] [] cpos) (tBM0 X.K T r to):=by
  intro OG s U H Q I h;refine wpAny_Call_method0_late hbase hline (thn (ho OG s U H _ I h) λv s1 zq0=>?_);obtain ⟨x,H1,I1,r1,ty,q1⟩:=zq0;obtain ⟨h1,h2⟩:=Au I1 r1 ty;exact #[T,id,pa,slot,hty,h1,h2,Calls.callWith_builtin rfl (PySem.evalArgs_none (hm OG s1 U H1 x [] v [] Q I1 r1 .nil q1))]
def d5 (pa:PlainAttrs T)(slot:Slot T name id)(hty:typeOf (.builtin id)=pure (.type "method_descriptor"))(hm:MtR X id r)(ho:PE X o to)(ha:PA X (e::es) t)
    (hbase:attributeBase o name X.env (eval o X.env)=eval o X.env:=by rfl)
    (hfew:((backTo cpos (starEach (e::es) X.env)).all (λx=>!x.1) && (backToKw cpos (keywordEach [] X.env)).all (λx=>x.1.isSome)
      && decide ((e::es).length+([]:List Keyword).length+(if ([]:List Keyword).isEmpty then 0 else 1)<30))=true:=by rfl)
    (hline:(apos.endLine==cpos.line)=true:=by rfl) (hs:starEach (e::es) X.env=(false,eval e X.env)::starEach es X.env:=by rfl) (hplain:(backTo cpos (starEach es X.env)).any (·.1)=false:=by rfl) :
    PE X (.Call (.Attribute o name apos) (e::es) [] cpos) (tBM X.K T r to t):=by
  intro OG s U H Q I h;refine wpAny_Call_method_late hbase hfew hline rfl (thn (ho OG s U H _ I h) λv s1 zq0=>?_);obtain ⟨x,H1,I1,r1,ty,q1⟩:=zq0;obtain ⟨h1,h2⟩:=Au I1 r1 ty;refine #[T,id,pa,slot,hty,h1,h2,?_];have hA:=ha cpos OG s1 U H1 _ I1 q1;rw[hs]at hA ⊢;refine Calls.callWith_builtin (by show (false||(backTo cpos (starEach es X.env)).any (·.1))=false;rw[hplain]<;>rfl) (Calls.evalArgs_plain ?_)
  exact thn hA λus s2 zq0=>(by obtain ⟨vs,H2,I2,r2,q2⟩:=zq0;exact hm OG s2 U H2 x vs v us Q I2 r1 r2 q2)
end
def MtM (X:Cx)(id:String)(r:V->List V->Hp->VK->Prop):Prop:=
  ∀(OG:List (Addr×Obj)) (s:Shared) (U:St) (H:Hp) (x:V) (xs:List V) (v:Value) (us:List Value) (Q:VK),Inv X OG U H s->RelV x v->Vals xs us->r x xs H Q->
    wpAny (model X.prog X.w) X.A (call (.builtin id) (v::us)) (EP X OG U Q) X.xe s
def Vals.one:∀{x:V} {us:List Value},Vals [x] us->∃ u,us=[u]/\RelV x u
  | _,_,.cons r .nil=>#[_,rfl,r]
def Vals.eraseIdx:∀{xs:List V} {us:List Value} (i:Nat),Vals xs us->Vals (xs.eraseIdx i) (us.eraseIdx i)
  | _,_,_,.nil=>.nil
  | _,_,0,.cons _ t=>t
  | _,_,i+1,.cons r t=>.cons r (Vals.eraseIdx i t)
def Ax {α:Type}:∀(l:List α) (i:Nat),(l.eraseIdx i).length<=l.length
  | [],_=>av _
  | _::_,0=>gQ _
  | _::r,i+1=>Nat.succ_le_succ (Ax r i)
section
variable {X:Cx}{OG:List (Addr×Obj)}{U:St}{H:Hp}{s:Shared}{l b:Addr}{xs ys zs:List V}
def Inv.lset {its its':List Value}{n:Nat}{f:Array Value->Array Value}{t':Nat}(I:Inv X OG U H s)(hH:H l=some (.lst xs))
    (e:s.heap.get? l=some { cls:=.type "list",data:=.seq its.toArray n }) (hf:f its.toArray=its'.toArray) (hv:Vals ys its') (hz:ys.length<=sizeLine) :
    Inv X OG U (upd H l (.lst ys)) { s with heap:=s.heap.update l (Obj.mapSeq f),toks:=t' }:=by
  have q:=PySem.IsL.update e f;rw[hf]at q;refine I.write (x:=l) (e:=l) (by rw[hH];exact trivial) (.inl rfl) (λb' u hb hu=>(iU s.heap (Obj.mapSeq f) (bE hb)).trans hu) #[_,q] ?_;exact #[hz,its',_,hv,q]
def Inv.lnew {its:List Value}{t':Nat}(I:Inv X OG U H s)(hv:Vals ys its)(hz:ys.length<=sizeLine) :
    Inv X OG U (upd H s.heap.objs.size (.lst ys)) { s with heap:=s.heap.push { cls:=.type "list",data:=.seq its.toArray },toks:=t' }:=
  I.laid (λ_ _ q=>bD _ q) (av _) #[hz,its,0,hv,cV _ rfl]
def Inv.fresh (I:Inv X OG U H s):H s.heap.objs.size=none:=I.hok.fresh (av _)
def Inv.lstM (I:Inv X OG U H s)(hH:H l=some (.lst xs)):xs.length<=sizeLine/\∃(its:List Value) (n:Nat),Vals xs its/\xs.length=its.length/\s.heap.get? l=some { cls:=.type "list",data:=.seq its.toArray n }:=by
  obtain ⟨z,its,n,r,e⟩:=I.hok l _ hH;exact #[z,its,n,r,r.length,e]
def FO {n:Nat}(h:n<=sizeLine):Builtin.List.listTooLong n=false:=by
  unfold Builtin.List.listTooLong;exact bH (by lia)
end
section
variable {X:Cx}
inductive Ay (x:V)(vs:List V)(H:Hp)(Q:VK):Prop
  | c:∀ l xs y,x=.ref l->vs=[y]->H l=some (.lst xs)->xs.length<sizeLine->Q .non (upd H l (.lst (xs++[y])))->Ay x vs H Q
def eJ:MtM X "list.append" Ay:=by
  intro OG s U H x vs v us Q I rx rv h;obtain ⟨l,xs,y,rfl,rfl,hH,hz,q⟩:=h;cases rx
  obtain ⟨u,rfl,ru⟩:=rv.one;obtain ⟨z,its,n,r,hl,e⟩:=I.lstM hH;refine call_meets F.slot_list_append #[_,e,rfl] F.entry_list_append (F.args_list_append_2 _ _) (PySem.list_append l its.toArray n u (by rw[bP];lia)) #[e,?_];refine #[.non,_,I.lset (its':=its++[u]) hH e (by simp) (r.append (.cons ru .nil)) ?_,rfl,q];rw[bB,dj];lia
inductive Az (x:V)(vs:List V)(H:Hp)(Q:VK):Prop
  | c:∀ l b xs zs,x=.ref l->vs=[.ref b]->H l=some (.lst xs)->H b=some (.lst zs)->xs.length+zs.length<=sizeLine->Q .non (upd H l (.lst (xs++zs)))->Az x vs H Q
def FP:MtM X "list.extend" Az:=by
  intro OG s U H x vs v us Q I rx rv h;obtain ⟨l,b,xs,zs,rfl,rfl,hH,hB,hz,q⟩:=h;cases rx
  obtain ⟨u,rfl,ru⟩:=rv.one;cases ru
  obtain ⟨z,its,n,r,hl,e⟩:=I.lstM hH;obtain ⟨z2,its2,n2,r2,hl2,e2⟩:=I.lstM hB;have hsz:its.toArray.size+its2.toArray.size<=sizeLine:=by rw[bP,bP];lia
  have hlong:¬ (!its.toArray.isEmpty&&Builtin.List.listTooLong (its.toArray.size+its2.toArray.size))=true:=by
    rw[FO hsz,Bool.and_false];exact cN
  refine call_meets F.slot_list_extend #[_,e,rfl] F.entry_list_extend (F.args_list_extend_2 _ _)
    (AutoSeq1.list_extend_list_list_0 l its.toArray n b its2.toArray n2 hlong (by rw[bP];lia) (by lia)) #[e,e2,?_]
  refine #[.non,_,I.lset (its':=its++its2) hH e (by simp) (r.append r2) ?_,rfl,q];rw[bB];lia
inductive AA (x:V)(vs:List V)(H:Hp)(Q:VK):Prop
  | c:∀ l xs i k y,x=.ref l->vs=[.int i]->H l=some (.lst xs)->-(2^63)<=i->i<2^63->seqIndex? i xs.length=some k->xs[k]?=some y->Q y (upd H l (.lst (xs.eraseIdx k)))->AA x vs H Q
def FQ:MtM X "list.pop" AA:=by
  intro OG s U H x vs v us Q I rx rv h;obtain ⟨l,xs,i,k,y,rfl,rfl,hH,h1,h2,hk,hy,q⟩:=h;cases rx
  obtain ⟨u,rfl,ru⟩:=rv.one;obtain ⟨t,rfl⟩:=ru;obtain ⟨z,its,n,r,hl,e⟩:=I.lstM hH;obtain ⟨w,hw,rw'⟩:=r.get hy;refine call_meets F.slot_list_pop #[_,e,rfl] F.entry_list_pop (F.args_list_pop_2 _ _)
    (MeetsSeq.list_pop_at l its.toArray n i t k w (fitsIndex_both h1 h2) (by rw[bP,<-hl];exact hk) (by rw[<-Array.getElem?_toList];exact hw) (by rw[bP];lia)) #[e,?_]
  refine #[y,_,I.lset (its':=its.eraseIdx k) hH e ?_ (r.eraseIdx k) ?_,rw',q]
  · show its.toArray.eraseIdxIfInBounds k=(its.eraseIdx k).toArray
    rw[List.eraseIdxIfInBounds_toArray]
  · have:=Ax xs k
    lia
inductive rCat (x:V)(y:V)(H:Hp)(Q:VK):Prop
  | c:∀ l b xs zs,x=.ref l->y=.ref b->H l=some (.lst xs)->H b=some (.lst zs)->xs.length+zs.length<=sizeLine->(∀ p,H p=none->Q (.ref p) (upd H p (.lst (xs++zs))))->rCat x y H Q
def jU:OpR X (binaryOp .Add) rCat:=by
  intro OG s U H x y v u Q I rx ry h;obtain ⟨l,b,xs,zs,rfl,rfl,hH,hB,hz,q⟩:=h;cases rx
  cases ry
  obtain ⟨z,its,n,r,hl,e⟩:=I.lstM hH;obtain ⟨z2,its2,n2,r2,hl2,e2⟩:=I.lstM hB;refine PySem.P.add_list e e2 ?_ (by rw[bP,bP];lia);have ea:its.toArray++its2.toArray=(its++its2).toArray:=by simp
  rw[ea];exact #[.ref _,_,I.lnew (t':=s.toks) (r.append r2) (by rw[bB];lia),rfl,q _ I.fresh]
end
section
variable {κ:Type}[DecidableEq κ]
def valV (kvs:List (κ×V))(k:κ):Option V:=(kvs.find? λkv=>decide (kv.1=k)).map (·.2)
def putK (kvs:List (κ×V))(k:κ)(v:V):List (κ×V):=
  if (kvs.any λkv=>decide (kv.1=k))=true then kvs.map (λkv=>if kv.1=k then (kv.1,v) else kv) else kvs++[(k,v)]
def hZ {p:κ×V}{r:List (κ×V)}{k:κ}(e:p.1=k):valV (p::r) k=some p.2:=by simp[valV,jC,e]
def eV {p:κ×V}{r:List (κ×V)}{k:κ}(e:¬ p.1=k):valV (p::r) k=valV r k:=by simp[valV,jC,e]
def uv (k:κ):∀ kvs:List (κ×V),(kvs.any λkv=>decide (kv.1=k))=(valV kvs k).isSome
  | []=>rfl
  | p::r=>by
    rw[fI];by_cases e:p.1=k
    · simp only[hZ e,aU e,Bool.true_or,Option.isSome_some]
    · rw[eV e,bH e,Bool.false_or];exact uv k r
def oy (kvs:List (κ×V))(k:κ)(v:V):(putK kvs k v).length<=kvs.length+1:=by
  unfold putK;split
  · rw[af];lia
  · rw[bB,dH,iV];lia
def lZ {kvs:List (κ×V)}{k:κ}(v:V)(h:valV kvs k=none):putK kvs k v=kvs++[(k,v)]:=by
  unfold putK;rw[uv,h];exact az (by decide)
def RelO.isSome_eq {o:Option V}{u:Option Value}(r:RelO o u):o.isSome=u.isSome:=by
  cases o with
  | none=>cases u with
    | none=>rfl
    | some _=>exact (show False from r).elim
  | some _=>cases u with
    | none=>exact (show False from r).elim
    | some _=>rfl
def RelO.getD {o:Option V}{u:Option Value}{d:V}{d':Value}(r:RelO o u)(rd:RelV d d'):RelV (o.getD d) (u.getD d'):=by
  cases o with
  | none=>cases u with
    | none=>exact rd
    | some _=>exact (show False from r).elim
  | some _=>cases u with
    | none=>exact (show False from r).elim
    | some _=>exact r
def KV.val {kvs:List (κ×V)}{vs:List (κ×Value)}(r:KV kvs vs)(k:κ):RelO (valV kvs k) (valueAt vs k):=by
  unfold KV at r
  induction r with
  | nil=>exact True.intro
  | @cons p q ps qs h t ih=>
    obtain ⟨h1,h2⟩:=h;by_cases e:p.1=k
    · have e':q.1=k:=h1.symm.trans e
      have b:valueAt (q::qs) k=some q.2:=by simp[valueAt,jC,e']
      rw[hZ e,b];exact h2
    · have e':¬ q.1=k:=λz=>e (h1.trans z)
      have b:valueAt (q::qs) k=valueAt qs k:=by simp[valueAt,jC,e']
      rw[eV e,b];exact ih
def KV.any {kvs:List (κ×V)}{vs:List (κ×Value)}(r:KV kvs vs)(k:κ):(kvs.any λkv=>decide (kv.1=k))=vs.any λkv=>decide (kv.1=k):=by
  unfold KV at r
  induction r with
  | nil=>rfl
  | cons h t ih=>rw[fI,fI,ih,h.1]
def KV.repl {kvs:List (κ×V)}{vs:List (κ×Value)}(r:KV kvs vs)(k:κ){y:V}{u:Value}(ry:RelV y u) :
    KV (kvs.map λkv=>if kv.1=k then (kv.1,y) else kv) (vs.map λkv=>if kv.1=k then (kv.1,u) else kv):=by
  unfold KV at r ⊢
  induction r with
  | nil=>exact .nil
  | @cons p q ps qs h t ih=>
    rw[bK,bK];refine .cons ?_ ih;obtain ⟨h1,h2⟩:=h;by_cases e:p.1=k
    · rw[ar e,ar (h1.symm.trans e)];exact #[h1,ry]
    · rw[az e,az (λz=>e (h1.trans z))];exact #[h1,h2]
def KV.put {kvs:List (κ×V)}{vs:List (κ×Value)}(r:KV kvs vs)(k:κ){y:V}{u:Value}(ry:RelV y u):KV (putK kvs k y) (stored vs k u):=by
  unfold putK stored;rw[r.any k];by_cases e:(vs.any λkv=>decide (kv.1=k))=true
  · rw[ar e,ar e];exact r.repl k ry
  · rw[az e,az e];exact Paired.snoc r #[rfl,ry]
def KV.length {kvs:List (κ×V)}{vs:List (κ×Value)}(r:KV kvs vs):kvs.length=vs.length:=Paired.length r
end
def jV {k:Key}{u:Value}(r:RelV (kV k) u):(cb P w).is k u=true:=by
  cases k with
  | inl i=>obtain ⟨t,e⟩:=(show ∃ t,u=Value.int i t from r);subst e;exact ES P w i t
  | inr x=>obtain ⟨t,e⟩:=(show ∃ t,u=Value.str x t from r);subst e;exact ET P w x t
def AB :∀{ks:List Key} {us:List Value},Vals (ks.map kV) us->ItemsAre (cb P w) ks us
  | [],_,r=>by rw[gR]at r;cases r;exact .nil
  | k::ks,_,r=>by
    rw[bK]at r;cases r with
    | cons h t=>exact .cons (jV h) (AB t)
abbrev KT (H:Hp):List (List Key×V)->List (List Key×Addr×Value)->Prop:=Paired λp q=>p.1=q.1/\H q.2.1=some (.tup (p.1.map kV))/\RelV p.2 q.2.2
def KT.val {kvs:List (List Key×V)}{xs:List (List Key×Addr×Value)}(r:KT H kvs xs)(k:List Key):RelO (valV kvs k) ((atKey xs k).map (·.2)):=by
  induction r with
  | nil=>exact True.intro
  | @cons p q ps qs h t ih=>
    obtain ⟨h1,_,h2⟩:=h;by_cases e:p.1=k
    · have e':q.1=k:=h1.symm.trans e
      have b:atKey (q::qs) k=some q.2:=by simp[atKey,jC,e']
      rw[hZ e,b];exact h2
    · have e':¬ q.1=k:=λz=>e (h1.trans z)
      have b:atKey (q::qs) k=atKey qs k:=by simp[atKey,jC,e']
      rw[eV e,b];exact ih
def KT.repl {kvs:List (List Key×V)}{xs:List (List Key×Addr×Value)}(r:KT H kvs xs)(k:List Key){y:V}{u:Value}(ry:RelV y u) :
    KT H (kvs.map λkv=>if kv.1=k then (kv.1,y) else kv) (xs.map (putAt k u)):=by
  induction r with
  | nil=>exact .nil
  | @cons p q ps qs h t ih=>
    rw[bK,bK];refine .cons ?_ ih;obtain ⟨h1,h2,h3⟩:=h;unfold putAt;by_cases e:p.1=k
    · rw[ar e,ar (h1.symm.trans e)];exact #[h1,h2,ry]
    · rw[az e,az (λz=>e (h1.trans z))];exact #[h1,h2,h3]
def KT.put {kvs:List (List Key×V)}{xs:List (List Key×Addr×Value)}(r:KT H kvs xs)(k:List Key){b:Addr}{y:V}{u:Value}(hb:H b=some (.tup (k.map kV)))(ry:RelV y u) :
    KT H (putK kvs k y) (storedH xs k b u):=by
  have e:(kvs.any λkv=>decide (kv.1=k))=(atKey xs k).isSome:=by
    rw[uv,(r.val k).isSome_eq,Option.isSome_map]
  unfold putK storedH;rw[e];by_cases q:(atKey xs k).isSome=true
  · rw[ar q,ar q];exact r.repl k ry
  · rw[az q,az q];exact Paired.snoc r #[rfl,hb,ry]
def KT.keeps {H':Hp}{kvs:List (List Key×V)}{xs:List (List Key×Addr×Value)}(r:KT H kvs xs)(ht:∀ b ys,H b=some (.tup ys)->H' b=some (.tup ys)):KT H' kvs xs:=
  Paired.mapP r λ_ _ z=>#[z.1,ht _ _ z.2.1,z.2.2]
section
variable {P:Program}{w:World}{H:Hp}{h:Heap}{a:Addr}
def AC (ok:HOk P w H h)(e:Rd H a u):bU P w H h a u:=e.ok ok
def l4 {kvs:List (Key×V)}(ok:HOk P w H h)(e:Rd H a (.dK kvs)):kvs.length<=sizeLine/\(a==sysModules)=false/\∃ vs,KV kvs vs/\h.DictOf (cb P w) a vs:=
  show bU P w H h a (.dK kvs) from AC ok e
def uw {kvs:List (Key×V)}(ok:HOk P w H h)(e:H a=some (.dK kvs)):kvs.length<=sizeLine/\(a==sysModules)=false/\∃ vs,KV kvs vs/\h.DictOf (cb P w) a vs:=l4 ok (.inl e)
def oz {ks:List Key}(ok:HOk P w H h)(e:H a=some (.tup (ks.map kV))):(tupleKind (cb P w)).is h ks a:=by
  obtain ⟨_,its,r,o,h1,h2,n,h3⟩:=(show bU P w H h a (.tup (ks.map kV)) from ok a _ e);exact #[o,its.toArray,n,h1,h2,h3,by simpa using AB r]
def l5 {kvs:List (List Key×V)}(ok:HOk P w H h)(e:Rd H a (.dT kvs)):kvs.length<=sizeLine/\(a==sysModules)=false/\
    ∃ xs,KT H kvs xs/\h.DictOfH (tupleKind (cb P w)) a xs:=by
  obtain ⟨z,y,xs,r,o,es,ep,h1,h2,h3,h4,h5⟩:=(show bU P w H h a (.dT kvs) from AC ok e);refine #[z,y,xs,r,o,es,ep,h1,h2,h3,h4,λx hx=>?_,h5];have all:∀{l:List (List Key×V)} {m:List (List Key×Addr×Value)},KT H l m->∀ x∈m,(tupleKind (cb P w)).is h x.1 x.2.1:=by
    intro l m q
    induction q with
    | nil=>intro x hx;exact nomatch hx
    | @cons p q ps qs hq t ih=>
      intro x hx;rcases bq.mp hx with e|hx
      · subst e
        exact oz ok (by rw[<-hq.1];exact hq.2.1)
      · exact ih x hx
  exact all r x hx
def FR {kvs:List (List Key×V)}(ok:HOk P w H h)(e:H a=some (.dT kvs)):kvs.length<=sizeLine/\(a==sysModules)=false/\
    ∃ xs,KT H kvs xs/\h.DictOfH (tupleKind (cb P w)) a xs:=l5 ok (.inl e)
end
def DGet (H:Hp)(a:Addr)(y:V)(r:Option V):Prop:=
  (∃ kvs k,Rd H a (.dK kvs)/\y=kV k/\r=valV kvs k)\/∃ kvs k b,Rd H a (.dT kvs)/\y=.ref b/\H b=some (.tup (k.map kV))/\r=valV kvs k
def DPut (H:Hp)(a:Addr)(y v:V)(H':Hp):Prop:=
  (∃ kvs k,H a=some (.dK kvs)/\y=kV k/\kvs.length<sizeLine/\H'=upd H a (.dK (putK kvs k v)))\/
  ∃ kvs k b,H a=some (.dT kvs)/\y=.ref b/\H b=some (.tup (k.map kV))/\kvs.length<sizeLine/\H'=upd H a (.dT (putK kvs k v))
def DGet.k {H:Hp}{a:Addr}{kvs:List (Key×V)}{k:Key}(e:H a=some (.dK kvs)):DGet H a (kV k) (valV kvs k):=.inl #[kvs,k,.inl e,rfl,rfl]
def DGet.t {H:Hp}{a b:Addr}{kvs:List (List Key×V)}{k:List Key}(e:H a=some (.dT kvs))(eb:H b=some (.tup (k.map kV))):DGet H a (.ref b) (valV kvs k):=.inr #[kvs,k,b,.inl e,rfl,eb,rfl]
def DPut.k {H:Hp}{a:Addr}{kvs:List (Key×V)}{k:Key}(e:H a=some (.dK kvs))(hl:kvs.length<sizeLine):DPut H a (kV k) v (upd H a (.dK (putK kvs k v))):=.inl #[kvs,k,e,rfl,hl,rfl]
def DPut.t {H:Hp}{a b:Addr}{kvs:List (List Key×V)}{k:List Key}(e:H a=some (.dT kvs))(eb:H b=some (.tup (k.map kV)))(hl:kvs.length<sizeLine) :
    DPut H a (.ref b) v (upd H a (.dT (putK kvs k v))):=.inr #[kvs,k,b,e,rfl,eb,hl,rfl]
section
variable {X:Cx}{OG:List (Addr×Obj)}{U:St}{H:Hp}{s:Shared}{a:Addr}{y v:V}{u r:Value}{o:Option V}{A:Around}{E:Value->Shared->Prop}
def Inv.big (I:Inv X OG U H s):sysModules<s.heap.objs.size:=by
  have h:mainGlobals<s.heap.objs.size:=(I.mod.glob.keeps I.bk).lt;exact Nat.lt_trans (by decide) h
def FS {Q:Value->Shared->Prop}(hu:A.units+1<cLine)(I:Inv X OG U H s)(g:DGet H a y (some v))(ry:RelV y u)(h:∀ w' s',Inv X OG U H s'->RelV v w'->Q w' s') :
    wpAny (model X.prog X.w) A (getItem (.ref a) u) Q E s:=by
  rcases g with ⟨kvs,k,e,ey,l⟩|⟨kvs,k,b,e,ey,eb,l⟩
  · subst ey
    obtain ⟨z,hd,vs,rel,dd⟩:=l4 I.hok e;obtain ⟨w',hw,rw'⟩:=RelO.some_of (v:=v) (o:=valueAt vs k) (by rw[l];exact rel.val k);exact wpAny_getItem_of (jV ry) dd.mapOf hw (h w' _ (I.tok _) rw')
  · subst ey
    cases (show u=Value.ref b from ry)
    obtain ⟨z,hd,xs,rel,dd⟩:=l5 I.hok e;obtain ⟨w',hw,rw'⟩:=RelO.some_of (v:=v) (o:=(atKey xs k).map (·.2)) (by rw[l];exact rel.val k);obtain ⟨p,hp,hp2⟩:=cI.mp hw;refine wpAny_getItem_heap (tupleKind_room_in1 hu) (oz I.hok eb) dd hp ?_;rw[hp2];exact h w' _ (I.tok _) rw'
def ux {h':Heap}{t':Nat}(I:Inv X OG U H s)(mu:Mut (H a))(hs:Heap.SameBut a s.heap h')(he:∃ q,h'.get? a=some q)(new:bU X.prog X.w (upd H a ob) h' a ob) :
    Inv X OG U (upd H a ob) { s with heap:=h',toks:=t' }:=
  I.write (x:=a) (e:=a) mu (.inl rfl) (λb q hb z=>(hs.2 b hb).trans z) he new
def AE {h':Heap}{kvs:List (Key×V)}{vs:List (Key×Value)}(z:kvs.length<=sizeLine)(hd:(a==sysModules)=false)(rel:KV kvs vs)(dd:h'.DictOf (cb P w) a vs) :
    bU P w H' h' a (.dK kvs):=#[z,hd,vs,rel,dd]
def FT {Q:Unit->Shared->Prop}(hu:A.units+1<cLine)(I:Inv X OG U H s)(g:DPut H a y v H')(ry:RelV y u)(rv:RelV v r)(h:∀ s',Inv X OG U H' s'->Q () s') :
    wpAny (model X.prog X.w) A (setItem (.ref a) u r) Q E s:=by
  rcases g with ⟨kvs,k,e,ey,l,eH⟩|⟨kvs,k,b,e,ey,eb,l,eH⟩
  · subst ey eH
    obtain ⟨z,hd,vs,rel,dd⟩:=uw I.hok e;have hz:vs.length<=sizeLine:=by rw[<-rel.length];exact z
    have hl:(putK kvs k v).length<=sizeLine:=by have:=oy kvs k v;lia
    refine wpAny_setItem_pairs (hsz:=hz) (jV ry) dd λh' dd' hs=>h _ ?_;have he:∃ q,h'.get? a=some q:=let ⟨q,_,_,hq,_⟩:=dd';#[q,hq];exact ux I (by rw[e];exact True.intro) hs he (AE hl hd (rel.put k rv) dd')
  · subst ey eH
    cases (show u=Value.ref b from ry)
    obtain ⟨z,hd,xs,rel,dd⟩:=FR I.hok e;have hz:xs.length<=sizeLine:=by rw[<-Paired.length rel];exact z
    have hl:(putK kvs k v).length<=sizeLine:=by have:=oy kvs k v;lia
    refine wpAny_setItem_heap (hsz:=hz) (tupleKind_room_in1 hu) (oz I.hok eb) dd λh' dd' hs=>h _ ?_;obtain ⟨q,es,ep,hq,h2,h3,h4,_,h5⟩:=dd';refine ux I (by rw[e];exact True.intro) hs #[q,hq] #[hl,hd,_,(rel.put k eb rv).keeps λc ys ec=>?_,q,es,ep,hq,h2,h3,h4,h5];rw[ak (zE ec e nofun)];exact ec
end
def NoSl (i:Expr):Prop:=∀ ov iv,subscripted i false ov iv=operate [ov,iv] (getItem ov iv)
def FU {prog:Program}{w:World}{A:Around}{E:Value->Shared->Prop}{s:Shared}{env:Env}{value:Expr}{pos:Pos}{T id:String}{Q:Value->Shared->Prop}
    (hl:typeLookup (.type T) "__getitem__" = pure (some (.builtin id))) (hs:NoSl slice)
    (h:wpAny (model prog w) A (eval value env) (λo s₁=>wpAny (model prog w) A (eval slice env) (λi s₂=>s₂.TypeIs o T/\wpAny (model prog w) A (getItem o i) Q E s₂) E s₁) E s) :
    wpAny (model prog w) A (eval (.Subscript value slice pos) env) Q E s:=by
  refine Subscript_ (dX h (λo s₁ h₁=>dX h₁ (λi s₂ h₂=>?_) λ_ _ x=>x) λ_ _ x=>x);obtain ⟨hT,h₂⟩:=h₂;unfold subscriptTail;refine aA ?_;rw[getitemInPython_of_ne hT.not_modules];refine aA (wpAny_specialOf hT hl ?_);have fin:wpAny (model prog w) A (subscripted slice false o i) (λr s₃=>wpAny (model prog w) A (letTemporaryGo value o r >>= λ_=>pure r) Q E s₃) E s₂:=by
    rw[hs o i];exact wpAny_operating (dX h₂ (λr s₃ h₃=>aA (wpAny_letTemporaryGo (bg h₃))) λ_ _ x=>x)
  first
    | exact bg (aA fin)
    | exact aA (bg (aA fin))
    | exact aA fin
def FW {a:Addr}(I:Inv X OG U H s)(g:DGet H a y o):s.TypeIs (.ref a) "dict":=by
  rcases g with ⟨kvs,k,e,_,_⟩|⟨kvs,k,b,e,_,_,_⟩
  · obtain ⟨_,_,vs,_,dd⟩:=l4 I.hok e
    exact dd.typeIs
  · obtain ⟨_,_,xs,_,dd⟩:=l5 I.hok e
    exact dd.typeIs
inductive AG (Q:VK)(x:V)(y:V)(H2:Hp):Prop
  | c:∀ a v,x=.ref a->DGet H2 a y (some v)->Q v H2->AG Q x y H2
def FX (td ty:TE):TE:=λU H Q=>td U H λx H1=>ty U H1 λy H2=>AG Q x y H2
inductive AH (D:Ends)(U:St)(v:V)(x:V)(y:V)(H3:Hp):Prop
  | c:∀ a H4,x=.ref a->DPut H3 a y v H4->D.nx U H4->AH D U v x y H3
def FY (td ty tv:TE):TS:=λD U H=>tv U H λv H1=>td U H1 λx H2=>ty U H2 λy H3=>AH D U v x y H3
section
variable {X:Cx}{o i e value:Expr}{pos pos' tpos:Pos}{td ty tv:TE}
def gF (hu:X.A.units+1<cLine)(ho:PE X o td)(hi:PE X i ty)(hs:NoSl i):PE X (.Subscript o i pos) (FX td ty):=by
  intro OG s U H Q I h;refine FU PySem.F.slot_dict_getitem.lookup hs (thn (ho OG s U H _ I h) λu s1 zq0=>?_);obtain ⟨x,H1,I1,rx,q1⟩:=zq0;refine thn (hi OG s1 U H1 _ I1 q1) λiv s2 zq1=>?_;obtain ⟨y,H2,I2,ry,a,v,ex,g,q2⟩:=zq1;subst ex;obtain rfl:u=Value.ref a:=rx;exact #[FW I2 g,FS hu I2 g ry λw' s3 I3 rw'=>#[v,H2,I3,rw',q2]]
def jW (hu:X.A.units+1<cLine)(ho:PE X o td)(hi:PE X i ty)(hv:PE X value tv)(hs:swapsWith value (some (.Subscript o i pos')) pos.line X.env=pure false) :
    PS X (.Assign [.Subscript o i pos'] value pos) (FY td ty tv):=by
  intro OG s U H D I h;refine wpAny_Assign_Subscript (thn (hv OG s U H _ I h) λr s1 zq0=>?_) hs;obtain ⟨v,H1,I1,rv,q1⟩:=zq0;refine thn (ho OG s1 U H1 _ I1 q1) λu s2 zq1=>?_;obtain ⟨x,H2,I2,rx,q2⟩:=zq1;refine thn (hi OG s2 U H2 _ I2 q2) λiv s3 zq2=>?_;obtain ⟨y,H3,I3,ry,a,H4,ex,g,q3⟩:=zq2;subst ex;obtain rfl:u=Value.ref a:=rx;exact FT hu I3 g ry rv λs4 I4=>#[U,H4,I4,q3]
end
def AI (h:Heap)(hb:sysModules<h.objs.size):bU P w H (h.push { cls:=.type "dict",data:=.dict (List.toArray []) }) h.objs.size (.dK []):=
  #[cS _,beq_eq_false_iff_ne.mpr (bE (bX hb)),[],.nil,Heap.DictOf.new h]
def FZ (h:Heap)(hb:sysModules<h.objs.size):bU P w H (h.push { cls:=.type "dict",data:=.dict (List.toArray []) }) h.objs.size (.dT []):=
  #[cS _,beq_eq_false_iff_ne.mpr (bE (bX hb)),[],.nil,_,(List.toArray []),0,cV _ rfl,#[rfl,rfl,rfl],rfl,rfl,jD]
def F0:TE:=λ_ H Q=>∀ p,H p=none->Q (.ref p) (upd H p (.dK []))
def F9:TE:=λ_ H Q=>∀ p,H p=none->Q (.ref p) (upd H p (.dT []))
section
variable {X:Cx}{pos:Pos}
def AJ:PE X (.Dict [] [] pos) F0:=λOG s U H Q I h=>
  wpAny_Dict_empty #[.ref s.heap.objs.size,_,I.laid (a:=s.heap.objs.size) (o:=.dK []) (t':=s.toks) (λ_ _ q=>bD _ q) (av _) (AI s.heap I.big),rfl,h _ (I.hok.fresh (av _))]
def Ga:PE X (.Dict [] [] pos) F9:=λOG s U H Q I h=>
  wpAny_Dict_empty #[.ref s.heap.objs.size,_,I.laid (a:=s.heap.objs.size) (o:=.dT []) (t':=s.toks) (λ_ _ q=>bD _ q) (av _) (FZ s.heap I.big),rfl,h _ (I.hok.fresh (av _))]
end
def uy:List (TE×TE)->St->Hp->(List (V×V)->Hp->Prop)->Prop
  | [],_,H,Q=>Q [] H
  | (tk,tv)::r,U,H,Q=>tk U H λx H1=>tv U H1 λy H2=>uy r U H2 λps H3=>Q ((x,y)::ps) H3
abbrev VV:List (V×V)->List (Value×Value)->Prop:=Paired λp q=>RelV p.1 q.1/\RelV p.2 q.2
def PPs (X:Cx)(pos:Pos)(keys:List (Option Expr))(values:List Expr)(trs:List (TE×TE)):Prop:=
  ∀(OG:List (Addr×Obj)) (s:Shared) (U:St) (H:Hp) (Q:List (V×V)->Hp->Prop),Inv X OG U H s->uy trs U H Q->
    wpAny (model X.prog X.w) X.A (evalPairs (pairTrees keys values X.env pos)) (λvs s'=>∃ ps H',Inv X OG U H' s'/\VV ps vs/\Q ps H') X.xe s
def Gb :PPs X pos [] [] []:=λOG s U H Q I h=>pairTrees_nil_walk #[[],H,I,.nil,h]
def uz {k:Expr}(hk:PE X k tk)(hv:PE X v tv)(hr:PPs X pos ks vs trs) :
    PPs X pos (some k::ks) (v::vs) ((tk,tv)::trs):=λOG s U H Q I h=>
  pairTrees_cons_walk (thn (hk OG s U H _ I h) λu s1 ⟨x,H1,I1,rx,q1⟩=>thn (hv OG s1 U H1 _ I1 q1) λw2 s2 ⟨y,H2,I2,ry,q2⟩=>
    thn (hr OG s2 U H2 _ I2 q2) λws s3 ⟨ps,H3,I3,rel,q3⟩=>#[(x,y)::ps,H3,I3,.cons #[rx,ry] rel,q3])
def ie (kvs more:List (Key×V)):List (Key×V):=more.foldl (λacc kv=>putK acc kv.1 kv.2) kvs
def KV.merge:∀{more:List (Key×V)} {rs:List (Key×Value)} {kvs:List (Key×V)} {vs:List (Key×Value)},KV more rs->KV kvs vs->KV (ie kvs more) (merged vs rs):=by
  intro more rs kvs vs r;unfold KV at r
  induction r generalizing kvs vs with
  | nil=>intro q;exact q
  | @cons p q ps qs h t ih=>
    intro r0;have e:KV (putK kvs p.1 p.2) (stored vs q.1 q.2):=by
      have:=r0.put p.1 h.2;rw[<-h.1];exact this
    exact ih e
def AK:∀(more kvs:List (Key×V)),(ie kvs more).length<=kvs.length+more.length
  | [],kvs=>by show kvs.length<=kvs.length+0;lia
  | p::r,kvs=>by
    have h1:=AK r (putK kvs p.1 p.2);have h2:=oy kvs p.1 p.2;show (ie (putK kvs p.1 p.2) r).length<=_;rw[dH];lia
def AL :∀{kvs:List (Key×V)} {ws:List (Value×Value)},VV (kvs.map λkv=>(kV kv.1,kv.2)) ws->∃ rs,Carries (cb P w) ws rs/\KV kvs rs
  | [],_,r=>by rw[gR]at r;cases r;exact #[[],True.intro,.nil]
  | p::kvs,_,r=>by
    rw[bK]at r;cases r with
    | @cons a b as bs h t=>
      obtain ⟨rs,c,q⟩:=AL (P:=P) (w:=w) t;obtain ⟨b1,b2⟩:=b;exact #[(p.1,b2)::rs,#[jV h.1,rfl,c],.cons #[rfl,h.2] q]
def Gc (trs:List (TE×TE)):TE:=λU H Q=>∀ p,H p=none->uy trs U (upd H p (.dK [])) λps H2=>H2 p=some (.dK [])/\∃ kvs:List (Key×V),ps=kvs.map (λkv=>(kV kv.1,kv.2))/\kvs.length<=15/\Q (.ref p) (upd H2 p (.dK (ie [] kvs)))
def Gd (h:PPs X pos keys values trs)(hall:keys.all (·.isSome)=true)(hl:keys.length=values.length)(h0:keys≠[])
    (h15:keys.length<=15):PE X (.Dict keys values pos) (Gc trs):=by
  intro OG s U H Q I q;have hn:=I.hok.fresh (av s.heap.objs.size);have I1:=I.laid (a:=s.heap.objs.size) (o:=.dK []) (h':=s.heap.push { cls:=.type "dict",data:=.dict (List.toArray []) }) (t':=s.toks) (λ_ _ q=>bD _ q) (av _) (AI s.heap I.big);refine wpAny_Dict_walk (knd:=cb X.prog X.w) hall hl h0 h15 (thn (h OG _ U _ _ I1 (q _ hn)) λws s2 zq0=>?_);obtain ⟨ps,H2,I2,rel,e,kvs,ep,lk,q2⟩:=zq0;subst ep;obtain ⟨rs,c,rk⟩:=AL (P:=X.prog) (w:=X.w) rel;obtain ⟨z,hd,vs0,r0,dd⟩:=uw I2.hok e;cases r0
  refine #[rs,c,dd,λh' dd' hs=>#[.ref s.heap.objs.size,_,?_,rfl,q2]];have hz:(ie [] kvs).length<=sizeLine:=by
    have h1:=AK kvs [];rw[iV]at h1;rw[sizeLine_eq];lia
  have he:∃ q,h'.get? s.heap.objs.size=some q:=let ⟨q,_,_,hq,_⟩:=dd';#[q,hq];exact ux I2 (by rw[e];exact True.intro) hs he (AE hz hd (rk.merge .nil) dd')
structure M1 (X:Cx)(o:Expr)(m:Str)(apos:Pos)(e:Expr)(cpos:Pos):Prop where
  base:attributeBase o m X.env (eval o X.env)=eval o X.env
  few:((backTo cpos (starEach [e] X.env)).all (λx=>!x.1) && (backToKw cpos (keywordEach [] X.env)).all (λx=>x.1.isSome)
    && decide (([e]:List Expr).length+([]:List Keyword).length+(if ([]:List Keyword).isEmpty then 0 else 1)<30))=true
  line:(apos.endLine==cpos.line)=true
  trees:backTo cpos (starEach [e] X.env)=[(false,eval e X.env)]
structure M2 (X:Cx)(o:Expr)(m:Str)(apos:Pos)(e f:Expr)(cpos:Pos):Prop where
  base:attributeBase o m X.env (eval o X.env)=eval o X.env
  few:((backTo cpos (starEach [e,f] X.env)).all (λx=>!x.1) && (backToKw cpos (keywordEach [] X.env)).all (λx=>x.1.isSome)
    && decide (([e,f]:List Expr).length+([]:List Keyword).length+(if ([]:List Keyword).isEmpty then 0 else 1)<30))=true
  line:(apos.endLine==cpos.line)=true
  trees:backTo cpos (starEach [e,f] X.env)=[(false,eval e X.env),(false,eval f X.env)]
def IsD (H:Hp)(a:Addr):Prop:=(∃ kvs,Rd H a (.dK kvs))\/∃ kvs,Rd H a (.dT kvs)
def Ge {a:Addr}(I:Inv X OG U H s)(d:IsD H a) :
    s.TypeIs (.ref a) "dict"/\(∀ b,Value.ref a=.ref b->∃ ob,s.heap.get? b=some ob/\ob.dict=none)/\(a==sysModules)=false:=by
  rcases d with ⟨kvs,e⟩|⟨kvs,e⟩
  · obtain ⟨_,hd,vs,_,dd⟩:=l4 I.hok e
    refine #[dd.typeIs,λb q=>?_,hd];cases q
    obtain ⟨ob,_,_,h1,h2,_⟩:=dd;exact #[ob,h1,h2.2.1]
  · obtain ⟨_,hd,xs,_,dd⟩:=l5 I.hok e
    refine #[dd.typeIs,λb q=>?_,hd];cases q
    obtain ⟨ob,_,_,h1,h2,_⟩:=dd;exact #[ob,h1,h2.2.1]
section
variable {X:Cx}{OG:List (Addr×Obj)}{U:St}{H:Hp}{s:Shared}{a:Addr}{y d:V}{u r:Value}{o:Option V}{A:Around}{E:Value->Shared->Prop}
def Gf {Q:Value->Shared->Prop}(hu:A.units+1<cLine)(I:Inv X OG U H s)(g:DGet H a y o)(ry:RelV y u)(rd:RelV d r)(h:∀ w' s',Inv X OG U H s'->RelV (o.getD d) w'->Q w' s') :
    wpAny (model X.prog X.w) A (call (.builtin "dict.get") [.ref a,u,r]) Q E s:=by
  rcases g with ⟨kvs,k,e,ey,l⟩|⟨kvs,k,b,e,ey,eb,l⟩
  · subst ey
    obtain ⟨z,hd,vs,rel,dd⟩:=l4 I.hok e;refine call_meetsIn PySem.F.slot_dict_get dd.typeIs PySem.F.entry_dict_get (PySem.F.args_dict_get_3 _ _ _) (meets_dict_get_default (cb X.prog X.w) a (jV ry) hd r) #[_,dd.mapOf,h _ _ (I.tok _) ?_];rw[l];exact (rel.val k).getD rd
  · subst ey
    cases (show u=Value.ref b from ry)
    obtain ⟨z,hd,xs,rel,dd⟩:=l5 I.hok e;refine call_meetsIn PySem.F.slot_dict_get dd.typeIs PySem.F.entry_dict_get (PySem.F.args_dict_get_3 _ _ _) (meetsH_dict_get_default (tupleKind (cb X.prog X.w)) a b hd r) #[tupleKind_room_in1 hu,k,xs,oz I.hok eb,dd,h _ _ (I.tok _) ?_];rw[l];exact (rel.val k).getD rd
end
inductive AM (ty:TE)(tx:TE)(U:St)(Q:VK)(x:V)(H1:Hp):Prop
  | c:∀ a,x=.ref a->IsD H1 a->(ty U H1 λy H2=>tx U H2 λz H3=>∃ o,DGet H3 a y o/\Q (o.getD z) H3)->AM ty tx U Q x H1
def Gg (td ty tx:TE):TE:=λU H Q=>td U H λx H1=>AM ty tx U Q x H1
section
variable {X:Cx}{o e f:Expr}{apos cpos:Pos}{td ty tx:TE}
def Gh (hu:X.A.units+1<cLine)(ho:PE X o td)(he:PE X e ty)(hf:PE X f tx)(m:M2 X o "get" apos e f cpos):PE X (.Call (.Attribute o "get" apos) [e,f] [] cpos) (Gg td ty tx):=by
  intro OG s U H Q I h;refine wpAny_Call_method m.base m.few m.line PySem.F.plainAttrs_dict PySem.F.slot_dict_get PySem.F.type_dict_get (thn (ho OG s U H _ I h) λu s1 zq0=>?_);obtain ⟨x,H1,I1,rx,a,ex,d,q1⟩:=zq0;subst ex;obtain rfl:u=Value.ref a:=rx;obtain ⟨t1,t2,_⟩:=Ge I1 d;refine #[t1,t2,?_];rw[m.trees];refine Calls.callWith_builtin rfl (Calls.evalArgs_plain (Calls.spliced_cons (thn (he OG s1 U H1 _ I1 q1) λiv s2 ⟨y,H2,I2,ry,q2⟩=>
    Calls.spliced_cons (thn (hf OG s2 U H2 _ I2 q2) λfv s3 ⟨z,H3,I3,rz,ov,g,q3⟩=>Calls.spliced_nil ?_))))
  exact Gf hu I3 g ry rz λw' s4 I4 rw'=>#[_,H3,I4,rw',q3]
end
end L2
namespace Att
open PySem PySem.W PySem.Calls PyProof.Rows
def Gi {P:Params}{h:Heap}:∀(ns:List Int) (vs:List Value),WellAll P h vs (ns.map WData.int)->IntsAre vs ns:=by
  intro ns
  induction ns with
  | nil=>
    intro vs w;rw[gR]at w;cases w
    exact .nil
  | cons n ns ih=>
    intro vs w;rw[bK]at w;cases w with
    | cons a b=>
      cases a
      exact .cons _ _ (ih _ b)
def Gj {l:OpenLaw}{n:Nat}(hn:l.most=some n){P:Params}{h:Heap}{args:List WData}{vals:List Value}
    (hpre:l.row.toRowW.claim.pre args=true) (hwl:WellAll P h vals args) :
    ∃ a vs ns,vals=[Value.ref a]/\args=[WData.list (ns.map WData.int)]/\h.get? a=some { cls:=.type "list",data:=.seq vs.toArray }/\IntsAre vs ns/\ns.length<=n:=by
  have hsh:WShape.hasAll [] args [.list .int]=true:=(pre_splitW hpre).1;have hc:l.pre.holds [] { args:=args }=true:=(pre_splitW hpre).2;obtain ⟨d,r,rfl,h1,h2⟩:=hasAllW_cons hsh;obtain rfl:=hasAllW_nil h2;obtain ⟨xs,rfl,h3⟩:=hasW_list h1;obtain ⟨ns,rfl⟩:=items_int h3;have hlen:ns.length<=n:=by
    unfold OpenLaw.pre at hc;have h4:(WTm.not (.lt (.lit (.int (n:Int))) (.len (.arg 0)))).holds [] { args:=[.list (ns.map .int)] }=true:=by
      have h4:=(holds_andW hc).1;rw[hn]at h4;exact h4
    have h5:=condW_of h4 (w_not (w_lt w_lit (w_len_list (w_arg rfl))));rw[af]at h5;refine iW λq=>?_;have q':(n:Int)<((ns.length:Nat):Int):=by lia
    first
      | (rw[aU q']at h5;exact absurd h5 (by decide))
      | (simp at h5;lia)
  cases hwl with
  | cons w1 w2=>
    cases w2
    cases w1 with
    | list ho hall=>exact #[_,_,ns,rfl,rfl,ho,Gi ns _ hall,hlen]
def Gk (l:OpenLaw)(args:List WData):l.row.toRowW.claim.post args (.bool true) args=true:=
  postW_of (r:=l.row.toRowW) (X:=(true==true))
    (show WShape.has [] (.bool true) .bool=true by first|rfl|decide|simp[WShape.has,WShape.arms,WShape.armsAll])
    (show (WTm.eq .res (.lit (.bool true))).value [] { args:=args,res:=some (.bool true),after:=args }=some (.bool (true==true)) from w_eq_bool (w_res rfl) w_lit) rfl
def attach_call {l:OpenLaw}{n:Nat}{q:Program}{loose:List Str}{XP:(Str->Option Value)->Heap->Prop}{YP:World->Heap->Prop}{d:DefRec}
    (hn:l.most=some n) (hdf:d.params.defaults=[])
    (call:∀(w:World) (s₀ s₁:Shared) (mg mb:Str->Option Value) (fa:Addr) (o:Obj) (pm cd doc:Value) (a:Addr) (vs:List Value) (ns:List Int),
      Ground q loose [] XP w s₀ mg mb s₁.heap->YP w s₁.heap->
      s₁.heap.get? fa=some o->o.data=.func (docDef d.name d.params d.body d.scope pm cd doc)->s₁.heap.CodeRec cd d.name->mg d.name=some (.ref fa)->
      s₁.heap.get? a=some { cls:=.type "list",data:=.seq vs.toArray }->IntsAre vs ns->ns.length<=n->s₁.gens=(List.toArray [])->
      codeAny (model l.prog w) callerA (.call (.ref fa) #[[.ref a],[]]) (λr s'=>r=.ok (.ret (.bool true))/\OldK s₁.heap s'.heap/\s'.os=s₁.os/\AllBare s'.gens) s₁) :
    WalkO q loose XP YP l.row.toRowW d [] (λf vs=>PySem.call f vs):=by
  intro w s₀ s₁ mg mb G Y fa o pm cd doc dV kV ho hd hcd hD hmg hg args vals as hpre hlay hrd hwl hlo;obtain rfl:dV=.none:=Dflts.none hD hdf;obtain rfl:kV=.none:=Dflts.noKw hD;obtain ⟨a,vs,ns,rfl,rfl,hobj,hints,hlen⟩:=Gj hn hpre hwl;refine enter_call (codeAny_mono (call w s₀ s₁ mg mb fa o pm cd doc a vs ns G Y ho (fd_plain hd) hcd hmg hobj hints hlen hg) λr s' hq=>?_);obtain ⟨rfl,h2,h3,h4⟩:=hq;exact #[.inl #[.bool true,.bool true,[],rfl,λ_=>rfl,.bool true,Gk l _,λ_=>#[List.Pairwise.nil,λ_ hm=>(nomatch hm)]],h2,h3,h4]
end Att
namespace L2
open PySem PySem.Spec PyProof.Rows
def AN:∀{vs:List Value} {ns:List Int},IntsAre vs ns->Vals (ns.map V.int) vs
  | _,_,.nil=>.nil
  | _,_,.cons n t h=>.cons #[t,rfl] (AN h)
def fU (s:Stmt):Arguments:=match s with
  | .FunctionDef _ a _ _ _ _ _ _ _ _=>a
  | _=>{ posonlyargs:=[],args:=[],vararg:=none,kwonlyargs:=[],kw_defaults:=[],kwarg:=none,defaults:=[] }
def eK (s:Stmt):List Stmt:=match s with
  | .FunctionDef _ _ b _ _ _ _ _ _ _=>b
  | _=>[]
def aH (s:Stmt):Scope:=match s with
  | .FunctionDef _ _ _ _ _ _ sc _ _ _=>sc
  | _=>{ kind:=.function,names:=[],isGenerator:=false,isCoroutine:=false }
abbrev CX0:CXT:=λ_ _ _ _ _ _=>False
abbrev E0:XK:=λ_ _ _=>False
def AO :uq CX0 X E0:=λ_ _ _ _ _ _ _ h=>h.elim
structure Fun (K:Frag)(x qual:Str)(st:Stmt)(f:Addr)(fd:FuncData):Prop where
  ex:∃(oc:Value) (od:Option Addr) (kV doc pm:Value) (an:Option Addr) (cdv ct:Value) (osl:Array (Option Value)),
    fd=fnOf x qual (fU st) (eK st) (aH st) .none kV doc pm an cdv ct/\K.lookup f=some #[oc,od,.func fd,osl]/\codeIn K cdv qual=true
  kp:keepIn K (.ref f)=true
section
variable {P:Program}{w:World}{K:Frag}{mg:Str->Option Value}{base:Heap}
def Fun.ok {st:Stmt}{f:Addr}{fd:FuncData}{N:List Str}{k:Nat}{sp:Sp}(F:Fun K x qual st f fd)(S:aO N ps (aH st))(len:∀ vs H Q E,sp vs H Q E->vs.length=ps.length)
    (hbody:∀(cdv:Value) (A:Around) (outer:List Env) (s:Shared) (H:Hp) (vs:List V) (Q:VK) (E:XK),Room k (A.deeper (envOfC qual (aH st) s.heap.objs.size f cdv))->sp vs H Q E->
      ∃ t,PSs (cxOf CX0 P w K mg base N qual (aH st) f cdv A outer s H E).nox (eK st) t/\t { nx:=λ_ H'=>Q .non H',rt:=Q } (dv N vs) H):FnOk P w K mg base CX0 (k+1) f fd ps sp:=by
  obtain ⟨oc,od,kV,doc,pm,an,cdv,ct,osl,rfl,lk,hcd⟩:=F.ex;refine Ai lk hcd S len λA outer s H vs Q E hr hsp=>?_;obtain ⟨t,h,q⟩:=hbody cdv A outer s H vs Q E hr hsp;exact #[t,h.nox,q]
def Fun.binds {st:Stmt}{f:Addr}{fd:FuncData}{ps:List Str}(F:Fun K x qual st f fd)
    (h:∀(kV doc pm:Value) (an:Option Addr) (cdv ct:Value) (us:List Value),us.length=ps.length->bindArgs (fnOf x qual (fU st) (eK st) (aH st) .none kV doc pm an cdv ct) #[us,[]]=pure (ps.zip us)):gD K fd ps []:=by
  obtain ⟨oc,od,kV,doc,pm,an,cdv,ct,osl,rfl,lk,hcd⟩:=F.ex;exact .all (h kV doc pm an cdv ct)
def uA {x qual:Str}{st:Stmt}{f:Addr}{oc:Value}{od an:Option Addr}{osl:Array (Option Value)}{kV doc pm cdv ct:Value}(l:K.lookup f=some #[oc,od,.func (fnOf x qual (fU st) (eK st) (aH st) .none kV doc pm an cdv ct),osl])
    (c:codeIn K cdv qual=true) (k:keepIn K (.ref f)=true):Fun K x qual st f (fnOf x qual (fU st) (eK st) (aH st) .none kV doc pm an cdv ct):=#[#[oc,od,kV,doc,pm,an,cdv,ct,osl,rfl,l,c],k]
end
def dS {k:Nat}(hr:Room k A):A.units+1<cLine:=fb (tW (by decide:1<=64) _) hr.units
def aW {n:Nat}(h:n<=1000):n<sizeLine:=fb h (by decide)
section
variable {X:Cx}
def pv (i:Nat){x:Str}{pos:Pos}(hN:X.N[i]?=some x:=by rfl)(hv:Vis X.env.scope x:=by first|exact au rfl|exact eE (au rfl)|exact eE (eE rfl))(hd:(x==("__debug__" : Str))=false:=by decide)
    (hcd:(x==("__classdict__" : Str))=false:=by decide):PE X (.Name x pos) (tVar i):=EZ hN hv hd hcd
end
def iteF {A B:Prop}(h:B):if false=true then A else B:=by
  rw[az cN];exact h
def iteT {A B:Prop}(h:A):if true=true then A else B:=by
  rw[ar rfl];exact h
def ite2 {c A B:Prop}[Decidable c](h1:c->A)(h2:¬ c->B):if c then A else B:=by
  by_cases h:c
  · rw[ar h]
    exact h1 h
  · rw[az h]
    exact h2 h
def cU {c A B:Prop}[Decidable c](hc:c)(h:B):if (!decide c)=true then A else B:=by
  rw[aU hc];exact iteF h
def Same (H H':Hp):Prop:=∀ b o,H b=some o->H' b=some o
def Same.trans (a:Same H H1)(b:Same H1 H2):Same H H2:=λc o h=>b c o (a c o h)
def Same.free (e:Same H H'){l:Addr}(h:H' l=Option.none):H l=Option.none:=by
  cases q:H l with
  | none=>rfl
  | some o=>
    rw[e l o q]at h;cases h
def Same.seq {K:Frag}{a:Addr}(e:Same H H')(h:SqL K H a xs):SqL K H' a xs:=by
  rcases h with (h|⟨o,h⟩)|h
  · exact .inl (.inl (e _ _ h))
  · exact .inl (.inr #[o,e _ _ h])
  · exact .inr h
end L2
namespace Tim
open PySem PyProof.Rows
section
variable {prog:Program}{w:World}{A:Around}{E:Value->Shared->Prop}{s:Shared}{κ:KeyKind}{kd:SortKind}{a₀:Array Keyed}
def LtG (prog:Program)(w:World)(A:Around)(s:Shared)(κ:KeyKind)(kd:SortKind):Prop:=
 ∀(E:Value->Shared->Prop) (x y:Value) (a b:κ.α) (Q:Bool->Shared->Prop),κ.keyOf x=some a->κ.keyOf y=some b->Q (κ.blt a b) s->wpAny (model prog w) A (keyLt' kd x y) Q E s
def ky (κ:KeyKind)(p:Keyed):κ.α:=(κ.keyOf p.1).getD κ.dflt
def kAt (κ:KeyKind)(xs:Array Keyed)(i:Nat):κ.α:=match xs[i]? with
 | some p=>ky κ p
 | none=>κ.dflt
def uB {xs:Array Keyed}{i:Nat}(h:i<xs.size):kAt κ xs i=ky κ xs[i]:=by
 unfold kAt;rw[Array.getElem?_eq_getElem h]
def Up (κ:KeyKind)(xs:Array Keyed)(lo hi:Nat):Prop:=∀ i j,lo<=i->i<=j->j<hi->κ.kle (kAt κ xs i) (kAt κ xs j)
end
end Tim
namespace Tim
open PySem PyProof.Rows
section
variable {κ:KeyKind}
def le (κ:KeyKind)(x y:Keyed):Prop:=κ.kle (ky κ x) (ky κ y)
abbrev SL (κ:KeyKind)(l:List Keyed):Prop:=l.Pairwise (le κ)
def Gm {xs:Array Keyed}(h:Up κ xs 0 xs.size):SL κ xs.toList:=by
 rw[SL,fc];intro i j hi hj hij;have hi':i<xs.size:=by simpa using hi
 have hj':j<xs.size:=by simpa using hj
 have:=h i j (cS _) (by lia) hj';rw[uB hi',uB hj']at this;simpa [le] using this
variable {a b out:Array Keyed}{ia ib:Nat}
end
end Tim
namespace Tim
open PySem PyProof.Rows
section
variable {κ:KeyKind}
def back (xs:Array Keyed)(lo:Nat)(m:Array Keyed):Array Keyed:=m.toList.zipIdx.foldl (λa (q:Keyed×Nat)=>a.setIfInBounds (lo+q.2) q.1) xs
end
end Tim
namespace Tim
open PySem PyProof.Rows
section
variable {prog:Program}{w:World}{A:Around}{E:Value->Shared->Prop}{s:Shared}{κ:KeyKind}{kd:SortKind}
def l6 (a:Addr)(h h':Heap):Prop:=∀ b o,b≠a->h.get? b=some o->h'.get? b=some o
def keyV (κ:KeyKind)(v:Value):κ.α:=(κ.keyOf v).getD κ.dflt
def uC:∀ vs:List Value,vs.zip vs=vs.map λv=>(v,v)
 | []=>rfl
 | v::vs=>by rw[tX,uC vs,bK]
def AQ {vs:List Value}{p:Keyed}(h:p∈(pairsOf vs).toList):p.1=p.2/\p.1∈vs:=by
 have e:(pairsOf vs).toList=vs.zip vs:=by
  unfold pairsOf;simp
 rw[e]at h;rw[uC]at h;obtain ⟨v,hv,rfl⟩:=bI.mp h;exact #[rfl,hv]
def Gn (vs:List Value):(pairsOf vs).toList.map (·.2)=vs:=by
 have e:(pairsOf vs).toList=vs.zip vs:=by
  unfold pairsOf;simp
 rw[e,uC,bT];have z:((λx:Keyed=>x.2) ∘ λv:Value=>(v,v))=id:=rfl
 first
  | rw[z,jE]
  | exact jE vs
def Gp {vs:List Value}{xs:Array Keyed}(hp:xs.Perm (pairsOf vs))(hU:Up κ xs 0 (pairsOf vs).size) :
  (xs.toList.map (·.2)).Perm vs/\(xs.toList.map (·.2)).Pairwise (λx y=>κ.kle (keyV κ x) (keyV κ y)):=by
 have hpl:=tY.mp hp;refine #[?_,?_]
 .have:=hpl.map (·.2);rwa[Gn]at this
 .have hs:SL κ xs.toList:=Gm (by rw[hp.size_eq];exact hU);refine fJ.mpr (hs.imp_of_mem λ{a b} ha hb hab=>?_);have ea:=(AQ (hpl.mem_iff.mp ha)).1;have eb:=(AQ (hpl.mem_iff.mp hb)).1;unfold le ky at hab;unfold keyV;rw[<-ea,<-eb];exact hab
def Gq {h:Heap}{a:Addr}{vs out:List Value}{n:Nat}(ho:h.get? a=some (seqObj "list" vs.toArray n)):l6 a h (sortedHeap h a vs out.toArray)/\∃ c,(sortedHeap h a vs out.toArray).get? a=some (seqObj "list" out.toArray c):=by
 unfold sortedHeap;refine #[λb o hb e=>(iU _ _ (bE hb)).trans (bD _ (bD _ ((iU _ _ (bE hb)).trans e))),?_];exact #[_,get?_update_seq (bD _ (bD _ (get?_update_seq ho (λ_=>(List.toArray []))))) λ_=>out.toArray]
end
end Tim
namespace L2
open PySem PySem.Spec PyProof.Rows
structure DF (K:Frag)(mg:Str->Option Value)(x:Str)(st:Stmt)(ps:List Str):Prop where
 ex:∃ f fd,Fun K x x st f fd/\gD K fd ps []/\mg x=some (.ref f)
structure FC (P:Program)(w:World)(K:Frag)(mg:Str->Option Value)(base:Heap)(k:Nat)(x:Str)(ps:List Str)(sp:Sp):Prop where
 ex:∃ f fd,FnOk P w K mg base CX0 k f fd ps sp/\gD K fd ps []/\keepIn K (.ref f)=true/\mg x=some (.ref f)/\∃ oc od osl,K.lookup f=some #[oc,od,.func fd,osl]
def FC.at {w:World}{K:Frag}{mg:Str->Option Value}{base:Heap}{k:Nat}{f:Addr}{fd:FuncData}{oc:Value}{od:Option Addr}{osl:Array (Option Value)}(F:FC P w K mg base k x ps sp)(m:mg x=some (.ref f))(l:K.lookup f=some #[oc,od,.func fd,osl]):FnOk P w K mg base CX0 k f fd ps sp:=by
 obtain ⟨f',fd',ok,_,_,m',oc',od',osl',l'⟩:=F.ex;rw[m]at m';cases m'
 rw[l]at l';cases l'
 exact ok
def DF.ok {w:World}{K:Frag}{mg:Str->Option Value}{base:Heap}{st:Stmt}{N:List Str}{k:Nat}{sp:Sp}(D:DF K mg x st ps)(S:aO N ps (aH st))(len:∀ vs H Q E,sp vs H Q E->vs.length=ps.length)
  (hbody:∀(f:Addr) (cdv:Value) (A:Around) (outer:List Env) (s:Shared) (H:Hp) (vs:List V) (Q:VK) (E:XK),Room k (A.deeper (envOfC x (aH st) s.heap.objs.size f cdv))->sp vs H Q E->
   ∃ t,PSs (cxOf CX0 P w K mg base N x (aH st) f cdv A outer s H E).nox (eK st) t/\t { nx:=λ_ H'=>Q .non H',rt:=Q } (dv N vs) H):FC P w K mg base (k+1) x ps sp:=by
 obtain ⟨f,fd,F,b,m⟩:=D.ex;exact #[f,fd,F.ok S len λcdv A outer s H vs Q E hr h=>hbody f cdv A outer s H vs Q E hr h,b,F.kp,m,by
  obtain ⟨oc,od,kV,doc,pm,an,cdv,ct,osl,rfl,lk,hcd⟩:=F.ex;exact #[oc,od,osl,lk]]
def ax {X:Cx}{k:Nat}{e:Expr}{es:List Expr}{t:TA}{p pos:Pos}(F:FC X.prog X.w X.K X.mg X.base j x ps sp)(hr:Room k X.A)(ha:PA X (e::es) t)(hjk:j<=k:=by decide)(hg:Gl X x:=by rfl)
  (hdb:(x==("__debug__" : Str))=false:=by decide) (he:starEach (e::es) X.env=(false,eval e X.env)::starEach es X.env:=by rfl) (hpl:(backTo pos (starEach es X.env)).any (·.1)=false:=by rfl):PE X (.Call (.Name x p) (e::es) [] pos) (Ab sp [] E0 t):=by
 obtain ⟨f,fd,ok,b,kp,m,_⟩:=F.ex;exact Fn ok (hr.mono hjk) hg m kp b .nil AO ha hdb he hpl
def Gr (t u:TS):TS:=λD U H=>∃ M:St->Hp->Prop,t { D with nx:=M } U H/\∀ U' H',M U' H'->u D U' H'
def c8 {st:Stmt}{rest:List Stmt}{t:TS}(h1:PS X st t)(h2:PSs X rest u):PSs X (st::rest) (Gr t u):=by
 intro OG s U H D I h;obtain ⟨M,h,hM⟩:=h;refine wpAny_execs_cons (thn (h1 OG s U H { D with nx:=M } I h) λf s1 q=>?_);cases f with
 | next=>
  obtain ⟨U',H',I',q⟩:=q;exact h2 OG s1 U' H' D I' (hM U' H' q)
 | ret v=>exact q
 | brk=>exact q
 | cont=>exact q
def Gs (i j:Int):Prop:=0<j/\j<2^4000
section
variable {X:Cx}
def kitO (a b:String):Option Bool:=if (Value.type a==Value.type b)=true then some true else if W.kitMeta b=true then (PySem.fastBuiltinMro a).map (·.contains (.type b)) else none
def Gu {K:Frag}{a:String}:kitOne K (.type a) (.type b)=kitO a b:=rfl
inductive rIsi (K:Frag)(xs:List V)(H:Hp)(Q:VK):Prop
 | c:∀ x n t b,xs=[x,.ty n]->TyOf K H x (.type t)->kitO t n=some b->Q (.bl b) H->rIsi K xs H Q
def Gv:cT X (.builtin "isinstance") (rIsi X.K):=by
 intro OG s U H xs us Q I r h;obtain ⟨x,n,t,b,e,ty,ki,q⟩:=h;subst e;obtain ⟨u,w',e,r1,r2⟩:=hW r;subst e;cases r2
 exact Fm I r1 ty (Gu.trans ki) λtk=>#[.bl b,H,I.tok tk,rfl,q]
def Gw:kitO "int" "int" = some true:=by decide +kernel
def Gx:kitO "int" "bool" = some false:=by decide +kernel
def uD:kitO "list" "list" = some true:=by decide +kernel
def Gy:kitO "bool" "bool" = some true:=by decide +kernel
inductive AR (x:V)(xs:List V)(H:Hp)(Q:VK):Prop
 | c:∀ i,x=.int i->xs=[]->Q (.int (Builtin.Int.intBits i:Nat)) H->AR x xs H Q
def Gz:MtR X "int.bit_length" AR:=by
 intro OG s U H x xs v us Q I rx rv h;obtain ⟨i,rfl,rfl,q⟩:=h;obtain ⟨t,rfl⟩:=rx;cases rv
 exact call_int_bit_length #[.int _,H,I.tok _,#[_,rfl],q]
end
def uE {c A B:Prop}[Decidable c](hc:¬ c)(h:B):if decide c=true then A else B:=by
 rw[bH hc];exact iteF h
def AS {c A B:Prop}[Decidable c](hc:c)(h:A):if decide c=true then A else B:=by
 rw[aU hc];exact iteT h
def dw (L:Addr)(a l:Int):HO:=.dK [(.inr "script",.ref L),(.inr "at",.int a),(.inr "left",.int l)]
def Keep (d:Addr)(H H':Hp):Prop:=∀ b o,b≠d->H b=some o->H' b=some o
def Keep.refl (d:Addr)(H:Hp):Keep d H H:=λ_ _ _ h=>h
def Keep.trans (a:Keep d H H1)(b:Keep d H1 H2):Keep d H H2:=λc o n h=>b c o n (a c o n h)
def Same.keep (s:Same H H'):Keep d H H':=λb o _ h=>s b o h
structure LS (K:Frag)(L d:Addr)(H:Hp):Prop where
 ex:∃(ns:List Int) (a l:Int),H d=some (dw L a l)/\SqL K H L (ns.map V.int)
def uF {K:Frag}{H:Hp}{d:Addr}{a:Int}(hd:H d=some (dw L' a l))(k:Keep d H H')(h:SqL K H L xs):SqL K H' L xs:=by
 have ne:∀ o,H L=some o->(∀ kvs,o≠.dK kvs)->L≠d:=λo e n z=>by
  rw[z,hd]at e;cases e
  exact n _ rfl
 rcases h with (h|⟨o,h⟩)|h
 .exact .inl (.inl (k L _ (ne _ h nofun) h))
 .exact .inl (.inr #[o,k L _ (ne _ h nofun) h])
 .exact .inr h
def LS.set {K:Frag}{d:Addr}{H:Hp}{ns:List Int}{a l:Int}(hd:H d=some (dw L a l))(h:SqL K H L (ns.map V.int)):LS K L d (upd H d (dw L a' l'))/\Keep d H (upd H d (dw L a' l')):=by
 have k:Keep d H (upd H d (dw L a' l')):=λb o n e=>by rw[ak n];exact e
 exact #[#[ns,a',l',ah,uF hd k h],k]
def LS.same {K:Frag}(s:LS K L d H)(k:Same H H'):LS K L d H':=by
 obtain ⟨ns,a,l,e,q⟩:=s.ex;exact #[ns,a,l,k _ _ e,k.seq q]
def aJ {H:Hp}{p:Addr}(h:H p=none)(o:HO):Same H (upd H p o):=λb u q=>by rw[ak (aq q h)];exact q
def LS.put {K:Frag}{p:Addr}{H2:Hp}{o:HO}(s:LS K L d H0)(hp:H0 p=none)(k:∀ b o,b≠d->b≠p->H0 b=some o->H2 b=some o)(s2:LS K L d H2):LS K L d (upd H2 p o):=by
 obtain ⟨ns,a,l,e,q⟩:=s.ex;obtain ⟨ns2,a2,l2,e2,_⟩:=s2.ex;have hdp:d≠p:=aq e hp;have go:∀ u,H0 L=some u->(∀ kvs,u≠.dK kvs)->upd H2 p o L=some u:=λu hu hn=>by
  have h1:L≠p:=aq hu hp;have h2:L≠d:=λz=>by
   rw[z,e]at hu;cases hu
   exact hn _ rfl
  rw[ak h1];exact k L u h2 h1 hu
 refine #[ns,a2,l2,by rw[ak hdp];exact e2,?_];rcases q with (h|⟨ob,h⟩)|h
 .exact .inl (.inl (go _ h nofun))
 .exact .inl (.inr #[ob,go _ h nofun])
 .exact .inr h
section
variable {H:Hp}{d L:Addr}{a l:Int}
def fV {x y:Str}(h:x≠y):(Sum.inr x:Key)≠Sum.inr y:=λz=>h (Sum.inr.inj z)
def GA (h:H d=some (dw L a l)):DGet H d (.str "script") (some (.ref L)):=.inl #[_,.inr "script",.inl h,rfl,by rw[hZ rfl]]
def GB (h:H d=some (dw L a l)):DGet H d (.str "at") (some (.int a)):=.inl #[_,.inr "at",.inl h,rfl,by rw[eV (fV (show ("script" : Str) ≠ "at" by decide +kernel)),hZ rfl]]
def uG (h:H d=some (dw L a l)):DGet H d (.str "left") (some (.int l)):=.inl #[_,.inr "left",.inl h,rfl,by rw[eV (fV (show ("script" : Str) ≠ "left" by decide +kernel)),eV (fV (show ("at" : Str) ≠ "left" by decide +kernel)),hZ rfl]]
def AU {k:Key}{kvs kvs':List (Key×V)}(h:H d=some (.dK kvs))(hl:kvs.length<sizeLine)(e:putK kvs k v=kvs'):DPut H d (kV k) v (upd H d (.dK kvs')):=by
 subst e;exact DPut.k h hl
def GC (h:H d=some (dw L a l)):DPut H d (.str "at") (.int a') (upd H d (dw L a' l)):=
 AU (k:=.inr "at") h (by show 3 < sizeLine;decide) (by
  unfold putK;rw[ar (by simp)];simp only[bK,gR,az (fV (show ("script" : Str) ≠ "at" by decide +kernel)),az (fV (show ("left" : Str) ≠ "at" by decide +kernel)),if_true])
def AV (h:H d=some (dw L a l)):DPut H d (.str "left") (.int l') (upd H d (dw L a l')):=
 AU (k:=.inr "left") h (by show 3 < sizeLine;decide) (by
  unfold putK;rw[ar (by simp)];simp only[bK,gR,az (fV (show ("script" : Str) ≠ "left" by decide +kernel)),az (fV (show ("at" : Str) ≠ "left" by decide +kernel)),if_true])
end
inductive fq (K:Frag)(vs:List V)(H:Hp)(Q:VK)(w_1:XK):Prop
 | c:∀(d L:Addr) (m:Int),vs=[.ref d,.int m]->(0<m/\m<1073741824)->LS K L d H->(∀(v:Int) (H':Hp),0<=v->v<m->Keep d H H'->LS K L d H'->Q (.int v) H')->fq K vs H Q w_1
inductive uH (vs:List V)(H:Hp)(Q:VK)(w_1:XK):Prop
 | c:∀(c k:Int),vs=[.int c,.int k]->(∀ v:Int,Q (.int v) H)->uH vs H Q w_1
inductive uI (K:Frag)(vs:List V)(H:Hp)(Q:VK)(w_1:XK):Prop
 | c:∀(L:Addr) (ns:List Int),vs=[.ref L]->SqL K H L (ns.map V.int)->(∀(d:Addr) (H':Hp),H d=none->Same H H'->LS K L d H'->Q (.ref d) H')->uI K vs H Q w_1
def GD {ns:List Int}{k:Int}(h:0<ns.length):∃ v:Int,atI (ns.map V.int) (k%(((ns.map V.int).length:Nat):Int))=some (.int v):=by
 have e:(ns.map V.int).length=ns.length:=af _;have h1:(0:Int)<(((ns.map V.int).length:Nat):Int):=by rw[e];lia
 have z0:=nM k (Int.ne_of_gt h1);have z1:=nN k h1;generalize hj:k%(((ns.map V.int).length:Nat):Int)=j at z0 z1;rw[e]at z1;have hk:j.toNat<ns.length:=by lia
 obtain ⟨n,rfl⟩:∃ n:Nat,j=(n:Int):=#[j.toNat,by lia];have hn:n<ns.length:=by lia
 exact #[ns[n],cL (by rw[aQ,aD hn];rfl)]
end L2
namespace L2
open PySem PySem.Spec PyProof.Rows PySem.SeqAt
def Ext (H H':Hp):Prop:=∀ b o,H b=some o->(∀ kvs,o≠.dK kvs)->H' b=some o
def Same.ext (s:Same H H'):Ext H H':=λb o h _=>s b o h
def Keep.ext {a l:Int}(k:Keep d H H')(h:H d=some (dw L a l)):Ext H H':=λb o e n=>k b o (λz=>by
 rw[z,h]at e;cases e
 exact n _ rfl) e
def LS.ext {K:Frag}(s:LS K L d H)(k:Keep d H H'):Ext H H':=by
 obtain ⟨ns,a,l,e,_⟩:=s.ex;exact k.ext e
def LS.of_new {K:Frag}(s:LS K L d H){p:Addr}(hp:H p=none)(o:HO):LS K L d (upd H p o):=s.same (aJ hp o)
def SqL.ext {K:Frag}{a:Addr}(e:Ext H H')(h:SqL K H a xs):SqL K H' a xs:=by
 rcases h with (h|⟨o,h⟩)|h
 .exact .inl (.inl (e _ _ h nofun))
 .exact .inl (.inr #[o,e _ _ h nofun])
 .exact .inr h
def SqT.ext {K:Frag}{a:Addr}(e:Ext H H')(h:SqT K H a xs):SqT K H' a xs:=by
 rcases h with (h|⟨o,h⟩)|h
 .exact .inl (.inl (e _ _ h nofun))
 .exact .inl (.inr #[o,e _ _ h nofun])
 .exact .inr h
class Rep (α:Type) where
 dec:DecidableEq α
 depth:Nat
 has:Frag->Hp->α->V->Prop
 mono:∀{K:Frag} {H H':Hp} {a:α} {v:V},Ext H H'->has K H a v->has K H' a v
 inj:∀{X:Cx} {OG:List (Addr×Obj)} {U:St} {H:Hp} {s:Shared} {a b:α} {v:V},Inv X OG U H s->has X.K H a v->has X.K H b v->a=b
 rc:∀{X:Cx} {OG:List (Addr×Obj)} {U:St} {H:Hp} {s:Shared} {A:Around} {a b:α} {x y:V} {u v:Value},Inv X OG U H s->A.units+depth<cLine->has X.K H a x->has X.K H b y->RelV x u->RelV y v->RcAt A s u v (dec a b).decide
 rn:∀{X:Cx} {OG:List (Addr×Obj)} {U:St} {H:Hp} {s:Shared} {A:Around} {a b:α} {x y:V} {u v:Value},Inv X OG U H s->A.units+depth<cLine->has X.K H a x->has X.K H b y->RelV x u->RelV y v->RcNeAt A s u v (!(dec a b).decide)
 eq:∀{X:Cx} {OG:List (Addr×Obj)} {U:St} {H:Hp} {s:Shared} {A:Around} {a b:α} {x y:V} {u v:Value},Inv X OG U H s->A.units+depth<cLine->has X.K H a x->has X.K H b y->RelV x u->RelV y v->EqAt A s u v (dec a b).decide
instance (priority:=low) repDec {α:Type} [Rep α]:DecidableEq α:=Rep.dec
def uJ {i j:Int}:(i==j)=(Int.instDecidableEq i j).decide:=by
 by_cases h:i=j
 .subst h;simp
 .rw[beq_eq_false_iff_ne.mpr h];exact (bH h).symm
instance:Rep Int where
 dec:=Int.instDecidableEq
 depth:=0
 has:=λ_ _ i v=>v=.int i
 mono:=λ_ h=>h
 inj:=λ_ h1 h2=>V.int.inj (h1.symm.trans h2)
 rc:=λ_ _ h1 h2 r1 r2=>by
  subst h1 h2;obtain ⟨t,rfl⟩:=r1;obtain ⟨t',rfl⟩:=r2;rw[<-uJ];exact RcAt.int_int _ _ _ _
 rn:=λ_ _ h1 h2 r1 r2=>by
  subst h1 h2;obtain ⟨t,rfl⟩:=r1;obtain ⟨t',rfl⟩:=r2;rw[<-uJ];exact RcNeAt.int_int _ _ _ _
 eq:=λ_ _ h1 h2 r1 r2=>by
  subst h1 h2;obtain ⟨t,rfl⟩:=r1;obtain ⟨t',rfl⟩:=r2;rw[<-uJ];exact EqAt.int_int _ _ _ _
def pImp {α β:Type}{R S:α->β->Prop}(h:∀ a b,R a b->S a b){as:List α}{bs:List β}(p:Paired R as bs):Paired S as bs:=by
 induction p with
 | nil=>exact .nil
 | cons a _ ih=>exact .cons (h _ _ a) ih
def pApp {α β:Type}{R:α->β->Prop}{as cs:List α}{bs ds:List β}(p:Paired R as bs)(q:Paired R cs ds):Paired R (as++cs) (bs++ds):=by
 induction p with
 | nil=>exact q
 | cons a _ ih=>exact .cons a ih
def aI {α:Type}[Rep α](K:Frag)(H:Hp):List α->List V->Prop:=Paired (Rep.has K H)
section
variable {α:Type}[Rep α]{K:Frag}{H H':Hp}
def aI.mono (e:Ext H H'){as:List α}{xs:List V}(h:aI K H as xs):aI K H' as xs:=pImp (λ_ _=>Rep.mono e) h
def aI.length {as:List α}{xs:List V}(h:aI K H as xs):as.length=xs.length:=Paired.length h
def aI.get:∀{as:List α} {xs:List V} {i:Nat} {x:V},aI K H as xs->xs[i]?=some x->∃ a,as[i]?=some a/\Rep.has K H a x
 | _,_,_,_,.nil,e=>by simp at e
 | _,_,0,_,.cons h _,e=>by simp at e;subst e;exact #[_,rfl,h]
 | _,_,i+1,x,.cons _ t,e=>by
  obtain ⟨a,h1,h2⟩:=aI.get (i:=i) (x:=x) t (by simpa using e);exact #[a,by simpa using h1,h2]
def aI.append {as bs:List α}{xs ys:List V}(h:aI K H as xs)(g:aI K H bs ys):aI K H (as++bs) (xs++ys):=pApp h g
def aI.one {a:α}{x:V}(h:Rep.has K H a x):aI K H [a] [x]:=.cons h .nil
def aI.ints:∀{ns:List Int},aI K H ns (ns.map V.int)
 | []=>.nil
 | _::_=>.cons rfl aI.ints
def aI.toInts {ns:List Int}{xs:List V}(h:aI K H ns xs):xs=ns.map V.int:=by
 unfold aI at h
 induction h with
 | nil=>rfl
 | cons h _ ih=>
  have e:_=V.int _:=h;rw[e,ih];rfl
def aI.inj {s:Shared}(I:Inv X OG U H s){as bs:List α}{xs:List V}(h:aI X.K H as xs)(g:aI X.K H bs xs):as=bs:=by
 unfold aI at h g
 induction h generalizing bs with
 | nil=>cases g;rfl
 | cons h _ ih=>
  cases g with
  | cons h' t'=>rw[Rep.inj I h h',ih t']
end
def uK {α:Type}[DecidableEq α]:∀(as bs:List α),as.length=bs.length->((List.range as.length).all λj=>decide (as[j]?=bs[j]?))=decide (as=bs):=by
 intro as bs hl;by_cases h:as=bs
 .subst h;simp
 .rw[bH h,List.all_eq_false]
  false_or_by_contra
  rename_i z;apply h;apply fe;intro i;by_cases hi:i<as.length
  .false_or_by_contra
   rename_i q;exact z #[i,cC.mpr hi,by simpa using q]
  .rw[dk (by lia),dk (by lia)]
section
variable {α:Type}[r:Rep α]
def jc {A:Around}:A.in1.units<=A.units+1:=by
 first
  | exact av _
  | (unfold Around.in1;simp)
def oA {A:Around}{as bs:List α}{xs ys:List V}{us vs:List Value}(I:Inv X OG U H s)(hu:A.units+Rep.depth α<cLine)
  (h1:aI X.K H as xs) (h2:aI X.K H bs ys) (r1:Vals xs us) (r2:Vals ys vs):∀ j (q1:j<us.toArray.size) (q2:j<vs.toArray.size),EqAt A s us.toArray[j] vs.toArray[j] (decide (as[j]?=bs[j]?)):=by
 intro j q1 q2;have l1:=r1.length;have l2:=r2.length;have m1:=h1.length;have m2:=h2.length;have j1:j<us.length:=by simpa using q1
 have j2:j<vs.length:=by simpa using q2
 obtain ⟨a,ea,ha⟩:=h1.get (i:=j) (aD (by lia));obtain ⟨b,eb,hb⟩:=h2.get (i:=j) (aD (by lia));obtain ⟨u,eu,ru⟩:=r1.get (i:=j) (aD (by lia));obtain ⟨v,ev,rv⟩:=r2.get (i:=j) (aD (by lia));have gu:us.toArray[j]=u:=by
  have:us[j]?=some us[j]:=aD j1;rw[eu]at this;simpa using (aV this).symm
 have gv:vs.toArray[j]=v:=by
  have:vs[j]?=some vs[j]:=aD j2;rw[ev]at this;simpa using (aV this).symm
 rw[gu,gv,ea,eb];have e:decide (some a=some b)=(Rep.dec a b).decide:=by
  by_cases z:a=b
  .subst z;simp
  .rw[bH (λq=>z (aV q))];exact (bH z).symm
 rw[e];exact Rep.eq I hu ha hb ru rv
end
inductive hasL {α:Type}[Rep α](K:Frag)(H:Hp)(as:List α)(v:V):Prop
 | c:∀ a xs,v=.ref a->SqL K H a xs->aI K H as xs->hasL K H as v
section
variable {α:Type}[r:Rep α]{X:Cx}{OG:List (Addr×Obj)}{U:St}{H:Hp}{s:Shared}{A:Around}{as bs:List α}{x y:V}{u v:Value}
def GE (I:Inv X OG U H s)(h1:hasL X.K H as x)(h2:hasL X.K H bs x):as=bs:=by
 obtain ⟨a,xs,rfl,q1,h1⟩:=h1;obtain ⟨b,ys,e,q2,h2⟩:=h2;cases e
 rw[I.list_inj q2 q1]at h2;exact h1.inj I h2
def AW (I:Inv X OG U H s)(hu:A.units+(Rep.depth α+1)<cLine)(h1:hasL X.K H as x)(h2:hasL X.K H bs y)(r1:RelV x u)(r2:RelV y v):RcAt A s u v (decide (as=bs)):=by
 obtain ⟨a,xs,rfl,q1,h1⟩:=h1;obtain ⟨b,ys,rfl,q2,h2⟩:=h2;cases r1
 cases r2
 obtain ⟨us,ru,pu,_⟩:=I.list q1;obtain ⟨vs,rv,pv,_⟩:=I.list q2;have l1:=ru.length;have l2:=rv.length;have m1:=h1.length;have m2:=h2.length;have hin:A.in1.units+Rep.depth α<cLine:=fb (iX jc _) (by lia);by_cases hl:as.length=bs.length
 .have e:=uK as bs hl;rw[<-e];have z:as.length=us.toArray.size:=by simp;lia
  rw[z];exact RcAt.lists pu.isList pv.isList (by simp;lia) (by lia) (oA I hin h1 h2 ru rv)
 .rw[bH (λz=>hl (by rw[z]))];exact RcAt.lists_lengths pu.isList pv.isList (by simp;lia) (by lia)
def GF (I:Inv X OG U H s)(hu:A.units+(Rep.depth α+1)<cLine)(h1:hasL X.K H as x)(h2:hasL X.K H bs y)(r1:RelV x u)(r2:RelV y v):RcNeAt A s u v (!decide (as=bs)):=by
 obtain ⟨a,xs,rfl,q1,h1⟩:=h1;obtain ⟨b,ys,rfl,q2,h2⟩:=h2;cases r1
 cases r2
 obtain ⟨us,ru,pu,_⟩:=I.list q1;obtain ⟨vs,rv,pv,_⟩:=I.list q2;have l1:=ru.length;have l2:=rv.length;have m1:=h1.length;have m2:=h2.length;have hin:A.in1.units+Rep.depth α<cLine:=fb (iX jc _) (by lia);by_cases hl:as.length=bs.length
 .have e:=uK as bs hl;rw[<-e];have z:as.length=us.toArray.size:=by simp;lia
  rw[z];exact RcNeAt.lists pu.isList pv.isList (by simp;lia) (by lia) (oA I hin h1 h2 ru rv)
 .rw[bH (λz=>hl (by rw[z])),Bool.not_false];exact RcNeAt.lists_lengths pu.isList pv.isList (by simp;lia) (by lia)
def GG (I:Inv X OG U H s)(hu:A.units+(Rep.depth α+1)<cLine)(h1:hasL X.K H as x)(h2:hasL X.K H bs y)(r1:RelV x u)(r2:RelV y v):EqAt A s u v (decide (as=bs)):=by
 have rc:=AW (A:=A) I hu h1 h2 r1 r2;obtain ⟨a,xs,rfl,q1,h1⟩:=h1;obtain ⟨b,ys,rfl,q2,h2⟩:=h2;cases r1
 cases r2
 by_cases hab:a=b
 .subst hab;rw[I.list_inj q2 q1]at h2;rw[aU (h1.inj I h2)];exact EqAt.same _
 .exact EqAt.of_refs hab rc
end
instance {α:Type} [Rep α]:Rep (List α) where
 dec:=inferInstance
 depth:=Rep.depth α+1
 has:=hasL
 mono:=λe ⟨a,xs,h1,h2,h3⟩=>#[a,xs,h1,h2.ext e,h3.mono e]
 inj:=λI h1 h2=>GE I h1 h2
 rc:=λI hu h1 h2 r1 r2=>AW I hu h1 h2 r1 r2
 rn:=λI hu h1 h2 r1 r2=>GF I hu h1 h2 r1 r2
 eq:=λI hu h1 h2 r1 r2=>GG I hu h1 h2 r1 r2
inductive hasP {α β:Type}[Rep α][Rep β](K:Frag)(H:Hp)(p:α×β)(v:V):Prop
 | c:∀ a x y,v=.ref a->H a=some (.tup [x,y])->Rep.has K H p.1 x->Rep.has K H p.2 y->hasP K H p v
section
variable {α β:Type}[ra:Rep α][rb:Rep β]{X:Cx}{OG:List (Addr×Obj)}{U:St}{H:Hp}{s:Shared}{A:Around}{p q:α×β}{x y:V}{u v:Value}
def AX (I:Inv X OG U H s)(h1:hasP X.K H p x)(h2:hasP X.K H q x):p=q:=by
 obtain ⟨a,x1,x2,rfl,q1,e1,e2⟩:=h1;obtain ⟨b,y1,y2,e,q2,f1,f2⟩:=h2;cases e
 have z:=I.tuple_inj (SqT.of q2) (SqT.of q1);cases z
 have g1:=Rep.inj I e1 f1;have g2:=Rep.inj I e2 f2;obtain ⟨p1,p2⟩:=p;obtain ⟨s1,s2⟩:=q;cases g1
 cases g2
 rfl
def uL (I:Inv X OG U H s)(hu:A.units+(Rep.depth α+Rep.depth β+1)<cLine)(h1:hasP X.K H p x)(h2:hasP X.K H q y)(r1:RelV x u)(r2:RelV y v):RcAt A s u v (decide (p=q)):=by
 obtain ⟨a,x1,x2,rfl,q1,e1,e2⟩:=h1;obtain ⟨b,y1,y2,rfl,q2,f1,f2⟩:=h2;cases r1
 cases r2
 obtain ⟨us,ru,pu,_⟩:=I.tuple (SqT.of q1);obtain ⟨vs,rv,pv,_⟩:=I.tuple (SqT.of q2);obtain ⟨u1,u2,rfl,ru1,ru2⟩:=hW ru;obtain ⟨v1,v2,rfl,rv1,rv2⟩:=hW rv;have hin:∀ n,n<=Rep.depth α+Rep.depth β->A.in1.units+n < cLine:=λn hn=>fb (iX jc _) (by lia);have c1:=Rep.eq (A:=A.in1) I (hin _ (by lia)) e1 f1 ru1 rv1;have c2:=Rep.eq (A:=A.in1) I (hin _ (by lia)) e2 f2 ru2 rv2;have:=RcAt.tuples (A:=A) (s:=s) (l:=a) (b:=b) (items:=(List.toArray [u1,u2])) (items2:=(List.toArray [v1,v2])) (e:=λj=>if j=0 then (Rep.dec p.1 q.1).decide else (Rep.dec p.2 q.2).decide) pu pv (by lia) (by
  intro j h1 h2;have h1':j<2:=h1;have z:j=0\/j=1:=by lia
  rcases z with rfl|rfl
  .exact c1
  .exact c2)
 have e:((List.range (min ((List.toArray [u1,u2]):Array Value).size ((List.toArray [v1,v2]):Array Value).size)).all (λj=>if j=0 then (Rep.dec p.1 q.1).decide else (Rep.dec p.2 q.2).decide)&&((List.toArray [u1,u2]):Array Value).size==((List.toArray [v1,v2]):Array Value).size)=decide (p=q):=by
  obtain ⟨p1,p2⟩:=p;obtain ⟨s1,s2⟩:=q;show (((List.range 2).all λj=>if j=0 then (Rep.dec p1 s1).decide else (Rep.dec p2 s2).decide)&&true)=_
  rw[show List.range 2=[0,1] from rfl];simp only[nK,List.all_nil,Bool.and_true,if_true];rw[az (by decide)];by_cases z1:p1=s1
  .by_cases z2:p2=s2
   .subst z1 z2;simp
   .subst z1;simp[z2]
  .simp[z1]
 rw[e]at this;exact this
def AY (I:Inv X OG U H s)(hu:A.units+(Rep.depth α+Rep.depth β+1)<cLine)(h1:hasP X.K H p x)(h2:hasP X.K H q y)(r1:RelV x u)(r2:RelV y v):RcNeAt A s u v (!decide (p=q)):=by
 obtain ⟨a,x1,x2,rfl,q1,e1,e2⟩:=h1;obtain ⟨b,y1,y2,rfl,q2,f1,f2⟩:=h2;cases r1
 cases r2
 obtain ⟨us,ru,pu,_⟩:=I.tuple (SqT.of q1);obtain ⟨vs,rv,pv,_⟩:=I.tuple (SqT.of q2);obtain ⟨u1,u2,rfl,ru1,ru2⟩:=hW ru;obtain ⟨v1,v2,rfl,rv1,rv2⟩:=hW rv;have hin:∀ n,n<=Rep.depth α+Rep.depth β->A.in1.units+n < cLine:=λn hn=>fb (iX jc _) (by lia);have c1:=Rep.eq (A:=A.in1) I (hin _ (by lia)) e1 f1 ru1 rv1;have c2:=Rep.eq (A:=A.in1) I (hin _ (by lia)) e2 f2 ru2 rv2;have:=RcNeAt.tuples (A:=A) (s:=s) (l:=a) (b:=b) (items:=(List.toArray [u1,u2])) (items2:=(List.toArray [v1,v2])) (e:=λj=>if j=0 then (Rep.dec p.1 q.1).decide else (Rep.dec p.2 q.2).decide) pu pv (by lia) (by
  intro j h1 h2;have h1':j<2:=h1;have z:j=0\/j=1:=by lia
  rcases z with rfl|rfl
  .exact c1
  .exact c2)
 have e:((List.range (min ((List.toArray [u1,u2]):Array Value).size ((List.toArray [v1,v2]):Array Value).size)).all (λj=>if j=0 then (Rep.dec p.1 q.1).decide else (Rep.dec p.2 q.2).decide)&&((List.toArray [u1,u2]):Array Value).size==((List.toArray [v1,v2]):Array Value).size)=decide (p=q):=by
  obtain ⟨p1,p2⟩:=p;obtain ⟨s1,s2⟩:=q;show (((List.range 2).all λj=>if j=0 then (Rep.dec p1 s1).decide else (Rep.dec p2 s2).decide)&&true)=_
  rw[show List.range 2=[0,1] from rfl];simp only[nK,List.all_nil,Bool.and_true,if_true];rw[az (by decide)];by_cases z1:p1=s1
  .by_cases z2:p2=s2
   .subst z1 z2;simp
   .subst z1;simp[z2]
  .simp[z1]
 rw[e]at this;exact this
def AZ (I:Inv X OG U H s)(hu:A.units+(Rep.depth α+Rep.depth β+1)<cLine)(h1:hasP X.K H p x)(h2:hasP X.K H q y)(r1:RelV x u)(r2:RelV y v):EqAt A s u v (decide (p=q)):=by
 have rc:=uL (A:=A) I hu h1 h2 r1 r2;have h1':=id h1;have h2':=id h2;obtain ⟨a,x1,x2,rfl,q1,e1,e2⟩:=h1;obtain ⟨b,y1,y2,rfl,q2,f1,f2⟩:=h2;cases r1
 cases r2
 by_cases hab:a=b
 .subst hab;rw[aU (AX I h1' h2')];exact EqAt.same _
 .exact EqAt.of_refs hab rc
end
instance {α β:Type} [Rep α] [Rep β]:Rep (α×β) where
 dec:=inferInstance
 depth:=Rep.depth α+Rep.depth β+1
 has:=hasP
 mono:=λe ⟨a,x,y,h1,h2,h3,h4⟩=>#[a,x,y,h1,e _ _ h2 nofun,Rep.mono e h3,Rep.mono e h4]
 inj:=λI h1 h2=>AX I h1 h2
 rc:=λI hu h1 h2 r1 r2=>uL I hu h1 h2 r1 r2
 rn:=λI hu h1 h2 r1 r2=>AY I hu h1 h2 r1 r2
 eq:=λI hu h1 h2 r1 r2=>AZ I hu h1 h2 r1 r2
def huD {k:Nat}{α:Type}[Rep α](hr:Room k A)(h:Rep.depth α<=64:=by decide):A.units+Rep.depth α<cLine:=fb (tW h _) hr.units
inductive rEqD (α:Type)[Rep α](K:Frag)(x:V)(y:V)(H:Hp)(Q:VK):Prop
 | c:∀(a b:α),Rep.has K H a x->Rep.has K H b y->Q (.bl (decide (a=b))) H->rEqD α K x y H Q
inductive rNeD (α:Type)[Rep α](K:Frag)(x:V)(y:V)(H:Hp)(Q:VK):Prop
 | c:∀(a b:α),Rep.has K H a x->Rep.has K H b y->Q (.bl (!decide (a=b))) H->rNeD α K x y H Q
section
variable {X:Cx}
def uM (α:Type)[Rep α](hu:X.A.units+Rep.depth α<cLine):OpR X (compareOp .Eq) (rEqD α X.K):=by
 intro OG s U H x y v u Q I rx ry h;obtain ⟨a,b,ha,hb,q⟩:=h;refine Rep.rc I hu ha hb rx ry X.prog X.w X.xe _ #[.bl _,H,I,rfl,?_];have e:(Rep.dec a b).decide=decide (a=b):=rfl;rw[e];exact q
def dN (α:Type)[Rep α](hu:X.A.units+Rep.depth α<cLine):OpR X (compareOp .NotEq) (rNeD α X.K):=by
 intro OG s U H x y v u Q I rx ry h;obtain ⟨a,b,ha,hb,q⟩:=h;refine Rep.rn I hu ha hb rx ry X.prog X.w X.xe _ #[.bl _,H,I,rfl,?_];have e:(Rep.dec a b).decide=decide (a=b):=rfl;rw[e];exact q
end
end L2
namespace L2
open PySem PySem.Spec PyProof.Rows
section
variable {X:Cx}{OG:List (Addr×Obj)}{U:St}{H:Hp}{s:Shared}{h':Heap}
def Inv.turnedNew {t':Nat}{fp:List Addr}{p:Addr}(I:Inv X OG U H s)(k:∀ b ob,b∉fp->s.heap.get? b=some ob->h'.get? b=some ob)(hf:∀ b∈fp,FpOk X OG H b)
  (hp:s.heap.objs.size<=p) (new:bU X.prog X.w (upd H p o) h' p o):Inv X OG U (upd H p o) { s with heap:=h',toks:=t' }:=by
 have hn:H p=none:=I.hok.fresh hp;have nfp:∀ b u,H b=some u->b∉fp:=λb u e z=>by rw[(hf b z).1]at e;cases e
 have nep:∀ b ob,s.heap.get? b=some ob->b≠p:=λb ob e=>bX (cH (aZ e) hp);refine I.step (g':=s.gens) (d':=s.drawn) (ch:=fp) (λb hb=>?_) (λb ob _ _ hc e _=>k b ob hc e) (λb ob _ _ hc e _=>#[ob.slots,k b ob hc e]) (λb ob _ e n=>by rw[ak (nep b ob e)];exact n)
  (λb ob hc e=>#[ob,k b ob hc e]) (λb xs e=>by rw[ak (aq e hn)];exact e) (λb ob u e=>by rw[ak (aq e hn)];exact e) (λb ps e=>#[(List.toArray []),by rw[ak (aq e hn),e];simp]) (λm hm=>?_) (λb u e=>?_) I.bare
 .obtain ⟨_,h2,_,h4,h5,h6⟩:=hf b hb;exact #[h4,h2,h5,h6]
 .obtain ⟨ob,es,ep,ho,r⟩:=hm;exact #[ob,es,ep,k _ ob (λz=>(hf _ z).2.1 rfl) ho,r]
 .by_cases hb:b=p
  .subst hb;rw[ah]at e;cases e;exact new
  .rw[ak hb]at e;refine (I.hok b u e).stay (λc v hc q=>k c v ?_ q) (λc q=>by rw[ak (aq q hn)];exact q) λc xs q=>by rw[ak (aq q hn)];exact q
   rcases hc with z|z
   .rw[z];exact nfp b u e
   .exact nfp c _ z
def A0 {h:Heap}{p:Addr}{x y:V}{u v:Value}(rx:RelV x u)(ry:RelV y v)(e:h.get? p=some { cls:=.type "tuple",data:=.seq (List.toArray [u,v]) }):bU P w H h p (.tup [x,y]):=
 #[by show 2<=sizeLine;decide,[u,v],.cons rx (.cons ry .nil),_,e,rfl,0,rfl]
end
def Ite (K:Frag)(a:Addr):It:=
 #[λi H=>∃ xs x,SqL K H a xs/\xs[i]?=some x,λi H x H'=>∃ p y,x=.ref p/\H p=none/\(∀ xs,SqL K H a xs->xs[i]?=some y)/\H'=upd H p (.tup [.int i,y]),λi H=>∃ xs,SqL K H a xs/\xs.length<=i]
def GH {K:Frag}{es:List Expr}{k0}{pos:Pos}(a it e:Addr)(hne:e≠it):Turn P w K (.Tuple es k0 pos) (Ite K a) [e,it] e (λi h=>(∃ old,IsEnum h e it i old)/\h.IsListIter it a i) where
 mem:=by simp
 obj:=λi h st b hb=>by
  obtain ⟨⟨old,he⟩,o,ho,c,d⟩:=st;rcases bq.mp hb with z|z
  .subst z;exact #[_,he,λv z=>by cases z]
  .have z:=a0.mp z;subst z;exact #[o,ho,λv z=>by rw[d]at z;cases z]
 keep:=λi h h' st k=>by
  obtain ⟨⟨old,he⟩,hi⟩:=st;exact #[#[old,k e (by simp) _ he],hi.at λo q=>k it (by simp) o q]
 item:=by
  intro X hP hw hK hc i OG s U H E I hf st hg;subst hP hw hK;obtain ⟨⟨old,he⟩,hi⟩:=st;obtain ⟨xs,x,hq,hx⟩:=hg;obtain ⟨its,rv,p,hz⟩:=I.list hq;obtain ⟨u,hu,ru⟩:=rv.get hx;refine wpAny_pyNext_enum_item he hi p.isList (x:=u) (by simpa using hu) hne λh1 he1 hi1 ht1 _ k1=>?_;refine #[_,rfl,wpAny_letOwnedTupleGo_enum (s:={ s with heap:=h1,toks:=s.toks+1 }) he1 λh2 he2 sb=>?_];have np:s.heap.objs.size≠e:=jB (aZ he);have ht2:h2.get? s.heap.objs.size=some { cls:=.type "tuple",data:=.seq (List.toArray [.int i s.toks,u]) }:=(sb.2 _ np).trans ht1;have I2:Inv X OG U (upd H s.heap.objs.size (.tup [.int i,x])) { s with heap:=h2,toks:=s.toks+1 }:=
   I.turnedNew (fp:=[e,it]) (λb ob hb q=>(sb.2 b (λz=>hb (by simp[z]))).trans (k1 b ob (λz=>hb (by simp[z])) (λz=>hb (by simp[z])) q)) hf (av _) (A0 #[_,rfl] ru ht2)
  refine #[.ref s.heap.objs.size,_,I2,rfl,#[_,x,rfl,I.hok.fresh (av _),λys hy=>by rw[I.list_inj hy hq];exact hx,rfl],#[#[u,?_],?_],λb hb=>?_]
  .have z:IsEnum h2 e it ((i:Int)+1) u:=he2;exact z
  .exact hi1.at λo q=>(sb.2 it (bE hne)).trans q
  .have z:=(hf b hb).1;rw[ak ?_]
   .exact z
   .rcases bq.mp hb with q|q
    .rw[q];exact bE np
    .rw[a0.mp q];obtain ⟨o,ho,_⟩:=hi;exact bX (aZ ho)
 done:=by
  intro X hP hw hK hc i OG s U H E I hf st hg;subst hP hw hK;obtain ⟨⟨old,he⟩,hi⟩:=st;obtain ⟨xs,hq,hx⟩:=hg;obtain ⟨its,rv,p,hz⟩:=I.list hq;obtain ⟨f0,f1,f2,f3,f4,f5⟩:=hf it (by simp);have hl:=rv.length;exact wpAny_pyNext_enum_end (I.ok.hd hc) he hi p.isList (by simp;lia) λh' eb=>#[rfl,I.turned (t':=s.toks) (λb o hb q=>eb b o hb q) f0 f1 f3 f4 f5]
 self:=λ_ _ _ _ _ st h=>by
  obtain ⟨⟨old,he⟩,_⟩:=st;exact wpAny_pyIter_enum he h
inductive A8 (K:Frag)(R:It->Hp->Prop)(vs:List V)(H1:Hp):Prop
 | c:∀ a,vs=[.ref a]->(∃ xs,SqL K H1 a xs)->R (Ite K a) H1->A8 K R vs H1
def GI (K:Frag)(ta:TA):TI:=λU H R=>ta U H λvs H1=>A8 K R vs H1
section
variable {X:Cx}
def uN {es:List Expr}{k0}{tp:Pos}{a:Expr}{p pos:Pos}(hg:Gl X "enumerate")(hm:X.mg "enumerate" = none)(ha:PA X [a] ta)(hs:starEach [a] X.env=[(false,eval a X.env)]:=by rfl):PI X (.Tuple es k0 tp) (.Call (.Name "enumerate" p) [a] [] pos) (GI X.K ta):=by
 intro OG s U H R I h;refine Call_ (gx I hg hm boot_enumerate (PyProof.Rows.callWith_type1 (thn (ha pos OG s U H _ I h) λus s1 zq0=>?_) hs rfl));obtain ⟨vs,H1,I1,r1,q1⟩:=zq0;obtain ⟨l,e,⟨xs,hq⟩,q⟩:=q1;subst e;cases r1 with
 | cons r rr=>
  cases rr
  cases r
  obtain ⟨its,rv,pl,hz⟩:=I1.list hq;refine call_enumerate_list pl.isList λh' he hi _ hk=>?_;have I2:Inv X OG U H1 { s1 with heap:=h' }:=I1.kept (t':=s1.toks) hk;refine wpAny_pyIter_enum (s:={ s1 with heap:=h' }) he #[_,[s1.heap.objs.size+1,s1.heap.objs.size],_,_,H1,rfl,I2,GH l s1.heap.objs.size (s1.heap.objs.size+1) (Nat.succ_ne_self _),#[#[_,he],hi],λb hb=>?_,q];have hb':s1.heap.objs.size<=b:=by
   rcases bq.mp hb with z|z
   .rw[z];exact gQ _
   .rw[a0.mp z];exact av _
  exact I1.fpOk hb' (I1.hok.fresh hb')
end
def uO {K:Frag}{a:Addr}{g:TG}{tb:TS}{D:Ends}{U:St}{H:Hp}(Pv:Nat->St->Hp->Prop)(h0:Pv 0 U H)(hl:∀ i U H,i<=xs.length->Pv i U H->SqL K H a xs)
  (hs:∀ i x U H p,xs[i]?=some x->Pv i U H->H p=none->g (.ref p) U (upd H p (.tup [.int i,x])) λU2 H2=>tb { D with nx:=Pv (i+1),ct:=Pv (i+1),bk:=D.nx } U2 H2) (hd:∀ U H,Pv xs.length U H->D.nx U H) :
  ∃ W:Nat->Nat->St->Hp->Prop,(∃ m,W 0 m U H)/\∀ i m U H,W i m U H->((Ite K a).stop i H/\D.nx U H)\/((Ite K a).go i H/\∃ N:St->Hp->Prop,(∀ U' H',N U' H'->∃ m',m'<m/\W (i+1) m' U' H')/\∀ x H',(Ite K a).yld i H x H'->g x U H' λU2 H2=>tb { D with nx:=N,ct:=N,bk:=D.nx } U2 H2):=by
 refine #[λi m U H=>i+m=xs.length/\Pv i U H,#[xs.length,by lia,h0],λi m U H zq0=>?_];obtain ⟨e,pv⟩:=zq0;have hS:=hl i U H (by lia) pv;by_cases hi:i<xs.length
 .refine .inr #[#[xs,xs[i],hS,aD hi],Pv (i+1),λU' H' q=>#[m-1,by lia,by lia,q],λx H' y=>?_];obtain ⟨p,z,rfl,hp,hz,rfl⟩:=y;exact hs i z U H p (hz xs hS) pv hp
 .have:i=xs.length:=by lia
  subst this;exact .inl #[#[xs,hS,av _],hd U H pv]
def Itz (K:Frag)(a b:Addr):It:=
 #[λi H=>∃ xs ys x y,SqL K H a xs/\SqL K H b ys/\xs[i]?=some x/\ys[i]?=some y,λi H x H'=>∃ p y z,x=.ref p/\H p=none/\(∀ xs,SqL K H a xs->xs[i]?=some y)/\(∀ xs,SqL K H b xs->xs[i]?=some z)/\H'=upd H p (.tup [y,z]),λi H=>∃ xs ys,SqL K H a xs/\SqL K H b ys/\(xs.length<=i\/ys.length<=i)]
def GJ {K:Frag}{es:List Expr}{k0}{pos:Pos}{a b z TI TO i1 i2:Addr}(D:ZipApart z TI TO i1 i2 a b):Turn P w K (.Tuple es k0 pos) (Itz K a b) [z,TI,TO,i1,i2] z
  (λi h=>IsZip h z TI TO .none/\IsPair h TI (.ref i1) (.ref i2)/\(∃ u v,IsPair h TO u v)/\h.IsListIter i1 a i/\h.IsListIter i2 b i) where
 mem:=by simp
 obj:=λi h st c hc=>by
  obtain ⟨hz,hTI,⟨u,v,hTO⟩,⟨o1,e1,_,d1⟩,⟨o2,e2,_,d2⟩⟩:=st;simp only[bq,dq,or_false]at hc;rcases hc with rfl|rfl|rfl|rfl|rfl
  .exact #[_,hz,λv q=>by cases q]
  .exact #[_,hTI,λv q=>by cases q]
  .exact #[_,hTO,λv q=>by cases q]
  .exact #[o1,e1,λv q=>by rw[d1]at q;cases q]
  .exact #[o2,e2,λv q=>by rw[d2]at q;cases q]
 keep:=λi h h' st k=>by
  obtain ⟨hz,hTI,⟨u,v,hTO⟩,h1,h2⟩:=st;exact #[k z (by simp) _ hz,k TI (by simp) _ hTI,#[u,v,k TO (by simp) _ hTO],h1.at λo q=>k i1 (by simp) o q,h2.at λo q=>k i2 (by simp) o q]
 item:=by
  intro X hP hw hK hc i OG s U H E I hf st hg;subst hP hw hK;obtain ⟨hz,hTI,⟨u0,v0,hTO⟩,h1,h2⟩:=st;obtain ⟨xs,ys,x,y,hqa,hqb,hx,hy⟩:=hg;obtain ⟨its,rv,p,_⟩:=I.list hqa;obtain ⟨jts,rw',p',_⟩:=I.list hqb;obtain ⟨u,hu,ru⟩:=rv.get hx;obtain ⟨v,hv,rv'⟩:=rw'.get hy;refine wpAny_pyNext_zip_item D hz hTI hTO h1 h2 p.isList p'.isList (x:=u) (y:=v) (by simpa using hu) (by simpa using hv) λh1' hz1 hTO1 hi1 hi2 ht1 _ k1=>?_;refine #[_,rfl,wpAny_letOwnedTupleGo_zip (s:={ s with heap:=h1' }) hz1 λh2' hz2 sb=>?_];have np:s.heap.objs.size≠z:=jB (aZ hz);have ht2:h2'.get? s.heap.objs.size=some { cls:=.type "tuple",data:=.seq (List.toArray [u,v]) }:=(sb.2 _ np).trans ht1;have I2:Inv X OG U (upd H s.heap.objs.size (.tup [x,y])) { s with heap:=h2',toks:=s.toks }:=
   I.turnedNew (fp:=[z,TI,TO,i1,i2]) (λc ob hb q=>(sb.2 c (λr=>hb (by simp[r]))).trans (k1 c ob (λr=>hb (by simp[r])) (λr=>hb (by simp[r])) (λr=>hb (by simp[r])) (λr=>hb (by simp[r])) q)) hf (av _) (A0 ru rv' ht2)
  refine #[.ref s.heap.objs.size,_,I2,rfl,#[_,x,y,rfl,I.hok.fresh (av _),λys hy'=>by rw[I.list_inj hy' hqa];exact hx,λys hy'=>by rw[I.list_inj hy' hqb];exact hy,rfl],#[hz2,(sb.2 _ D.TIz).trans (k1 TI _ D.TIz D.TITO D.TIi1 D.TIi2 hTI),#[_,_,(sb.2 _ D.TOz).trans hTO1],hi1.at λo q=>(sb.2 i1 D.i1z).trans q,hi2.at λo q=>(sb.2 i2 D.i2z).trans q],λc hb=>?_];have zf:=(hf c hb).1;have lt:c<s.heap.objs.size:=by
   simp only[bq,dq,or_false]at hb;obtain ⟨o1,e1,_⟩:=h1;obtain ⟨o2,e2,_⟩:=h2;rcases hb with rfl|rfl|rfl|rfl|rfl
   .exact aZ hz
   .exact aZ hTI
   .exact aZ hTO
   .exact aZ e1
   .exact aZ e2
  rw[ak (bX lt)];exact zf
 done:=by
  intro X hP hw hK hc i OG s U H E I hf st hg;subst hP hw hK;obtain ⟨hz,hTI,⟨u0,v0,hTO⟩,h1,h2⟩:=st;obtain ⟨xs,ys,hqa,hqb,hend⟩:=hg;obtain ⟨its,rv,p,_⟩:=I.list hqa;obtain ⟨jts,rw',p',_⟩:=I.list hqb;have l1:=rv.length;have l2:=rw'.length;refine wpAny_pyNext_zip_end (I.ok.hd hc) D hz hTI hTO h1 h2 p.isList p'.isList (by
   rcases hend with q|q
   .left;simp;lia
   .right;simp;lia) λh' kk=>#[rfl,?_]
  refine I.step (g':=s.gens) (d':=s.drawn) (t':=s.toks) (ch:=[z,TI,TO,i1,i2]) (λc hb=>?_) (λc ob _ _ hn q _=>kk c ob (λr=>hn (by simp[r])) (λr=>hn (by simp[r])) (λr=>hn (by simp[r])) (λr=>hn (by simp[r])) q)
   (λc ob _ _ hn q _=>#[ob.slots,kk c ob (λr=>hn (by simp[r])) (λr=>hn (by simp[r])) (λr=>hn (by simp[r])) (λr=>hn (by simp[r])) q]) (λ_ _ _ _ n=>n)
   (λc ob hn q=>#[ob,kk c ob (λr=>hn (by simp[r])) (λr=>hn (by simp[r])) (λr=>hn (by simp[r])) (λr=>hn (by simp[r])) q]) (λ_ _ q=>q) (λ_ _ _ q=>q) (λc ps q=>#[(List.toArray []),by rw[q];simp]) (λm hm=>?_) (λc u e=>?_) I.bare
  .obtain ⟨_,q2,_,q4,q5,q6⟩:=hf c hb;exact #[q4,q2,q5,q6]
  .obtain ⟨ob,es,ep,ho,r⟩:=hm;have nL:∀ c∈[z,TI,TO,i1,i2],X.env.locals≠c:=λc hc=>bE (hf c hc).2.1;exact #[ob,es,ep,kk _ ob (nL z (by simp)) (nL TO (by simp)) (nL i1 (by simp)) (nL i2 (by simp)) ho,r]
  .have nf:∀ c' u,H c'=some u->∀ q∈[z,TI,TO,i1,i2],c'≠q:=λc' u e q hq r=>by rw[r,(hf q hq).1]at e;cases e
   refine (I.hok c u e).stay (λc' v hc' q=>?_) (λ_ q=>q) λ_ _ q=>q;have go:∀ u',H c'=some u'->h'.get? c'=some v:=λu' e'=>kk c' v (nf c' _ e' z (by simp)) (nf c' _ e' TO (by simp)) (nf c' _ e' i1 (by simp)) (nf c' _ e' i2 (by simp)) q;rcases hc' with r|r
   .exact go u (by rw[r];exact e)
   .exact go _ r
 self:=λ_ _ _ _ _ st h=>wpAny_pyIter_zip st.1 h
def GK {l l' n:Nat}(hl:l<n)(hl':l'<n):ZipApart (n+4) (n+2) (n+3) n (n+1) l l':=by
 constructor<;>(intro z;have z':(_:Nat)=_:=z;lia)
def GL {n c:Nat}(h:c∈[n+4,n+2,n+3,n,n+1]):n<=c:=by
 simp only[bq,dq,or_false]at h;lia
inductive A9 (K:Frag)(R:It->Hp->Prop)(vs:List V)(H1:Hp):Prop
 | c:∀ a b,vs=[.ref a,.ref b]->(∃ xs,SqL K H1 a xs)->(∃ xs,SqL K H1 b xs)->R (Itz K a b) H1->A9 K R vs H1
def iZip (K:Frag)(ta:TA):TI:=λU H R=>ta U H λvs H1=>A9 K R vs H1
section
variable {X:Cx}
def jX {es:List Expr}{k0}{tp:Pos}{a b:Expr}{p pos:Pos}(hg:Gl X "zip")(hm:X.mg "zip" = none)(ha:PA X [a,b] ta)(hs:starEach [a,b] X.env=[(false,eval a X.env),(false,eval b X.env)]:=by rfl)(hs2:starEach [b] X.env=[(false,eval b X.env)]:=by rfl):PI X (.Tuple es k0 tp) (.Call (.Name "zip" p) [a,b] [] pos) (iZip X.K ta):=by
 intro OG s U H R I h;refine Call_ (gx I hg hm boot_zip (PyProof.Rows.callWith_type1 (thn (ha pos OG s U H _ I h) λus s1 zq0=>?_) (by rw[hs,hs2]) (by rw[hs2];rfl)));obtain ⟨vs,H1,I1,r1,q1⟩:=zq0;obtain ⟨l,l',e,⟨xs,hq⟩,⟨ys,hq'⟩,q⟩:=q1;subst e;cases r1 with
 | cons r rr=>
  cases rr with
  | cons r' rr=>
   cases rr
   cases r
   cases r'
   obtain ⟨its,rv,pl,hz⟩:=I1.list hq;obtain ⟨jts,rv',pl',hz'⟩:=I1.list hq';have hl:l<s1.heap.objs.size:=by obtain ⟨o,_,e,_⟩:=pl;exact aZ e
   have hl':l'<s1.heap.objs.size:=by obtain ⟨o,_,e,_⟩:=pl';exact aZ e
   refine call_zip_2 pl.isList pl'.isList λh' hz hTI hTO hi hi' _ hk=>?_;have I2:Inv X OG U H1 { s1 with heap:=h' }:=I1.kept (t':=s1.toks) hk;refine wpAny_pyIter_zip (s:={ s1 with heap:=h' }) hz #[_,[s1.heap.objs.size+4,s1.heap.objs.size+2,s1.heap.objs.size+3,s1.heap.objs.size,s1.heap.objs.size+1],_,_,H1,rfl,I2,GJ (GK hl hl'),#[hz,hTI,#[_,_,hTO],hi,hi'],λc hb=>?_,q];have hb':s1.heap.objs.size<=c:=GL hb;exact I1.fpOk hb' (I1.hok.fresh hb')
end
def GM {K:Frag}{a:Addr}{xs ys:List V}{g:TG}{tb:TS}{D:Ends}{U:St}{H:Hp}(hlen:xs.length=ys.length)(Pv:Nat->St->Hp->Prop)(h0:Pv 0 U H)(hl:∀ i U H,i<=xs.length->Pv i U H->SqL K H a xs/\SqL K H b ys)
  (hs:∀ i x y U H p,xs[i]?=some x->ys[i]?=some y->Pv i U H->H p=none->g (.ref p) U (upd H p (.tup [x,y])) λU2 H2=>tb { D with nx:=Pv (i+1),ct:=Pv (i+1),bk:=D.nx } U2 H2) (hd:∀ U H,Pv xs.length U H->D.nx U H) :
  ∃ W:Nat->Nat->St->Hp->Prop,(∃ m,W 0 m U H)/\∀ i m U H,W i m U H->((Itz K a b).stop i H/\D.nx U H)\/((Itz K a b).go i H/\∃ N:St->Hp->Prop,(∀ U' H',N U' H'->∃ m',m'<m/\W (i+1) m' U' H')/\∀ x H',(Itz K a b).yld i H x H'->g x U H' λU2 H2=>tb { D with nx:=N,ct:=N,bk:=D.nx } U2 H2):=by
 refine #[λi m U H=>i+m=xs.length/\Pv i U H,#[xs.length,by lia,h0],λi m U H zq0=>?_];obtain ⟨e,pv⟩:=zq0;obtain ⟨hS,hS'⟩:=hl i U H (by lia) pv;by_cases hi:i<xs.length
 .refine .inr #[#[xs,ys,xs[i],ys[i]'(by lia),hS,hS',aD hi,aD (by lia)],Pv (i+1),λU' H' q=>#[m-1,by lia,by lia,q],λx H' y=>?_];obtain ⟨p,z,z',rfl,hp,hz,hz',rfl⟩:=y;exact hs i z z' U H p (hz xs hS) (hz' ys hS') pv hp
 .have:i=xs.length:=by lia
  subst this;exact .inl #[#[xs,ys,hS,hS',.inl (av _)],hd U H pv]
def dy (X:Cx)(N:List Str)(scope:Scope)(cl:List (Str×Addr))(C:Addr)(s₂:Shared)(H₂:Hp)(fp:List Addr):Cx:=
 { X with N:=N,s₀:=s₂,H₀:=H₂,env:=compEnvC scope cl C X.env,outer:=X.stack,stack:=X.stack,ex:=fp,fn:=λ_=>false,xe:=λ_ _=>False }
structure jY (scope:Scope)(env:Env)(cl:List (Str×Addr)):Prop where
 eq:closureFor scope env=pure cl
 sub:∀ x c,cl.lookup x=some c->env.cells.lookup x=some c
 has:∀ x,(x,NameKind.free)∈scope.names->∃ c,cl.lookup x=some c
def uP {env:Env}:∀(names:List (Str×NameKind)) (cs:List (Str×Addr)),(∀ x,(x,NameKind.free)∈names->∃ c,env.cells.lookup x=some c)->(∀ x c,cs.lookup x=some c->env.cells.lookup x=some c)->
  ∃ cl:List (Str×Addr),(forIn names cs (λ(x:Str×NameKind) (r:List (Str×Addr))=>if (x.2==NameKind.free)=true then (do let c <-cellOf env x.1;pure (ForInStep.yield ((x.1,c)::r))) else pure (ForInStep.yield r)):Sem (List (Str×Addr)))=pure cl/\
   (∀ x c,cl.lookup x=some c->env.cells.lookup x=some c)/\(∀ x c,cs.lookup x=some c->∃ c',cl.lookup x=some c')/\∀ x,(x,NameKind.free)∈names->∃ c,cl.lookup x=some c
 | [],cs,_,h2=>#[cs,by rw[List.forIn_nil],h2,λx c e=>#[c,e],λ_ z=>nomatch z]
 | (n,k)::r,cs,h1,h2=>by
  by_cases hk:k=.free
  .subst hk;obtain ⟨c,hc⟩:=h1 n bL;have hn:∀ x c',((n,c)::cs).lookup x=some c'->env.cells.lookup x=some c':=λx c' e=>by
    rw[eR]at e;cases hx:x==n with
    | true=>
     rw[hx]at e;cases e
     rw[eq_of_beq hx];exact hc
    | false=>
     rw[hx]at e;exact h2 x c' e
   obtain ⟨cl,e,s1,s2,s3⟩:=uP r ((n,c)::cs) (λx hx=>h1 x (cp _ hx)) hn;have here:∃ c',cl.lookup n=some c':=s2 n c (by rw[eR,beq_self_eq_true]);refine #[cl,?_,s1,λx c' q=>?_,λx hx=>?_]
   .rw[List.forIn_cons,ar (by rfl)];have q:cellOf env n=pure c:=by unfold cellOf;rw[hc]
    rw[q];simp only[pure_bind];exact e
   .cases hxn:x==n with
    | true=>rw[eq_of_beq hxn];exact here
    | false=>exact s2 x c' (by rw[eR,hxn];exact q)
   .rcases bq.mp hx with z|z
    .cases z;exact here
    .exact s3 x z
  .obtain ⟨cl,e,s1,s2,s3⟩:=uP r cs (λx hx=>h1 x (cp _ hx)) h2;refine #[cl,?_,s1,s2,λx hx=>?_]
   .have hb:(k==NameKind.free)=false:=by simpa using hk
    rw[List.forIn_cons,az (by rw[hb];exact cN)];simp only[pure_bind];exact e
   .rcases bq.mp hx with z|z
    .cases z;exact absurd rfl hk
    .exact s3 x z
def uQ {scope:Scope}{env:Env}(h:∀ x,(x,NameKind.free)∈scope.names->∃ c,env.cells.lookup x=some c):∃ cl,jY scope env cl:=by
 obtain ⟨cl,e,s1,_,s3⟩:=uP scope.names [] h (λ_ _ z=>nomatch z);refine #[cl,?_,s1,s3];unfold closureFor;exact (by simpa using e)
def Ba {env:Env}:∀{names:List (Str×NameKind)} {x:Str},names.lookup x=some .free->
  (names.map λ(n,k)=>if (k==NameKind.free&&env.scope.kind == .function&&env.kindOf n==some .cell) then (n,NameKind.cell) else (n,k)).lookup x=some .cell\/
  (names.map λ(n,k)=>if (k==NameKind.free&&env.scope.kind == .function&&env.kindOf n==some .cell) then (n,NameKind.cell) else (n,k)).lookup x=some .free
 | [],_,h=>by simp at h
 | (n,k)::r,x,h=>by
  have ih:=@Ba env r x;show List.lookup x ((if (k==NameKind.free&&env.scope.kind == .function&&env.kindOf n==some .cell)=true then (n,NameKind.cell) else (n,k))::_)=_\/List.lookup x ((if (k==NameKind.free&&env.scope.kind == .function&&env.kindOf n==some .cell)=true then (n,NameKind.cell) else (n,k))::_)=_
  cases hx:x==n with
  | true=>
   simp only[eR,hx]at h;cases h
   by_cases hc:(NameKind.free==NameKind.free&&env.scope.kind == .function&&env.kindOf n==some .cell)=true
   .rw[ar hc];left;simp only[eR,hx]
   .rw[az hc];right;simp only[eR,hx]
  | false=>
   simp only[eR,hx]at h;by_cases hc:(k==NameKind.free&&env.scope.kind == .function&&env.kindOf n==some .cell)=true
   .rw[ar hc];simp only[eR,hx];exact ih h
   .rw[az hc];simp only[eR,hx];exact ih h
def uR {env:Env}:∀{names:List (Str×NameKind)} {x:Str} {k':NameKind},(names.map λ(n,k)=>if (k==NameKind.free&&env.scope.kind == .function&&env.kindOf n==some .cell) then (n,NameKind.cell) else (n,k)).lookup x=some k'->k'=.cell\/k'=.free->
  (∀ y∈names,y.2≠.cell)->(x,NameKind.free)∈names
 | [],_,_,h,_,_=>by simp at h
 | (n,k)::r,x,k',h,hk,hc=>by
  have ih:=@uR env r x k';have h':List.lookup x ((if (k==NameKind.free&&env.scope.kind == .function&&env.kindOf n==some .cell)=true then (n,NameKind.cell) else (n,k))::r.map λ(n,k)=>if (k==NameKind.free&&env.scope.kind == .function&&env.kindOf n==some .cell) then (n,NameKind.cell) else (n,k))=some k':=h
  cases hx:x==n with
  | true=>
   have e:=eq_of_beq hx;subst e;by_cases hf:k=.free
   .subst hf;exact bL
   .have hb:(k==NameKind.free)=false:=by simpa using hf
    rw[az (by rw[hb];simp),eR,hx]at h';cases h'
    rcases hk with z|z
    .exact absurd z (hc (x,k) bL)
    .exact absurd z hf
  | false=>
   refine cp _ (ih ?_ hk λy hy=>hc y (cp _ hy));by_cases hcd:(k==NameKind.free&&env.scope.kind == .function&&env.kindOf n==some .cell)=true
   .rw[ar hcd,eR,hx]at h';exact h'
   .rw[az hcd,eR,hx]at h';exact h'
def ig (own:Nat)(cap:List Nat)(U:St):St:=List.replicate own none++cap.map λi=>(U[i]?).getD none
structure oB (X:Cx)(scope:Scope)(N:List Str)(own:Nat)(cap:List Nat):Prop where
 kind:scope.kind=.function
 nocell:(scope.names.all λy=>y.2 != .cell)=true
 locs:(scope.names.all λy=>y.2 != .local||scope.names.lookup y.1==some .local)=true
 frees:(scope.names.all λy=>y.2 != .free||(X.env.kindOf y.1==some .cell||X.env.kindOf y.1==some .free))=true
 len:N.length=own+cap.length
 caps:((List.range cap.length).all λj=>(N[own+j]?==X.N[cap[j]!]?)&&(match N[own+j]? with|some x=>scope.names.lookup x==some .free&&(X.env.kindOf x==some .cell||X.env.kindOf x==some .free)|none=>false))=true
section
variable {prog:Program}{w:World}{A:Around}{R:Result->Shared->Prop}{s:Shared}
def GN {elt target iter:Expr}{ifs:List Expr}{scope:Scope}{pos:Pos}{it acc:Value}{env:Env}(I:Nat->Shared->Prop)
  (turn:∀ n s,I n s->wpAny (model prog w) A (pyNext it) (λr s₁=>match r with
   | none=>R (.ok .next) s₁
   | some v=>wpAny (model prog w) A (letOwnedTupleGo target it v) (λ_ s₁'=>wpAny (model prog w) A (assign target env v) (λ_ s₂=>
     wpAny (model prog w) A (forIn ifs true λc r=>if r=true then do let ok <-isTrue c env (eval c env);pure (ForInStep.yield ok) else pure (ForInStep.yield r)) (λok s₃=>
      if ok=true then wpAny (model prog w) A (eval elt env) (λx s₄=>
       wpAny (model prog w) A (call (.builtin "list.append") [acc,x]) (λ_ s₅=>∃ m,m<n/\I m s₅) (λ_ _=>False) s₄) (λ_ _=>False) s₃
      else ∃ m,m<n/\I m s₃) (λ_ _=>False) s₂) (λ_ _=>False) s₁') (λ_ _=>False) s₁) (λ_ _=>False) s)
  (n:Nat) (h:I n s) :
  codeAny (model prog w) A (.compLoop (.ListComp elt [#[target,iter,ifs,0]] scope pos) 0 it acc env) R s:=by
 refine codeAny_loop rfl I (λn s hI=>?_) n h;show wpAny _ A ((compTurn (.ListComp elt [#[target,iter,ifs,0]] scope pos) 0 it acc env).onRaise (λx=>do noteFrame x env;theTreesLotGoes x)) _ _ s
 refine wpAny_noted ?_;rw[compTurn_list];refine aA (wpAny_standAt (aA (dX (turn n s hI) (λr s₁ h₁=>?_) λ_ _ h'=>h'.elim)));cases r with
 | none=>exact bg h₁
 | some v=>
  refine aA (dX h₁ (λ_ s₁' h₁'=>?_) λ_ _ h'=>h'.elim);refine aA (dX h₁' (λ_ s₂ h₂=>aA (dX h₂ (λok s₃ h₃=>?_) λ_ _ h'=>h'.elim)) λ_ _ h'=>h'.elim);cases ok with
  | true=>
   simp only[if_true]at h₃ ⊢;exact aA (aA (dX h₃ (λx s₄ h₄=>aA (dX h₄ (λ_ s₅ h₅=>bg (bg #[rfl,h₅])) λ_ _ h'=>h'.elim)) λ_ _ h'=>h'.elim))
  | false=>
   simp only[tZ,if_false]at h₃ ⊢;exact bg #[rfl,h₃]
end
section
variable {X:Cx}
def PTs (X:Cx)(ifs:List Expr)(t:TT):Prop:=
 ∀(OG:List (Addr×Obj)) (s:Shared) (U:St) (H:Hp) (Q:Bool->Hp->Prop),Inv X OG U H s->t U H Q->
  wpAny (model X.prog X.w) X.A (forIn ifs true λc r=>if r=true then do let ok <-isTrue c X.env (eval c X.env);pure (ForInStep.yield ok) else pure (ForInStep.yield r)) (TP X OG U Q) X.xe s
def tYes:TT:=λ_ H Q=>Q true H
def bW:PTs X [] tYes:=λ_ _ _ H _ I h=>wpAny_tests_nil #[H,I,h]
def jd {t:TT}(h:PT X c t):PTs X [c] t:=λOG s U H Q I q=>wpAny_tests_one (h OG s U H Q I q)
def GO {C:Addr}{fp:List Addr}{h₁:Heap}{tk:Nat}{D:Addr}
  (I:Inv X OG U H s) (c:oB X scope N own cap) (hcl:jY scope X.env cl) (f:∀ b∈fp,FpOk X OG H b) (hD:s.heap.objs.size<=D) (hC:s.heap.objs.size<=C) (hCD:D≠C)
  (kp:∀ b o,s.heap.get? b=some o->h₁.get? b=some o) (hnew:h₁.get? D=some { cls:=.type "list",data:=.seq (List.toArray []) }) (hns:∃ m,h₁.Ns C m) (hfp:∀ b∈fp,b<s.heap.objs.size) (hcalm:X.calm=true) :
  Inv (dy X N scope cl C s H fp) OG (ig own cap U) (upd H D (.lst [])) { s with heap:=h₁,toks:=tk }:=by
 have hfr:H D=none:=I.hok.fresh hD;have hfrC:H C=none:=I.hok.fresh hC;have sz:∀ b o,s.heap.get? b=some o->b≠D/\b≠C:=λb o e=>#[bX (cH (aZ e) hD),bX (cH (aZ e) hC)];have cells:∀ x cc,cl.lookup x=some cc->∃ v,s.heap.IsCell cc v:=λx cc e=>I.cell x cc (hcl.sub x cc e);have cellne:∀ x cc,cl.lookup x=some cc->cc≠D/\cc≠C:=λx cc e=>by
  obtain ⟨v,o,ho,_⟩:=cells x cc e;exact sz cc o ho
 have ok:(dy X N scope cl C s H fp).Ok:=by
  refine #[I.ok.mod,c.kind,I.ok.glob,I.ok.blt,hC,λx y cc e1 e2=>I.ok.inj x y cc (hcl.sub x cc e1) (hcl.sub y cc e2),λx hx=>?_,(λx cc z _=>nomatch z),I.ok.hd,I.ok.frames,.inl rfl,λb hb=>?_,λb o e=>I.bs b o e,?_,λb o e hb=>?_,λb hb z=>?_,I.stack,λb hb=>I.stkFree b hb]
  .have hm:(x,NameKind.free)∈scope.names:=by
    rcases hx with z|z
    .exact uR (env:=X.env) (names:=scope.names) (x:=x) (k':=.cell) z (.inl rfl) λy hy q=>by
      have:=ff.mp c.nocell y hy;rw[q]at this;exact absurd this (by decide)
    .exact uR (env:=X.env) (names:=scope.names) (x:=x) (k':=.free) z (.inr rfl) λy hy q=>by
      have:=ff.mp c.nocell y hy;rw[q]at this;exact absurd this (by decide)
   exact hcl.has x hm
  .exact #[bX (cH (hfp b hb) hC),λx cc e z=>(f b hb).2.2.2.2.1 x cc (hcl.sub x cc e) z]
  .exact cD I.ok.bsz I.sz
  .obtain ⟨_,_,_,h4,_⟩:=f b hb;rcases h4 with z|z
   .exact I.ok.noex b o e z
   .exact absurd (cH (aZ e) (cD I.ok.bsz z)) (dP _)
  .obtain ⟨_,h2,h3,_⟩:=f b hb;rcases bq.mp (I.stkSub b z) with q|q
   .exact h2 q
   .exact h3 q
 have hokN:bU X.prog X.w (upd H D (.lst [])) h₁ D (.lst []):=#[cS _,[],0,.nil,hnew];refine #[ok,I.os.symm ▸ rfl,I.bare,Un.laid kp hD hfr,?_,λx cc e=>?_,?_,λx cc e=>?_,λp hp=>?_,I.hok.laid kp hD hokN,?_]
 .obtain ⟨m,hm⟩:=hns;refine #[m,hm,λi x v e1 e2 e3=>?_];have hi:own<=i:=by
   false_or_by_contra
   rename_i z;unfold ig at e2;rw[iT (by rw[eF];lia),tV]at e2;split at e2<;>cases e2
  obtain ⟨j,rfl⟩:∃ j,i=own+j:=#[i-own,by lia];have hj:j<cap.length:=by
   have:=(aY.mp e1).1;have z:=c.len;have this':own+j<N.length:=this;lia
  have hc:=ff.mp c.caps j (cC.mpr hj);have e1':N[own+j]?=some x:=e1;rw[e1']at hc;simp only[gj,beq_iff_eq,Bool.or_eq_true]at hc;obtain ⟨hN,hf,hk⟩:=hc;have e2':U[cap[j]!]?=some (some v):=by
   unfold ig at e2;rw[gi (by rw[eF];lia),eF,show own+j-own=j by lia,aQ]at e2;have g:cap[j]! = cap[j]:=by simp[hj]
   rw[aD hj,Option.map_some]at e2;rw[g];have e2:=aV e2;cases q:U[cap[j]]? with
   | none=>rw[q]at e2;cases e2
   | some z=>rw[q]at e2;exact congrArg some e2
  obtain ⟨m0,_,hl⟩:=I.loc;obtain ⟨u,ru,lk⟩:=hl (cap[j]!) x v hN.symm e2' (by
   rcases hk with z|z
   .exact .inr (.inl z)
   .exact .inr (.inr z))
  refine #[u,ru,.inr #[Ba (env:=X.env) hf,?_]];rcases lk with ⟨z,_⟩|⟨_,cc,ec,ic⟩
  .rcases hk with q|q
   .rw[q]at z;cases z
   .rw[q]at z;cases z
  ·obtain ⟨c',hc'⟩:=hcl.has x (by
    have:(x,NameKind.free)∈scope.names:=by
     have hlk:=hf;obtain ⟨l1,l2,hs,hno⟩:=List.lookup_eq_some_iff.mp hlk;rw[hs];exact dQ _ bL
    exact this)
   have:=hcl.sub x c' hc';rw[ec]at this;cases this
   obtain ⟨o,ho,hd⟩:=ic;exact #[cc,hc',o,kp cc o ho,hd]
 .obtain ⟨v,o,ho,hd⟩:=cells x cc e;exact #[v,o,kp cc o ho,hd]
 .show upd H D (.lst []) C=none;rw[ak (bE hCD)];exact hfrC
 .show upd H D (.lst []) cc=none;rw[ak (cellne x cc e).1];exact I.freeC x cc (hcl.sub x cc e)
 .obtain ⟨e,n,ne,nf,d⟩:=I.pin p hp;refine #[kp _ _ e,?_,(sz _ _ e).2,λz=>?_,d]
  .show upd H D (.lst []) p.1=none;rw[ak (sz _ _ e).1];exact n
  .rcases bq.mp (I.stkSub p.1 z) with q|q
   .exact ne q
   .exact nf q
 .show (ig own cap U).length=N.length;unfold ig;rw[bB,eF,af,c.len]
def Bb (own:Nat)(cap:List Nat)(wi:TI)(g:TG)(ts:TT)(te:TE):TE:=λU H Q=>wi U H λJ H1=>∀ D,H1 D=none->∃ W:Nat->Nat->St->Hp->Prop,(∃ m,W 0 m (ig own cap U) (upd H1 D (.lst [])))/\∀ i m U H,W i m U H->
 (J.stop i H/\Q (.ref D) H)\/(J.go i H/\∀ x H',J.yld i H x H'->g x U H' λU2 H2=>ts U2 H2 λb H3=>if b=true then te U2 H3 λy H4=>∃ xs,H4 D=some (.lst xs)/\xs.length<sizeLine/\∃ m',m'<m/\W (i+1) m' U2 (upd H4 D (.lst (xs++[y]))) else ∃ m',m'<m/\W (i+1) m' U2 H3)
def Bc {fp:List Addr}{iter:Expr}{pos:Pos}{ts:TT}{Q:VK}
  {E:Value->Shared->Prop} {RR:Value->Addr->Result->Shared->Prop}
  (hcalm:X.calm=true) (c:oB X scope N own cap) (hcl:jY scope X.env cl)
  (hg:∀ cl C s₂ H₂ fp,PG (dy X N scope cl C s₂ H₂ fp) tg g) (hts:∀ cl C s₂ H₂ fp,PTs (dy X N scope cl C s₂ H₂ fp) ifs ts) (he:∀ cl C s₂ H₂ fp,PE (dy X N scope cl C s₂ H₂ fp) elt te)
  (I2:Inv X OG U H2 s2) (T:Turn X.prog X.w X.K tg J fp it tn) (st2:tn 0 s2.heap) (f2:∀ b∈fp,FpOk X OG H2 b)
  (rd:∀ D,H2 D=none->∃ W:Nat->Nat->St->Hp->Prop,(∃ m,W 0 m (ig own cap U) (upd H2 D (.lst [])))/\∀ i m U H,W i m U H->
   (J.stop i H/\Q (.ref D) H)\/(J.go i H/\∀ x H',J.yld i H x H'->g x U H' λU2 H2=>ts U2 H2 λb H3=>if b=true then te U2 H3 λy H4=>∃ xs,H4 D=some (.lst xs)/\xs.length<sizeLine/\∃ m',m'<m/\W (i+1) m' U2 (upd H4 D (.lst (xs++[y]))) else ∃ m',m'<m/\W (i+1) m' U2 H3))
  (hRR:∀ D C s' H',Inv X OG U H' s'->(∃ m,s'.heap.Ns C m)->FpOk X OG H' C->Q (.ref D) H'->RR (.ref D) C (.ok .next) s') :
  wpAny (model X.prog X.w) X.A (newList []) (λacc s₃=>wpAny (model X.prog X.w) X.A (newFunctionEnv scope X.env.globals cl [] X.env.qual none .none (some X.env)) (λcenv s₄=>
   codeAny (model X.prog X.w) X.A (.compStart (.ListComp elt [#[tg,iter,ifs,0]] scope pos) 0 (.ref it) acc { cenv with scope:=relabel scope X.env }) (RR acc cenv.locals) s₄) E s₃) E s2:=by
 have hcell:∀ y∈scope.names,y.2≠.cell:=λy hy q=>by
  have:=ff.mp c.nocell y hy;rw[q]at this;exact absurd this (by decide)
 have hfp:∀ b∈fp,b<s2.heap.objs.size:=λb hb=>by
  obtain ⟨o,e,_⟩:=T.obj 0 _ st2 b hb;exact aZ e
 refine wpAny_newObj_type (wpAny_newFunctionEnv hcell (by intro y hy;simp at hy) (λh₁ hns₁ hsb₁=>?_) c.kind);dsimp only at hns₁ hsb₁ ⊢;generalize hHH:s2.heap.push { cls:=.type "list",dict:=none,data:=.seq ([]:List Value).toArray }=HH at hns₁ hsb₁ ⊢;have hC:HH.objs.size=s2.heap.objs.size+1:=by rw[<-hHH,Heap.size_push]
 have hDC:s2.heap.objs.size≠HH.objs.size:=by rw[hC];exact bX (Nat.lt_succ_self _)
 have hCle:s2.heap.objs.size<=HH.objs.size:=by rw[hC];exact gQ _
 have old:∀ b o,s2.heap.get? b=some o->h₁.get? b=some o:=λb o e=>hsb₁.extBut b o (bX (by rw[hC];exact Nat.lt_succ_of_lt (aZ e))) (bD _ (hHH ▸ bD _ e));have hnew:h₁.get? s2.heap.objs.size=some { cls:=.type "list",data:=.seq (List.toArray []) }:=hsb₁.extBut _ _ hDC (bD _ (hHH ▸ cV _ rfl));have I3:∀ tk,Inv (dy X N scope cl HH.objs.size s2 H2 fp) OG (ig own cap U) (upd H2 s2.heap.objs.size (.lst [])) { s2 with heap:=h₁,toks:=tk }:=λtk=>
  GO I2 c hcl f2 (av _) hCle hDC old hnew #[_,hns₁] hfp hcalm
 obtain ⟨W,⟨m0,w0⟩,turn⟩:=rd s2.heap.objs.size (I2.hok.fresh (av _));have st3:tn 0 h₁:=T.keep _ _ _ st2 λb _ o e=>old b o e;have fr3:∀ b∈fp,upd H2 s2.heap.objs.size (.lst []) b=none:=λb hb=>by rw[ak (bX (hfp b hb))];exact (f2 b hb).1
 have stat:∀{H':Hp},(∀ b∈fp,H' b=none)->∀ b∈fp,FpOk (dy X N scope cl HH.objs.size s2 H2 fp) OG H' b:=λhn b hb=>by
  obtain ⟨_,h2,h3,_,h5,h6⟩:=f2 b hb;refine #[hn b hb,bX (cH (hfp b hb) hCle),λz=>?_,.inl hb,λx cc e=>h5 x cc (hcl.sub x cc e),h6];rcases bq.mp (I2.stkSub b z) with q|q
  .exact h2 q
  .exact h3 q
 have loop:∀ s₃:Shared,s₃={ s2 with heap:=h₁,toks:=s2.toks+([]:List (Str×Value)).length }->
   codeAny (model X.prog X.w) X.A (.compLoop (.ListComp elt [#[tg,iter,ifs,0]] scope pos) 0 (.ref it) (.ref s2.heap.objs.size) (compEnvC scope cl HH.objs.size X.env)) (RR (.ref s2.heap.objs.size) HH.objs.size) s₃:=by
  rintro s₃ rfl;refine GN (λn s'=>∃ i U' H',Inv (dy X N scope cl HH.objs.size s2 H2 fp) OG U' H' s'/\tn i s'.heap/\(∀ b∈fp,H' b=none)/\W i n U' H') ?_ m0 #[0,_,_,I3 _,st3,fr3,w0];rintro n s3 ⟨i,U3,H3,J3,t3,fr,w3⟩;rcases turn i n U3 H3 w3 with ⟨stop,qn⟩|⟨go,step⟩
  .refine thn (T.done (dy X N scope cl HH.objs.size s2 H2 fp) rfl rfl rfl hcalm i OG s3 U3 H3 (λ_ _=>False) J3 (stat fr) t3 stop) λr s4 zq0=>?_;obtain ⟨hr,I4⟩:=zq0;subst hr;obtain ⟨mm,hmm,_⟩:=I4.loc;refine hRR _ _ s4 H3 (I2.call' I4.os I4.base I4.hok I4.bare λb hb=>?_) #[mm,hmm] (I2.fpOk hCle I4.free) qn;obtain ⟨_,h2,_,h4,h5,h6⟩:=f2 b hb;exact #[h4,h2,h5,h6]
  .refine thn (T.item (dy X N scope cl HH.objs.size s2 H2 fp) rfl rfl rfl hcalm i OG s3 U3 H3 (λ_ _=>False) J3 (stat fr) t3 go) λr s4 zq0=>?_;obtain ⟨u,hr,h4⟩:=zq0;subst hr;refine thn h4 λ_ s5 zq0=>?_;obtain ⟨x,H5,I5,r5,y5,st5,fr5⟩:=zq0;have I5':=I5.pinned (stat fr5) (T.obj _ _ st5);have back:∀{U7:St} {H7:Hp} {s7:Shared} {m':Nat},Inv (dy X N scope cl HH.objs.size s2 H2 fp) (OG++lR fp s5.heap) U7 H7 s7->W (i+1) m' U7 H7->∃ i U' H',Inv (dy X N scope cl HH.objs.size s2 H2 fp) OG U' H' s7/\tn i s7.heap/\(∀ b∈fp,H' b=none)/\W i m' U' H':=λ{U7 H7 s7 m'} I7 w7=>by
    refine #[i+1,U7,H7,I7.unpinned,T.keep _ _ _ st5 λb hb o e=>(I7.pin (b,o) (dQ _ (dQ _ (om hb e)))).1,λb hb=>?_,w7];obtain ⟨o,e,d⟩:=T.obj _ _ st5 b hb;exact (I7.pin (b,o) (dQ _ (dQ _ (om hb e)))).2.1
   refine thn (hg cl HH.objs.size s2 H2 fp _ s5 U3 H5 x u _ I5' r5 (step x H5 y5)) λ_ s6 zq0=>?_;obtain ⟨U6,H6,I6,q6⟩:=zq0;refine thn (hts cl HH.objs.size s2 H2 fp _ s6 U6 H6 _ I6 q6) λb s7 zq0=>?_;obtain ⟨H7,I7,q7⟩:=zq0;cases b with
   | false=>
    rw[az cN]at q7 ⊢;obtain ⟨m',hm,w7⟩:=q7;exact #[m',hm,back I7 w7]
   | true=>
    rw[ar rfl]at q7 ⊢;refine thn (he cl HH.objs.size s2 H2 fp _ s7 U6 H7 _ I7 q7) λv s8 zq0=>?_;obtain ⟨y,H8,I8,r8,q8⟩:=zq0;obtain ⟨xs,hx,hz,m',hm,w8⟩:=q8;refine thn (eJ (X:=dy X N scope cl HH.objs.size s2 H2 fp) _ s8 U6 H8 (.ref s2.heap.objs.size) [y] (.ref s2.heap.objs.size) [v] (λ_ H9=>H9=upd H8 s2.heap.objs.size (.lst (xs++[y]))) I8 rfl (.cons r8 .nil) #[_,xs,y,rfl,rfl,hx,hz,rfl]) λ_ s9 zq0=>?_;obtain ⟨_,H9,I9,_,e9⟩:=zq0;subst e9;exact #[m',hm,back I9 w8]
 refine codeAny_compStart_list (loop _ rfl) ?_;exact T.self _ 0 _ _ _ st3 (loop _ rfl)
def cg {pos:Pos}{ts:TT}(hcalm:X.calm=true)(hi:PI X tg iter wi)(c:oB X scope N own cap)
  (hg:∀ cl C s₂ H₂ fp,PG (dy X N scope cl C s₂ H₂ fp) tg g) (hts:∀ cl C s₂ H₂ fp,PTs (dy X N scope cl C s₂ H₂ fp) ifs ts) (he:∀ cl C s₂ H₂ fp,PE (dy X N scope cl C s₂ H₂ fp) elt te)
  (hs:∀ x,foldedSetIterable iter X.env x=pure x:=by intro _;rfl):PE X (.ListComp elt [#[tg,iter,ifs,0]] scope pos) (Bb own cap wi g ts te):=by
 intro OG s U H Q I h;obtain ⟨cl,hcl⟩:=uQ (scope:=scope) (env:=X.env) λx hx=>I.ok.has x (by
  have:=ff.mp c.frees _ hx;simpa using this)
 rw[eval_ListComp];refine wpAny_comprehension_free (use:=none) rfl hs hcl.eq c.kind (λx hx hl=>by
  have:=ff.mp c.locs x hx;rw[hl]at this;simpa using this) (thn (hi OG s U H _ I h) λv s1 h1=>thn h1 λitv s2 h2=>?_)
 obtain ⟨it,fp,tn,J,H2,e,I2,T,st2,f2,rd⟩:=h2;subst e;refine Bc (RR:=λacc C=>compPost (model X.prog X.w) X.A X.xe none (EP X OG U Q) acc C) hcalm c hcl hg hts he I2 T st2 f2 rd ?_;intro D C s' H' I' hm fC q;obtain ⟨m,hm⟩:=hm;obtain ⟨f0,f1,f2,f3,f4,f5⟩:=fC;exact #[m,hm,λh' hsb=>#[.ref D,H',I'.turned (t':=s'.toks) (λb o hb e=>(hsb.2 b hb).trans e) f0 f1 f3 f4 f5,rfl,q]]
def gG {i:Nat}{x:Str}{pos pos' spos:Pos}{ts:TT}(hN:X.N.Nodup)(hxi:X.N[i]?=some x)(hx:X.env.scope.names.lookup x=some .local)(hcalm:X.calm=true)(hi:PI X tg iter wi)(c:oB X scope N own cap)
  (hg:∀ cl C s₂ H₂ fp,PG (dy X N scope cl C s₂ H₂ fp) tg g) (hts:∀ cl C s₂ H₂ fp,PTs (dy X N scope cl C s₂ H₂ fp) ifs ts) (he:∀ cl C s₂ H₂ fp,PE (dy X N scope cl C s₂ H₂ fp) elt te)
  (hsw:swapsWith (.ListComp elt [#[tg,iter,ifs,0]] scope pos) (some (.Name x pos')) spos.line X.env=pure true:=by rfl)
  (hs:∀ x,foldedSetIterable iter X.env x=pure x:=by intro _;rfl):PS X (.Assign [.Name x pos'] (.ListComp elt [#[tg,iter,ifs,0]] scope pos) spos) (tAsg (Bb own cap wi g ts te) (gX i)):=by
 intro OG s U H D I h;obtain ⟨cl,hcl⟩:=uQ (scope:=scope) (env:=X.env) λx hx=>I.ok.has x (by
  have:=ff.mp c.frees _ hx;simpa using this)
 rw[exec_Assign_Name_used _ _ _ _ hsw];refine aA (wpAny_standAt (aA ?_));show wpAny _ X.A (do let _ <-comprehension (.ListComp elt [#[tg,iter,ifs,0]] scope pos) scope X.env _ (newList []) false (eval iter X.env) (some (assign (.Name x pos') X.env))) _ _ s
 refine aA (dX (wpAny_comprehension_free (use:=some (assign (.Name x pos') X.env)) (Q:=λ_ s'=>SP X OG D .next s') rfl hs hcl.eq c.kind (λx hx hl=>by
  have:=ff.mp c.locs x hx;rw[hl]at this;simpa using this) (thn (hi OG s U H _ I h) λv s1 h1=>thn h1 λitv s2 h2=>?_)) (λ_ s' hq=>bg (bg hq)) λ_ _ e=>e)
 obtain ⟨it,fp,tn,J,H2,e,I2,T,st2,f2,rd⟩:=h2;subst e;refine Bc (RR:=λacc C=>compPost (model X.prog X.w) X.A X.xe (some (assign (.Name x pos') X.env)) (λ_ s'=>SP X OG D .next s') acc C) (Q:=λx H1=>gX i x U H1 D.nx) hcalm c hcl hg hts he I2 T st2 f2 rd ?_;intro Dd C s' H' I' hm fC q;obtain ⟨m,hm⟩:=hm;have hne:∀ a,(a=X.env.locals\/X.env.cells.lookup x=some a)->a≠C:=λa z=>by
  obtain ⟨f0,f1,f2,f3,f4,f5⟩:=fC;rcases z with z|z
  .rw[z];exact bE f1
  .exact f4 x a z
 show wpAny _ X.A (assign (.Name x pos') X.env (.ref Dd)) _ _ _;refine wpAny_assign_Name (zG I' hN hxi (.inl hx) (v:=.ref Dd) rfl (λs'' I'' hch=>?_) (.inr hx));obtain ⟨a,hsb,ha⟩:=hch;refine #[m,hm.sameBut hsb (bE (hne a ha)),λh' hs'=>?_];obtain ⟨f0,f1,f2,f3,f4,f5⟩:=fC;exact #[_,H',I''.turned (t':=s''.toks) (λb o hb e=>(hs'.2 b hb).trans e) f0 f1 f3 f4 f5,q]
end
end L2
namespace L2
open PySem PySem.Spec PyProof.Rows PySem.SeqAt
class Srt (α:Type)[Rep α] where
 blt:α->α->Bool
 irrefl:∀ a,blt a a=false
 trans:∀ a b c,blt a b=true->blt b c=true->blt a c=true
 negTrans:∀ a b c,blt a c=true->blt a b=true\/blt b c=true
 total:∀ a b,blt a b=false->blt b a=false->a=b
 kd:SortKind
 one:α
 lt:∀{X:Cx} {OG:List (Addr×Obj)} {U:St} {H:Hp} {s:Shared} {A:Around} {a b:α} {x y:V} {u v:Value} {Q:Bool->Shared->Prop} {E:Value->Shared->Prop},Inv X OG U H s->Rep.has X.K H a x->Rep.has X.K H b y->RelV x u->RelV y v->Q (blt a b) s->wpAny (model X.prog X.w) A (keyLt' kd u v) Q E s
 kind:∀{X:Cx} {OG:List (Addr×Obj)} {U:St} {H:Hp} {s:Shared} {A:Around} {as:List α} {xs:List V} {us:List Value} {Q:SortKind->Shared->Prop} {E:Value->Shared->Prop},Inv X OG U H s->aI X.K H as xs->Vals xs us->2<=us.length->Q kd s->wpAny (model X.prog X.w) A (keyKind' us.toArray) Q E s
section
variable {α:Type}[Rep α][Srt α]
noncomputable def srtKind (α:Type)[Rep α][Srt α](K:Frag)(H:Hp):PyProof.Rows.KeyKind where
 α:=α
 blt:=Srt.blt
 irrefl:=Srt.irrefl
 trans:=Srt.trans
 negTrans:=Srt.negTrans
 total:=Srt.total
 keyOf:=λu=>open Classical in if h:∃ a:α,∃ x,RelV x u/\Rep.has K H a x then some (Classical.choose h) else none
 dflt:=Srt.one
def GP {a:α}{x:V}{u:Value}(I:Inv X OG U H s)(r:RelV x u)(h:Rep.has X.K H a x):(srtKind α X.K H).keyOf u=some a:=by
 have e:∃ a:α,∃ x,RelV x u/\Rep.has X.K H a x:=#[a,x,r,h];unfold srtKind;dsimp only;rw[dif_pos e];obtain ⟨y,ry,hy⟩:=Classical.choose_spec e;have z:=ry.inj r;subst z;exact congrArg some (Rep.inj I hy h)
def Bd {K:Frag}{a:α}{u:Value}(h:(srtKind α K H).keyOf u=some a):∃ x,RelV x u/\Rep.has K H a x:=by
 unfold srtKind at h;dsimp only at h;split at h
 .rename_i e;cases h
  exact Classical.choose_spec e
 .cases h
def bc (as:List α):List α:=as.mergeSort λa b=>!Srt.blt b a
def fW (as:List α):(bc as).Perm as:=List.mergeSort_perm _ _
def jZ {as:List α}{a:α}:a∈bc as↔a∈as:=(fW as).mem_iff
def je (as:List α):(bc as).length=as.length:=(fW as).length_eq
def GQ {a b:α}(h:Srt.blt a b=true):Srt.blt b a=false:=by
 cases e:Srt.blt b a with
 | false=>rfl
 | true=>
  have:=Srt.trans _ _ _ h e;rw[Srt.irrefl]at this;cases this
def jf (as:List α):(bc as).Pairwise λa b=>Srt.blt b a=false:=by
 have h:=List.pairwise_mergeSort (le:=λa b:α=>!Srt.blt b a) (λa b c h1 h2=>by
  simp only[nO]at h1 h2 ⊢;cases e:Srt.blt c a with
  | false=>rfl
  | true=>
   rcases Srt.negTrans c b a e with z|z
   .rw[h2]at z;cases z
   .rw[h1]at z;cases z) (λa b=>by
  cases e:Srt.blt b a with
  | false=>rfl
  | true=>rw[GQ e];rfl) as
 exact h.imp λ{a b} z=>by simpa using z
def oC {as bs:List α}(hp:bs.Perm as)(hs:bs.Pairwise λa b=>Srt.blt b a=false):bs=bc as:=
 List.Perm.eq_of_pairwise (λa b _ _ h1 h2=>Srt.total a b h2 h1) hs (jf as) (hp.trans (fW as).symm)
def GR {as bs:List α}(hp:as.Perm bs):bc as=bc bs:=oC ((fW as).trans hp) (jf as)
def Be {as:List α}(hn:as.Nodup):(bc as).Pairwise λa b=>Srt.blt a b=true:=by
 have h1:=jf as;have h2:(bc as).Nodup:=(fW as).nodup_iff.mpr hn;refine (h1.and h2).imp λ{a b} z=>?_;cases e:Srt.blt a b with
 | true=>rfl
 | false=>exact absurd (Srt.total a b e z.1) z.2
def Bf {K:Frag}:∀{out:List Value},(∀ v∈out,∃ a:α,∃ x,RelV x v/\Rep.has K H a x/\(srtKind α K H).keyOf v=some a)->
  ∃(ws:List V) (bs:List α),Vals ws out/\aI K H bs ws/\bs=out.map (Tim.keyV (srtKind α K H))
 | [],_=>#[[],[],.nil,.nil,rfl]
 | v::out,h=>by
  obtain ⟨ws,bs,h1,h2,h3⟩:=Bf (out:=out) λu hu=>h u (cp _ hu);obtain ⟨a,x,r,e,k⟩:=h v bL;refine #[x::ws,a::bs,.cons r h1,.cons e h2,?_];rw[bK,<-h3];have z:Tim.keyV (srtKind α K H) v=a:=by
   unfold Tim.keyV;rw[k];rfl
  rw[z];rfl
def Bg (I:Inv X OG U H s):∀{as:List α} {xs:List V} {us:List Value},aI X.K H as xs->Vals xs us->us.map (Tim.keyV (srtKind α X.K H))=as/\∀ v∈us,∃ a:α,∃ x,RelV x v/\Rep.has X.K H a x/\(srtKind α X.K H).keyOf v=some a
 | _,_,_,.nil,.nil=>#[rfl,λ_ z=>nomatch z]
 | _,_,_,.cons e t,.cons r q=>by
  obtain ⟨h1,h2⟩:=Bg I t q;have k:=GP I r e;refine #[?_,λv hv=>?_]
  .rw[bK,h1];unfold Tim.keyV;rw[k];rfl
  .rcases bq.mp hv with z|z
   .subst z;exact #[_,_,r,e,k]
   .exact h2 v z
end
instance:Srt Int where
 blt:=λa b=>decide (a<b)
 irrefl:=λa=>by simp
 trans:=λa b c h1 h2=>by
  simp only[decide_eq_true_eq]at *;lia
 negTrans:=λa b c h=>by
  simp only[decide_eq_true_eq]at *;lia
 total:=λa b h1 h2=>by
  simp only[decide_eq_false_iff_not]at *;lia
 kd:=oneType'
 one:=0
 lt:=λ{X OG U H s A a b x y u v Q E} _ h1 h2 r1 r2 q=>by
  have h1:x=.int a:=h1;have h2:y=.int b:=h2;subst h1 h2;obtain ⟨t,rfl⟩:=r1;obtain ⟨t',rfl⟩:=r2;exact W.kat_lt_int q
 kind:=λ{X OG U H s A as xs us Q E} _ h r hl q=>by
  have e:=aI.toInts h;subst e;have hi:IntsAre us as:=by
   clear q hl
   induction as generalizing us with
   | nil=>cases r;exact .nil
   | cons a as ih=>
    cases r with
    | cons r1 r2=>
     obtain ⟨t,rfl⟩:=r1;exact .cons a t (ih (by first|exact aI.ints|assumption) r2)
  match us,hl,hi with
  | v₁::v₂::rest,_,hi=>
   rw[keyKind_ints hi];exact bg q
def pLt (a b:Int×Int):Bool:=decide (a.1<b.1)||(decide (a.1=b.1)&&decide (a.2<b.2))
def fX {a:Int×Int}:pLt a b=true↔a.1<b.1\/(a.1=b.1/\a.2<b.2):=by
 unfold pLt;simp
def l7 {a:Int×Int}:pLt a b=false↔¬ (a.1<b.1\/(a.1=b.1/\a.2<b.2)):=by
 rw[<-fX];simp
def uS {a:Int×Int}{x:V}{u:Value}(I:Inv X OG U H s)(h:Rep.has X.K H a x)(r:RelV x u) :
  ∃(p:Addr) (o:Obj) (n:Nat) (t t':Tok),u=.ref p/\s.heap.get? p=some o/\o.cls=.type "tuple"/\o.data=.seq (List.toArray [.int a.1 t,.int a.2 t']) n:=by
 obtain ⟨p,x1,x2,rfl,q,e1,e2⟩:=(show hasP X.K H a x from h);have e1:x1=.int a.1:=e1;have e2:x2=.int a.2:=e2;subst e1 e2;cases r
 obtain ⟨us,ru,pu,_⟩:=I.tuple (SqT.of q);obtain ⟨u1,u2,rfl,⟨t,rfl⟩,⟨t',rfl⟩⟩:=hW ru;obtain ⟨o,ho,hc,n,hd⟩:=pu;exact #[p,o,n,t,t',rfl,ho,hc,hd]
def Bh {prog:Program}{w:World}{A:Around}{E:Value->Shared->Prop}{s:Shared}{x y:Int}{t u:Tok}{Q:Bool->Shared->Prop}(b:Bool)(h:Q (decide (x<y)) s):wpAny (model prog w) A (oneLt' b (.int x t) (.int y u)) Q E s:=by
 cases b with
 | true=>
  rw[<-keyLt'_oneType];exact W.kat_lt_int h
 | false=>exact W.kat_one _ _ (lt_int h)
instance:Srt (Int×Int) where
 blt:=pLt
 irrefl:=λa=>by rw[l7];lia
 trans:=λa b c h1 h2=>by
  rw[fX]at *;lia
 negTrans:=λa b c h=>by
  rw[fX]at *;rw[fX];lia
 total:=λa b h1 h2=>by
  rw[l7]at *;obtain ⟨a1,a2⟩:=a;obtain ⟨b1,b2⟩:=b;have:a1=b1/\a2=b2:=by dsimp only at *;lia
  rw[this.1,this.2]
 kd:=tuples' true
 one:=(0,0)
 lt:=λ{X OG U H s A a b x y u v Q E} I h1 h2 r1 r2 q=>by
  obtain ⟨p,o,n,t1,t2,rfl,ho,hc,hd⟩:=uS I h1 r1;obtain ⟨p',o',n',t3,t4,rfl,ho',hc',hd'⟩:=uS I h2 r2;refine W.kat_lt ho hd ho' hd' ?_;show W.KatLex X.prog X.w A true _ Q [(.int a.1 t1,.int b.1 t3),(.int a.2 t2,.int b.2 t4)] 0 s;refine W.kat_cons (EqAt.int_int a.1 t1 b.1 t3 _ _ _ _ (W.kat_go (λe=>W.kat_yes ?_) (λe=>W.kat_no ?_)))
  .have e1:a.1=b.1:=eq_of_beq e;refine W.kat_cons (EqAt.int_int a.2 t2 b.2 t4 _ _ _ _ (W.kat_go (λe=>W.kat_yes (W.kat_nil ?_)) (λe=>W.kat_no (Bh _ ?_))))
   .have e2:a.2=b.2:=eq_of_beq e;have z:pLt a b=false:=by rw[l7];lia
    rw[z]at q;exact q
   .have z:pLt a b=decide (a.2<b.2):=by
     unfold pLt;rw[bH (by lia:¬ a.1<b.1),aU e1];rfl
    rw[z]at q;exact q
  .have e1:¬ a.1=b.1:=λz=>by rw[z]at e;simp at e
   refine Bh _ ?_;have z:pLt a b=decide (a.1<b.1):=by
    unfold pLt;rw[bH e1];simp
   rw[z]at q;exact q
 kind:=λ{X OG U H s A as xs us Q E} I h r hl q=>by
  have go:∀{as:List (Int×Int)} {xs:List V} {us:List Value},aI X.K H as xs->Vals xs us->∃ fs,W.KatTups s.heap us fs/\fs.length=us.length/\∀ v∈fs,∃ i t,v=Value.int i t:=by
   intro as
   induction as with
   | nil=>
    intro xs us h r;cases h
    cases r
    exact #[[],.nil,rfl,λ_ z=>nomatch z]
   | cons a as ih=>
    intro xs us h r;cases h with
    | cons h1 h2=>
     cases r with
     | cons r1 r2=>
      obtain ⟨fs,f1,f2,f3⟩:=ih h2 r2;obtain ⟨p,o,n,t,t',rfl,ho,hc,hd⟩:=uS I h1 r1;refine #[.int a.1 t::fs,W.KatTups.cons ho hc hd rfl f1,by rw[dH,dH,f2],λv hv=>?_];rcases bq.mp hv with z|z
      .exact #[_,_,z]
      .exact f3 v z
  obtain ⟨fs,f1,f2,f3⟩:=go h r;refine W.kat_kind (T:=.type "int") f1 (by lia) (λv hv=>?_) (by decide) ?_
  .obtain ⟨i,t,rfl⟩:=f3 v hv;exact W.Looks.of_pure rfl
  .exact q
end L2
namespace L2
open PySem PySem.Spec PyProof.Rows
section
variable {X:Cx}
def oD {i:Int}{pos:Pos}(hg:Gl X x)(hm:∃ t,X.mg x=some (.int i t))(hd:(x==("__debug__" : Str))=false:=by decide):PE X (.Name x pos) (tC (.int i)):=by
 obtain ⟨t,e⟩:=hm;exact E1 hg e #[t,rfl] hd
end
def c9 {K:Frag}{a:Addr}{g:TG}{ts:TT}{te:TE}{U:St}{H:Hp}{Q:Hp->Prop}(Pv:Nat->St->Hp->Prop)(h0:Pv 0 U H)(hl:∀ i U H,i<=xs.length->Pv i U H->SqL K H a xs)
  (hs:∀ i m x U H,xs[i]?=some x->i+m=xs.length->Pv i U H->g x U H λU2 H2=>ts U2 H2 λb H3=>if b=true then te U2 H3 λy H4=>∃ zs,H4 D=some (.lst zs)/\zs.length<sizeLine/\∃ m',m'<m/\(i+1+m'=xs.length/\Pv (i+1) U2 (upd H4 D (.lst (zs++[y])))) else ∃ m',m'<m/\(i+1+m'=xs.length/\Pv (i+1) U2 H3))
  (hd:∀ U H,Pv xs.length U H->Q H) :
  ∃ W:Nat->Nat->St->Hp->Prop,(∃ m,W 0 m U H)/\∀ i m U H,W i m U H->((Itl K a).stop i H/\Q H)\/((Itl K a).go i H/\∀ x H',(Itl K a).yld i H x H'->g x U H' λU2 H2=>ts U2 H2 λb H3=>if b=true then te U2 H3 λy H4=>∃ xs,H4 D=some (.lst xs)/\xs.length<sizeLine/\∃ m',m'<m/\W (i+1) m' U2 (upd H4 D (.lst (xs++[y]))) else ∃ m',m'<m/\W (i+1) m' U2 H3):=by
 refine #[λi m U H=>i+m=xs.length/\Pv i U H,#[xs.length,by lia,h0],λi m U H zq0=>?_];obtain ⟨e,pv⟩:=zq0;have hS:=hl i U H (by lia) pv;by_cases hi:i<xs.length
 .refine .inr #[#[xs,xs[i],hS,aD hi],λx H' y=>?_];obtain ⟨e1,y⟩:=y;subst e1;exact hs i m x U _ (y xs hS) e pv
 .have:i=xs.length:=by lia
  subst this;exact .inl #[#[xs,hS,av _],hd U H pv]
def ij {lo:Int}{n:Nat}{g:TG}{ts:TT}{te:TE}{U:St}{H:Hp}{Q:Hp->Prop}(Pv:Nat->St->Hp->Prop)(h0:Pv 0 U H)
  (hs:∀ i m U H,i+m=n->i<n->Pv i U H->g (.int (lo+i)) U H λU2 H2=>ts U2 H2 λb H3=>if b=true then te U2 H3 λy H4=>∃ zs,H4 D=some (.lst zs)/\zs.length<sizeLine/\∃ m',m'<m/\(i+1+m'=n/\Pv (i+1) U2 (upd H4 D (.lst (zs++[y])))) else ∃ m',m'<m/\(i+1+m'=n/\Pv (i+1) U2 H3))
  (hd:∀ U H,Pv n U H->Q H) :
  ∃ W:Nat->Nat->St->Hp->Prop,(∃ m,W 0 m U H)/\∀ i m U H,W i m U H->((Itr lo n).stop i H/\Q H)\/((Itr lo n).go i H/\∀ x H',(Itr lo n).yld i H x H'->g x U H' λU2 H2=>ts U2 H2 λb H3=>if b=true then te U2 H3 λy H4=>∃ xs,H4 D=some (.lst xs)/\xs.length<sizeLine/\∃ m',m'<m/\W (i+1) m' U2 (upd H4 D (.lst (xs++[y]))) else ∃ m',m'<m/\W (i+1) m' U2 H3):=by
 refine #[λi m U H=>i+m=n/\Pv i U H,#[n,by lia,h0],λi m U H zq0=>?_];obtain ⟨e,pv⟩:=zq0;by_cases hi:i<n
 .refine .inr #[hi,λx H' y=>?_];obtain ⟨e1,y⟩:=y;subst e1 y;exact hs i m U _ e hi pv
 .have:i=n:=by lia
  subst this;exact .inl #[av _,hd U H pv]
def metI (ns:List Int):List Int:=firstMet (λi=>ns.getD i 0) ns.length
def GS:∀ ns:List Int,(List.range ns.length).map (λi=>ns.getD i 0)=ns:=λns=>by
 apply fe;intro i;rw[aQ];by_cases h:i<ns.length
 .rw[dY h,Option.map_some,aF,aD h];rfl
 .rw[dk (by rw[bY];lia),dk (by lia)];rfl
def Bj:∀(ns U:List Int),(U++ns).Nodup->ns.foldl step_dedup U=U++ns
 | [],U,_=>by simp
 | n::ns,U,h=>by
  have hn:¬ (U.any (· == n))=true:=λz=>by
   obtain ⟨x,hx,e⟩:=List.any_eq_true.mp z;have e:=eq_of_beq e;subst e;rw[fK]at h;exact h.2.2 x hx x bL rfl
  rw[List.foldl_cons];have e:step_dedup U n=U++[n]:=by
   unfold step_dedup;rw[az hn]
  rw[e,Bj ns (U++[n]) (by rw[jF];exact h),jF];rfl
def GT {ns:List Int}(h:ns.Nodup):metI ns=ns:=by
 unfold metI firstMet;rw[GS];exact Bj ns [] h
def l8:∀{ns:List Int} {us:List Value},Vals (ns.map V.int) us->IntsAre us ns
 | [],_,.nil=>.nil
 | n::_,_,.cons ⟨t,e⟩ q=>by
  subst e;exact .cons n t (l8 q)
inductive Bk (K:Frag)(xs:List V)(H:Hp)(Q:VK):Prop
 | c:∀(p:Addr) (ns:List Int),xs=[.ref p]->SqL K H p (ns.map V.int)->ns.length<=1000->(∀ l,H l=none->Q (.ref l) (upd H l (.set (λk=>(metI ns).any (· == k)) (metI ns).length)))->Bk K xs H Q
section
variable {X:Cx}
def GU (hc:X.calm=true):cT X (.type "set") (Bk X.K):=by
 intro OG s U H xs us Q I r h;obtain ⟨p,ns,rfl,hq,hz,q⟩:=h;obtain ⟨u,rfl,rx⟩:=d4 r;cases rx
 obtain ⟨its,rv,pl,_⟩:=I.list hq;have hl:=rv.length;rw[af]at hl;refine call_set_list (ns:=ns) (I.ok.hd hc) pl.isList (by simpa using l8 rv) (by unfold scanBound;simp only[bP];lia) λh' tk hS hk=>?_;have e:its.toArray.size=ns.length:=by simp only[bP];lia
 rw[e]at hS;exact #[.ref s.heap.objs.size,_,I.laid (a:=s.heap.objs.size) (o:=.set _ _) (t':=tk) (λb o eb=>hk b o (aZ eb) eb) (av _) hS,rfl,q _ (I.hok.fresh (av _))]
def GV:cT X (.builtin "len") (λxs H Q=>∃ p S n,xs=[.ref p]/\H p=some (.set S n)/\n<=1000/\Q (.int (n:Nat)) H):=by
 intro OG s U H xs us Q I r h;obtain ⟨p,S,n,rfl,hp,hn,q⟩:=h;obtain ⟨u,rfl,rx⟩:=d4 r;cases rx
 have ok:s.heap.SetOf (intKind X.prog X.w) p S n:=I.hok p _ hp;obtain ⟨o,ho,hex,es,ep,t,hd,_,_,hm,hf⟩:=ok.objOf;subst hm;exact call_len_set ho hex hd hf (by lia) #[.int _,H,I.tok _,#[_,rfl],q]
end
def GW:kitO "tuple" "tuple" = some true:=by decide +kernel
end L2
namespace L2
def bZ {i:Nat}{x:V}{U:St}{H:Hp}{A B:St->Hp->Prop}(h:A (U.set i (some x)) H):gX i x U H λU2 H2=>tYes U2 H2 λb H3=>if b=true then A U2 H3 else B U2 H3:=by
 show (if true=true then A (U.set i (some x)) H else B (U.set i (some x)) H)
 rw[ar rfl];exact h
end L2
namespace L2
open PySem PySem.Spec PyProof.Rows
def Bl:∀{bs:List Bool} {us:List Value},Vals (bs.map V.bl) us->us=bs.map Value.bool
 | [],_,.nil=>rfl
 | b::_,_,.cons e q=>by
  have e:_=Value.bool b:=e;rw[e,Bl q];rfl
section
variable {X:Cx}
def l9 (hc:X.calm=true):cT X (.builtin "all") (λxs H Q=>∃(p:Addr) (bs:List Bool),xs=[.ref p]/\SqL X.K H p (bs.map V.bl)/\Q (.bl (bs.all id)) H):=by
 intro OG s U H xs us Q I r h;obtain ⟨p,bs,rfl,hq,q⟩:=h;obtain ⟨u,rfl,rx⟩:=d4 r;cases rx
 obtain ⟨its,rv,pl,_⟩:=I.list hq;have e:=Bl rv;subst e;have hl:=pl.isList;have hlt:p<s.heap.objs.size:=by obtain ⟨_,e,_⟩:=hl;exact aZ e
 refine call_all_walk (wpAny_pyIter_list hl ?_);refine #[s.heap.objs.size,[s.heap.objs.size,p],[s.heap.objs.size],(bs.map Value.bool).toArray.size,_,_,λi=>(bs[i]?).getD true,rfl,Walks.list (A:=X.A.in1) (I.ok.hd hc) _ p (bX hlt) _,
  #[#[_,cV _ rfl,rfl,rfl],hl.push _],λi v s' Q' E' hP hQ=>?_,λh' tk hk=>?_]
 .have hP:(bs.map Value.bool)[i]?=some v:=by simpa using hP
  rw[aQ]at hP;cases e:bs[i]? with
  | none=>rw[e]at hP;cases hP
  | some b=>
   rw[e]at hP;cases hP
   simp only[e,Option.getD_some]at hQ;exact wpAny_truthy_bool hQ
 .have e:((List.range (bs.map Value.bool).toArray.size).all λi=>(bs[i]?).getD true)=bs.all id:=by
   rw[bP,af];exact PyProof.Rows.LSm.range_all bs
  rw[e];have kk:∀ b o,s.heap.get? b=some o->h'.get? b=some o:=λb o eb=>hk b o (λhm=>by rw[a0.mp hm]at eb;exact dP _ (aZ eb)) (bD _ eb);have I':Inv X OG U H { s with heap:=h',toks:=tk }:=I.kept (t':=tk) kk;exact #[.bl _,H,I',rfl,q]
def GX (hc:X.calm=true):cT X (.builtin "sum") (λxs H Q=>∃(p:Addr) (ns:List Int),xs=[.ref p]/\SqL X.K H p (ns.map V.int)/\Q (.int ns.sum) H):=by
 intro OG s U H xs us Q I r h;obtain ⟨p,ns,rfl,hq,q⟩:=h;obtain ⟨u,rfl,rx⟩:=d4 r;cases rx
 obtain ⟨its,rv,pl,_⟩:=I.list hq;have hi:=l8 rv;obtain ⟨xs,hx⟩:=hi.allInts.items;have hl':s.heap.IsList p (intItems xs):=hx ▸ pl.isList;refine sum_intListG (I.ok.hd hc) hl' λh' tk t' hk=>?_;have e1:ns=xs.toList.map (·.1):=by
  rw[<-nums_intItems,<-hx];exact (show numsOf its.toArray.toList=ns from hi.numsOf).symm
 have e2:preSum (numAt xs) xs.size=ns.sum:=by
  rw[preSum_eq,bh (by simp),e1]
 rw[e2];exact #[.int _,H,Inv.kept (t':=tk) I hk,#[t',rfl],q]
end
section
variable {X:Cx}{K:Frag}
def bJ (h:X.K=K:=by rfl):cT X (.builtin "len") (λxs H Q=>∃ p ys,xs=[.ref p]/\(SqL K H p ys\/SqT K H p ys)/\Q (.int ys.length) H):=by
 subst h;exact FK
def j3 (h:X.K=K:=by rfl):cT X (.builtin "isinstance") (rIsi K):=by
 subst h;exact Gv
def bw (h:X.K=K:=by rfl):IxR X (rIxL K):=by
 subst h;exact Fy
def aR (h:X.K=K:=by rfl):IxR X (rIxT K):=by
 subst h;exact Fz
def uT (h:X.K=K:=by rfl):cT X (.type "list") (λxs H Q=>∃ p ys,xs=[.ref p]/\(SqL K H p ys\/SqT K H p ys)/\∀ l,H l=none->Q (.ref l) (upd H l (.lst ys))):=by
 subst h;exact FL
end
def Bm {c:TT}{tb:TS}{D:Ends}{U:St}{H:Hp}(Pv Pe:St->Hp->Prop)(μ:St->Hp->Nat)(h0:Pv U H)
  (hs:∀ U H,Pv U H->c U H λb H1=>if b=true then tb { D with nx:=λU' H'=>Pv U' H'/\μ U' H'<μ U H,ct:=λU' H'=>Pv U' H'/\μ U' H'<μ U H,bk:=D.nx } U H1 else Pe U H1)
  (mono:∀ U H Q Q',(∀ b H1,Q b H1->Q' b H1)->c U H Q->c U H Q') (he:∀ U H,Pe U H->D.nx U H):uj c tb D U H:=by
 refine Fd Pv μ h0 (λU H p=>mono U H _ _ (λb H1 q=>?_) (hs U H p)) mono;cases b with
 | true=>exact q
 | false=>exact he _ _ q
def uU (c:TT):Prop:=∀ U H Q Q',(∀ b H1,Q b H1->Q' b H1)->c U H Q->c U H Q'
def GY {a:TT}(ha:uU a)(hb:uU b):uU (tAnd a b):=λU H Q Q' m h=>ha U H _ _ (λc H1 q=>by
 cases c with
 | false=>exact m _ _ q
 | true=>exact hb U H1 Q Q' m q) h
section
variable {X:Cx}{K:Frag}
def uV (h:X.K=K:=by rfl):OpR X (compareOp .In) (rIn K false):=by
 subst h;exact FI
def Bn (h:X.K=K:=by rfl):OpR X (compareOp .NotIn) (rIn K true):=by
 subst h;exact FJ
def oE {k:Nat}{t:TGs}{n:Nat}{pos:Pos}(hc:X.calm=true)(h:PGs X es t)(hK:X.K=K:=by rfl)
  (hn:(assignEach es X.env).length=n:=by rfl) (hst:(assignEach es X.env).findIdx? (·.1)=none:=by rfl):PG X (.Tuple es k pos) (gTup K n t):=by
 subst hK;exact i8 hc h hn hst
def j4 (h:X.K=K:=by rfl):SlR X (rSlL K):=by
 subst h;exact FG
end
def uW {K:Frag}{a:Addr}{xs ys:List V}{g:TG}{ts:TT}{te:TE}{U:St}{H:Hp}{Q:Hp->Prop}(hlen:xs.length=ys.length)(Pv:Nat->St->Hp->Prop)(h0:Pv 0 U H)(hl:∀ i U H,i<=xs.length->Pv i U H->SqL K H a xs/\SqL K H b ys)
  (hs:∀ i m x y U H r,xs[i]?=some x->ys[i]?=some y->i+m=xs.length->Pv i U H->H r=none->g (.ref r) U (upd H r (.tup [x,y])) λU2 H2=>ts U2 H2 λb H3=>if b=true then te U2 H3 λy H4=>∃ zs,H4 D=some (.lst zs)/\zs.length<sizeLine/\∃ m',m'<m/\(i+1+m'=xs.length/\Pv (i+1) U2 (upd H4 D (.lst (zs++[y])))) else ∃ m',m'<m/\(i+1+m'=xs.length/\Pv (i+1) U2 H3))
  (hd:∀ U H,Pv xs.length U H->Q H) :
  ∃ W:Nat->Nat->St->Hp->Prop,(∃ m,W 0 m U H)/\∀ i m U H,W i m U H->((Itz K a b).stop i H/\Q H)\/((Itz K a b).go i H/\∀ x H',(Itz K a b).yld i H x H'->g x U H' λU2 H2=>ts U2 H2 λb H3=>if b=true then te U2 H3 λy H4=>∃ xs,H4 D=some (.lst xs)/\xs.length<sizeLine/\∃ m',m'<m/\W (i+1) m' U2 (upd H4 D (.lst (xs++[y]))) else ∃ m',m'<m/\W (i+1) m' U2 H3):=by
 refine #[λi m U H=>i+m=xs.length/\Pv i U H,#[xs.length,by lia,h0],λi m U H zq0=>?_];obtain ⟨e,pv⟩:=zq0;obtain ⟨hS,hS'⟩:=hl i U H (by lia) pv;by_cases hi:i<xs.length
 .refine .inr #[#[xs,ys,xs[i],ys[i]'(by lia),hS,hS',aD hi,aD (by lia)],λx H' y=>?_];obtain ⟨p,z,z',rfl,hp,hz,hz',rfl⟩:=y;exact hs i m z z' U H p (hz xs hS) (hz' ys hS') e pv hp
 .have:i=xs.length:=by lia
  subst this;exact .inl #[#[xs,ys,hS,hS',.inl (av _)],hd U H pv]
section
variable {X:Cx}
def GZ (hc:X.calm=true):cT X (.builtin "min") (λxs H Q=>∃(p:Addr) (ns:List Int),xs=[.ref p]/\SqL X.K H p (ns.map V.int)/\0<ns.length/\∀ M,M∈ns->(∀ a,a∈ns->M<=a)->Q (.int M) H):=by
 intro OG s U H xs us Q I r h;obtain ⟨p,ns,rfl,hq,hne,q⟩:=h;obtain ⟨u,rfl,rx⟩:=d4 r;cases rx
 obtain ⟨its,rv,pl,_⟩:=I.list hq;have hi:=l8 rv;obtain ⟨xs,hx⟩:=hi.allInts.items;have hl':s.heap.IsList p (intItems xs):=hx ▸ pl.isList;have e1:ns=xs.toList.map (·.1):=by
  rw[<-nums_intItems,<-hx];exact (show numsOf its.toArray.toList=ns from hi.numsOf).symm
 have hsz:0<xs.size:=by
  rw[e1,af,fH]at hne;exact hne
 refine min_intList (I.ok.hd hc) hl' hsz λv h' tk hv hk=>?_;obtain ⟨t,rfl⟩:=intItems_at hv;obtain ⟨h1,h2⟩:=argBest_lt (numAt xs) (xs.size-1);refine #[.int _,H,Inv.kept (t':=tk) I hk,#[t,rfl],q _ ?_ λa ha=>?_]
 .rw[e1,numAt_eq];rw[aF,aD (by rw[af,fH];lia)];exact cJ _
 .rw[e1]at ha;obtain ⟨j,hj,rfl⟩:=mem_getD ha;rw[af,fH]at hj;rw[<-numAt_eq];exact h2 j (by lia)
end
def ik {K:Frag}{a:Addr}{g:TG}{ts:TT}{te:TE}{U:St}{H:Hp}{Q:Hp->Prop}(Pv:Nat->St->Hp->Prop)(h0:Pv 0 U H)(hl:∀ i U H,i<=xs.length->Pv i U H->SqT K H a xs)
  (hs:∀ i m x U H,xs[i]?=some x->i+m=xs.length->Pv i U H->g x U H λU2 H2=>ts U2 H2 λb H3=>if b=true then te U2 H3 λy H4=>∃ zs,H4 D=some (.lst zs)/\zs.length<sizeLine/\∃ m',m'<m/\(i+1+m'=xs.length/\Pv (i+1) U2 (upd H4 D (.lst (zs++[y])))) else ∃ m',m'<m/\(i+1+m'=xs.length/\Pv (i+1) U2 H3))
  (hd:∀ U H,Pv xs.length U H->Q H) :
  ∃ W:Nat->Nat->St->Hp->Prop,(∃ m,W 0 m U H)/\∀ i m U H,W i m U H->((Itt K a).stop i H/\Q H)\/((Itt K a).go i H/\∀ x H',(Itt K a).yld i H x H'->g x U H' λU2 H2=>ts U2 H2 λb H3=>if b=true then te U2 H3 λy H4=>∃ xs,H4 D=some (.lst xs)/\xs.length<sizeLine/\∃ m',m'<m/\W (i+1) m' U2 (upd H4 D (.lst (xs++[y]))) else ∃ m',m'<m/\W (i+1) m' U2 H3):=by
 refine #[λi m U H=>i+m=xs.length/\Pv i U H,#[xs.length,by lia,h0],λi m U H zq0=>?_];obtain ⟨e,pv⟩:=zq0;have hS:=hl i U H (by lia) pv;by_cases hi:i<xs.length
 .refine .inr #[#[xs,xs[i],hS,aD hi],λx H' y=>?_];obtain ⟨e1,y⟩:=y;subst e1;exact hs i m x U _ (y xs hS) e pv
 .have:i=xs.length:=by lia
  subst this;exact .inl #[#[xs,hS,av _],hd U H pv]
def Itv (K:Frag)(a:Addr)(n:Nat):It:=
 #[λi H=>i<n/\∃ xs,SqL K H a xs/\xs.length=n,λi H x H'=>H'=H/\∀ xs,SqL K H a xs->xs.length=n->xs.reverse[i]?=some x,λi _=>i=n]
def G0 {K:Frag}(a it:Addr)(n:Nat):Turn P w K tg (Itv K a n) [it] it (λi h=>h.IsRevIter it a ((n:Int)-1-(i:Int))) where
 mem:=by simp
 obj:=λi h st b hb=>by
  have e:b=it:=by simpa using hb
  subst e;obtain ⟨o,e,c,d⟩:=st;exact #[o,e,λv z=>by rw[d]at z;cases z]
 keep:=λi h h' st k=>st.at λo e=>k it (by simp) o e
 item:=by
  intro X hP hw hK hc i OG s U H E I hf st hg;subst hP hw hK;obtain ⟨hi,xs,hq,hn⟩:=hg;obtain ⟨its,rv,p,hz⟩:=I.list hq;have hx:xs[n-1-i]?=some (xs[n-1-i]'(by lia)):=aD (by lia);obtain ⟨u,hu,ru⟩:=rv.get hx;obtain ⟨f0,f1,f2,f3,f4,f5⟩:=hf it (by simp);have e1:(n:Int)-1-(i:Int)=((n-1-i:Nat):Int):=by lia
  rw[e1]at st;refine wpAny_pyNext_rev_item st p.isList (x:=u) (by simpa using hu) λh' st' sb=>?_;have e2:((n-1-i:Nat):Int)-1=(n:Int)-1-((i+1:Nat):Int):=by lia
  rw[e2]at st';have I1:Inv X OG U H { s with heap:=h' }:=I.turned (t':=s.toks) (λb o hb e=>(sb.2 b hb).trans e) f0 f1 f3 f4 f5;obtain ⟨o,e,c,d⟩:=id st';refine #[u,rfl,jT (s:={ s with heap:=h' }) e c d (by decide) #[xs[n-1-i]'(by lia),H,I1,ru,#[rfl,λys hy hyn=>?_],st',λb hb=>(hf b hb).1]];rw[I.list_inj hy hq,nQ (by lia),show xs.length-1-i=n-1-i by lia];exact hx
 done:=by
  intro X hP hw hK hc i OG s U H E I hf st hg;subst hP hw hK;have hi:i=n:=hg;subst hi;obtain ⟨f0,f1,f2,f3,f4,f5⟩:=hf it (by simp);have e1:(i:Int)-1-(i:Int) = -1:=by lia
  rw[e1]at st;exact wpAny_pyNext_rev_end (I.ok.hd hc) st λh' eb=>#[rfl,I.turned (t':=s.toks) (λb o hb e=>eb b o hb e) f0 f1 f3 f4 f5]
 self:=λ_ _ _ _ _ st h=>wpAny_pyIter_revIter st h
inductive Bo (K:Frag)(R:It->Hp->Prop)(vs:List V)(H1:Hp):Prop
 | c:∀ a xs,vs=[.ref a]->SqL K H1 a xs->R (Itv K a xs.length) H1->Bo K R vs H1
def iRev (K:Frag)(ta:TA):TI:=λU H R=>ta U H λvs H1=>Bo K R vs H1
section
variable {X:Cx}
def G6 {a:Expr}{p pos:Pos}(hg:Gl X "reversed")(hm:X.mg "reversed" = none)(ha:PA X [a] ta)(hs:starEach [a] X.env=[(false,eval a X.env)]:=by rfl):PI X tg (.Call (.Name "reversed" p) [a] [] pos) (iRev X.K ta):=by
 intro OG s U H R I h;refine Call_ (gx I hg hm boot_reversed (PyProof.Rows.callWith_type1 (thn (ha pos OG s U H _ I h) λus s1 zq0=>?_) hs rfl));obtain ⟨vs,H1,I1,r1,q1⟩:=zq0;obtain ⟨l,xs,e,hq,q⟩:=q1;subst e;cases r1 with
 | cons r rr=>
  cases rr
  cases r
  obtain ⟨its,rv,pl,hz⟩:=I1.list hq;have hl:=rv.length;refine call_reversed_list pl.isList ?_;have I2:Inv X OG U H1 { s1 with heap:=s1.heap.push (revObj l ((its.toArray.size:Int)-1)) }:=I1.kept (t':=s1.toks) λb o e=>bD _ e;have hr:(s1.heap.push (revObj l ((its.toArray.size:Int)-1))).IsRevIter s1.heap.objs.size l (((xs.length:Nat):Int)-1-((0:Nat):Int)):=by
   refine #[_,cV _ rfl,rfl,?_];have:(its.toArray.size:Int)-1=((xs.length:Nat):Int)-1-((0:Nat):Int):=by
    rw[bP,hl];lia
   rw[this];rfl
  refine wpAny_pyIter_revIter (s:={ s1 with heap:=s1.heap.push (revObj l ((its.toArray.size:Int)-1)) }) hr #[_,[s1.heap.objs.size],_,_,H1,rfl,I2,G0 l s1.heap.objs.size xs.length,hr,λb hb=>?_,q];have e:b=s1.heap.objs.size:=by simpa using hb
  subst e;exact I1.fpOk (av _) (I1.hok.fresh (av _))
end
def G7 {K:Frag}{a:Addr}{g:TG}{tb:TS}{D:Ends}{U:St}{H:Hp}(Pv:Nat->St->Hp->Prop)(h0:Pv 0 U H)(hl:∀ i U H,i<=xs.length->Pv i U H->SqL K H a xs)
  (hs:∀ i x U H,xs.reverse[i]?=some x->Pv i U H->g x U H λU2 H2=>tb { D with nx:=Pv (i+1),ct:=Pv (i+1),bk:=D.nx } U2 H2) (hd:∀ U H,Pv xs.length U H->D.nx U H) :
  ∃ W:Nat->Nat->St->Hp->Prop,(∃ m,W 0 m U H)/\∀ i m U H,W i m U H->((Itv K a xs.length).stop i H/\D.nx U H)\/((Itv K a xs.length).go i H/\∃ N:St->Hp->Prop,(∀ U' H',N U' H'->∃ m',m'<m/\W (i+1) m' U' H')/\∀ x H',(Itv K a xs.length).yld i H x H'->g x U H' λU2 H2=>tb { D with nx:=N,ct:=N,bk:=D.nx } U2 H2):=by
 refine #[λi m U H=>i+m=xs.length/\Pv i U H,#[xs.length,by lia,h0],λi m U H zq0=>?_];obtain ⟨e,pv⟩:=zq0;have hS:=hl i U H (by lia) pv;by_cases hi:i<xs.length
 .refine .inr #[#[hi,xs,hS,rfl],Pv (i+1),λU' H' q=>#[m-1,by lia,by lia,q],λx H' y=>?_];obtain ⟨e1,y⟩:=y;subst e1;exact hs i x U _ (y xs hS rfl) pv
 .have:i=xs.length:=by lia
  subst this;exact .inl #[rfl,hd U H pv]
def Bp {k:Key}{u:Value}(h:(cb P w).is k u=true):RelV (kV k) u:=by
 rw[ER]at h;rcases fM h with ⟨i,t,rfl,rfl⟩|⟨x,t,rfl,rfl⟩
 .exact #[t,rfl]
 .exact #[t,rfl]
section
variable {X:Cx}
def G8 (hc:X.calm=true):cT X (.type "list") (λxs H Q=>∃(p:Addr) (kvs:List (Key×V)),xs=[.ref p]/\H p=some (.dK kvs)/\∀ l,H l=none->Q (.ref l) (upd H l (.lst (kvs.map λkv=>kV kv.1)))):=by
 intro OG s U H xs us Q I r h;obtain ⟨p,kvs,rfl,hq,q⟩:=h;obtain ⟨u,rfl,rx⟩:=d4 r;cases rx
 obtain ⟨hz,hne,vs,rel,o,es,ep,h1,h2,h3,h4,h5,h6⟩:=uw I.hok hq;have hlen:kvs.length=vs.length:=rel.length;refine W.kdl_call (W.kdl_dict (knd:=cb X.prog X.w) (kvs:=vs) (ep:=ep) hne) (I.ok.hd hc) #[o,es,h1,h2,h3,h4,h5,h6] (by lia) λh' tk acc c k e hi=>?_;have hv:Vals (kvs.map λkv=>kV kv.1) acc.toList:=by
  obtain ⟨g1,g2⟩:=hi;have key:∀(m:Nat) (kvs:List (Key×V)) (vs:List (Key×Value)) (us:List Value),KV kvs vs->us.length=vs.length->(∀(i:Nat) (v:Value),us[i]?=some v->∃ k x,vs[i]?=some (k,x)/\(cb X.prog X.w).is k v=true)->Vals (kvs.map λkv=>kV kv.1) us:=by
   intro m kvs
   induction kvs with
   | nil=>
    intro vs us r hl _;cases r
    have:us=[]:=jG hl;subst this;exact .nil
   | cons kv kvs ih=>
    intro vs us r hl hh;cases r with
    | cons a b=>
     cases us with
     | nil=>cases hl
     | cons v us=>
      refine .cons ?_ (ih _ us b (Nat.succ.inj hl) λi v e=>?_)
      .obtain ⟨k,x,e1,e2⟩:=hh 0 v rfl;cases e1
       have h9:=Bp e2;have a1:kv.1=k:=a.1;rw[<-a1]at h9;exact h9
      .have:=hh (i+1) v (by simpa using e);simpa using this
  refine key 0 kvs vs acc.toList rel (by rw[fH];exact g1) λi v e=>?_;exact g2 i v (by rw[<-Array.getElem?_toList];exact e)
 refine #[.ref s.heap.objs.size,_,I.laid (a:=s.heap.objs.size) (o:=.lst (kvs.map λkv=>kV kv.1)) (t':=tk) k (av _) #[?_,acc.toList,c,hv,by rw[Array.toArray_toList];exact e],rfl,q _ (I.hok.fresh (av _))];rw[af];lia
end
inductive Bq (K:Frag)(R:It->Hp->Prop)(x:V)(H1:Hp):Prop
 | c:∀ a,x=.ref a->((∃ xs,SqL K H1 a xs)/\R (Itl K a) H1\/(∃ xs,SqT K H1 a xs)/\R (Itt K a) H1)->Bq K R x H1
def iSeq (K:Frag)(tl:TE):TI:=λU H R=>tl U H λx H1=>Bq K R x H1
section
variable {X:Cx}{tg:Expr}
def G9 (hl:PE X l tl):PI X tg l (iSeq X.K tl):=by
 intro OG s U H R I h;refine thn (hl OG s U H _ I h) λv s1 zq0=>?_;obtain ⟨x,H1,I1,r1,a,e,q1⟩:=zq0;subst e;cases r1
 have new:∀ b∈[s1.heap.objs.size],FpOk X OG H1 b:=λb hb=>by
  rw[a0.mp hb];exact I1.fpOk (av _) (I1.hok.fresh (av _))
 rcases q1 with ⟨⟨xs,hq⟩,q⟩|⟨⟨xs,hq⟩,q⟩
 .obtain ⟨its,rv,p,hz⟩:=I1.list hq;exact wpAny_pyIter_list p.isList #[s1.heap.objs.size,[s1.heap.objs.size],_,_,H1,rfl,Inv.kept (t':=s1.toks) I1 (λb o e=>bD _ e),zM a _,#[_,cV _ rfl,rfl,rfl],new,q]
 .obtain ⟨its,rv,p,hz⟩:=I1.tuple hq;exact wpAny_pyIter_tuple (show s1.heap.IsTuple a its.toArray from p) #[s1.heap.objs.size,[s1.heap.objs.size],_,_,H1,rfl,Inv.kept (t':=s1.toks) I1 (λb o e=>bD _ e),zN a _,#[_,cV _ rfl,rfl,rfl],new,q]
end
def Itf (a:Addr)(o:Obj)(kvs:List (Key×V)):It:=
 #[λi H=>H a=some (.frz o (.dK kvs))/\i<kvs.length,λi H x H'=>H'=H/\(kvs.map λkv=>kV kv.1)[i]?=some x,λi H=>H a=some (.frz o (.dK kvs))/\i=kvs.length]
def Hc {K:Frag}{a it:Addr}{o:Obj}{es:Array DictEntry}{ep:Nat}(hd:o.data=.dict es ep)(hne:a≠it):Turn P w K tg (Itf a o kvs) [it] it (λi h=>h.IsKeyIter it a i kvs.length ep) where
 mem:=by simp
 obj:=λi h st b hb=>by
  have e:b=it:=by simpa using hb
  subst e;obtain ⟨o,e,c,d⟩:=st;exact #[o,e,λv z=>by rw[d]at z;cases z]
 keep:=λi h h' st k=>st.at λo e=>k it (by simp) o e
 item:=by
  intro X hP hw hK hc i OG s U H E I hf st hg;subst hP hw hK;obtain ⟨hH,hi⟩:=hg;obtain ⟨ho,hz,hs,vs,rel,o',es',ep',h1,h2,h3,h4,h5,h6⟩:=(show bU X.prog X.w H s.heap a (.frz o (.dK kvs)) from I.hok a _ hH);rw[ho]at h1;have:=aV h1;subst this;rw[hd]at h3;cases h3
  have hlen:kvs.length=vs.length:=rel.length;obtain ⟨f0,f1,f2,f3,f4,f5⟩:=hf it (by simp);rw[hlen]at st hi ⊢;refine (Walks.dictKeys (prog:=X.prog) (w:=X.w) (A:=X.A) (knd:=cb X.prog X.w) (I.ok.hd hc) it a hne vs ep).item i s _ _ hi #[st,o,es,ho,h2,hd,h4,h5,h6] λv h' tk hv st' k=>?_;obtain ⟨kk,xx,hk1,hk2⟩:=hv;have rv:=Bp hk2;have hkv:(kvs.map λkv=>kV kv.1)[i]?=some (kV kk):=by
   have:∀{l:List (Key×V)} {m:List (Key×Value)} {j:Nat},KV l m->m[j]?=some (kk,xx)->(l.map λkv=>kV kv.1)[j]?=some (kV kk):=by
    intro l m j r
    induction r generalizing j with
    | nil=>intro h;simp at h
    | cons a _ ih=>
     intro h;cases j with
     | zero=>
      have e:=aV (show some _=some (kk,xx) from h);show some (kV _)=some (kV kk);rw[a.1,e]
     | succ j=>
      rw[bK,lE];exact ih (by simpa using h)
   exact this rel hk1
  have I1:Inv X OG U H { s with heap:=h',toks:=tk }:=I.turned (t':=tk) (λb o hb e=>k b o (by simpa using hb) e) f0 f1 f3 f4 f5;obtain ⟨oo,e,c,d⟩:=id st'.1;exact #[v,rfl,jT (s:={ s with heap:=h',toks:=tk }) e c d (by decide) #[kV kk,H,I1,rv,#[rfl,hkv],st'.1,λb hb=>(hf b hb).1]]
 done:=by
  intro X hP hw hK hc i OG s U H E I hf st hg;subst hP hw hK;obtain ⟨hH,hi⟩:=hg;obtain ⟨ho,hz,hs,vs,rel,o',es',ep',h1,h2,h3,h4,h5,h6⟩:=(show bU X.prog X.w H s.heap a (.frz o (.dK kvs)) from I.hok a _ hH);rw[ho]at h1;have:=aV h1;subst this;rw[hd]at h3;cases h3
  have hlen:kvs.length=vs.length:=rel.length;obtain ⟨f0,f1,f2,f3,f4,f5⟩:=hf it (by simp);subst hi;rw[hlen]at st;exact (Walks.dictKeys (prog:=X.prog) (w:=X.w) (A:=X.A) (knd:=cb X.prog X.w) (I.ok.hd hc) it a hne vs ep).done s _ _ #[st,o,es,ho,h2,hd,h4,h5,h6] λh' tk k=>#[rfl,I.turned (t':=tk) (λb o hb e=>k b o (by simpa using hb) e) f0 f1 f3 f4 f5]
 self:=λ_ _ _ _ _ st h=>wpAny_pyIter_keyiter st h
inductive Br (R:It->Hp->Prop)(x:V)(H1:Hp):Prop
 | c:∀ a kvs,x=.ref a->((H1 a=some (.dK kvs)/\∀ o,R (Itf a o kvs) (upd H1 a (.frz o (.dK kvs))))\/∃ o,H1 a=some (.frz o (.dK kvs))/\R (Itf a o kvs) H1)->Br R x H1
def Hd (tl:TE):TI:=λU H R=>tl U H λx H1=>Br R x H1
section
variable {X:Cx}{tg:Expr}
def Bs (hl:PE X l tl):PI X tg l (Hd tl):=by
 intro OG s U H R I h;refine thn (hl OG s U H _ I h) λv s1 zq0=>?_;obtain ⟨x,H1,I1,r1,a,kvs,e,q1⟩:=zq0;subst e;cases r1
 have core:∀{H2:Hp} {o:Obj},Inv X OG U H2 s1->H2 a=some (.frz o (.dK kvs))->R (Itf a o kvs) H2->wpAny (model X.prog X.w) X.A (pyIter (.ref a)) (PIE X OG U tg R) X.xe s1:=by
  intro H2 o I2 hH q;obtain ⟨ho,hz,hs,vs,rel,o',es,ep,h1,h2,h3,h4,h5,h6⟩:=(show bU X.prog X.w H2 s1.heap a (.frz o (.dK kvs)) from I2.hok a _ hH);rw[ho]at h1;have:=aV h1;subst this;have hlt:a<s1.heap.objs.size:=aZ ho;have hlen:kvs.length=vs.length:=rel.length;refine wpAny_pyIter_dict (knd:=cb X.prog X.w) (kvs:=vs) (ep:=ep) hs #[o,es,ho,h2,h3,h4,h5,h6] ?_;refine #[s1.heap.objs.size,[s1.heap.objs.size],_,_,H2,rfl,Inv.kept (t':=s1.toks) I2 (λb o e=>bD _ e),Hc h3 (bX hlt),?_,λb hb=>?_,q]
  .rw[hlen];exact #[_,cV _ rfl,rfl,rfl]
  .rw[a0.mp hb];exact I2.fpOk (av _) (I2.hok.fresh (av _))
 rcases q1 with ⟨hH,q⟩|⟨o,hH,q⟩
 .obtain ⟨hz,hs,vs,rel,o,es,ep,h1,h2,h3,h4,h5,h6⟩:=(show bU X.prog X.w H1 s1.heap a (.dK kvs) from I1.hok a _ hH);have I2:Inv X OG U (upd H1 a (.frz o (.dK kvs))) s1:=I1.write (x:=a) (e:=a) (t':=s1.toks) (by rw[hH];exact True.intro) (.inl rfl) (λb u _ e=>e) #[o,h1] #[h1,hz,hs,vs,rel,o,es,ep,h1,h2,h3,h4,h5,h6];exact core I2 ah (q o)
 .exact core I1 hH q
end
def Bt {a:Addr}{o:Obj}{kvs:List (Key×V)}{g:TG}{ts:TT}{te:TE}{U:St}{H:Hp}{Q:Hp->Prop}(Pv:Nat->St->Hp->Prop)(h0:Pv 0 U H)(hl:∀ i U H,i<=kvs.length->Pv i U H->H a=some (.frz o (.dK kvs)))
  (hs:∀ i m x U H,(kvs.map λkv=>kV kv.1)[i]?=some x->i+m=kvs.length->Pv i U H->g x U H λU2 H2=>ts U2 H2 λb H3=>if b=true then te U2 H3 λy H4=>∃ zs,H4 D=some (.lst zs)/\zs.length<sizeLine/\∃ m',m'<m/\(i+1+m'=kvs.length/\Pv (i+1) U2 (upd H4 D (.lst (zs++[y])))) else ∃ m',m'<m/\(i+1+m'=kvs.length/\Pv (i+1) U2 H3))
  (hd:∀ U H,Pv kvs.length U H->Q H) :
  ∃ W:Nat->Nat->St->Hp->Prop,(∃ m,W 0 m U H)/\∀ i m U H,W i m U H->((Itf a o kvs).stop i H/\Q H)\/((Itf a o kvs).go i H/\∀ x H',(Itf a o kvs).yld i H x H'->g x U H' λU2 H2=>ts U2 H2 λb H3=>if b=true then te U2 H3 λy H4=>∃ xs,H4 D=some (.lst xs)/\xs.length<sizeLine/\∃ m',m'<m/\W (i+1) m' U2 (upd H4 D (.lst (xs++[y]))) else ∃ m',m'<m/\W (i+1) m' U2 H3):=by
 refine #[λi m U H=>i+m=kvs.length/\Pv i U H,#[kvs.length,by lia,h0],λi m U H zq0=>?_];obtain ⟨e,pv⟩:=zq0;have hS:=hl i U H (by lia) pv;by_cases hi:i<kvs.length
 .refine .inr #[#[hS,hi],λx H' y=>?_];obtain ⟨e1,y⟩:=y;subst e1;exact hs i m x U _ y e pv
 .have:i=kvs.length:=by lia
  subst this;exact .inl #[#[hS,rfl],hd U H pv]
end L2
namespace HT
open PySem PySem.Spec PyProof.Rows
section
variable {prog:Program}{w:World}{A:Around}{E:Value->Shared->Prop}{s:Shared}
def getItem_tuple_all {t sl:Addr}{items:Array Value}{vl vu:Value}{lo hi:Option Int}{Q:Value->Shared->Prop}(ht:IsTup s.heap t items)(hs:s.heap.IsSliceOf sl vl vu .none)(pl:IsPart vl lo)(pu:IsPart vu hi)
  (hw:sIx items.size 0 lo=0/\sIx items.size items.size hi=items.size) (h:Q (.ref t) s):wpAny (model prog w) A (getItem (.ref t) (.ref sl)) Q E s:=by
 obtain ⟨os,hos,hcs,hds⟩:=id hs;have hTs:s.TypeIs (.ref sl) "slice":=#[os,hos,hcs];unfold getItem
 try with_reducible refine wpAny_holding ?_
 first|refine aA (bg ?_)|skip
 refine aA (wpAny_sequenceKey ht.typeIs (by decide) ?_);refine aA (wpAny_callSpecial?_slot (name:=Str.ofString "__getitem__") ht.typeIs PyProof.Rows.slot_tuple_getitem (wpAny_call_entry PyProof.Rows.slot_tuple_getitem ht.typeIs entry_tuple_getitem ?_ (args_tuple_getitem _ _)));show wpAny _ _ (Builtin.Tuple.tupleItemsOf (.ref t) >>= _) _ _ s;refine aA (tupleItemsOf_ ht ?_);refine aA (wpAny_typeOf hTs ?_);rw[ar (by decide)];refine aA (Al hs pl pu ?_);have yes:(((sIx items.size 0 lo:Nat):Int)==0&&(1:Int)==1&&(sIx items.size items.size hi-sIx items.size 0 lo)==items.size)=true:=by
  rw[hw.1,hw.2];simp
 show wpAny _ _ (if (((sIx items.size 0 lo:Nat):Int)==0&&(1:Int)==1&&(sIx items.size items.size hi-sIx items.size 0 lo)==items.size)=true then _ else _) _ _ s
 rw[ar yes];refine aA ?_;unfold Builtin.Tuple.tupleIsExact;refine aA (wpAny_typeOf ht.typeIs ?_);refine bg ?_;rw[ar (by decide)];exact aA (wpAny_rule (bg #[_,rfl,bg h]))
end
end HT
namespace L2
open PySem PySem.Spec PyProof.Rows
section
variable {X:Cx}
inductive rSlX (K:Frag)(x:V)(lo:Option Int)(hi:Option Int)(H:Hp)(Q:VK):Prop
 | c:∀ a xs,x=.ref a->SqT K H a xs->((HT.sIx xs.length 0 lo=0/\HT.sIx xs.length xs.length hi=xs.length)->Q (.ref a) H)->(¬ (HT.sIx xs.length 0 lo=0/\HT.sIx xs.length xs.length hi=xs.length)->∀ p,H p=none->Q (.ref p) (upd H p (.tup (cutV xs lo hi))))->rSlX K x lo hi H Q
def He:SlR X (rSlX X.K):=by
 intro OG s U H x v vl vu lo hi sl Q I rx hs pl pu h;obtain ⟨a,xs,e,hx,q1,q2⟩:=h;by_cases hw:HT.sIx xs.length 0 lo=0/\HT.sIx xs.length xs.length hi=xs.length
 .subst e;cases rx
  obtain ⟨its,r,ht,hz⟩:=I.tuple hx;have hlen:its.toArray.size=xs.length:=by rw[bP];exact r.length.symm
  refine #["tuple",_,PyProof.Rows.slot_tuple_getitem.lookup,ht.typeIs,?_];exact HT.getItem_tuple_all ht hs pl pu (by rw[hlen];exact hw) #[.ref a,H,I,rfl,q1 hw]
 .exact Fw OG s U H x v vl vu lo hi sl Q I rx hs pl pu #[a,xs,e,hx,hw,q2 hw]
def uX {K:Frag}(h:X.K=K:=by rfl):SlR X (rSlX K):=by
 subst h;exact He
inductive Bu (K:Frag)(x:V)(y:V)(H:Hp)(Q:VK):Prop
 | c:∀ a b xs ys,x=.ref a->y=.ref b->SqT K H a xs->SqT K H b ys->ys≠[]->xs.length+ys.length<=sizeLine->(xs=[]->Q (.ref b) H)->(xs≠[]->∀ p,H p=none->Q (.ref p) (upd H p (.tup (xs++ys))))->Bu K x y H Q
def Hf:OpR X (binaryOp .Add) (Bu X.K):=by
 intro OG s U H x y v u Q I rx ry h;obtain ⟨a,b,xs,ys,e1,e2,ha,hb,hy,hz,q1,q2⟩:=h;by_cases hx:xs=[]
 .subst e1 e2;cases rx
  cases ry
  obtain ⟨its,r1,p1,_⟩:=I.tuple ha;obtain ⟨its2,r2,p2,_⟩:=I.tuple hb;obtain ⟨⟨cls,dd,data,sl⟩,ho,hc,n,hd⟩:=id p1;obtain ⟨⟨cls2,dd2,data2,sl2⟩,ho2,hc2,n2,hd2⟩:=id p2;simp only at hc hd hc2 hd2;subst hc hd hc2 hd2;have hv:its=[]:=r1.nil_iff.mpr hx;exact concat_meets #[_,ho,rfl] #[_,ho2,rfl] noFill_tuple_add seq_tuple_add PySem.F.slot_tuple_add PySem.F.entry_tuple_add (PySem.F.args_tuple_add_2 _ _)
   (tuple_addW0 a b its.toArray its2.toArray n n2 dd dd2 sl sl2 (by simp[hv])) #[ho,ho2,.ref b,H,I,rfl,q1 hx]
 .exact Ao OG s U H x y v u Q I rx ry #[a,b,xs,ys,e1,e2,ha,hb,hx,hz,λz=>absurd z hy,λ_=>q2 hx]
end
end L2
namespace L2
open PySem PySem.Spec PyProof.Rows PySem.SeqAt
def hasO (o:Option Int)(v:V):Prop:=match o with
 | none=>v=.non
 | some i=>v=.int i
instance:Rep (Option Int) where
 dec:=inferInstance
 depth:=0
 has:=λ_ _ o v=>hasO o v
 mono:=λ_ h=>h
 inj:=λ{_ _ _ _ _ a b v} _ h1 h2=>by
  cases a<;>cases b
  .rfl
  .have h1:v=.non:=h1;have h2:v=.int _:=h2;rw[h1]at h2;cases h2
  .have h1:v=.int _:=h1;have h2:v=.non:=h2;rw[h1]at h2;cases h2
  .have h1:v=.int _:=h1;have h2:v=.int _:=h2;rw[V.int.inj (h1.symm.trans h2)]
 rc:=λ{_ _ _ _ _ _ a b x y u v} _ _ h1 h2 r1 r2=>by
  cases a with
  | none=>
   have h1:x=.non:=h1;subst h1;obtain rfl:u=.none:=r1;cases b with
   | none=>
    have h2:y=.non:=h2;subst h2;obtain rfl:v=.none:=r2;exact RcAt.none_none
   | some j=>
    have h2:y=.int j:=h2;subst h2;obtain ⟨t,rfl⟩:=r2;exact RcAt.none_int _ _
  | some i=>
   have h1:x=.int i:=h1;subst h1;obtain ⟨t,rfl⟩:=r1;cases b with
   | none=>
    have h2:y=.non:=h2;subst h2;obtain rfl:v=.none:=r2;exact RcAt.int_none _ _
   | some j=>
    have h2:y=.int j:=h2;subst h2;obtain ⟨t',rfl⟩:=r2;have e:decide (some i=some j)=(i==j):=by
     by_cases z:i=j
     .subst z;simp
     .rw[bH (λq=>z (aV q)),beq_eq_false_iff_ne.mpr z]
    have:=RcAt.int_int (A:=‹Around›) (s:=‹Shared›) i t j t';rw[<-e]at this;exact this
 rn:=λ{_ _ _ _ _ _ a b x y u v} _ _ h1 h2 r1 r2=>by
  cases a with
  | none=>
   have h1:x=.non:=h1;subst h1;obtain rfl:u=.none:=r1;cases b with
   | none=>
    have h2:y=.non:=h2;subst h2;obtain rfl:v=.none:=r2;exact RcNeAt.none_none
   | some j=>
    have h2:y=.int j:=h2;subst h2;obtain ⟨t,rfl⟩:=r2;exact RcNeAt.none_int _ _
  | some i=>
   have h1:x=.int i:=h1;subst h1;obtain ⟨t,rfl⟩:=r1;cases b with
   | none=>
    have h2:y=.non:=h2;subst h2;obtain rfl:v=.none:=r2;exact RcNeAt.int_none _ _
   | some j=>
    have h2:y=.int j:=h2;subst h2;obtain ⟨t',rfl⟩:=r2;have e:decide (some i=some j)=(i==j):=by
     by_cases z:i=j
     .subst z;simp
     .rw[bH (λq=>z (aV q)),beq_eq_false_iff_ne.mpr z]
    have:=RcNeAt.int_int (A:=‹Around›) (s:=‹Shared›) i t j t';rw[<-e]at this;exact this
 eq:=λ{_ _ _ _ _ _ a b x y u v} _ _ h1 h2 r1 r2=>by
  cases a with
  | none=>
   have h1:x=.non:=h1;subst h1;obtain rfl:u=.none:=r1;cases b with
   | none=>
    have h2:y=.non:=h2;subst h2;obtain rfl:v=.none:=r2;exact EqAt.same _
   | some j=>
    have h2:y=.int j:=h2;subst h2;obtain ⟨t,rfl⟩:=r2;exact EqAt.none_int _ _
  | some i=>
   have h1:x=.int i:=h1;subst h1;obtain ⟨t,rfl⟩:=r1;cases b with
   | none=>
    have h2:y=.non:=h2;subst h2;obtain rfl:v=.none:=r2;exact EqAt.int_none _ _
   | some j=>
    have h2:y=.int j:=h2;subst h2;obtain ⟨t',rfl⟩:=r2;have e:decide (some i=some j)=(i==j):=by
     by_cases z:i=j
     .subst z;simp
     .rw[bH (λq=>z (aV q)),beq_eq_false_iff_ne.mpr z]
    have:=EqAt.int_int (A:=‹Around›) (s:=‹Shared›) i t j t';rw[<-e]at this;exact this
structure Tup (α:Type) where
 l:List α
def Tup.ext' {α:Type}{a b:Tup α}(h:a.l=b.l):a=b:=by
 cases a
 cases b
 cases h
 rfl
instance {α:Type} [DecidableEq α]:DecidableEq (Tup α):=λa b=>if h:a.l=b.l then .isTrue (Tup.ext' h) else .isFalse λz=>h (by rw[z])
inductive hasT {α:Type}[Rep α](K:Frag)(H:Hp)(t:Tup α)(v:V):Prop
 | c:∀ a xs,v=.ref a->SqT K H a xs->aI K H t.l xs->hasT K H t v
section
variable {α:Type}[r:Rep α]{X:Cx}{OG:List (Addr×Obj)}{U:St}{H:Hp}{s:Shared}{A:Around}{as bs:Tup α}{x y:V}{u v:Value}
def Bv (I:Inv X OG U H s)(h1:hasT X.K H as x)(h2:hasT X.K H bs x):as=bs:=by
 obtain ⟨a,xs,rfl,q1,h1⟩:=h1;obtain ⟨b,ys,e,q2,h2⟩:=h2;cases e
 rw[I.tuple_inj q2 q1]at h2;exact Tup.ext' (h1.inj I h2)
def Bw {as bs:List α}(n m:Nat)(hn:as.length=n)(hm:bs.length=m):((List.range (min n m)).all (λj=>decide (as[j]?=bs[j]?))&&n==m)=decide (as=bs):=by
 by_cases hl:as.length=bs.length
 .have e:=uK as bs hl;have z:min n m=as.length:=by lia
  rw[z,e,beq_iff_eq.mpr (by lia:n=m),Bool.and_true]
 .rw[bH (λz=>hl (by rw[z])),beq_eq_false_iff_ne.mpr (by lia:n≠m),Bool.and_false]
def Bx:decide (as=bs)=decide (as.l=bs.l):=by
 by_cases h:as.l=bs.l
 .rw[aU h,aU (Tup.ext' h)]
 .rw[bH h,bH (λz=>h (by rw[z]))]
def By (I:Inv X OG U H s)(hu:A.units+(Rep.depth α+1)<cLine)(h1:hasT X.K H as x)(h2:hasT X.K H bs y)(r1:RelV x u)(r2:RelV y v):RcAt A s u v (decide (as=bs)):=by
 obtain ⟨a,xs,rfl,q1,h1⟩:=h1;obtain ⟨b,ys,rfl,q2,h2⟩:=h2;cases r1
 cases r2
 obtain ⟨us,ru,pu,_⟩:=I.tuple q1;obtain ⟨vs,rv,pv,_⟩:=I.tuple q2;have l1:=ru.length;have l2:=rv.length;have m1:=h1.length;have m2:=h2.length;have hin:A.in1.units+Rep.depth α<cLine:=fb (iX jc _) (by lia);have:=RcAt.tuples (A:=A) (s:=s) (l:=a) (b:=b) (items:=us.toArray) (items2:=vs.toArray) (e:=λj=>decide (as.l[j]?=bs.l[j]?)) pu pv (by lia) (oA I hin h1 h2 ru rv);rw[Bw (as:=as.l) (bs:=bs.l) us.toArray.size vs.toArray.size (by simp;lia) (by simp;lia),<-Bx]at this;exact this
def Hg (I:Inv X OG U H s)(hu:A.units+(Rep.depth α+1)<cLine)(h1:hasT X.K H as x)(h2:hasT X.K H bs y)(r1:RelV x u)(r2:RelV y v):RcNeAt A s u v (!decide (as=bs)):=by
 obtain ⟨a,xs,rfl,q1,h1⟩:=h1;obtain ⟨b,ys,rfl,q2,h2⟩:=h2;cases r1
 cases r2
 obtain ⟨us,ru,pu,_⟩:=I.tuple q1;obtain ⟨vs,rv,pv,_⟩:=I.tuple q2;have l1:=ru.length;have l2:=rv.length;have m1:=h1.length;have m2:=h2.length;have hin:A.in1.units+Rep.depth α<cLine:=fb (iX jc _) (by lia);have:=RcNeAt.tuples (A:=A) (s:=s) (l:=a) (b:=b) (items:=us.toArray) (items2:=vs.toArray) (e:=λj=>decide (as.l[j]?=bs.l[j]?)) pu pv (by lia) (oA I hin h1 h2 ru rv);rw[Bw (as:=as.l) (bs:=bs.l) us.toArray.size vs.toArray.size (by simp;lia) (by simp;lia),<-Bx]at this;exact this
def Hh (I:Inv X OG U H s)(hu:A.units+(Rep.depth α+1)<cLine)(h1:hasT X.K H as x)(h2:hasT X.K H bs y)(r1:RelV x u)(r2:RelV y v):EqAt A s u v (decide (as=bs)):=by
 have rc:=By (A:=A) I hu h1 h2 r1 r2;have h1':=id h1;have h2':=id h2;obtain ⟨a,xs,rfl,q1,h1⟩:=h1;obtain ⟨b,ys,rfl,q2,h2⟩:=h2;cases r1
 cases r2
 by_cases hab:a=b
 .subst hab;rw[aU (Bv I h1' h2')];exact EqAt.same _
 .exact EqAt.of_refs hab rc
end
instance {α:Type} [Rep α]:Rep (Tup α) where
 dec:=inferInstance
 depth:=Rep.depth α+1
 has:=hasT
 mono:=λe ⟨a,xs,h1,h2,h3⟩=>#[a,xs,h1,h2.ext e,h3.mono e]
 inj:=λI h1 h2=>Bv I h1 h2
 rc:=λI hu h1 h2 r1 r2=>By I hu h1 h2 r1 r2
 rn:=λI hu h1 h2 r1 r2=>Hg I hu h1 h2 r1 r2
 eq:=λI hu h1 h2 r1 r2=>Hh I hu h1 h2 r1 r2
end L2
namespace L2
open PySem PySem.Spec PyProof.Rows
section
variable {X:Cx}{K:Frag}
def gH (h:X.K=K:=by rfl):cT X (.type "tuple") (λxs H Q=>∃ p ys,xs=[V.ref p]/\((SqL K H p ys/\∀ l,H l=none->Q (.ref l) (upd H l (.tup ys)))\/(SqT K H p ys/\Q (.ref p) H))):=by
 subst h;exact FM
end
def Bz:Manifest.owners.lookup (String.ofList ['d','e','s','r','e','v','e','r'].reverse)=some Manifest.sig_reversed:=by kernel_rfl
def ma:Slot "reversed" "__next__" "reversed.__next__":=
 .of (owner := "reversed") (n := "__next__") (by rw[typeLookup_type,builtinLookup_eq_fast];kernel_rfl) (by decide +kernel) (by decide +kernel) (by decide +kernel)
  (by first|exact .inl (by decide +kernel)|exact .inr (by decide +kernel)) (by rw[isSubtype_type];kernel_rfl)
def BA:Slot "reversed" "__iter__" "reversed.__iter__":=
 .of (owner := "reversed") (n := "__iter__") (by rw[typeLookup_type,builtinLookup_eq_fast];kernel_rfl) (by decide +kernel) (by decide +kernel) (by decide +kernel)
  (by first|exact .inl (by decide +kernel)|exact .inr (by decide +kernel)) (by rw[isSubtype_type];kernel_rfl)
def Hi:Slot "reversed" "__init__" "object.__init__":=
 .of (owner := "object") (n := "__init__") (by rw[typeLookup_type,builtinLookup_eq_fast];kernel_rfl) (by decide +kernel) (by decide +kernel) (by decide +kernel)
  (by first|exact .inl (by decide +kernel)|exact .inr (by decide +kernel)) (by rw[isSubtype_type];kernel_rfl)
def BB:entryFor table "reversed.__next__" = some Builtin.«reversed.__next__»:=entryFor_of_tree (by kernel_rfl)
def BC (a:Value):argsOk "reversed.__next__" #[[a],[]]:=by
 unfold argsOk;rw[signature?_of (id := "reversed.__next__") (n:=['_','_','t','x','e','n','_','_']) (o:=['d','e','s','r','e','v','e','r']) (by kernel_rfl) Bz];kernel_rfl
def Hj (a:Value):argsOk "reversed.__iter__" #[[a],[]]:=by
 unfold argsOk;rw[signature?_of (id := "reversed.__iter__") (n:=['_','_','r','e','t','i','_','_']) (o:=['d','e','s','r','e','v','e','r']) (by kernel_rfl) Bz];kernel_rfl
def Hk:entryFor table "reversed.__iter__" = some Builtin.«dict_keyiterator.__iter__»:=
 entryFor_alias (id' := "dict_keyiterator.__iter__") (by kernel_rfl) (by first|rfl|decide +kernel|(unfold String.splitOn;simp +decide [String.splitOnAux])) (by decide +kernel) (by kernel_rfl)
def uY:TypeCalled "reversed" "reversed.__new__" "object.__init__":=
 #[by decide +kernel,by decide +kernel,#[_,_,F.mro_reversed],F.made_reversed,by decide +kernel,F.sub_reversed_self,Hi]
def Hl:typeLookup (.type "tuple") "__reversed__" = pure none:=by rw[typeLookup_type,builtinLookup_eq_fast];kernel_rfl
def Hm:isSubtype (.type "tuple") (.type "dict")=pure false:=by rw[isSubtype_type];kernel_rfl
def md (l:Addr)(i:Int):Obj:={ cls:=.type "reversed",data:=.fields (List.toArray [.ref l,rawInt i]) }
def fw (h:Heap)(a l:Addr)(i:Int):Prop:=∃ o,h.get? a=some o/\o.cls=.type "reversed"/\o.data=.fields (List.toArray [.ref l,rawInt i])
section
variable {prog:Program}{w:World}{A:Around}{E:Value->Shared->Prop}{s:Shared}
def fw.typeIs {a l:Addr}(x:fw s.heap a l i):s.TypeIs (.ref a) "reversed":=let ⟨o,ho,hc,_⟩:=x;#[o,ho,hc]
def fw.at {h':Heap}{a l:Addr}(x:fw h a l i)(e:∀ o,h.get? a=some o->h'.get? a=some o):fw h' a l i:=let ⟨o,ho,r⟩:=x;#[o,e _ ho,r]
def BD {Q:Value->Shared->Prop}(hit:fw s.heap it l i)(h:Q (.ref it) s):wpAny (model prog w) A (pyIter (.ref it)) Q E s:=by
 refine wpAny_pyIter_slot hit.typeIs BA (wpAny_call_entry BA hit.typeIs Hk ?_ (Hj _));show wpAny _ _ (ret (.ref it)) _ _ s;exact bg #[_,rfl,"reversed",_,hit.typeIs,ma.lookup,h]
def Hn {l:Addr}{items:Array Value}{Q₁:Value->Shared->Prop}(hl:IsTup s.heap l items)(hfit:(items.size:Int)<2^63)
  (h:Q₁ (.ref s.heap.objs.size) { s with heap:=s.heap.push (md l ((items.size:Int)-1)),toks:=s.toks+1+1 }) :
  codeAny (model prog w) A (.call (.builtin "reversed.__new__") #[[.type "reversed",.ref l],[]]) (wants Q₁ E) s:=by
 refine codeAny_of_tree ?_;show wpAny _ A.in1 (do checkBuiltinCall "reversed.__new__" #[[.type "reversed",.ref l],[]];again (.builtin "reversed.__new__" #[[.type "reversed",.ref l],[]])) _ _ s
 refine aA (wpAny_of_eq (F.newCall_reversed_1 _) (bg #[plainId_quiet F.plain_reversed_new _,codeAny_builtin F.entry_reversed_new ?_]));rw[Around.under_plainId F.plain_reversed_new _];unfold Builtin.«reversed.__new__»;refine aA (wpAny_of_eq (newClass_reversed _) ?_)
 try dsimp only
 refine aA (wpAny_of_eq (a:=()) (by first|rfl|kernel_rfl) ?_)
 refine aA (wpAny_of_eq (a:=()) (by first|rfl|kernel_rfl) ?_)
 try dsimp only
 refine aA (wpAny_specialOf hl.typeIs Hl ?_)
 try dsimp only
 refine aA (aA (wpAny_isInstance hl.typeIs Hm ?_))
 try dsimp only
 rw[az (by decide)];refine aA (wpAny_specialOf hl.typeIs slot_tuple_getitem.lookup ?_)
 try dsimp only
 rw[ar (by decide)];refine bg ?_;rw[az (by decide)];refine aA (len_tuple hl hfit ?_);refine aA (wpAny_of_eq (a:=some (items.size:Int)) rfl ?_)
 try dsimp only
 show wpAny _ _ (newObj (.type "reversed") (.fields (List.toArray [.ref l,rawInt ((items.size:Int)-1)])) >>= _) _ _ _;exact aA (wpAny_newObj_type (bg h))
def Ho {l:Addr}{items:Array Value}{Q:Value->Shared->Prop}(hl:IsTup s.heap l items)(hfit:(items.size:Int)<2^63)
  (h:Q (.ref s.heap.objs.size) { s with heap:=s.heap.push (md l ((items.size:Int)-1)),toks:=s.toks+1+1 }):wpAny (model prog w) A (call (.type "reversed") [.ref l]) Q E s:=by
 refine callType_codes (Bi:=Builtin.«object.__init__») (Q₁:=λobj s₁=>s₁.TypeIs obj "reversed"/\Q obj s₁) uY (F.typeCall_reversed_1 _) F.entry_object_init (Hn hl hfit #[#[_,cV _ rfl,rfl],h]) ?_;intro obj s₁ h₁;exact #[h₁.1,F.args_object_init_2 obj _,object_init_meets uY.init.lookup uY.made (by decide) prog w A.in1 _ s₁ #[h₁.1,rfl,h₁.2]]
def Hq {i:Nat}{items:Array Value}{x:Value}{Q:Option Value->Shared->Prop}(hit:fw s.heap it l (i:Int))(hl:IsTup s.heap l items)(hfit:(items.size:Int)<2^63)(hx:items[i]?=some x)
  (hQ:∀ h' tk,fw h' it l ((i:Int)-1)->Heap.SameBut it s.heap h'->Q (some x) { s with heap:=h',toks:=tk }):wpAny (model prog w) A (pyNext (.ref it)) Q E s:=by
 obtain ⟨o,ho,hc,hd⟩:=id hit;have hi:i < items.size:=(Array.getElem?_eq_some_iff.mp hx).1;unfold pyNext;refine aA (wpAny_attempt (wpAny_callSpecial?_slot (name:=Str.ofString "__next__") hit.typeIs ma
  (wpAny_call_entry ma hit.typeIs BB ?_ (BC _))))
 unfold Builtin.«reversed.__next__»;refine aA (wpAny_of_eq (a:=(Value.ref it,[])) rfl ?_)
 try dsimp only
 refine aA (wpAny_field ho hd (x:=.ref l) rfl ?_);refine aA (wpAny_field ho hd (x:=rawInt (i:Int)) rfl ?_);show wpAny _ _ (if (i:Int)<0 then _ else _) _ _ s
 rw[az (by lia)];refine aA (wpAny_specialOf hl.typeIs slot_tuple_getitem.lookup ?_);rw[az (by simp)];refine aA (wpAny_mkInt ?_);refine aA (wpAny_attempt (getItem_tuple (s:={ s with toks:=s.toks+1 }) hl (by lia) (by lia) (seqIndex_of (by lia) (by lia)) (by simpa using hx) ?_))
 try dsimp only
 refine aA (wpAny_field (s:={ s with toks:=s.toks+1 }) ho hd (x:=rawInt (i:Int)) rfl ?_);show wpAny _ _ (setField (.ref it) 1 (rawInt ((i:Int) - 1)) >>= _) _ _ _;refine aA (wpAny_setField (s:={ s with toks:=s.toks+1 }) ho hd (by simp) ?_);refine bg #[x,rfl,bg (hQ _ _ ?_ (Heap.SameBut.update ..))];exact #[_,nJ _ ho (Obj.isFreed_of_fields (Obj.data_mapFields hd _)),(Obj.cls_mapFields ..).trans hc,by
  rw[Obj.data_mapFields hd];simp]
def Hr {Q:Option Value->Shared->Prop}(hh:A.handled=none)(hit:fw s.heap it l (-1))
  (hQ:∀ h',Heap.ExtBut it s.heap h'->Q none { s with heap:=h' }):wpAny (model prog w) A (pyNext (.ref it)) Q E s:=by
 obtain ⟨o,ho,hc,hd⟩:=id hit;unfold pyNext;refine aA (wpAny_attempt (wpAny_callSpecial?_slot (name:=Str.ofString "__next__") hit.typeIs ma
  (wpAny_call_entry ma hit.typeIs BB ?_ (BC _))))
 unfold Builtin.«reversed.__next__»;refine aA (wpAny_of_eq (a:=(Value.ref it,[])) rfl ?_)
 try dsimp only
 refine aA (wpAny_field ho hd (x:=.ref l) rfl ?_);refine aA (wpAny_field ho hd (x:=rawInt (-1)) rfl ?_);show wpAny _ _ (if (-1:Int)<0 then _ else _) _ _ s
 rw[ar (by decide)];refine aA (wpAny_rule ?_);refine aA (show wpAny _ _ (do setField (.ref it) 1 (rawInt (-1));setField (.ref it) 0 .none) _ _ _ from aA (wpAny_setField ho hd (by simp) ?_))
 have ho2:=nJ (Obj.mapFields (·.setIfInBounds 1 (rawInt (-1)))) ho (Obj.isFreed_of_fields (Obj.data_mapFields hd _));refine wpAny_setField (s:={ s with heap:=s.heap.update it (Obj.mapFields (·.setIfInBounds 1 (rawInt (-1)))) }) ho2 (Obj.data_mapFields hd _) (by simp) ?_;have hx:Heap.ExtBut it s.heap ((s.heap.update it (Obj.mapFields (·.setIfInBounds 1 (rawInt (-1))))).update it (Obj.mapFields (·.setIfInBounds 0 Value.none))):=λb o hb e=>((Heap.SameBut.update ..).2 b hb).trans (((Heap.SameBut.update ..).2 b hb).trans e);generalize ((s.heap.update it (Obj.mapFields (·.setIfInBounds 1 (rawInt (-1))))).update it (Obj.mapFields (·.setIfInBounds 0 Value.none)))=h2 at hx ⊢;show wpAny _ _ ((newExc (.type "StopIteration") [] >>= _) >>= _) _ _ _;refine aA (aA ?_);simp only[newExc,newTuple];refine aA (wpAny_newObj_type ?_ (by size_fits));refine aA (m:=firstArgMember _ _) (wpAny_of_eq (a:=Value.none) (by first|rfl|(simp only[firstArgMember];rfl)) ?_)
 refine wpAny_newObj_type ?_ (by size_fits);simp only[raiseNew];refine aA (wpAny_handled ?_)
 first|rw[show A.in1.handled=none from hh]|rw[hh]
 refine aA (bg (wpAny_throw ?_));refine aA (wpAny_isInstance (T := "StopIteration") (b:=true) #[_,cV _ rfl,rfl] isSubtype_stop ?_);exact bg (hQ _ ((hx.push _).push _))
end
def Itw (K:Frag)(a:Addr)(n:Nat):It:=
 #[λi H=>i<n/\∃ xs,SqT K H a xs/\xs.length=n,λi H x H'=>H'=H/\∀ xs,SqT K H a xs->xs.length=n->xs.reverse[i]?=some x,λi _=>i=n]
def Ht {K:Frag}(a it:Addr)(n:Nat):Turn P w K tg (Itw K a n) [it] it (λi h=>fw h it a ((n:Int)-1-(i:Int))) where
 mem:=by simp
 obj:=λi h st b hb=>by
  have e:b=it:=by simpa using hb
  subst e;obtain ⟨o,e,c,d⟩:=st;exact #[o,e,λv z=>by rw[d]at z;cases z]
 keep:=λi h h' st k=>st.at λo e=>k it (by simp) o e
 item:=by
  intro X hP hw hK hc i OG s U H E I hf st hg;subst hP hw hK;obtain ⟨hi,xs,hq,hn⟩:=hg;obtain ⟨its,rv,p,hz⟩:=I.tuple hq;have hx:xs[n-1-i]?=some (xs[n-1-i]'(by lia)):=aD (by lia);obtain ⟨u,hu,ru⟩:=rv.get hx;obtain ⟨f0,f1,f2,f3,f4,f5⟩:=hf it (by simp);have e1:(n:Int)-1-(i:Int)=((n-1-i:Nat):Int):=by lia
  rw[e1]at st;have hfit:((its.toArray.size:Nat):Int)<2^63:=by
   rw[bP,<-rv.length];have:sizeLine<2^63:=by decide
   lia
  refine Hq st p hfit (x:=u) (by simpa using hu) λh' tk st' sb=>?_;have e2:((n-1-i:Nat):Int)-1=(n:Int)-1-((i+1:Nat):Int):=by lia
  rw[e2]at st';have I1:Inv X OG U H { s with heap:=h',toks:=tk }:=I.turned (t':=tk) (λb o hb e=>(sb.2 b hb).trans e) f0 f1 f3 f4 f5;obtain ⟨o,e,c,d⟩:=id st';refine #[u,rfl,jT (s:={ s with heap:=h',toks:=tk }) e c d (by decide) #[xs[n-1-i]'(by lia),H,I1,ru,#[rfl,λys hy hyn=>?_],st',λb hb=>(hf b hb).1]];rw[I.tuple_inj hy hq,nQ (by lia),show xs.length-1-i=n-1-i by lia];exact hx
 done:=by
  intro X hP hw hK hc i OG s U H E I hf st hg;subst hP hw hK;have hi:i=n:=hg;subst hi;obtain ⟨f0,f1,f2,f3,f4,f5⟩:=hf it (by simp);have e1:(i:Int)-1-(i:Int) = -1:=by lia
  rw[e1]at st;exact Hr (I.ok.hd hc) st λh' eb=>#[rfl,I.turned (t':=s.toks) (λb o hb e=>eb b o hb e) f0 f1 f3 f4 f5]
 self:=λ_ _ _ _ _ st h=>BD st h
inductive BE (K:Frag)(R:It->Hp->Prop)(vs:List V)(H1:Hp):Prop
 | c:∀ a xs,vs=[.ref a]->SqT K H1 a xs->R (Itw K a xs.length) H1->BE K R vs H1
def Hu (K:Frag)(ta:TA):TI:=λU H R=>ta U H λvs H1=>BE K R vs H1
section
variable {X:Cx}
def Hv {a:Expr}{p pos:Pos}(hg:Gl X "reversed")(hm:X.mg "reversed" = none)(ha:PA X [a] ta)(hs:starEach [a] X.env=[(false,eval a X.env)]:=by rfl):PI X tg (.Call (.Name "reversed" p) [a] [] pos) (Hu X.K ta):=by
 intro OG s U H R I h;refine Call_ (gx I hg hm boot_reversed (PyProof.Rows.callWith_type1 (thn (ha pos OG s U H _ I h) λus s1 zq0=>?_) hs rfl));obtain ⟨vs,H1,I1,r1,q1⟩:=zq0;obtain ⟨l,xs,e,hq,q⟩:=q1;subst e;cases r1 with
 | cons r rr=>
  cases rr
  cases r
  obtain ⟨its,rv,pl,hz⟩:=I1.tuple hq;have hl:=rv.length;have hfit:((its.toArray.size:Nat):Int)<2^63:=by
   rw[bP,<-rv.length];have:sizeLine<2^63:=by decide
   lia
  refine Ho pl hfit ?_;have I2:Inv X OG U H1 { s1 with heap:=s1.heap.push (md l ((its.toArray.size:Int)-1)),toks:=s1.toks+1+1 }:=I1.kept (t':=s1.toks+1+1) λb o e=>bD _ e;have hr:fw (s1.heap.push (md l ((its.toArray.size:Int)-1))) s1.heap.objs.size l (((xs.length:Nat):Int)-1-((0:Nat):Int)):=by
   refine #[_,cV _ rfl,rfl,?_];have:(its.toArray.size:Int)-1=((xs.length:Nat):Int)-1-((0:Nat):Int):=by
    rw[bP,hl];lia
   rw[this];rfl
  refine BD (s:={ s1 with heap:=s1.heap.push (md l ((its.toArray.size:Int)-1)),toks:=s1.toks+1+1 }) hr #[_,[s1.heap.objs.size],_,_,H1,rfl,I2,Ht l s1.heap.objs.size xs.length,hr,λb hb=>?_,q];have e:b=s1.heap.objs.size:=by simpa using hb
  subst e;exact I1.fpOk (av _) (I1.hok.fresh (av _))
end
def Hw {K:Frag}{a:Addr}{g:TG}{ts:TT}{te:TE}{U:St}{H:Hp}{Q:Hp->Prop}(Pv:Nat->St->Hp->Prop)(h0:Pv 0 U H)(hl:∀ i U H,i<=xs.length->Pv i U H->SqT K H a xs)
  (hs:∀ i m x U H,xs.reverse[i]?=some x->i+m=xs.length->Pv i U H->g x U H λU2 H2=>ts U2 H2 λb H3=>if b=true then te U2 H3 λy H4=>∃ zs,H4 D=some (.lst zs)/\zs.length<sizeLine/\∃ m',m'<m/\(i+1+m'=xs.length/\Pv (i+1) U2 (upd H4 D (.lst (zs++[y])))) else ∃ m',m'<m/\(i+1+m'=xs.length/\Pv (i+1) U2 H3))
  (hd:∀ U H,Pv xs.length U H->Q H) :
  ∃ W:Nat->Nat->St->Hp->Prop,(∃ m,W 0 m U H)/\∀ i m U H,W i m U H->((Itw K a xs.length).stop i H/\Q H)\/((Itw K a xs.length).go i H/\∀ x H',(Itw K a xs.length).yld i H x H'->g x U H' λU2 H2=>ts U2 H2 λb H3=>if b=true then te U2 H3 λy H4=>∃ xs,H4 D=some (.lst xs)/\xs.length<sizeLine/\∃ m',m'<m/\W (i+1) m' U2 (upd H4 D (.lst (xs++[y]))) else ∃ m',m'<m/\W (i+1) m' U2 H3):=by
 refine #[λi m U H=>i+m=xs.length/\Pv i U H,#[xs.length,by lia,h0],λi m U H zq0=>?_];obtain ⟨e,pv⟩:=zq0;have hS:=hl i U H (by lia) pv;by_cases hi:i<xs.length
 .refine .inr #[#[hi,xs,hS,rfl],λx H' y=>?_];obtain ⟨e1,y⟩:=y;subst e1;exact hs i m x U _ (y xs hS rfl) e pv
 .have:i=xs.length:=by lia
  subst this;exact .inl #[rfl,hd U H pv]
section
variable {X:Cx}
def Hx (hc:X.calm=true):cT X (.builtin "max") (λxs H Q=>∃(p:Addr) (ns:List Int),xs=[.ref p]/\SqL X.K H p (ns.map V.int)/\0<ns.length/\∀ M,M∈ns->(∀ a,a∈ns->a<=M)->Q (.int M) H):=by
 intro OG s U H xs us Q I r h;obtain ⟨p,ns,rfl,hq,hne,q⟩:=h;obtain ⟨u,rfl,rx⟩:=d4 r;cases rx
 obtain ⟨its,rv,pl,_⟩:=I.list hq;have hi:=l8 rv;obtain ⟨xs,hx⟩:=hi.allInts.items;have hl':s.heap.IsList p (intItems xs):=hx ▸ pl.isList;have e1:ns=xs.toList.map (·.1):=by
  rw[<-nums_intItems,<-hx];exact (show numsOf its.toArray.toList=ns from hi.numsOf).symm
 have hsz:0<xs.size:=by
  rw[e1,af,fH]at hne;exact hne
 refine max_intList (I.ok.hd hc) hl' hsz λv h' tk hv hk=>?_;obtain ⟨t,rfl⟩:=intItems_at hv;obtain ⟨h1,h2⟩:=argBest_gt (numAt xs) (xs.size-1);refine #[.int _,H,Inv.kept (t':=tk) I hk,#[t,rfl],q _ ?_ λa ha=>?_]
 .rw[e1,numAt_eq];rw[aF,aD (by rw[af,fH];lia)];exact cJ _
 .rw[e1]at ha;obtain ⟨j,hj,rfl⟩:=mem_getD ha;rw[af,fH]at hj;rw[<-numAt_eq];exact h2 j (by lia)
end
end L2
namespace HT
open PySem PyProof.Rows
def lexGt:List Int->List Int->Bool
 | [],[]=>false
 | [],_::_=>false
 | _::_,[]=>true
 | x::xs,y::ys=>if x=y then lexGt xs ys else decide (y<x)
def lexGt_cons (x y:Int)(xs ys:List Int):lexGt (x::xs) (y::ys)=if x=y then lexGt xs ys else decide (y<x):=rfl
def lexGt_nil_nil:lexGt [] []=false:=rfl
end HT
namespace L2
open PySem PySem.Spec PyProof.Rows PySem.SeqAt
def RelV.uniq {x y:V}{u:Value}(h:RelV x u)(g:RelV y u):x=y:=by
 cases x<;>cases y<;>(unfold RelV at h g)<;>(first|(obtain ⟨_,rfl⟩:=h)|subst h)<;>(first|(obtain ⟨_,g⟩:=g;cases g<;>rfl)|(cases g<;>rfl)|rfl)
def BF (its:List Value)(e:Value->Bool):its.toArray.any e=its.any e:=by simp
inductive rInD (α:Type)[Rep α](K:Frag)(neg:Bool)(x:V)(y:V)(H:Hp)(Q:VK):Prop
 | c:∀(p:Addr) (xs:List V) (a:α) (as:List α),y=.ref p->(SqL K H p xs\/SqT K H p xs)->Rep.has K H a x->aI K H as xs->(∀ b:Bool,(b=true↔a∈as)->Q (.bl (if neg then !b else b)) H)->rInD α K neg x y H Q
section
variable {X:Cx}{α:Type}[Rep α]
def uZ (I:Inv X OG U H s){a:α}{e:Value->Bool}(he:∀ u,e u=true↔∃ y,RelV y u/\Rep.has X.K H a y):∀{as:List α} {xs:List V} {us:List Value},aI X.K H as xs->Vals xs us->us.any e=decide (a∈as)
 | _,_,_,.nil,.nil=>rfl
 | b::as,x::xs,u::us,.cons h t,.cons r t2=>by
  rw[fI,uZ I he t t2];by_cases z:a=b
  .subst z;rw[(he u).mpr #[x,r,h],aU bL];rfl
  .have e1:e u=false:=by
    cases c:e u with
    | false=>rfl
    | true=>
     obtain ⟨y,r2,h2⟩:=(he u).mp c;rw[RelV.uniq r2 r]at h2;exact absurd (Rep.inj I h2 h) z
   rw[e1,Bool.false_or];by_cases m:a∈as
   .rw[aU m,aU (cp _ m)]
   .rw[bH m,bH (λq=>(bq.mp q).elim z m)]
def u7 {A:Around}(I:Inv X OG U H s)(hu:A.units+Rep.depth α<cLine){a:α}{x0:V}{v:Value}(ha:Rep.has X.K H a x0)(rv:RelV x0 v){e:Value->Bool}(he:∀ u,e u=true↔∃ y,RelV y u/\Rep.has X.K H a y):∀{as:List α} {xs:List V} {us:List Value},aI X.K H as xs->Vals xs us->∀ u∈us,EqAt A s u v (e u)
 | _,_,_,.nil,.nil=>λu hu=>by cases hu
 | b::as,x::xs,u::us,.cons h t,.cons r t2=>λu' hm=>by
  rcases bq.mp hm with z|z
  .subst z;have q:=Rep.eq (A:=A) I hu h ha r rv;have e2:e u'=(Rep.dec b a).decide:=by
    by_cases c:b=a
    .have e3:(Rep.dec b a).decide=true:=aU c;rw[e3];exact (he u').mpr #[x,r,c ▸ h]
    .have e3:(Rep.dec b a).decide=false:=bH c;rw[e3];cases k:e u' with
     | false=>rfl
     | true=>
      obtain ⟨y,r2,h2⟩:=(he u').mp k;rw[RelV.uniq r2 r]at h2;exact absurd (Rep.inj I h h2) c
   rw[e2];exact q
  .exact u7 I hu ha rv he t t2 u' z
def Hy (α:Type)[Rep α](hu:X.A.units+Rep.depth (List α)<cLine):OpR X (compareOp .In) (rInD α X.K false):=by
 intro OG s U H x y v u Q I rx ry h;obtain ⟨p,xs,a,as,rfl,hq,ha,hs,q⟩:=h;cases ry
 have hin:X.A.in1.units+Rep.depth α<cLine:=fb (iX jc _) (by have e:Rep.depth (List α)=Rep.depth α+1:=rfl;lia);have he:∀ u,(@decide (∃ y,RelV y u/\Rep.has X.K H a y) (Classical.propDecidable _))=true↔∃ y,RelV y u/\Rep.has X.K H a y:=λu=>by
  exact @decide_eq_true_iff _ (Classical.propDecidable _)
 rcases hq with hq|hq
 .obtain ⟨its,r,pl,hz⟩:=I.list hq;refine SeqAt.in_listAt _ pl.isList (λw hw=>u7 I hin ha rx he hs r w (by simpa using hw)) #[.bl _,H,I,rfl,?_];rw[BF,uZ I he hs r];exact q _ decide_eq_true_iff
 .obtain ⟨its,r,pl,hz⟩:=I.tuple hq;refine SeqAt.in_tupleAt _ pl (λw hw=>u7 I hin ha rx he hs r w (by simpa using hw)) #[.bl _,H,I,rfl,?_];rw[BF,uZ I he hs r];exact q _ decide_eq_true_iff
end
def me {α β:Type}[Rep α][Rep β](K:Frag)(H:Hp)(o:Option (α×β))(v:V):Prop:=match o with
 | none=>v=.non
 | some p=>hasP K H p v
section
variable {α β:Type}[Rep α][Rep β]{X:Cx}{OG:List (Addr×Obj)}{U:St}{H:Hp}{s:Shared}{A:Around}{p q:α×β}{x y:V}{u v:Value}
def j5 (I:Inv X OG U H s)(h:hasP X.K H p x)(r:RelV x u):∃(a:Addr) (its:Array Value),u=.ref a/\s.heap.IsTuple a its:=by
 obtain ⟨a,x1,x2,rfl,q,_,_⟩:=h;cases r
 obtain ⟨us,_,pu,_⟩:=I.tuple (SqT.of q);exact #[a,us.toArray,rfl,pu]
def u9:decide (some p=some q)=decide (p=q):=by
 by_cases h:p=q
 .subst h;rw[aU rfl,aU rfl]
 .rw[bH h,bH (λz=>h (aV z))]
end
instance instRepOptionProd {α β:Type} [Rep α] [Rep β]:Rep (Option (α×β)) where
 dec:=inferInstance
 depth:=Rep.depth α+Rep.depth β+1
 has:=me
 mono:=λ{_ _ _ a _} e h=>by
  cases a with
  | none=>exact h
  | some p=>exact Rep.mono (α:=α×β) e h
 inj:=λ{_ _ _ _ _ a b v} I h1 h2=>by
  cases a with
  | none=>
   have h1:v=.non:=h1;cases b with
   | none=>rfl
   | some q=>
    obtain ⟨c,_,_,e,_⟩:=(show hasP _ _ q v from h2);rw[h1]at e;cases e
  | some p=>
   cases b with
   | none=>
    have h2:v=.non:=h2;obtain ⟨c,_,_,e,_⟩:=(show hasP _ _ p v from h1);rw[h2]at e;cases e
   | some q=>rw[Rep.inj (α:=α×β) I h1 h2]
 rc:=λ{_ _ _ _ _ _ a b x y u v} I hu h1 h2 r1 r2=>by
  cases a with
  | none=>
   have h1:x=.non:=h1;subst h1;obtain rfl:u=.none:=r1;cases b with
   | none=>
    have h2:y=.non:=h2;subst h2;obtain rfl:v=.none:=r2;exact RcAt.none_none
   | some q=>
    obtain ⟨c,its,rfl,ht⟩:=j5 I h2 r2;exact RcAt.none_tuple ht (by lia)
  | some p=>
   cases b with
   | none=>
    have h2:y=.non:=h2;subst h2;obtain rfl:v=.none:=r2;obtain ⟨c,its,rfl,ht⟩:=j5 I h1 r1;exact RcAt.tuple_none ht (by lia)
   | some q=>
    have:=uL I hu h1 h2 r1 r2;rw[<-u9]at this;exact this
 rn:=λ{_ _ _ _ _ _ a b x y u v} I hu h1 h2 r1 r2=>by
  cases a with
  | none=>
   have h1:x=.non:=h1;subst h1;obtain rfl:u=.none:=r1;cases b with
   | none=>
    have h2:y=.non:=h2;subst h2;obtain rfl:v=.none:=r2;exact RcNeAt.none_none
   | some q=>
    obtain ⟨c,its,rfl,ht⟩:=j5 I h2 r2;exact RcNeAt.none_tuple ht (by lia)
  | some p=>
   cases b with
   | none=>
    have h2:y=.non:=h2;subst h2;obtain rfl:v=.none:=r2;obtain ⟨c,its,rfl,ht⟩:=j5 I h1 r1;exact RcNeAt.tuple_none ht (by lia)
   | some q=>
    have:=AY I hu h1 h2 r1 r2;rw[<-u9]at this;exact this
 eq:=λ{_ _ _ _ _ _ a b x y u v} I hu h1 h2 r1 r2=>by
  cases a with
  | none=>
   have h1:x=.non:=h1;subst h1;obtain rfl:u=.none:=r1;cases b with
   | none=>
    have h2:y=.non:=h2;subst h2;obtain rfl:v=.none:=r2;exact EqAt.same _
   | some q=>
    obtain ⟨c,its,rfl,ht⟩:=j5 I h2 r2;exact EqAt.none_tuple ht (by lia)
  | some p=>
   cases b with
   | none=>
    have h2:y=.non:=h2;subst h2;obtain rfl:v=.none:=r2;obtain ⟨c,its,rfl,ht⟩:=j5 I h1 r1;exact EqAt.tuple_none ht (by lia)
   | some q=>
    have:=AZ I hu h1 h2 r1 r2;rw[<-u9]at this;exact this
end L2
namespace L2
open PySem PySem.Spec PyProof.Rows
section
variable {X:Cx}
def BG:∀{ns:List Int} {us:List Value},Vals (ns.map V.int) us->IntsAre us ns
 | [],_,.nil=>.nil
 | _::_,_,.cons r t=>by
  obtain ⟨_,rfl⟩:=r;exact .cons _ _ (BG t)
inductive BH (x:V)(vs:List V)(H:Hp)(Q:VK):Prop
 | c:∀(l:Addr) (ns:List Int) (k:Int),x=.ref l->vs=[.int k]->H l=some (.lst (ns.map V.int))->ns.length<=1000->k∈ns->Q (.int (ns.idxOf k:Nat)) H->BH x vs H Q
def BI:MtM X "list.index" BH:=by
 intro OG s U H x vs v us Q I rx rv h;obtain ⟨l,ns,k,rfl,rfl,hH,hz,hk,q⟩:=h;cases rx
 obtain ⟨u,rfl,ru⟩:=rv.one;obtain ⟨t,rfl⟩:=ru;obtain ⟨z,its,n,r,hl,e⟩:=I.lstM hH;have hi:=BG r;have hlen:=hi.length;have hj:ns.idxOf k<ns.length:=gn.mpr hk;refine call_meets F.slot_list_index #[_,e,rfl] F.entry_list_index (F.args_list_index_2 _ _)
  (PySem.SeqAt.list_indexAt l its.toArray n none (List.toArray []) (.int k t) (isInt k) (ns.idxOf k) (by simpa [hlen] using hj) (by lia) ?_ ?_) #[e,λy hy=>(eq_isInt k t hi y (by simpa using hy)).at _ _,#[.int _,H,I.tok _,#[_,rfl],q]]
 .show isInt k its[ns.idxOf k]=true;rw[isInt_at k hi _ (by lia) hj];simpa using nR hj
 .intro j hjs hlt;show isInt k its[j]=false;rw[isInt_at k hi j (by simpa using hjs) (by lia)];exact ne_of_lt_idxOf hlt _
def BJ {K:Frag}{T id:String}{name:Str}{e:Expr}{es:List Expr}{t:TA}{apos cpos:Pos}(pa:PlainAttrs T)(slot:Slot T name id)(hty:typeOf (.builtin id)=pure (.type "method_descriptor"))(hm:MtR X id r)(ho:PE X o to)(ha:PA X (e::es) t)(hK:X.K=K:=by rfl)
  (hbase:attributeBase o name X.env (eval o X.env)=eval o X.env:=by rfl)
  (hfew:((backTo cpos (starEach (e::es) X.env)).all (λx=>!x.1) && (backToKw cpos (keywordEach [] X.env)).all (λx=>x.1.isSome)
   && decide ((e::es).length+([]:List Keyword).length+(if ([]:List Keyword).isEmpty then 0 else 1)<30))=true:=by rfl)
  (hline:(apos.endLine==cpos.line)=true:=by rfl) (hs:starEach (e::es) X.env=(false,eval e X.env)::starEach es X.env:=by rfl) (hplain:(backTo cpos (starEach es X.env)).any (·.1)=false:=by rfl) :
  PE X (.Call (.Attribute o name apos) (e::es) [] cpos) (tBM K T r to t):=by
 subst hK;exact d5 pa slot hty hm ho ha hbase hfew hline hs hplain
end
structure va (scope:Scope)(ps caps:List Str):Prop where
 kind:scope.kind=.function
 co:scope.isCoroutine=false
 gen:scope.isGenerator=false
 nocell:∀ x∈scope.names,x.2≠.cell
 par:∀ x∈ps,scope.names.lookup x=some .local
 cap:∀ x∈caps,scope.names.lookup x=some .free
 nd:(ps++caps).Nodup
def il (P:Program)(w:World)(K:Frag)(mg:Str->Option Value)(base:Heap)(N:List Str)(qual:Str)(scope:Scope)(f:Addr)(cd:Value)(cl:List (Str×Addr))(A:Around)(outer:List Env)(s:Shared)(H:Hp):Cx where
 prog:=P
 w:=w
 K:=K
 mg:=mg
 base:=base
 A:=A.deeper (W.envX qual scope s.heap.objs.size f cd cl)
 N:=N
 s₀:=s
 H₀:=H
 env:=W.envX qual scope s.heap.objs.size f cd cl
 outer:=outer
 stack:=W.envX qual scope s.heap.objs.size f cd cl::outer
 ex:=[]
 calm:=true
 fn:=λ_=>false
 pn:=[]
 xe:=λ_ _=>False
def mf (c:Addr)(q:Str):Heap->Prop:=λh=>h.CodeRec (.ref c) q
def ip (H:Hp)(c:Addr)(q:Str):Prop:=H c=some (.ext (mf c q))
def Hz (h1 h2:Heap)(x:mf c q h1)(k:∀ o,h1.get? c=some o->h2.get? c=some o):mf c q h2:=by
 obtain ⟨c',o,vs,t,e,ho,r⟩:=x;cases e
 exact #[c,o,vs,t,rfl,k o ho,r]
def ip.rec {w:World}{h:Heap}{c:Addr}(x:ip H c q)(ok:HOk P w H h):h.CodeRec (.ref c) q:=(ok c _ x).1
def BK {x:Str}{u:Value}:∀{ps:List Str} {us:List Value} {i:Nat},ps.Nodup->ps[i]?=some x->us[i]?=some u->(ps.zip us).reverse.lookup x=some u
 | [],_,_,_,e,_=>by simp at e
 | _::_,[],_,_,_,e=>by simp at e
 | p::ps,v::us,0,hn,e1,e2=>by
  have e1:p=x:=by simpa using e1
  have e2:v=u:=by simpa using e2
  subst e1 e2;rw[tX,nS,List.lookup_append];have z:(ps.zip us).reverse.lookup p=none:=by
   rw[List.lookup_eq_none_iff];intro y hy;have:=lD (gT.mp hy);simp only[tU,ne_eq,bne_iff_ne];intro q;rw[c6]at hn
   first
    | exact hn.1 (q ▸ this.1)
    | (rw[q]at hn;exact hn.1 this.1)
  rw[z];simp
 | p::ps,v::us,i+1,hn,e1,e2=>by
  rw[c6]at hn;have ih:=BK (ps:=ps) (us:=us) (i:=i) hn.2 (by simpa using e1) (by simpa using e2);rw[tX,nS,List.lookup_append,ih];rfl
inductive jg (n:Nat)(tb:TE)(vcs:List V)(c:Addr)(q:Str)(vs:List V)(H:Hp)(Q:VK)(w_1:XK):Prop
 | c:vs.length=n->ip H c q->tb (vs.map some++vcs.map some) H Q->jg n tb vcs c q vs H Q w_1
def BL {K:Frag}{base:Heap}{k:Nat}{f c:Addr}{name qual:Str}{params:Arguments}{body:Expr}{cl:List (Str×Addr)}{pm ctv:Value}{vcs:List V}
  (S:va scope ps caps) (hf:base.get? f=some (W.kla_obj name qual params body scope cl pm c ctv)) (hlen:vcs.length=caps.length)
  (hcap:∀(j:Nat) (x:Str) (v:V),caps[j]?=some x->vcs[j]?=some v->∃ a u,cl.lookup x=some a/\base.IsCell a (some u)/\RelV v u)
  (hcell:∀ x a,cl.lookup x=some a->∃ v,base.IsCell a v) (hinj:∀ x y a,cl.lookup x=some a->cl.lookup y=some a->x=y) (hhas:∀ x,scope.names.lookup x=some .free->∃ a,cl.lookup x=some a)
  (hb:∀(A:Around) (outer:List Env) (s:Shared) (H:Hp),Room k (A.deeper (W.envX qual scope s.heap.objs.size f (.ref c) cl))->PE (il P w K mg base (ps++caps) qual scope f (.ref c) cl A outer s H) body tb) :
  FnOk P w K mg base CX0 (k+1) f (W.kla_fn name qual params body scope cl pm (.ref c) ctv) ps (jg ps.length tb vcs c qual):=by
 refine #[λvs H Q E h=>h.1,λA outer s H args us vs Q E hr e0 hbind r hsp=>?_];obtain ⟨hl,hc,hq⟩:=hsp;have bk:∀ b o,base.get? b=some o->s.heap.get? b=some o:=λb o e=>(e0.bs b o e).1;have hul:us.length=ps.length:=by rw[<-r.length];exact hl
 refine W.kla_callFunE hr.depth (bk _ _ hf) rfl S.co S.gen rfl (hc.rec e0.hok) ?_;refine hbind _ _ _ _ ?_;refine wpAny_newFunctionEnv S.nocell (λy hy=>S.par _ (lD hy).1) (λh1 hns hsb=>#[(e0.mod.nolimit.keeps bk).fresh _ hsb,?_]) S.kind;show codeAny _ _ (.expr body (W.envX qual scope s.heap.objs.size f (.ref c) cl)) _ _;have hk:∀ b o,s.heap.get? b=some o->h1.get? b=some o:=λb o e=>hsb.extBut b o (bX (aZ e)) (bD _ e);have cellK:∀ a v,base.IsCell a v->h1.IsCell a v/\H a=none:=λa v ⟨o,ho,hd⟩=>#[#[o,hk _ _ (bk _ _ ho),hd],(e0.bs _ _ ho).2];have ndps:ps.Nodup:=(fK.mp S.nd).1;have noA:∀ b:Addr,b∉([]:List Addr):=λb z=>absurd z (by simp);have I:Inv (il P w K mg base (ps++caps) qual scope f (.ref c) cl A outer s H) [] (vs.map some++vcs.map some) H { s with heap:=h1,toks:=s.toks+(ps.zip us).length }:=by
  refine #[#[e0.mod,S.kind,rfl,rfl,av _,hinj,λy hy=>?_,λy a z _=>(by cases z),λ_=>hr.hd,Around.frames_deeper e0.frames,.inr #[rfl,rfl],λb z=>absurd z (noA b),e0.bs,e0.bsz,λb _ _=>noA b,λb z=>absurd z (noA b),e0.funs,e0.frf],
   rfl,e0.bare,Un.kept hk,#[_,hns,λi y v h1' h2 h3=>?_],λy a h=>?_,e0.hok.fresh (av _),λy a h=>?_,λp hp=>absurd (show p∈([]:List (Addr×Obj)) from hp) (by simp),e0.hok.kept hk,?_]
  .have hy:scope.names.lookup y=some .cell\/scope.names.lookup y=some .free:=hy;rcases hy with hy|hy
   .exact absurd rfl (S.nocell _ (PySem.mem_of_lookup hy))
   .exact hhas y hy
  .have h1':(ps++caps)[i]?=some y:=h1';by_cases hi:i<ps.length
   .rw[iT hi]at h1';rw[iT (by rw[af];lia),aQ]at h2;cases e:vs[i]? with
    | none=>rw[e]at h2;cases h2
    | some v'=>
     rw[e]at h2;cases h2
     obtain ⟨u,hu,ru⟩:=r.get e;exact #[u,ru,.inl #[S.par y (cW h1'),BK ndps h1' hu]]
   .rw[gi (by lia)]at h1';rw[gi (by rw[af];lia),af,aQ]at h2;cases e:vcs[i-vs.length]? with
    | none=>rw[e]at h2;cases h2
    | some v'=>
     rw[e]at h2;cases h2
     rw[hl]at e;obtain ⟨a,u,e1,e2,ru⟩:=hcap _ _ _ h1' e;exact #[u,ru,.inr #[.inr (S.cap y (cW h1')),a,e1,(cellK _ _ e2).1]]
  .obtain ⟨v,z⟩:=hcell y a h;exact #[v,(cellK _ _ z).1]
  .obtain ⟨v,z⟩:=hcell y a h;exact (cellK _ _ z).2
  .show (vs.map some++vcs.map some).length=(ps++caps).length;rw[bB,bB,af,af,hl,hlen]
 refine W.kla_codeExpr (dX (hb A outer s H (hr.deeper _) [] _ _ H Q I hq) (λu s' hu=>?_) λ_ _ z=>(show False from z).elim);obtain ⟨v,H',J,rv,q⟩:=hu;exact #[v,H',J.os,J.bare,J.base,J.hok,rv,q]
def Gro (Pt:Addr)(H H':Hp):Prop:=∀ b o,b≠Pt->H b=some o->H' b=some o
def Gro.refl (Pt:Addr)(H:Hp):Gro Pt H H:=λ_ _ _ h=>h
def Gro.trans (a:Gro Pt H H1)(b:Gro Pt H1 H2):Gro Pt H H2:=λc o n h=>b c o n (a c o n h)
structure bp (H:Hp)(Pt:Addr)(pos:Pos)(q:Str):Prop where
 ex:∃ tab:Array Value,H Pt=some (.tbl tab)/\TriplesOk tab.toList/\(codeAmong pos tab.toList=none\/∃ c,codeAmong pos tab.toList=some (.ref c)/\ip H c q)
def bp.ext (x:bp H Pt pos q)(e:Ext H H'):bp H' Pt pos q:=by
 obtain ⟨tab,h1,h2,h3⟩:=x.ex;refine #[tab,e _ _ h1 nofun,h2,?_];rcases h3 with h3|⟨c,h3,h4⟩
 .exact .inl h3
 .exact .inr #[c,h3,e _ _ h4 nofun]
def bp.gro (x:bp H Pt pos q)(e:Gro P2 H H')(hne:Pt≠P2)(h2:∃ tab,H P2=some (.tbl tab)):bp H' Pt pos q:=by
 obtain ⟨tab,h1,h3,h4⟩:=x.ex;refine #[tab,e _ _ hne h1,h3,?_];rcases h4 with h4|⟨c,h4,h5⟩
 .exact .inl h4
 .refine .inr #[c,h4,e _ _ (λz=>?_) h5];obtain ⟨tab2,y⟩:=h2;rw[<-z,show H c=_ from h5]at y;cases y
def BMAt (mg:Str->Option Value)(base:Heap):Prop:=∃ bm o,mg "__builtins__" = some (.ref bm)/\bm≠builtinsNs/\bm≠mainGlobals/\base.get? bm=some o/\o.cls=.type "module"/\o.dict=some builtinsNs/\o.data=.plain
section
variable {X:Cx}{OG:List (Addr×Obj)}{U:St}{H:Hp}{s:Shared}{params:Arguments}{body:Expr}{scope:Scope}{lpos:Pos}{c Pt:Addr}{Q:Value->Shared->Prop}
def HD {c':Addr}{q:Str}{tab more:Array Value}{h':Heap}{tk:Nat}(I:Inv X OG U H s)(hP:H Pt=some (.tbl tab))(hx:∀ b o,b≠Pt->s.heap.get? b=some o->h'.get? b=some o)(hge:s.heap.objs.size<=c')
  (hrec:h'.CodeRec (.ref c') q) (htb:h'.get? Pt=some (W.tabObj (tab++more))):Inv X OG U (upd (upd H Pt (.tbl (tab++more))) c' (.ext (mf c' q))) { s with heap:=h',toks:=tk }:=by
 have hfr:H c'=none:=I.hok.fresh hge;have nPc:Pt≠c':=aq hP hfr;have low:∀ b u,H b=some u->b≠c':=λb u e=>aq e hfr;have lows:∀ b o,s.heap.get? b=some o->b≠c':=λb o e=>bX (cH (aZ e) hge);have nP:∀ b,H b=none->b≠Pt:=λb n z=>by rw[z,hP]at n;cases n
 refine I.un (t':=tk) #[λb o e n _ _=>hx b o (nP b n) e,λb o e n _ _=>#[o.slots,hx b o (nP b n) e],λb o e n _=>?_,λb o e _=>?_,λb xs e=>?_,λb o u e=>?_,λb ps e=>?_] λa o e=>?_
 .rw[ak (lows b o e),ak (nP b n)];exact n
 .by_cases z:b=Pt
  .exact #[_,by rw[z];exact htb]
  .exact #[o,hx b o z e]
 .rw[ak (low b _ e),ak (λz=>by rw[z,hP]at e;cases e)]
  exact e
 .rw[ak (low b _ e),ak (λz=>by rw[z,hP]at e;cases e)]
  exact e
 .by_cases z:b=Pt
  .rw[z,hP]at e;cases e
   exact #[more,by rw[z,ak nPc,ah]]
  .exact #[(List.toArray []),by rw[ak (low b _ e),ak z,e];simp]
 .by_cases z:a=c'
  .subst z;rw[ah]at e;cases e
   obtain ⟨c2,o2,vs,t,e2,ho2,r2⟩:=id hrec;cases e2
   exact #[hrec,#[o2,ho2],λh1 h2 x k=>Hz h1 h2 x k]
  .rw[ak z]at e;by_cases y:a=Pt
   .subst y;rw[ah]at e;cases e
    exact htb
   .rw[ak y]at e;refine (I.hok a o e).stay (λb u hb q=>hx b u ?_ q) (λb q=>?_) λb xs q=>?_
    .rcases hb with rfl|hb
     .exact y
     .intro z2;rw[z2,hP]at hb;cases hb
    .rw[ak (low b _ q),ak (λz2=>by rw[z2,hP]at q;cases q)]
     exact q
    .rw[ak (low b _ q),ak (λz2=>by rw[z2,hP]at q;cases q)]
     exact q
def BM (I:Inv X OG U H s)(hdef:defaultsOf params X.env=([],[]))(hfr:∀ x,(x,NameKind.free)∈scope.names->(X.env.kindOf x=some .cell\/X.env.kindOf x=some .free))(hcode:X.env.code=.ref c)(hC:codeHdIn X.K c Pt=true)(hBM:BMAt X.mg X.base)
  (hT:bp H Pt lpos (X.env.qual ++ "<lambda>"))
  (h:∀(f c':Addr) (cl:List (Str×Addr)) (pm ctv:Value) (H':Hp) (s':Shared),jY scope X.env cl->Inv X OG U H' s'->s'.heap.get? f=some (W.kla_obj "<lambda>" (X.env.qual ++ "<lambda>") params body scope cl pm c' ctv)->H' f=none->s.heap.objs.size<=f->
   Gro Pt H H'->bp H' Pt lpos (X.env.qual ++ "<lambda>")->ip H' c' (X.env.qual ++ "<lambda>")->Q (.ref f) s') :
  wpAny (model X.prog X.w) X.A (eval (.Lambda params body scope lpos) X.env) Q X.xe s:=by
 obtain ⟨cl,hcl⟩:=uQ (scope:=scope) (env:=X.env) λx hx=>I.ok.has x (hfr x hx);obtain ⟨tab,hP,ht,hor⟩:=hT.ex;have hPo:s.heap.get? Pt=some (W.tabObj tab):=I.hok Pt _ hP;have C:W.CodeHd s.heap c Pt:=(W.codeHd_of_K I.ok.mod.kin hC).keeps I.bk;have hgl:=I.mod.glob.keeps I.bk;have hgP:mainGlobals≠Pt:=λz=>by
  obtain ⟨o,es,ep,e,_⟩:=I.mod.glob;have:=(I.bs _ _ e).2;rw[z,hP]at this;cases this
 have hb:s.heap.BuiltinsAt X.mg Pt:=by
  obtain ⟨bm,o,b1,b2,b3,b4,b5⟩:=hBM;refine #[bm,o,b1,b2,b3,λz=>?_,I.bk _ _ b4,b5];have:=(I.bs _ _ b4).2;rw[z,hP]at this;cases this
 refine W.kla_eval hdef ?_;rcases hor with hnone|⟨c',hsome,hca⟩
 .refine W.kla_makeFunction (clos:=cl) hcl.eq I.ok.glob hgl hcode C hPo ht hnone hgP hb λc' ctv h' tk hx hge hlt hrec htb=>?_;have hx':∀ o2 b o,b≠Pt->s.heap.get? b=some o->(h'.push o2).get? b=some o:=λo2 b o n e=>bD _ (hx b o n e);have I':=HD (c':=c') (q:=X.env.qual ++ "<lambda>") (tk:=tk) I hP (hx' _) hge (hrec.push (W.kla_obj "<lambda>" (X.env.qual ++ "<lambda>") params body scope cl ((X.mg "__name__").getD .none) c' ctv)) (bD _ htb);have hsz:s.heap.objs.size<=h'.objs.size:=eP (fb hge hlt);have nPc:Pt≠c':=aq hP (I.hok.fresh hge);have eT:(tab++(List.toArray [rawInt lpos.line,rawInt lpos.col,.ref c'])).toList=tab.toList++[rawInt lpos.line,rawInt lpos.col,.ref c']:=by simp
  have hTI:bp (upd (upd H Pt (.tbl (tab++(List.toArray [rawInt lpos.line,rawInt lpos.col,.ref c'])))) c' (.ext (mf c' (X.env.qual ++ "<lambda>")))) Pt lpos (X.env.qual ++ "<lambda>"):=
   #[_,by rw[ak nPc,ah],by rw[eT];exact TriplesOk_snoc _ _ _ _ ht,.inr #[c',by rw[eT];exact codeAmong_snoc _ ht hnone,ah]]
  refine h h'.objs.size c' cl _ ctv _ _ hcl I' (cV _ rfl) ?_ hsz ?_ hTI ah
  .rw[ak (jB hlt),ak (λz=>?_)]
   .exact I.hok.fresh hsz
   .have:=aZ hPo;rw[<-z]at this;exact absurd this (Nat.not_lt.mpr hsz)
  .intro b o n e;rw[ak (aq e (I.hok.fresh hge)),ak n];exact e
 .refine W.kla_makeFunctionHit (clos:=cl) hcl.eq I.ok.glob hgl hcode C hPo ht hsome hb λctv h' tk hk hsz=>?_;exact h h'.objs.size c' cl _ ctv H _ hcl (I.kept (t':=tk) λb o e=>bD _ (hk b o e)) (cV _ rfl) (I.hok.fresh hsz) hsz (Gro.refl _ _) hT hca
end
def dU (X:Cx)(s:Shared)(H:Hp):Heap:=W.hideAll s.heap (trk s.heap H++frs X.stack)
def vb {h b1 b2:Heap}:∀{l:List Env},h.FunFrames b1 l->(∀ b∈frs l,b2.get? b=none)->h.FunFrames b2 l
 | [],_,_=>trivial
 | env::l,⟨h1,⟨L,o,h2,h3,h4,h5⟩,h6⟩,k=>by
  have m:∀ b∈frs l,b∈frs (env::l):=λb hb=>by
   unfold frs;rw[lC,h2];exact cp _ hb
  refine #[h1,#[L,o,h2,k L ?_,h4,h5],vb h6 λb hb=>k b (m b hb)];unfold frs;rw[lC,h2];exact bL
section
variable {X:Cx}{OG:List (Addr×Obj)}{U:St}{H:Hp}{s:Shared}
def mh {b:Addr}{o:Obj}(e:s.heap.get? b=some o)(n:H b=none)(hf:b∉frs X.stack):(dU X s H).get? b=some o:=
 W.hideAll_get _ e λhm=>by
  rcases bO.mp hm with z|z
  .have q:(H b).isSome=true:=(dh.mp z).2;rw[n]at q;cases q
  .exact hf z
def BN {b:Addr}{o:Obj}(e:(dU X s H).get? b=some o):s.heap.get? b=some o/\H b=none/\b∉frs X.stack:=by
 have e1:=W.of_hideAll _ e;have hm:b∉trk s.heap H++frs X.stack:=λz=>by
  unfold dU at e;rw[W.hideAll_none _ z]at e;cases e
 rw[bO,not_or]at hm;refine #[e1,?_,hm.2];cases q:H b with
 | none=>rfl
 | some u=>exact absurd (dh.mpr #[cC.mpr (aZ e1),by rw[q];rfl]) hm.1
def BO (I:Inv X OG U H s):∀ b o,X.base.get? b=some o->(dU X s H).get? b=some o:=λb o e=>by
 obtain ⟨h1,h2⟩:=I.bs b o e;refine mh h1 h2 λz=>?_;have:=(I.stack.mem z).1;rw[e]at this;cases this
def BP (I:Inv X OG U H s):Env0 X.prog X.w X.K X.mg (dU X s H) X.A X.stack s H:=by
 have sub:=BO I;refine #[I.ok.frames,#[I.mod.kin.keeps sub,I.mod.glob.keeps sub,?_,I.mod.nolimit.keeps sub],λb o e=>#[(BN e).1,(BN e).2.1],Nat.le_of_eq (W.hideAll_size _ _),vb I.stack λb hb=>W.hideAll_none _ (dQ _ hb),I.stkFree,I.hok,I.bare];obtain ⟨mb,h1,h2⟩:=I.mod.blt;exact #[mb,h1.keeps sub,h2]
end
structure FV (P:Program)(w:World)(K:Frag)(mg:Str->Option Value)(base:Heap)(k:Nat)(f:Addr)(ps:List Str)(sp:Sp):Prop where
 ex:∃ fd,FnOk P w K mg base CX0 k f fd ps sp/\gD K fd ps []/\W.FnAt f base
section
variable {X:Cx}
def HF (X:Cx)(kr:Nat)(tf:TE)(t:TA):TE:=λU H Q=>tf U H λx H1=>∃ f k ps sp,x=.ref f/\FV X.prog X.w X.K X.mg X.base k f ps sp/\k<=kr/\t U H1 λvs H2=>sp vs H2 Q E0
def vc {x:Str}{e:Expr}{es:List Expr}{t:TA}{p pos:Pos}(hr:Room kr X.A)(hf:PE X (.Name x p) tf)(ha:PA X (e::es) t)
  (he:starEach (e::es) X.env=(false,eval e X.env)::starEach es X.env:=by rfl) (hpl:(backTo pos (starEach es X.env)).any (·.1)=false:=by rfl):PE X (.Call (.Name x p) (e::es) [] pos) (HF X kr tf t):=by
 intro OG s U H Q I h;refine wpAny_Call_Name_kw (thn (hf OG s U H _ I h) λu s1 zq0=>?_);obtain ⟨x1,H1,I1,r1,q1⟩:=zq0;obtain ⟨f,k,ps,sp,rfl,hF,hk,q⟩:=q1;cases r1
 obtain ⟨fd,ok,bd,oc,od,fd2,sl,ho⟩:=hF.ex;refine W.callWith_F #[oc,od,fd2,sl,I1.bk _ _ ho] (thn (ha pos OG s1 U H1 _ I1 q) λus s2 zq0=>?_) he hpl;obtain ⟨vs,H2,I2,r,q2⟩:=zq0;refine #[#[oc,od,fd2,sl,I2.bk _ _ ho],?_];exact Ac ok (hr.mono hk) bd .nil AO I2 r (by rw[di];exact q2)
structure jh (X:Cx)(params:Arguments)(body:Expr)(scope:Scope)(ps caps:List Str)(cap:List Nat):Prop where
 sc:va scope ps caps
 frees:∀ x,(x,NameKind.free)∈scope.names->(X.env.kindOf x=some .cell\/X.env.kindOf x=some .free)
 capAt:∀(j:Nat) (x:Str),caps[j]?=some x->∃ i:Nat,cap[j]?=some i/\X.N[i]?=some x/\(X.env.kindOf x=some .cell\/X.env.kindOf x=some .free)
 dflt:defaultsOf params X.env=([],[])
 binds:∀(cl:List (Str×Addr)) (pm cdv ct:Value) (us:List Value),us.length=ps.length->bindArgs (W.kla_fn "<lambda>" (X.env.qual ++ "<lambda>") params body scope cl pm cdv ct) #[us,[]]=pure (ps.zip us)
 own:∀ x,X.fn x=true
def HG {f c':Addr}{pm ctv:Value}{vcs:List V}{k n:Nat}(I:Inv X OG U H s)(L:jh X params body scope ps caps cap)(hcl:jY scope X.env cl)
  (ho:s.heap.get? f=some (W.kla_obj "<lambda>" (X.env.qual ++ "<lambda>") params body scope cl pm c' ctv)) (hn:H f=none) (hfr:∀ b∈frs X.stack,b<n) (hge:n<=f)
  (hv:vcs.length=caps.length) (hvs:∀(j i:Nat) (v:V),cap[j]?=some i->vcs[j]?=some v->U[i]?=some (some v))
  (hb:∀(base:Heap) (f:Addr) (cd:Value) (cl:List (Str×Addr)) (A:Around) (outer:List Env) (s:Shared) (H:Hp),Room k (A.deeper (W.envX (X.env.qual ++ "<lambda>") scope s.heap.objs.size f cd cl))->PE (il X.prog X.w X.K X.mg base (ps++caps) (X.env.qual ++ "<lambda>") scope f cd cl A outer s H) body tb) :
  FV X.prog X.w X.K X.mg (dU X s H) (k+1) f ps (jg ps.length tb vcs c' (X.env.qual ++ "<lambda>")):=by
 have nf:f∉frs X.stack:=λz=>absurd (cH (hfr f z) hge) (dP _);have hbf:=mh (X:=X) ho hn nf;have cellB:∀ x a v,X.env.cells.lookup x=some a->s.heap.IsCell a v->(dU X s H).IsCell a v:=λx a v e ⟨o,h1,h2⟩=>by
  refine #[o,mh h1 (I.freeC x a e) λz=>?_,h2];rcases bq.mp (I.stkSub a z) with y|y
  .exact I.cne x a e y
  .obtain ⟨_,o2,h3,_⟩:=I.ok.funs.mem y;exact absurd (cH (aZ h3) (I.ok.cab x a (L.own x) e)) (dP _)
 refine #[_,BL L.sc hbf hv (λj x v h1 h2=>?_) (λx a e=>?_) (λx y a h1 h2=>I.ok.inj x y a (hcl.sub x a h1) (hcl.sub y a h2)) (λx e=>?_) (λA outer s H hr=>hb _ f _ cl A outer s H hr),.all (L.binds cl pm (.ref c') ctv),#[_,_,_,_,hbf]]
 ·obtain ⟨i,e1,e2,e3⟩:=L.capAt j x h1;obtain ⟨m,hm,hl⟩:=I.loc;obtain ⟨u,ru,lk⟩:=hl i x v e2 (hvs j i v e1 h2) (by
   rcases e3 with z|z
   .exact .inr (.inl z)
   .exact .inr (.inr z))
  rcases lk with ⟨z,_⟩|⟨_,a,e4,e5⟩
  .rcases e3 with y|y
   .rw[y]at z;cases z
   .rw[y]at z;cases z
  .obtain ⟨a',e6⟩:=hcl.has x (PySem.mem_of_lookup (L.sc.cap x (cW h1)));have e7:=hcl.sub x a' e6;rw[e4]at e7;cases e7
   exact #[a,u,e6,cellB x a _ e4 e5,ru]
 .obtain ⟨v,z⟩:=I.cell x a (hcl.sub x a e);exact #[v,cellB x a v (hcl.sub x a e) z]
 .exact hcl.has x (PySem.mem_of_lookup e)
def HI (X:Cx)(n kf:Nat)(ps:List Str)(cap:List Nat)(Pt:Addr)(lpos:Pos)(tb te:TE)(spH:Heap->Sp):TE:=λU H Q=>te U H λx1 H1=>bp H1 Pt lpos (X.env.qual ++ "<lambda>")/\∃ vcs:List V,vcs.length=n/\(∀(j i:Nat) (v:V),cap[j]?=some i->vcs[j]?=some v->U[i]?=some (some v))/\
 ∀(base:Heap) (f c':Addr) (H2:Hp),Gro Pt H1 H2->bp H2 Pt lpos (X.env.qual ++ "<lambda>")->ip H2 c' (X.env.qual ++ "<lambda>")->FV X.prog X.w X.K X.mg base kf f ps (jg ps.length tb vcs c' (X.env.qual ++ "<lambda>"))->spH base [x1,.ref f] H2 Q E0
def BQ {q1 q2:Str}{lpos p pos:Pos}{spH:Heap->Sp}{k:Nat}{c Pt:Addr}
  (F:∀ base,FC X.prog X.w X.K X.mg base j x [q1,q2] (spH base)) (hr:Room k X.A) (h1:PE X e1 te) (L:jh X params body scope ps caps cap) (hcode:X.env.code=.ref c) (hC:codeHdIn X.K c Pt=true) (hBM:BMAt X.mg X.base)
  (hb:∀(base:Heap) (f:Addr) (cd:Value) (cl:List (Str×Addr)) (A:Around) (outer:List Env) (s:Shared) (H:Hp),Room kf (A.deeper (W.envX (X.env.qual ++ "<lambda>") scope s.heap.objs.size f cd cl))->PE (il X.prog X.w X.K X.mg base (ps++caps) (X.env.qual ++ "<lambda>") scope f cd cl A outer s H) body tb)
  (hjk:j<=k:=by decide) (hg:Gl X x:=by rfl) (hdb:(x==("__debug__" : Str))=false:=by decide) (he:starEach [e1,.Lambda params body scope lpos] X.env=(false,eval e1 X.env)::starEach [.Lambda params body scope lpos] X.env:=by rfl)
  (he2:starEach [.Lambda params body scope lpos] X.env=[(false,eval (.Lambda params body scope lpos) X.env)]:=by rfl) (hpl:(backTo pos (starEach [.Lambda params body scope lpos] X.env)).any (·.1)=false:=by rfl) :
  PE X (.Call (.Name x p) [e1,.Lambda params body scope lpos] [] pos) (HI X caps.length (kf+1) ps cap Pt lpos tb te spH):=by
 intro OG s U H Q I h;obtain ⟨g,fd,_,_,kp,m,oc,od,osl,lk⟩:=(F X.base).ex;refine wpAny_Call_Name_kw (lP I hg m ?_ hdb);refine W.callWith_K (h₀:=X.base) I.ok.mod.kin kp ?_ he hpl;rw[he];show wpAny _ _ (spliced ((false,eval e1 X.env)::backTo pos (starEach [.Lambda params body scope lpos] X.env))) _ _ s;refine Calls.spliced_cons (thn (h1 OG s U H _ I h) λu s1 zq0=>?_);obtain ⟨x1,H1,I1,r1,q1⟩:=zq0;obtain ⟨hT,vcs,hv,hvs,q⟩:=q1;rw[he2];show wpAny _ _ (spliced ((false,eval (.Lambda params body scope lpos) X.env)::[])) _ _ s1;refine Calls.spliced_cons (BM I1 L.dflt L.frees hcode hC hBM hT λf c' cl pm ctv H2 s2 hcl I2 ho hn hge hgr hT2 hca=>?_);refine Calls.spliced_nil #[I2.kIn,?_];have hF:=HG (k:=kf) (n:=s1.heap.objs.size) I2 L hcl ho hn (λb hb=>by
  obtain ⟨_,o,e,_⟩:=I1.stack.mem hb;exact aZ e) hge hv hvs hb
 have hsp:=q (dU X s2 H2) f c' H2 hgr hT2 hca hF;obtain ⟨g2,fd2,ok,bd,_,m2,_⟩:=(F (dU X s2 H2)).ex;rw[m]at m2;cases m2
 have r2:Vals [x1,.ref f] [u,.ref f]:=.cons r1 (.cons rfl .nil);refine wpAny_call (codeAny_mono (ok.run X.A X.stack s2 H2 #[[u,.ref f],[]] [u,.ref f] [x1,.ref f] Q E0 (hr.mono hjk) (BP I2) (bd s2 [u,.ref f] I2.kIn rfl) r2 hsp) λr s' hq=>?_);cases r with
 | error e=>exact False.elim hq
 | ok fl=>
  cases fl with
  | ret u=>exact I2.after hq
  | next=>exact False.elim hq
  | brk=>exact False.elim hq
  | cont=>exact False.elim hq
end
def HJ {K:Frag}{mg mb:Str->Option Value}{k:Nat}{a:Addr}{x:Str}{s₁:Shared}{vs:List Value}{ns:List Int}{tabs:List (Addr×Addr)}
  (KX:K.In s₁.heap) (hns:s₁.heap.Ns mainGlobals mg) (hb:s₁.heap.Ns builtinsNs mb) (hbb:∀ x:Str,x ≠ "__name__"->mb x=bootBuiltins x) (hlim:s₁.heap.NoLimit) (hg:s₁.gens=(List.toArray [])) (hBM:BMAt mg s₁.heap)
  (hT:W.TabsAt tabs s₁.heap) (hKT:∀ q∈tabs,K.lookup q.2=none)
  (ha:s₁.heap.get? a=some { cls:=.type "list",data:=.seq vs.toArray }) (hi:IntsAre vs ns) (hl:ns.length<=sizeLine) (hr:Room k callerA)
  (F:∀ base:Heap,K.In base->base.Ns mainGlobals mg->BMAt mg base->FnOk P w K mg base CX k fa fd [x] sp) (hbind:∀(s:Shared) (u:Value),BindsTo s fd #[[u],[]] [(x,u)])
  (hsp:∀ H:Hp,(∀ q∈tabs,H q.2=some (.tbl (List.toArray [])))->SqL K H a (ns.map V.int)->sp [.ref a] H (λv _=>v=.bl true) λ_ _ _=>False)
  (hCX:∀ H e s',CX [] H s₁ (λ_ _ _=>False) e s'->False) :
  codeAny (model P w) callerA (.call (.ref fa) #[[.ref a],[]]) (λr s'=>r=.ok (.ret (.bool true))/\OldK s₁.heap s'.heap/\s'.os=s₁.os/\AllBare s'.gens) s₁:=by
 have rv:=AN hi;have lenV:=hi.length;have tabO:∀ b,b∈tabs.map (·.2)->s₁.heap.get? b=some (W.tabObj (List.toArray []))/\isCodeTable s₁.heap b/\K.lookup b=none:=λb hm=>by
  obtain ⟨q,hq,rfl⟩:=bI.mp hm;exact #[(hT q hq).2,((hT q hq).1.tab (hT q hq).2).isCodeTable,hKT q hq]
 have nat:a∉tabs.map (·.2):=λz=>by
  have:=(tabO a z).1;rw[ha]at this;cases this
 have core:∀ Hs:Hp,(∀ b,Hs b=none\/(b=a/\Hs b=some (.frz { cls:=.type "list",data:=.seq vs.toArray } (.lst (ns.map V.int)))))->(∀ H:Hp,(∀ b,b∉tabs.map (·.2)->H b=Hs b)->SqL K H a (ns.map V.int))->(Hs a≠none->K.lookup a=none)->
   codeAny (model P w) callerA (.call (.ref fa) #[[.ref a],[]]) (λr s'=>r=.ok (.ret (.bool true))/\OldK s₁.heap s'.heap/\s'.os=s₁.os/\AllBare s'.gens) s₁:=by
  intro Hs hO hS hK;obtain ⟨H,hH⟩:∃ H:Hp,H=λb=>if b∈tabs.map (·.2) then some (.tbl (List.toArray [])) else Hs b:=#[_,rfl]
  have H1:∀ b,b∈tabs.map (·.2)->H b=some (.tbl (List.toArray [])):=λb z=>by rw[hH];exact ar z
  have H2:∀ b,b∉tabs.map (·.2)->H b=Hs b:=λb z=>by rw[hH];exact az z
  have cases3:∀ b,H b=none\/(b=a/\H b=some (.frz { cls:=.type "list",data:=.seq vs.toArray } (.lst (ns.map V.int))))\/(b∈tabs.map (·.2)/\H b=some (.tbl (List.toArray []))):=λb=>by
   by_cases z:b∈tabs.map (·.2)
   .exact .inr (.inr #[z,H1 b z])
   .rcases hO b with y|⟨y1,y2⟩
    .exact .inl ((H2 b z).trans y)
    .exact .inr (.inl #[y1,(H2 b z).trans y2])
  have hok:HOk P w H s₁.heap:=λb u e=>by
   rcases cases3 b with y|⟨y1,y2⟩|⟨y1,y2⟩
   .rw[y]at e;cases e
   .rw[y2]at e;cases e
    subst y1;exact #[ha,by rw[af];exact hl,vs,_,rv,ha]
   .rw[y2]at e;cases e
    exact (tabO b y1).1
  have base_of:∀{b:Addr} {o:Obj},s₁.heap.get? b=some o->H b=none->(hidT s₁.heap H).get? b=some o:=λe n=>EW e n;have noD:∀{b:Addr} {o:Obj},s₁.heap.get? b=some o->(∀ xs n,o.data≠.seq xs n)->(∀ xs,o.data≠.fields xs)->H b=none:=λ{b o} e d1 d2=>by
   rcases cases3 b with y|⟨y1,y2⟩|⟨y1,y2⟩
   .exact y
   .subst y1;rw[ha]at e;cases e
    exact absurd rfl (d1 _ _)
   .rw[(tabO b y1).1]at e;cases e
    exact absurd rfl (d2 _)
  have nsK:∀{b:Addr} {m:Str->Option Value},s₁.heap.Ns b m->(hidT s₁.heap H).Ns b m:=λ{b m} ⟨o,es,ep,e,d,r⟩=>#[o,es,ep,base_of e (noD e (λ_ _ z=>by rw[d]at z;cases z) (λ_ z=>by rw[d]at z;cases z)),d,r]
  have hKb:K.In (hidT s₁.heap H):=λb o e=>base_of (KX b o e) (by
   rcases cases3 b with y|⟨y1,y2⟩|⟨y1,y2⟩
   .exact y
   .subst y1;rw[hK (by rw[<-H2 b nat,y2];exact λz=>nomatch z)]at e;cases e
   .rw[(tabO b y1).2.2]at e;cases e)
  have hM:Mod K mg (hidT s₁.heap H):=#[hKb,nsK hns,#[mb,nsK hb,hbb],let ⟨mc,h1,h2⟩:=hlim;#[mc,nsK h1,h2]];have hBMb:BMAt mg (hidT s₁.heap H):=by
   obtain ⟨bm,o,b1,b2,b3,b4,b5,b6,b7⟩:=hBM;exact #[bm,o,b1,b2,b3,base_of b4 (noD b4 (λ_ _ z=>by rw[b7]at z;cases z) (λ_ z=>by rw[b7]at z;cases z)),b5,b6,b7]
  have e0:Env0 P w K mg (hidT s₁.heap H) callerA [] s₁ H:=#[rfl,hM,λb o e=>EX e,Nat.le_of_eq (EV _ _),trivial,λb hb=>absurd (show b∈([]:List Addr) from hb) (by simp),hok,.of_eq hg];refine codeAny_mono ((F _ hKb (nsK hns) hBMb).run callerA [] s₁ H #[[.ref a],[]] [.ref a] [.ref a] _ _ hr e0 (hbind s₁ (.ref a)) (.cons rfl .nil) (hsp H (λq hq=>H1 _ (List.mem_map_of_mem hq)) (hS H H2))) λr s' h=>?_;cases r with
  | error e=>exact (hCX H e s' h).elim
  | ok fl=>
   cases fl with
   | next=>exact False.elim h
   | brk=>exact False.elim h
   | cont=>exact False.elim h
   | ret u=>
    obtain ⟨v,H',os,bare,un,hok',r',q⟩:=h;have q':v=.bl true:=q;subst q';obtain rfl:u=Value.bool true:=r';have keep:∀ b o,H b=none->s₁.heap.get? b=some o->s'.heap.get? b=some o:=λb o n e=>un.keep b o e n (by intro z;exact absurd (show b∈([]:List Addr) from z) (by simp)) (by simp);have frz:∀ b o,b=a->H b=some (.frz { cls:=.type "list",data:=.seq vs.toArray } (.lst (ns.map V.int)))->s₁.heap.get? b=some o->s'.heap.get? b=some o:=λb o y1 y2 e=>by
     obtain ⟨e1,_⟩:=hok b _ y2;obtain ⟨e2,_⟩:=hok' b _ (un.frzs b _ _ y2);rw[e]at e1;cases e1
     exact e2
    have tbl:∀ b,H b=some (.tbl (List.toArray []))->∃ ps,s'.heap.get? b=some (W.tabObj ps):=λb y=>by
     obtain ⟨more,e⟩:=un.tbls b _ y;exact #[_,hok' b _ e]
    refine #[rfl,#[λb o e=>?_,λb o e=>?_],os,bare]
    .rcases cases3 b with y|⟨y1,y2⟩|⟨y1,y2⟩
     .exact .inl (keep b o y e)
     .exact .inl (frz b o y1 y2 e)
     .obtain ⟨ps,hp⟩:=tbl b y2;obtain ⟨t1,t2,_⟩:=tabO b y1;rw[e]at t1;cases t1
      exact .inr (.inl #[t2,rfl,(List.toArray []),ps,rfl,by rw[Array.empty_append];exact hp])
    .rcases cases3 b with y|⟨y1,y2⟩|⟨y1,y2⟩
     .exact #[o,keep b o y e]
     .exact #[o,frz b o y1 y2 e]
     .obtain ⟨ps,hp⟩:=tbl b y2;exact #[_,hp]
 cases hk:K.lookup a with
 | some o=>
  have e:=KX a o hk;rw[ha]at e;cases e
  exact core (λ_=>none) (λ_=>.inl rfl) (λH _=>.inr #[_,vs.toArray,_,hk,rfl,rfl,rfl,by rw[bP,lenV];exact hl,by simpa using rv]) λz=>absurd rfl z
 | none=>
  refine core (λb=>if b=a then some (.frz { cls:=.type "list",data:=.seq vs.toArray } (.lst (ns.map V.int))) else none) (λb=>?_) (λH h=>.inl (.inr #[{ cls:=.type "list",data:=.seq vs.toArray },by rw[h a nat];exact ar rfl])) λ_=>hk
  by_cases z:b=a
  .exact .inr #[z,ar z]
  .exact .inl (az z)
def HK {l:OpenLaw}{n k:Nat}{q:Program}{loose:List Str}{XP:(Str->Option Value)->Heap->Prop}{YP:World->Heap->Prop}{d:DefRec}{K:Params->Frag}{sp:World->Sp}{x:Str}{tabs:List (Addr×Addr)}
  (hn:l.most=some n) (hn2:n<=sizeLine) (hdf:d.params.defaults=[]) (hr:Room k callerA)
  (hY:∀(w:World) (h:Heap),YP w h->(K w.params).In h) (hYT:∀(w:World) (h:Heap),YP w h->∀ q∈tabs,h.get? q.2=some (W.tabObj (List.toArray [])))
  (hC:∀(w:World),∀ q∈tabs,codeHdIn (K w.params) q.1 q.2=true/\(K w.params).lookup q.2=none)
  (F:∀(w:World) (mg:Str->Option Value) (fa:Addr) (h:Heap),(K w.params).In h->h.Ns mainGlobals mg->mg d.name=some (.ref fa)->
   ∃ fd:FuncData,(∀(s:Shared) (u:Value),BindsTo s fd #[[u],[]] [(x,u)])/\
    ∀ base:Heap,(K w.params).In base->base.Ns mainGlobals mg->BMAt mg base->FnOk l.prog w (K w.params) mg base CX0 k fa fd [x] (sp w))
  (hsp:∀(w:World) (H:Hp) (a:Addr) (ns:List Int),ns.length<=n->(∀ q∈tabs,H q.2=some (.tbl (List.toArray [])))->SqL (K w.params) H a (ns.map V.int)->sp w [.ref a] H (λv _=>v=.bl true) λ_ _ _=>False) :
  W.WalkO q loose XP YP l.row.toRowW d [] (λf vs=>PySem.call f vs):=by
 refine Att.attach_call hn hdf λw s₀ s₁ mg mb fa o pm cd doc a vs ns G Y ho hd hcd hmg hobj hints hlen hg=>?_;have KX:=hY w _ Y;obtain ⟨fd,hb,hF⟩:=F w mg fa _ KX G.T.g hmg;have hBM:BMAt mg s₁.heap:=by
  obtain ⟨bm,ob,b1,b2,b3,b4,b5,b6⟩:=G.T.bmain;refine #[bm,ob,b1,b2,λz=>?_,b3,b4,b5,b6];obtain ⟨o,es,ep,e,hd,_⟩:=G.T.g;rw[z,e]at b3;cases b3
  rw[hd]at b6;cases b6
 exact HJ (tabs:=tabs) KX G.T.g G.T.b G.T.builtins G.T.nolimit hg hBM (λq hq=>#[W.codeHd_of_K KX (hC w q hq).1,hYT w _ Y q hq]) (λq hq=>(hC w q hq).2) hobj hints (cD hlen hn2) hr hF hb (λH hO hS=>hsp w H a ns hlen hO hS) λH e s' z=>z
structure DFT (K:Frag)(mg:Str->Option Value)(x:Str)(st:Stmt)(ps:List Str)(c Pt:Addr):Prop where
 ex:∃(f:Addr) (oc:Value) (od:Option Addr) (kV dc pm:Value) (an:Option Addr) (ct:Value) (osl:Array (Option Value)),K.lookup f=some #[oc,od,.func (fnOf x x (fU st) (eK st) (aH st) .none kV dc pm an (.ref c) ct),osl]/\
  codeIn K (.ref c) x=true/\keepIn K (.ref f)=true/\mg x=some (.ref f)/\gD K (fnOf x x (fU st) (eK st) (aH st) .none kV dc pm an (.ref c) ct) ps []
 hd:codeHdIn K c Pt=true
def DFT.ok {w:World}{K:Frag}{mg:Str->Option Value}{base:Heap}{st:Stmt}{N:List Str}{k:Nat}{sp:Sp}{c:Addr}(D:DFT K mg x st ps c Pt)(S:aO N ps (aH st))(len:∀ vs H Q E,sp vs H Q E->vs.length=ps.length)
  (hbody:∀(f:Addr) (A:Around) (outer:List Env) (s:Shared) (H:Hp) (vs:List V) (Q:VK) (E:XK),Room k (A.deeper (envOfC x (aH st) s.heap.objs.size f (.ref c)))->sp vs H Q E->
   ∃ t,PSs (cxOf CX0 P w K mg base N x (aH st) f (.ref c) A outer s H E).nox (eK st) t/\t { nx:=λ_ H'=>Q .non H',rt:=Q } (dv N vs) H):FC P w K mg base (k+1) x ps sp:=by
 obtain ⟨f,oc,od,kV,dc,pm,an,ct,osl,lk,hcd,kp,m,bd⟩:=D.ex;refine #[f,_,Ai lk hcd S len λA outer s H vs Q E hr hsp=>?_,bd,kp,m,oc,od,osl,lk];obtain ⟨t,h,q⟩:=hbody f A outer s H vs Q E hr hsp;exact #[t,h.nox,q]
def HL {K:Frag}{x:Str}{c Pt f:Addr}{oc:Value}{od:Option Addr}{fd:FuncData}{sl:Array (Option Value)}(a:nsIn K mainGlobals x=some (some (.ref f)))(l:K.lookup f=some #[oc,od,.func fd,sl])(t:tabIn K x=some (c,Pt)):fd.code=.ref c:=by
 unfold tabIn at t;rw[a]at t;dsimp only at t;rw[l]at t;dsimp only at t;split at t
 .rename_i c2 hc;split at t
  .split at t
   .cases t
    exact hc
   .cases t
  .cases t
 .cases t
def oF {X:Cx}{params:Arguments}{body:Expr}{osc:Scope}{N:List Str}{cap:List Nat}(sc:va scope ps caps)
  (h1:∀ p∈scope.names,p.2=NameKind.free->osc.names.lookup p.1=some NameKind.cell) (h2:∀ p∈caps.zip cap,N[p.2]?=some p.1/\osc.names.lookup p.1=some NameKind.cell) (hl:caps.length=cap.length)
  (ho:X.env.scope=osc) (hN:X.N=N) (d:defaultsOf params X.env=([],[]))
  (b:∀(cl:List (Str×Addr)) (pm cdv ct:Value) (us:List Value),us.length=ps.length->bindArgs (W.kla_fn "<lambda>" (X.env.qual ++ "<lambda>") params body scope cl pm cdv ct) #[us,[]]=pure (ps.zip us))
  (o:∀ x,X.fn x=true):jh X params body scope ps caps cap:=by
 have hk:∀ x,X.env.kindOf x=osc.names.lookup x:=λx=>by
  unfold Env.kindOf;rw[ho]
 refine #[sc,λx hx=>.inl ?_,λj x hj=>?_,d,b,o]
 .rw[hk];exact h1 (x,.free) hx rfl
 .have hj':=(aY.mp hj).1;have hc:cap[j]?=some (cap[j]'(by lia)):=aD _;have hz:(caps.zip cap)[j]?=some (x,cap[j]'(by lia)):=by
   rw[List.getElem?_zip_eq_some];exact #[hj,hc]
  obtain ⟨a1,a2⟩:=h2 _ (cW hz);refine #[_,hc,?_,.inl ?_]
  .rw[hN];exact a1
  .rw[hk];exact a2
structure Sub (K:Frag)(mg:Str->Option Value)(b1 b2:Heap):Prop where
 mod:Mod K mg b1
 get:∀ b o,b1.get? b=some o->b2.get? b=some o
 size:b1.objs.size<=b2.objs.size
section
variable {P:Program}{w:World}{K:Frag}{mg:Str->Option Value}{b1 b2:Heap}{k:Nat}{f:Addr}{ps:List Str}{sp:Sp}
def FnOk.lift {fd:FuncData}(F:FnOk P w K mg b1 CX k f fd ps sp)(S:Sub K mg b1 b2):FnOk P w K mg b2 CX k f fd ps sp:=
 #[F.len,λA outer s H args us vs Q E hr e0=>F.run A outer s H args us vs Q E hr #[e0.frames,S.mod,λb o e=>e0.bs b o (S.get b o e),cD S.size e0.bsz,vb e0.funs (λb hb=>by
  cases q:b1.get? b with
  | none=>rfl
  | some o=>
   have z:=(e0.funs.mem hb).1;rw[S.get b o q]at z;exact nomatch z),e0.frf,e0.hok,e0.bare]]
def FV.lift (F:FV P w K mg b1 k f ps sp)(S:Sub K mg b1 b2):FV P w K mg b2 k f ps sp:=by
 obtain ⟨fd,ok,bd,oc,od,fd2,sl,ho⟩:=F.ex;exact #[fd,FnOk.lift ok S,bd,oc,od,fd2,sl,S.get _ _ ho]
def BMAt.lift (h:BMAt mg b1)(S:Sub K mg b1 b2):BMAt mg b2:=by
 obtain ⟨bm,o,h1,h2,h3,h4,h5⟩:=h;exact #[bm,o,h1,h2,h3,S.get _ _ h4,h5]
end
def HM (P:Program)(w:World)(K:Frag)(mg:Str->Option Value)(base:Heap)(kr:Nat)(tf:TE)(t:TA):TE:=λU H Q=>tf U H λx H1=>∃ f k ps sp,x=.ref f/\FV P w K mg base k f ps sp/\k<=kr/\t U H1 λvs H2=>sp vs H2 Q E0
def HN (P:Program)(w:World)(K:Frag)(mg:Str->Option Value)(base:Heap){X:Cx}{x:Str}{e:Expr}{es:List Expr}{t:TA}{p pos:Pos}(hr:Room kr X.A)(hf:PE X (.Name x p) tf)(ha:PA X (e::es) t)
  (h1:X.prog=P:=by rfl) (h2:X.w=w:=by rfl) (h3:X.K=K:=by rfl) (h4:X.mg=mg:=by rfl) (h5:X.base=base:=by rfl)
  (he:starEach (e::es) X.env=(false,eval e X.env)::starEach es X.env:=by rfl) (hpl:(backTo pos (starEach es X.env)).any (·.1)=false:=by rfl):PE X (.Call (.Name x p) (e::es) [] pos) (HM P w K mg base kr tf t):=by
 subst h1 h2 h3 h4 h5;exact vc hr hf ha he hpl
section
variable {X:Cx}{OG:List (Addr×Obj)}{U:St}{H:Hp}{s:Shared}
def vd (I:Inv X OG U H s):Sub X.K X.mg X.base (dU X s H):=#[I.ok.mod,BO I,cD I.env0.bsz (Nat.le_of_eq (W.hideAll_size _ _).symm)]
def ve (X:Cx)(n kf:Nat)(ps:List Str)(cap:List Nat)(Pt:Addr)(lpos:Pos)(tb:Heap->TE)(U:St)(H1:Hp)(q:Heap->Addr->Hp->Prop):Prop:=bp H1 Pt lpos (X.env.qual ++ "<lambda>")/\∃ vcs:List V,vcs.length=n/\(∀(j i:Nat) (v:V),cap[j]?=some i->vcs[j]?=some v->U[i]?=some (some v))/\
 ∀(base:Heap) (f c':Addr) (H2:Hp),Gro Pt H1 H2->bp H2 Pt lpos (X.env.qual ++ "<lambda>")->ip H2 c' (X.env.qual ++ "<lambda>")->Sub X.K X.mg X.base base->FV X.prog X.w X.K X.mg base kf f ps (jg ps.length (tb base) vcs c' (X.env.qual ++ "<lambda>"))->q base f H2
def HP {f c':Addr}{pm ctv:Value}{vcs:List V}{k n:Nat}(I:Inv X OG U H s)(L:jh X params body scope ps caps cap)(hcl:jY scope X.env cl)
  (ho:s.heap.get? f=some (W.kla_obj "<lambda>" (X.env.qual ++ "<lambda>") params body scope cl pm c' ctv)) (hn:H f=none) (hfr:∀ b∈frs X.stack,b<n) (hge:n<=f)
  (hv:vcs.length=caps.length) (hvs:∀(j i:Nat) (v:V),cap[j]?=some i->vcs[j]?=some v->U[i]?=some (some v))
  (hb:∀(f:Addr) (cd:Value) (cl:List (Str×Addr)) (A:Around) (outer:List Env) (s1:Shared) (H1:Hp),Room k (A.deeper (W.envX (X.env.qual ++ "<lambda>") scope s1.heap.objs.size f cd cl))->PE (il X.prog X.w X.K X.mg (dU X s H) (ps++caps) (X.env.qual ++ "<lambda>") scope f cd cl A outer s1 H1) body tb) :
  FV X.prog X.w X.K X.mg (dU X s H) (k+1) f ps (jg ps.length tb vcs c' (X.env.qual ++ "<lambda>")):=by
 have nf:f∉frs X.stack:=λz=>absurd (cH (hfr f z) hge) (dP _);have hbf:=mh (X:=X) ho hn nf;have cellB:∀ x a v,X.env.cells.lookup x=some a->s.heap.IsCell a v->(dU X s H).IsCell a v:=λx a v e ⟨o,h1,h2⟩=>by
  refine #[o,mh h1 (I.freeC x a e) λz=>?_,h2];rcases bq.mp (I.stkSub a z) with y|y
  .exact I.cne x a e y
  .obtain ⟨_,o2,h3,_⟩:=I.ok.funs.mem y;exact absurd (cH (aZ h3) (I.ok.cab x a (L.own x) e)) (dP _)
 refine #[_,BL L.sc hbf hv (λj x v h1 h2=>?_) (λx a e=>?_) (λx y a h1 h2=>I.ok.inj x y a (hcl.sub x a h1) (hcl.sub y a h2)) (λx e=>?_) (λA outer s H hr=>hb f _ cl A outer s H hr),.all (L.binds cl pm (.ref c') ctv),#[_,_,_,_,hbf]]
 ·obtain ⟨i,e1,e2,e3⟩:=L.capAt j x h1;obtain ⟨m,hm,hl⟩:=I.loc;obtain ⟨u,ru,lk⟩:=hl i x v e2 (hvs j i v e1 h2) (by
   rcases e3 with z|z
   .exact .inr (.inl z)
   .exact .inr (.inr z))
  rcases lk with ⟨z,_⟩|⟨_,a,e4,e5⟩
  .rcases e3 with y|y
   .rw[y]at z;cases z
   .rw[y]at z;cases z
  .obtain ⟨a',e6⟩:=hcl.has x (PySem.mem_of_lookup (L.sc.cap x (cW h1)));have e7:=hcl.sub x a' e6;rw[e4]at e7;cases e7
   exact #[a,u,e6,cellB x a _ e4 e5,ru]
 .obtain ⟨v,z⟩:=I.cell x a (hcl.sub x a e);exact #[v,cellB x a v (hcl.sub x a e) z]
 .exact hcl.has x (PySem.mem_of_lookup e)
def BR {tb:Heap->TE}{c Pt:Addr}{Qv:List Value->Shared->Prop}(I:Inv X OG U H s)
  (L:jh X params body scope ps caps cap) (hcode:X.env.code=.ref c) (hC:codeHdIn X.K c Pt=true) (hBM:BMAt X.mg X.base)
  (hb:∀(base:Heap) (f:Addr) (cd:Value) (cl:List (Str×Addr)) (A:Around) (outer:List Env) (s:Shared) (H:Hp),Sub X.K X.mg X.base base->Room kf (A.deeper (W.envX (X.env.qual ++ "<lambda>") scope s.heap.objs.size f cd cl))->PE (il X.prog X.w X.K X.mg base (ps++caps) (X.env.qual ++ "<lambda>") scope f cd cl A outer s H) body (tb base))
  (hg:ve X caps.length (kf+1) ps cap Pt lpos tb U H q) (h:∀ f H2 s2,Inv X OG U H2 s2->q (dU X s2 H2) f H2->Qv [.ref f] s2):wpAny (model X.prog X.w) X.A (spliced [(false,eval (.Lambda params body scope lpos) X.env)]) Qv X.xe s:=by
 obtain ⟨hT,vcs,hv,hvs,q⟩:=hg;refine Calls.spliced_cons (BM I L.dflt L.frees hcode hC hBM hT λf c' cl pm ctv H2 s2 hcl I2 ho hn hge hgr hT2 hca=>?_);have S:=vd I2;have hF:=HP (k:=kf) (n:=s.heap.objs.size) (tb:=tb (dU X s2 H2)) I2 L hcl ho hn (λb hb=>by
  obtain ⟨_,o,e,_⟩:=I.stack.mem hb;exact aZ e) hge hv hvs (λf cd cl A outer s H hr=>hb _ f cd cl A outer s H S hr)
 exact Calls.spliced_nil (h f H2 s2 I2 (q _ f c' H2 hgr hT2 hca S hF))
def BS {x:Str}{k:Nat}{g:Addr}{Q:VK}{us:List Value}{vs:List V}(I:Inv X OG U H s)(m:X.mg x=some (.ref g))(F:FC X.prog X.w X.K X.mg (dU X s H) j x qs sp)(hr:Room k X.A)(hjk:j<=k)(r:Vals vs us)(h:sp vs H Q E0) :
  wpAny (model X.prog X.w) X.A (call (.ref g) us) (EP X OG U Q) X.xe s:=by
 obtain ⟨g2,fd2,ok,bd,_,m2,_⟩:=F.ex;rw[m]at m2;cases m2
 refine wpAny_call (codeAny_mono (ok.run X.A X.stack s H #[us,[]] us vs Q E0 (hr.mono hjk) (BP I) (by simpa using bd s us I.kIn (by rw[di,<-r.length];exact ok.len _ _ _ _ h)) r h) λr s' hq=>?_);cases r with
 | error e=>exact False.elim hq
 | ok fl=>
  cases fl with
  | ret u=>exact I.after hq
  | next=>exact False.elim hq
  | brk=>exact False.elim hq
  | cont=>exact False.elim hq
end
section
variable {X:Cx}
def HQ (X:Cx)(n kf:Nat)(ps:List Str)(cap:List Nat)(Pt:Addr)(lpos:Pos)(tb:Heap->TE)(te:TE)(spH:Heap->Sp):TE:=λU H Q=>te U H λx1 H1=>ve X n kf ps cap Pt lpos tb U H1 λbase f H2=>spH base [x1,.ref f] H2 Q E0
def HR {lpos p pos:Pos}{tb:Heap->TE}{spH:Heap->Sp}{k:Nat}{c Pt:Addr}
  (F:∀ base,Sub X.K X.mg X.base base->FC X.prog X.w X.K X.mg base j x qs (spH base)) (hr:Room k X.A) (h1:PE X e1 te) (L:jh X params body scope ps caps cap) (hcode:X.env.code=.ref c) (hC:codeHdIn X.K c Pt=true) (hBM:BMAt X.mg X.base)
  (hb:∀(base:Heap) (f:Addr) (cd:Value) (cl:List (Str×Addr)) (A:Around) (outer:List Env) (s:Shared) (H:Hp),Sub X.K X.mg X.base base->Room kf (A.deeper (W.envX (X.env.qual ++ "<lambda>") scope s.heap.objs.size f cd cl))->PE (il X.prog X.w X.K X.mg base (ps++caps) (X.env.qual ++ "<lambda>") scope f cd cl A outer s H) body (tb base))
  (hjk:j<=k:=by decide) (hg:Gl X x:=by rfl) (hdb:(x==("__debug__" : Str))=false:=by decide) (he:starEach [e1,.Lambda params body scope lpos] X.env=(false,eval e1 X.env)::starEach [.Lambda params body scope lpos] X.env:=by rfl)
  (he2:starEach [.Lambda params body scope lpos] X.env=[(false,eval (.Lambda params body scope lpos) X.env)]:=by rfl) (hpl:(backTo pos (starEach [.Lambda params body scope lpos] X.env)).any (·.1)=false:=by rfl) :
  PE X (.Call (.Name x p) [e1,.Lambda params body scope lpos] [] pos) (HQ X caps.length (kf+1) ps cap Pt lpos tb te spH):=by
 intro OG s U H Q I h;obtain ⟨g,fd,_,_,kp,m,oc,od,osl,lk⟩:=(F X.base #[I.ok.mod,λ_ _ e=>e,av _]).ex;refine wpAny_Call_Name_kw (lP I hg m ?_ hdb);refine W.callWith_K (h₀:=X.base) I.ok.mod.kin kp ?_ he hpl;rw[he];show wpAny _ _ (spliced ((false,eval e1 X.env)::backTo pos (starEach [.Lambda params body scope lpos] X.env))) _ _ s;refine Calls.spliced_cons (thn (h1 OG s U H _ I h) λu s1 zq0=>?_);obtain ⟨x1,H1,I1,r1,q1⟩:=zq0;rw[he2];show wpAny _ _ (spliced [(false,eval (.Lambda params body scope lpos) X.env)]) _ _ s1;exact BR I1 L hcode hC hBM hb q1 λf H2 s2 I2 hsp=>#[I2.kIn,BS I2 m (F _ (vd I2)) hr hjk (vs:=[x1,.ref f]) (.cons r1 (.cons rfl .nil)) hsp]
def HS (X:Cx)(n kf:Nat)(ps:List Str)(cap:List Nat)(Pt:Addr)(lpos:Pos)(tb:Heap->TE)(te te2:TE)(spH:Heap->Sp):TE:=λU H Q=>te U H λx1 H1=>te2 U H1 λx2 H2=>ve X n kf ps cap Pt lpos tb U H2 λbase f H3=>spH base [x1,x2,.ref f] H3 Q E0
def HU {lpos p pos:Pos}{tb:Heap->TE}{spH:Heap->Sp}{k:Nat}{c Pt:Addr}
  (F:∀ base,Sub X.K X.mg X.base base->FC X.prog X.w X.K X.mg base j x qs (spH base)) (hr:Room k X.A) (h1:PE X e1 te) (h2:PE X e2 te2) (L:jh X params body scope ps caps cap) (hcode:X.env.code=.ref c) (hC:codeHdIn X.K c Pt=true) (hBM:BMAt X.mg X.base)
  (hb:∀(base:Heap) (f:Addr) (cd:Value) (cl:List (Str×Addr)) (A:Around) (outer:List Env) (s:Shared) (H:Hp),Sub X.K X.mg X.base base->Room kf (A.deeper (W.envX (X.env.qual ++ "<lambda>") scope s.heap.objs.size f cd cl))->PE (il X.prog X.w X.K X.mg base (ps++caps) (X.env.qual ++ "<lambda>") scope f cd cl A outer s H) body (tb base))
  (hjk:j<=k:=by decide) (hg:Gl X x:=by rfl) (hdb:(x==("__debug__" : Str))=false:=by decide) (he:starEach [e1,e2,.Lambda params body scope lpos] X.env=(false,eval e1 X.env)::starEach [e2,.Lambda params body scope lpos] X.env:=by rfl)
  (he2:starEach [e2,.Lambda params body scope lpos] X.env=[(false,eval e2 X.env),(false,eval (.Lambda params body scope lpos) X.env)]:=by rfl) (hpl:(backTo pos (starEach [e2,.Lambda params body scope lpos] X.env)).any (·.1)=false:=by rfl) :
  PE X (.Call (.Name x p) [e1,e2,.Lambda params body scope lpos] [] pos) (HS X caps.length (kf+1) ps cap Pt lpos tb te te2 spH):=by
 intro OG s U H Q I h;obtain ⟨g,fd,_,_,kp,m,oc,od,osl,lk⟩:=(F X.base #[I.ok.mod,λ_ _ e=>e,av _]).ex;refine wpAny_Call_Name_kw (lP I hg m ?_ hdb);refine W.callWith_K (h₀:=X.base) I.ok.mod.kin kp ?_ he hpl;rw[he];show wpAny _ _ (spliced ((false,eval e1 X.env)::backTo pos (starEach [e2,.Lambda params body scope lpos] X.env))) _ _ s;refine Calls.spliced_cons (thn (h1 OG s U H _ I h) λu s1 zq0=>?_);obtain ⟨x1,H1,I1,r1,q1⟩:=zq0;rw[he2];show wpAny _ _ (spliced ((false,eval e2 X.env)::[(false,eval (.Lambda params body scope lpos) X.env)])) _ _ s1;refine Calls.spliced_cons (thn (h2 OG s1 U H1 _ I1 q1) λu2 s2 zq0=>?_);obtain ⟨x2,H2,I2,r2,q2⟩:=zq0;exact BR I2 L hcode hC hBM hb q2 λf H3 s3 I3 hsp=>#[I3.kIn,BS I3 m (F _ (vd I3)) hr hjk (vs:=[x1,x2,.ref f]) (.cons r1 (.cons r2 (.cons rfl .nil))) hsp]
end
def HV {K:Frag}{a:Addr}{xs ys:List V}{g:TG}{tb:TS}{D:Ends}{U:St}{H:Hp}(hlen:ys.length<=xs.length)(Pv:Nat->St->Hp->Prop)(h0:Pv 0 U H)(hl:∀ i U H,i<=ys.length->Pv i U H->SqL K H a xs/\SqL K H b ys)
  (hs:∀ i x y U H p,xs[i]?=some x->ys[i]?=some y->Pv i U H->H p=none->g (.ref p) U (upd H p (.tup [x,y])) λU2 H2=>tb { D with nx:=Pv (i+1),ct:=Pv (i+1),bk:=D.nx } U2 H2) (hd:∀ U H,Pv ys.length U H->D.nx U H) :
  ∃ W:Nat->Nat->St->Hp->Prop,(∃ m,W 0 m U H)/\∀ i m U H,W i m U H->((Itz K a b).stop i H/\D.nx U H)\/((Itz K a b).go i H/\∃ N:St->Hp->Prop,(∀ U' H',N U' H'->∃ m',m'<m/\W (i+1) m' U' H')/\∀ x H',(Itz K a b).yld i H x H'->g x U H' λU2 H2=>tb { D with nx:=N,ct:=N,bk:=D.nx } U2 H2):=by
 refine #[λi m U H=>i+m=ys.length/\Pv i U H,#[ys.length,by lia,h0],λi m U H zq0=>?_];obtain ⟨e,pv⟩:=zq0;obtain ⟨hS,hS'⟩:=hl i U H (by lia) pv;by_cases hi:i<ys.length
 .refine .inr #[#[xs,ys,xs[i]'(by lia),ys[i],hS,hS',aD (by lia),aD hi],Pv (i+1),λU' H' q=>#[m-1,by lia,by lia,q],λx H' y=>?_];obtain ⟨p,z,z',rfl,hp,hz,hz',rfl⟩:=y;exact hs i z z' U H p (hz xs hS) (hz' ys hS') pv hp
 .have:i=ys.length:=by lia
  subst this;exact .inl #[#[xs,ys,hS,hS',.inr (av _)],hd U H pv]
abbrev th1 (h:Heap)(l:Addr):Heap:=h.push { cls:=.type "tuple_iterator",data:=.fields (List.toArray [.ref l,.int 0 0]) }
abbrev th2 (h:Heap)(l m:Addr):Heap:=(th1 h l).push { cls:=.type "tuple_iterator",data:=.fields (List.toArray [.ref m,.int 0 0]) }
abbrev th3 (h:Heap)(l m:Addr):Heap:=(th2 h l m).push { cls:=.type "tuple",data:=.seq (List.toArray [.ref h.objs.size,.ref (th1 h l).objs.size]) }
abbrev th4 (h:Heap)(l m:Addr):Heap:=(th3 h l m).push { cls:=.type "tuple",data:=.seq (List.toArray [.none,.none]) }
abbrev th5 (h:Heap)(l m:Addr):Heap:=(th4 h l m).push { cls:=.type "zip",data:=.fields (List.toArray [.none,.bool false,.bool false,.ref (th2 h l m).objs.size,.ref (th3 h l m).objs.size]) }
def HY {K:Frag}{a:Addr}{xs ys:List V}{g:TG}{ts:TT}{te:TE}{U:St}{H:Hp}{Q:Hp->Prop}(hlen:ys.length<=xs.length)(Pv:Nat->St->Hp->Prop)(h0:Pv 0 U H)(hl:∀ i U H,i<=ys.length->Pv i U H->SqL K H a xs/\SqL K H b ys)
  (hs:∀ i m x y U H r,xs[i]?=some x->ys[i]?=some y->i+m=ys.length->Pv i U H->H r=none->g (.ref r) U (upd H r (.tup [x,y])) λU2 H2=>ts U2 H2 λb H3=>if b=true then te U2 H3 λy H4=>∃ zs,H4 D=some (.lst zs)/\zs.length<sizeLine/\∃ m',m'<m/\(i+1+m'=ys.length/\Pv (i+1) U2 (upd H4 D (.lst (zs++[y])))) else ∃ m',m'<m/\(i+1+m'=ys.length/\Pv (i+1) U2 H3))
  (hd:∀ U H,Pv ys.length U H->Q H) :
  ∃ W:Nat->Nat->St->Hp->Prop,(∃ m,W 0 m U H)/\∀ i m U H,W i m U H->((Itz K a b).stop i H/\Q H)\/((Itz K a b).go i H/\∀ x H',(Itz K a b).yld i H x H'->g x U H' λU2 H2=>ts U2 H2 λb H3=>if b=true then te U2 H3 λy H4=>∃ xs,H4 D=some (.lst xs)/\xs.length<sizeLine/\∃ m',m'<m/\W (i+1) m' U2 (upd H4 D (.lst (xs++[y]))) else ∃ m',m'<m/\W (i+1) m' U2 H3):=by
 refine #[λi m U H=>i+m=ys.length/\Pv i U H,#[ys.length,by lia,h0],λi m U H zq0=>?_];obtain ⟨e,pv⟩:=zq0;obtain ⟨hS,hS'⟩:=hl i U H (by lia) pv;by_cases hi:i<ys.length
 .refine .inr #[#[xs,ys,xs[i]'(by lia),ys[i],hS,hS',aD (by lia),aD hi],λx H' y=>?_];obtain ⟨p,z,z',rfl,hp,hz,hz',rfl⟩:=y;exact hs i m z z' U H p (hz xs hS) (hz' ys hS') e pv hp
 .have:i=ys.length:=by lia
  subst this;exact .inl #[#[xs,ys,hS,hS',.inr (av _)],hd U H pv]
end L2
namespace DictP
open PySem PySem.Spec PyProof.Rows
set_option maxRecDepth 100000
def HZ:typeLookup (.type "list") "keys" = pure none:=by rw[typeLookup_type,builtinLookup_eq_fast];kernel_rfl
section
variable {prog:Program}{w:World}{A:Around}{E:Value->Shared->Prop}{a:Addr}{o:Obj}{h:Heap}{g:Array GenState}{d:Drawn}{t:Nat}{os:OsState}{xs:Array Value}{n:Nat}{sl:Array (Option Value)}
def Ia {tk:Tok}{Q:Fin->Shared->Prop}(hh:A.handled=none)(hx:h.get? a=some { cls:=.type "list",dict:=none,data:=.seq xs n,slots:=sl })
  (q:∀ h' t' e,(∀ b u,h.get? b=some u->h'.get? b=some u)->(#[h',g,d,t',os]:Shared).TypeIs (.ref e) "AttributeError"->E (.ref e) #[h',g,d,t',os]) :
  wpAny (model prog w) A (Builtin.«object.__getattribute__» #[[.ref a,.str "keys" tk],[]]) Q E #[h,g,d,t,os]:=by
 have hT:(#[h,g,d,t,os]:Shared).TypeIs (.ref a) "list":=#[_,hx,rfl];have f4:=HZ
 repeat (any_goals (first|assumption|wp_step))
 have hm:(Str.ofString (toString "'" ++ toString ((Manifest.find? "list").elim "list" λx=>x.tpName)++toString "' object has no attribute '")++Str.ofString "keys" ++ Str.ofString "'").length<=sizeLine:=by decide +kernel
 generalize (Str.ofString (toString "'" ++ toString ((Manifest.find? "list").elim "list" λx=>x.tpName)++toString "' object has no attribute '")++Str.ofString "keys" ++ Str.ofString "'")=msg at hm ⊢;unfold raiseAttrError;refine aA (wpAny_mkStr (aA ?_) hm);unfold newExc newTuple;refine aA (wpAny_newObj_type ?_);refine aA (m:=firstArgMember _ _) (wpAny_of_eq (a:=Value.none) (by rfl) ?_);refine wpAny_newObj_type ?_;refine aA (wpAny_mkText ?_);have hX:=cV (h.push { cls:=.type "tuple",data:=.seq (List.toArray [Value.str msg t]) }) (o:={ cls:=.type "AttributeError",data:=.fields ((List.toArray [.ref h.objs.size,.none,.none,.none,.bool false,.none])++(List.toArray [unsetMember,unsetMember])) }) rfl;have hk:∀ b u,h.get? b=some u->((h.push { cls:=.type "tuple",data:=.seq (List.toArray [Value.str msg t]) }).push { cls:=.type "AttributeError",data:=.fields ((List.toArray [.ref h.objs.size,.none,.none,.none,.bool false,.none])++(List.toArray [unsetMember,unsetMember])) }).get? b=some u:=λb u e=>bD _ (bD _ e);have hne:h.get? (h.push { cls:=.type "tuple",data:=.seq (List.toArray [Value.str msg t]) }).objs.size=none:=Heap.get?_none_of_le (by simp);show wpAny (model prog w) A (noteAttr (.ref (h.push { cls:=.type "tuple",data:=.seq (List.toArray [Value.str msg t]) }).objs.size) (.ref a) (.str "keys" (t+1)) >>= λ_=>raiseNew (.ref (h.push { cls:=.type "tuple",data:=.seq (List.toArray [Value.str msg t]) }).objs.size)) Q E #[(h.push { cls:=.type "tuple",data:=.seq (List.toArray [Value.str msg t]) }).push { cls:=.type "AttributeError",data:=.fields ((List.toArray [.ref h.objs.size,.none,.none,.none,.bool false,.none])++(List.toArray [unsetMember,unsetMember])) },g,d,t+2,os];generalize (h.push { cls:=.type "tuple",data:=.seq (List.toArray [Value.str msg t]) }).push { cls:=.type "AttributeError",data:=.fields ((List.toArray [.ref h.objs.size,.none,.none,.none,.bool false,.none])++(List.toArray [unsetMember,unsetMember])) }=h2 at hX hk ⊢;generalize (h.push { cls:=.type "tuple",data:=.seq (List.toArray [Value.str msg t]) }).objs.size=e at hX hne ⊢;generalize (Value.ref h.objs.size)=r0 at hX;unfold noteAttr;dsimp only;have hTe:(#[h2,g,d,t+2,os]:Shared).TypeIs (.ref e) "AttributeError":=#[_,hX,rfl];refine aA (aA ?_);unfold lacksNameAndObj;dsimp only;refine aA (wpAny_isInstance (T := "AttributeError") (b:=true) hTe (by rw[isSubtype_type];kernel_rfl) ?_);simp only[Bool.not_true,tZ,if_false];refine aA (wpAny_load hX ?_);dsimp only;have i6:((List.toArray [r0,Value.none,Value.none,Value.none,Value.bool false,Value.none])++(List.toArray [unsetMember,unsetMember]))[6]?=some unsetMember:=by simp
 have i7:((List.toArray [r0,Value.none,Value.none,Value.none,Value.bool false,Value.none])++(List.toArray [unsetMember,unsetMember]))[7]?=some unsetMember:=by simp
 refine wpAny_ite_split (λz=>absurd z (by rw[i6,i7];decide)) (λ_=>?_);refine wpAny_ite_split (λz=>absurd z (by rw[i6,i7];decide)) (λ_=>?_);refine bg ?_;rw[ar rfl];refine aA (wpAny_rule (aA (wpAny_typeOf hTe ?_)));dsimp only;unfold layMembers;refine aA (wpAny_load hX ?_);dsimp only;refine wpAny_update (s:=#[h2,g,d,t+2,os]) hX ?_;unfold raiseNew;refine aA (wpAny_handled ?_);rw[hh]
 first
  | refine wpAny_throw ?_
  | refine aA (bg (wpAny_throw ?_))
 refine q _ _ e (λb u eb=>?_) #[_,nJ _ hX (Obj.isFreed_of_fields (Obj.data_mapFields rfl _)),rfl];have nb:b≠e:=λz=>by
  rw[z,hne]at eb;cases eb
 exact (iU _ _ (bE nb)).trans (hk b u eb)
def Ib {tk:Tok}{R:Result->Shared->Prop}(hh:A.handled=none)(hx:h.get? a=some { cls:=.type "list",dict:=none,data:=.seq xs n,slots:=sl })
  (q:∀ h' t' e,(∀ b u,h.get? b=some u->h'.get? b=some u)->(#[h',g,d,t',os]:Shared).TypeIs (.ref e) "AttributeError"->R (.error (.ref e)) #[h',g,d,t',os]) :
  codeAny (model prog w) A (.call (.builtin "list.__getattribute__") #[[.ref a,.str "keys" tk],[]]) R #[h,g,d,t,os]:=
 codeAny_call_builtin F.slot_list_getattribute.plain F.entry_list_ga (F.slot_list_getattribute.check _ _ _ _ _ _ _ _ (show (#[h,g,d,t,os]:Shared).TypeIs (.ref a) "list" from #[_,hx,rfl]) (F.args_list_getattribute_2 _ _) (Ia (A:=A.in1) hh hx q))
def Ic {Q:Option Value->Shared->Prop}(hh:A.handled=none)(hx:h.get? a=some { cls:=.type "list",dict:=none,data:=.seq xs n,slots:=sl })
  (q:∀ h' t',(∀ b u,h.get? b=some u->h'.get? b=some u)->Q none #[h',g,d,t',os]):wpAny (model prog w) A (getAttr? (.ref a) "keys") Q E #[h,g,d,t,os]:=by
 have hT:(#[h,g,d,t,os]:Shared).TypeIs (.ref a) "list":=#[_,hx,rfl];have f2:=F.slot_list_getattribute.lookup;have f3:=F.slot_list_getattribute.bind (.ref a);have f5:typeLookup (.type "list") "__getattr__" = pure none:=by rw[typeLookup_type,builtinLookup_eq_fast];kernel_rfl
 unfold getAttr? getAttrBy?
 repeat (any_goals (first|assumption|wp_step))
 refine Ib hh hx λh' t' e k ty=>?_;have su:isSubtype (.type "AttributeError") (.type "AttributeError")=pure true:=by rw[isSubtype_type];kernel_rfl
 show wpAny (model prog w) A (getattributeRaised (.ref a) (.str "keys" t) (.type "list") (.ref e) none false false) _ _ _;unfold getattributeRaised;refine aA (wpAny_isInstance ty su ?_);rw[ar rfl];refine aA (?_:wpAny _ _ (typeLookup (.type "list") "__getattr__") _ _ _);rw[f5];refine bg ?_;show wpAny _ _ (throw (Value.ref e)) _ _ _;refine wpAny_throw ?_;show wpAny _ _ (do let b <-isInstance (.ref e) (.type "AttributeError");if b=true then pure none else throw (Value.ref e)) _ _ _
 refine aA (wpAny_isInstance ty su ?_);exact bg (q h' t' k)
end
end DictP
namespace DictP
open PySem PySem.Spec PyProof.Rows L2
set_option maxRecDepth 100000
def BU:entryFor table "dict.update.loop" = some Builtin.«dict.update.loop»:=entryFor_of_tree (by kernel_rfl)
def oG:plainId "dict.update.loop" = true:=by decide +kernel
def Ie {K:Type}[DecidableEq K]{kvs:List (K×Value)}{k:K}{v:Value}(h:k∉kvs.map (·.1)):stored kvs k v=kvs++[(k,v)]:=by
 unfold stored;rw[az λz=>?_];obtain ⟨kv,h1,h2⟩:=List.any_eq_true.mp z;exact h (bI.mpr #[kv,h1,cE h2])
section
variable {prog:Program}{w:World}{A:Around}{R:Result->Shared->Prop}{I:Addr}{fp wr:List Addr}{G:Array GenState->Array GenState->Prop}{n:Nat}{P:Nat->Value->Prop}{St:Nat->Shared->Prop}
def Ig {h0:Heap}(W:WalksS prog w A.in1 I fp wr G n P St)(d:Addr)(hdf:d∉fp)(res:Value)(kvs:List (Key×Value))(hn:n=kvs.length)(hnd:(kvs.map (·.1)).Nodup)
  (hP:∀ i v,P i v->∃ tp key k val,v=.ref tp/\tp≠d/\tp∉wr/\h0.IsTuple tp (List.toArray [key,val])/\(cb prog w).is k key=true/\kvs[i]?=some (k,val)) (hz:kvs.length<=sizeLine) :
  ∀(j i:Nat) (s:Shared) (tk:Tok),n-i=j->i<=n->St i s->(∀ b o,b≠d->b∉wr->h0.get? b=some o->s.heap.get? b=some o)->s.heap.DictOf (cb prog w) d (kvs.take i)->
   (∀ s',Moved (d::wr) G s s'->s'.heap.DictOf (cb prog w) d kvs->R (.ok (.ret res)) s')->codeAny (model prog w) A (.builtin "dict.update.loop" #[[.ref d,.ref I,.int i tk,res],[]]) R s:=by
 have hdw:d∉wr:=λh=>hdf (W.sub _ h);have up:∀ b∈wr,b∈d::wr:=λb hb=>cp _ hb;intro j
 induction j with
 | zero=>
  intro i s tk hj hi st hk hd q;have e:i=n:=by lia
  subst e;refine codeAny_builtin BU ?_;rw[Around.under_plainId oG _];show wpAny _ A.in1 (pyNext (.ref I) >>= _) _ _ s;refine aA (W.done s _ _ st λs' hm=>?_);refine aA (?_:wpAny _ A.in1 (Builtin.Dict.addKeywords d []) _ _ s');refine bg (bg (q s' (hm.mono up) ?_));obtain ⟨o,es,ep,ho,r⟩:=hd;rw[hn,lF]at r;exact #[o,es,ep,hm.heap d o hdw ho,r]
 | succ j ih=>
  intro i s tk hj hi st hk hd q;have hlt:i<n:=by lia
  refine codeAny_builtin BU ?_;rw[Around.under_plainId oG _];show wpAny _ A.in1 (pyNext (.ref I) >>= _) _ _ s;refine aA (W.item i s _ _ hlt st λv s' hPi st' hm=>?_);obtain ⟨tp,key,k,val,rfl,ntd,ntw,ht,hkey,hkv⟩:=hP i v hPi;obtain ⟨ot,o1,o2,nt,o3⟩:=ht;have g1:=hm.heap tp ot ntw (hk tp ot ntd ntw o1);have hd':s'.heap.DictOf (cb prog w) d (kvs.take i):=by
   obtain ⟨o,es,ep,ho,r⟩:=hd;exact #[o,es,ep,hm.heap d o hdw ho,r]
  obtain ⟨hik,hek⟩:=aY.mp hkv;have hnew:k∉(kvs.take i).map (·.1):=λz=>by
   rw[nU]at z;obtain ⟨m,hm1,hm2⟩:=ua.mp z;have h2:m<(kvs.map (·.1)).length:=by lia
   have h3:i<(kvs.map (·.1)).length:=by rw[af];exact hik
   have:=fc.mp hnd m i h2 h3 (by lia);apply this;rw[hm2,List.getElem_map,hek]
  refine aA (wpAny_holding (aA (wpAny_tryCatch ?_)));unfold Builtin.Dict.pairItems;refine aA (wpAny_typeOf (T := "tuple") #[_,g1,o2] ?_);rw[ar (by decide)];unfold seqItems?;refine aA (aA (wpAny_load g1 ?_));rw[o3];refine bg (bg ?_);show wpAny _ A.in1 (holding [key,val] (dictSet d key val)) _ _ s';refine wpAny_holding (wpAny_dictSet_pairs hkey hd' (λh' hd2 sb=>?_) (by rw[bt];lia));rw[Ie hnew]at hd2;have tk1:kvs.take (i+1)=kvs.take i++[(k,val)]:=by
   rw[cx hik,hek]
  rw[<-tk1]at hd2;refine bg #[plainId_quiet oG _,ih (i+1) _ 0 (by lia) hlt (W.frame _ s' _ _ st' (gQ _) λb hb o e=>?_) (λb o n1 n2 e=>?_) hd2 λs'' hm'' x3=>?_]
  .rw[sb.2 b (λh:b=d=>hdf (by rw[<-h];exact hb))];exact e
  .rw[sb.2 b n1];exact hm.heap b o n2 (hk b o n1 n2 e)
  .refine q s'' (Moved.trans W.gtrans ((hm.mono up).then_heap (gQ _) λb o hb e=>?_) hm'') x3;rw[sb.2 b (λh:b=d=>hb (by rw[h];exact bL))];exact e
end
end DictP
namespace DictP
open PySem PySem.Spec PyProof.Rows L2
set_option maxRecDepth 100000
section
variable {prog:Program}{w:World}{A:Around}{E:Value->Shared->Prop}{s:Shared}
def of_pairs {l:Addr}{items:Array Value}{nl:Nat}{sl:Array (Option Value)}{kvs:List (Key×Value)}{Q:Value->Shared->Prop}(hh:A.handled=none)(hl:s.heap.get? l=some { cls:=.type "list",dict:=none,data:=.seq items nl,slots:=sl })
  (hnd:(kvs.map (·.1)).Nodup) (hlen:items.size=kvs.length) (hz:kvs.length<=sizeLine)
  (hit:∀(i:Nat) v,items[i]?=some v->∃ tp key k val,v=.ref tp/\s.heap.IsTuple tp (List.toArray [key,val])/\(cb prog w).is k key=true/\kvs[i]?=some (k,val))
  (q:∀ h' tk,h'.DictOf (cb prog w) s.heap.objs.size kvs->(∀ b o,s.heap.get? b=some o->h'.get? b=some o)->Q (.ref s.heap.objs.size) { s with heap:=h',toks:=tk }) :
  wpAny (model prog w) A (call (.type "dict") [.ref l]) Q E s:=by
 refine callType_codes (Q₁:=λobj s₁=>obj=.ref s.heap.objs.size/\s₁={ s with heap:=s.heap.push { cls:=.type "dict",data:=.dict (List.toArray []) } }) F.kt_called_dict (F.kt_typeCall_dict_1 _) F.entry_dict_init (kt_code_dict_new _ #[rfl,rfl]) ?_;rintro obj s₁ ⟨rfl,rfl⟩;have hnew:(s.heap.push { cls:=.type "dict",data:=.dict (List.toArray []) }).DictOf (cb prog w) s.heap.objs.size []:=Heap.DictOf.new s.heap;have hl1:=bD { cls:=.type "dict",data:=.dict (List.toArray []) } hl;have hkp:∀ b o,s.heap.get? b=some o->(s.heap.push { cls:=.type "dict",data:=.dict (List.toArray []) }).get? b=some o:=λb o e=>bD _ e;have hds:s.heap.objs.size<(s.heap.push { cls:=.type "dict",data:=.dict (List.toArray []) }).objs.size:=by
  rw[Heap.size_push];exact Nat.lt_succ_self _
 have hlS:l<s.heap.objs.size:=aZ hl;refine #[hnew.typeIs,F.args_dict_init_2 _ _,?_];generalize s.heap.push { cls:=.type "dict",data:=.dict (List.toArray []) }=h1 at hnew hl1 hkp hds ⊢;unfold Builtin.«dict.__init__»;refine aA ?_;unfold Builtin.Dict.selfAndRest;refine aA (wpAny_notOrdered_dict hnew.typeIs ?_);show wpAny _ _ (pure (s.heap.objs.size,[Value.ref l])) _ _ _;refine bg ?_;show wpAny _ _ (Builtin.Dict.updateFrom "dict.__init__" s.heap.objs.size (.ref l) [] .none) _ _ _;unfold Builtin.Dict.updateFrom;refine aA (wpAny_typeOf (T := "list") #[_,hl1,rfl] ?_);rw[ar (by decide)];refine aA (Ic (A:=_) hh hl1 λh2 t2 k2=>?_);rw[ar (show (none:Option Value).isNone=true from rfl)];refine aA (wpAny_rule (aA ?_));have hl2:=k2 _ _ hl1;have hL2:h2.IsList l items:=#[_,hl2,rfl,nl,rfl];refine wpAny_pyIter_list (s:=#[h2,s.gens,s.drawn,t2,s.os]) hL2 ?_;refine bg #[plainId_quiet oG _,?_];have hd2:h2.DictOf (cb prog w) s.heap.objs.size []:=by
  obtain ⟨o,es,ep,ho,r⟩:=hnew;exact #[o,es,ep,k2 _ _ ho,r]
 have hdlt:s.heap.objs.size<h2.objs.size:=by
  obtain ⟨o,es,ep,ho,r⟩:=hd2;exact aZ ho
 have hne:l≠h2.objs.size:=bX (Nat.lt_trans hlS hdlt);have h3:A.in1.in1.handled=none:=by simp[hh]
 refine Ig (h0:=s.heap) ((Walks.list h3 _ l hne items).toS) s.heap.objs.size (λz=>?_) .none kvs hlen hnd (λi v hv=>?_) hz items.size 0 _ 0 (by lia) (cS _) #[#[_,cV _ rfl,rfl,rfl],hL2.push _] (λb o n1 n2 e=>bD _ (k2 _ _ (hkp _ _ e))) ?_ λs' hm hd'=>?_
 .simp only[bq,dq,or_false]at z;rcases z with z|z
  .exact absurd hdlt (by rw[<-z];exact dP _)
  .exact absurd hlS (by rw[<-z];exact dP _)
 .obtain ⟨tp,key,k,val,e1,e2,e3,e4⟩:=hit i v hv;have htp:tp<s.heap.objs.size:=by
   obtain ⟨ot,o1,_⟩:=e2;exact aZ o1
  refine #[tp,key,k,val,e1,bX htp,λz=>?_,e2,e3,e4];rw[a0.mp z]at htp;exact absurd (Nat.lt_trans htp hdlt) (dP _)
 .rw[nW];exact hd2.push _
 .refine #[rfl,?_];rw[Moved.eq_with hm];refine q s'.heap s'.toks hd' λb o e=>hm.heap b o (λz=>?_) (bD _ (k2 _ _ (hkp _ _ e)));have hb:=aZ e;simp only[bq,dq,or_false]at z;rcases z with z|z
  .rw[z]at hb;exact absurd hb (dP _)
  .rw[z]at hb;exact absurd (Nat.lt_trans hb hdlt) (dP _)
end
end DictP
namespace L2
open PySem PySem.Spec PyProof.Rows
inductive BV (K:Frag)(xs:List V)(H:Hp)(Q:VK):Prop
 | c:∀(p:Addr) (zs:List V) (kvs:List (Key×V)),xs=[.ref p]->SqL K H p zs->Paired (λ(z:V) (kv:Key×V)=>∃ b,z=.ref b/\H b=some (.tup [kV kv.1,kv.2])) zs kvs->(kvs.map (·.1)).Nodup->(∀ d,H d=none->Q (.ref d) (upd H d (.dK kvs)))->BV K xs H Q
section
variable {X:Cx}
def BW (I:Inv X OG U H s):∀{zs:List V} {kvs:List (Key×V)} {us:List Value},Paired (λ(z:V) (kv:Key×V)=>∃ b,z=.ref b/\H b=some (.tup [kV kv.1,kv.2])) zs kvs->Vals zs us->
  ∃ ks:List (Key×Value),KV kvs ks/\∀(i:Nat) v,us[i]?=some v->∃ tp key k val,v=.ref tp/\s.heap.IsTuple tp (List.toArray [key,val])/\(cb X.prog X.w).is k key=true/\ks[i]?=some (k,val)
 | _,_,_,.nil,.nil=>#[[],.nil,λi v h=>by simp at h]
 | _::_,kv::_,_::_,.cons ⟨b,e1,e2⟩ t,.cons r q=>by
  subst e1;obtain ⟨ks,h1,h2⟩:=BW I t q;cases r
  obtain ⟨its,rv,p,_⟩:=I.tuple (SqT.of e2);cases rv with
  | cons r1 rv=>
   cases rv with
   | cons r2 rv=>
    cases rv
    refine #[(kv.1,_)::ks,.cons #[rfl,r2] h1,λi v hv=>?_];cases i with
    | zero=>
     simp only[List.getElem?_cons_zero,Option.some.injEq]at hv;subst hv;exact #[b,_,kv.1,_,rfl,p,jV r1,rfl]
    | succ i=>
     rw[lE]at hv ⊢;exact h2 i v hv
def BX:∀{kvs:List (Key×V)} {ks:List (Key×Value)},KV kvs ks->ks.map (·.1)=kvs.map (·.1)
 | _,_,.nil=>rfl
 | _,_,.cons r t=>by
  rw[bK,bK,BX t,r.1]
def Ih (hc:X.calm=true):cT X (.type "dict") (BV X.K):=by
 intro OG s U H xs us Q I r h;obtain ⟨p,zs,kvs,rfl,hq,hp,hn,q⟩:=h;obtain ⟨u,rfl,rx⟩:=d4 r;cases rx
 obtain ⟨its,rv,pl,hz⟩:=I.list hq;obtain ⟨ks,hk,hit⟩:=BW I hp rv;have l1:=Paired.length hp;have l2:=rv.length;have l3:=Paired.length hk;obtain ⟨⟨oc,od,oda,osl⟩,n,e,e1,e2,e3⟩:=pl;simp only at e1 e2 e3;subst e1 e2 e3;refine DictP.of_pairs (kvs:=ks) (I.ok.hd hc) e (by rw[BX hk];exact hn) (by rw[bP];lia) (by lia) (λi v hv=>hit i v (by simpa using hv)) λh' tk hd k=>?_;exact #[.ref s.heap.objs.size,_,I.laid (a:=s.heap.objs.size) (o:=.dK kvs) (t':=tk) k (av _) #[by lia,beq_eq_false_iff_ne.mpr (bE (bX I.big)),ks,hk,hd],rfl,q _ (I.hok.fresh (av _))]
end
end L2
namespace Kas
open PySem PySem.W PyProof.Rows
def run {α:Type}(f:Nat->Nat->Bool):KasT α->α
 | .ret a=>a
 | .ask i j k=>run f (k (f i j))
def j6 {α β:Type}(f:Nat->Nat->Bool)(g:α->KasT β):∀ t:KasT α,run f (t.bind g)=run f (g (run f t))
 | .ret _=>rfl
 | .ask i j k=>j6 f g (k (f i j))
def Res {α:Type}(n:Nat)(P:α->Prop):KasT α->Prop
 | .ret a=>P a
 | .ask i j k=>i<n/\j<n/\∀ b,Res n P (k b)
def Res.bind {α β:Type}{n:Nat}{P:α->Prop}{P':β->Prop}{g:α->KasT β}(h2:∀ a,P a->Res n P' (g a)):∀{t:KasT α},Res n P t->Res n P' (t.bind g)
 | .ret a,h=>h2 a h
 | .ask _ _ _,h=>#[h.1,h.2.1,λb=>Res.bind h2 (h.2.2 b)]
def Res.run {α:Type}{n:Nat}{P:α->Prop}(f:Nat->Nat->Bool):∀{t:KasT α},Res n P t->P (Kas.run f t)
 | .ret _,h=>h
 | .ask i j k,h=>Res.run (t:=k (f i j)) f (h.2.2 (f i j))
def wp_of {α:Type}{n:Nat}{P:α->Prop}{f:Nat->Nat->Bool}{cmp:Nat->Nat->(Bool->Shared->Prop)->Shared->Prop}{Q:α->Shared->Prop}{s:Shared}(hc:∀ i j C,i<n->j<n->C (f i j) s->cmp i j C s):∀{t:KasT α},Res n P t->Q (Kas.run f t) s->t.kasWp cmp Q s
 | .ret _,_,q=>q
 | .ask i j _,h,q=>hc i j _ h.1 h.2.1 (wp_of hc (h.2.2 (f i j)) q)
def Good (n:Nat)(p:Array Nat):Prop:=p.Perm (List.range n).toArray
def Good.size {n:Nat}{p:Array Nat}(h:Good n p):p.size=n:=by
 have:=h.size_eq;simpa using this
def Good.lt {n:Nat}{p:Array Nat}(h:Good n p)(hn:0<n)(k:Nat):p.getD k 0<n:=by
 by_cases c:k<p.size
 .have e:p.getD k 0=p[k]:=by simp[Array.getD,c]
  rw[e];have hm:p[k]∈(List.range n).toArray:=h.mem_iff.mp (Array.getElem_mem c);simpa using hm
 .have e:p.getD k 0=0:=by simp[Array.getD,c]
  rw[e];exact hn
def Good.rev {n:Nat}{p:Array Nat}(h:Good n p)(i j:Nat):Good n (kas_rev p i j):=(mirror_perm p i j _).trans h
def Good.bub {n:Nat}{p:Array Nat}(h:Good n p)(i j:Nat):Good n (bubble p i j):=(bubble_perm p i j).trans h
section
variable {n:Nat}(hn:0<n)
include hn
def vf (h:Good n p):∀(f m:Nat),Res n (λ_=>True) (kas_asc p f m)
 | 0,_=>trivial
 | f+1,m=>#[h.lt hn _,h.lt hn _,λb=>by
  cases b with
  | true=>exact trivial
  | false=>exact vf h f (m+1)]
def oH:∀(f:Nat) {p:Array Nat} (m q:Nat),Good n p->Res n (λr:Array Nat×Nat×Nat=>Good n r.1) (kas_desc f p m q)
 | 0,_,_,_,h=>h
 | f+1,p,m,q,h=>#[h.lt hn _,h.lt hn _,λb=>by
  cases b with
  | true=>
   show Res n _ (if q>0 then kas_desc f (kas_rev p (m-(q+1)) m) (m+1) 0 else kas_desc f p (m+1) 0)
   split
   .exact oH f _ _ (h.rev _ _)
   .exact oH f _ _ h
  | false=>
   refine #[h.lt hn _,h.lt hn _,λc=>?_];cases c with
   | true=>exact h
   | false=>exact oH f _ _ h]
def BY (h:Good n p)(m r:Nat):Res n (λx:Nat×Array Nat=>Good n x.2) (kas_tail3 m r p):=by
 refine Res.bind (λa _=>?_) (vf hn (h.rev 0 m) (r-m) m);exact h.rev _ _
def BZ (h:Good n p)(m r:Nat):Res n (λx:Nat×Array Nat=>Good n x.2) (kas_descPart m r p):=by
 refine Res.bind (λa ha=>?_) (oH hn _ _ _ h);show Res n _ (if a.2.2>0 then _ else _)
 split
 .exact BY hn (Good.rev ha _ _) _ _
 .exact BY hn ha _ _
def B0 (h:Good n p)(r:Nat):Res n (λx:Nat×Array Nat=>Good n x.2) (kas_count r p):=by
 refine Res.bind (λa _=>?_) (vf hn h _ _);show Res n _ (if (a==r)=true then _ else if a>1 then _ else _)
 split
 .exact h
 .split
  .refine #[h.lt hn _,h.lt hn _,λb=>?_];cases b with
   | true=>exact h
   | false=>exact BZ hn (h.rev _ _) _ _
  .exact BZ hn h _ _
def vg (h:Good n p)(k:Nat):∀(f l r:Nat),Res n (λ_=>True) (kas_place p k f l r)
 | 0,_,_=>trivial
 | f+1,l,r=>by
  show Res n _ (if l >= r then _ else _)
  split
  .exact trivial
  .refine #[h.lt hn _,h.lt hn _,λb=>?_];cases b with
   | true=>exact vg h k f _ _
   | false=>exact vg h k f _ _
def B5:∀(f:Nat) {p:Array Nat} (k:Nat),Good n p->Res n (Good n) (kas_bin f p k)
 | 0,_,_,h=>h
 | f+1,_,k,h=>Res.bind (λ_ _=>B5 f _ (h.bub _ _)) (vg hn h k _ _ _)
def sort_res:Res n (Good n) (kas_sort n):=by
 refine Res.bind (λa ha=>?_) (B0 hn (p:=(List.range n).toArray) (Array.Perm.refl _) n);show Res n _ (if a.1<n then _ else _)
 split
 .exact B5 hn _ _ ha
 .exact ha
end
structure Ord (f:Nat->Nat->Bool):Prop where
 irr:∀ a,f a a=false
 tr:∀ a b c,f a b=true->f b c=true->f a c=true
 neg:∀ a b c,f a c=true->f a b=true\/f b c=true
def Up (f:Nat->Nat->Bool)(p:Array Nat)(k:Nat):Prop:=∀ i j,i<j->j<k->f (p.getD j 0) (p.getD i 0)=false
def Down (f:Nat->Nat->Bool)(p:Array Nat)(k:Nat):Prop:=∀ i j,i<j->j<k->f (p.getD i 0) (p.getD j 0)=false
section
variable {f:Nat->Nat->Bool}(O:Ord f)
include O
def not_lt {a b c:Nat}(h1:f a b=false)(h2:f b c=false):f a c=false:=by
 cases e:f a c with
 | false=>rfl
 | true=>
  rcases O.neg a b c e with z|z
  .rw[h1]at z;cases z
  .rw[h2]at z;cases z
def asym {a b:Nat}(h:f a b=true):f b a=false:=by
 cases e:f b a with
 | false=>rfl
 | true=>
  have:=O.tr a b a h e;rw[O.irr]at this;cases this
def Ii {p:Array Nat}{m:Nat}(h1:1<=m)(h:Up f p m)(e:f (p.getD m 0) (p.getD (m-1) 0)=false):Up f p (m+1):=λi j hij hj=>by
 by_cases c:j<m
 .exact h i j hij c
 .have:j=m:=by lia
  subst this;by_cases ci:i=j-1
  .rw[ci];exact e
  .exact not_lt O e (h i (j-1) (by lia) (by lia))
def vh {p:Array Nat}:∀(fu m:Nat),1<=m->Up f p m->Up f p (run f (kas_asc p fu m))/\m<=run f (kas_asc p fu m)/\run f (kas_asc p fu m)<=m+fu/\(run f (kas_asc p fu m)<m+fu->f (p.getD (run f (kas_asc p fu m)) 0) (p.getD (run f (kas_asc p fu m)-1) 0)=true)
 | 0,m,_,h=>#[h,av _,av _,λz=>absurd z (by show ¬ m<m+0;lia)]
 | fu+1,m,h1,h=>by
  have step:run f (kas_asc p (fu+1) m)=if f (p.getD m 0) (p.getD (m-1) 0)=true then m else run f (kas_asc p fu (m+1)):=by
   show run f (if f (p.getD m 0) (p.getD (m-1) 0)=true then .ret m else kas_asc p fu (m+1))=_
   split<;>rfl
  rw[step];cases e:f (p.getD m 0) (p.getD (m-1) 0) with
  | true=>exact #[h,av _,by rw[ar rfl];lia,λ_=>e]
  | false=>
   rw[az (by decide)];obtain ⟨a1,a2,a3,a4⟩:=vh fu (m+1) (by lia) (Ii O h1 h e);exact #[a1,by lia,by lia,λz=>a4 (by lia)]
def vi {p:Array Nat}{k:Nat}(h:Up f p k):∀(fu l r:Nat),l<=r->r<=k->r-l<=fu->(∀ i,i<l->f (p.getD k 0) (p.getD i 0)=false)->(∀ i,r<=i->i<k->f (p.getD k 0) (p.getD i 0)=true)->
  run f (kas_place p k fu l r)<=k/\(∀ i,i<run f (kas_place p k fu l r)->f (p.getD k 0) (p.getD i 0)=false)/\(∀ i,run f (kas_place p k fu l r)<=i->i<k->f (p.getD k 0) (p.getD i 0)=true)
 | 0,l,r,h1,h2,h3,h4,h5=>#[by show l<=k;lia,h4,λi hi=>h5 i (by have:l<=i:=hi;lia)]
 | fu+1,l,r,h1,h2,h3,h4,h5=>by
  by_cases c:l >= r
  .have e:run f (kas_place p k (fu+1) l r)=l:=by
    show run f (if l >= r then _ else _)=l
    rw[ar c];rfl
   rw[e];exact #[by lia,h4,λi hi=>h5 i (by lia)]
  .have e:run f (kas_place p k (fu+1) l r)=if f (p.getD k 0) (p.getD ((l+r)/2) 0)=true then run f (kas_place p k fu l ((l+r)/2)) else run f (kas_place p k fu ((l+r)/2+1) r):=by
    show run f (if l >= r then _ else _)=_
    rw[az c];show run f (if f (p.getD k 0) (p.getD ((l+r)/2) 0)=true then _ else _)=_
    split<;>rfl
   rw[e];cases e2:f (p.getD k 0) (p.getD ((l+r)/2) 0) with
   | true=>
    rw[ar rfl];refine vi h fu l _ (by lia) (by lia) (by lia) h4 λi hi hk=>?_;by_cases ci:i=(l+r)/2
    .rw[ci];exact e2
    .rcases O.neg _ (p.getD i 0) _ e2 with z|z
     .exact z
     .rw[h _ i (by lia) hk]at z;cases z
   | false=>
    rw[az (by decide)];refine vi h fu _ r (by lia) h2 (by lia) (λi hi=>?_) h5;by_cases ci:i=(l+r)/2
    .rw[ci];exact e2
    .exact not_lt O e2 (h i _ (by lia) (by lia))
omit O in
def gd (q:Array Nat)(x:Nat):q.getD x 0=(q[x]?).getD 0:=by
 by_cases h:x<q.size
 .simp[Array.getD,h]
 .simp[Array.getD,h]
omit O in
def B6 {p:Array Nat}{k d:Nat}(hk:k<p.size)(hd:d<=k)(j:Nat):(bubble p k d).getD j 0=if j=k-d then p.getD k 0 else if k-d<j/\j<=k then p.getD (j-1) 0 else p.getD j 0:=by
 rw[gd,getElem?_bubble hk d hd j,gd p k,gd p (j-1),gd p j];split
 .rfl
 .split<;>rfl
def Ij {p:Array Nat}{k l:Nat}(hk:k<p.size)(h:Up f p k)(hl:l<=k)(h1:∀ i,i<l->f (p.getD k 0) (p.getD i 0)=false)(h2:∀ i,l<=i->i<k->f (p.getD k 0) (p.getD i 0)=true):Up f (bubble p k (k-l)) (k+1):=λi j hij hj=>by
 rw[B6 hk (by lia),B6 hk (by lia),show k-(k-l)=l by lia];by_cases cj:j=l
 .rw[ar cj,az (by lia),az (by lia)];exact h1 i (by lia)
 .rw[az cj];by_cases cj2:l<j/\j<=k
  .rw[ar cj2];by_cases ci:i=l
   .rw[ar ci];exact asym O (h2 (j-1) (by lia) (by lia))
   .rw[az ci];by_cases ci2:l<i/\i<=k
    .rw[ar ci2];exact h (i-1) (j-1) (by lia) (by lia)
    .rw[az ci2];exact h i (j-1) (by lia) (by lia)
  .rw[az cj2,az (by lia),az (by lia)];exact h i j hij (by lia)
def B7:∀(fu:Nat) {p:Array Nat} (k:Nat),k+fu<=p.size->Up f p k->Up f (run f (kas_bin fu p k)) (k+fu)
 | 0,_,_,_,h=>h
 | fu+1,p,k,hz,h=>by
  have e:run f (kas_bin (fu+1) p k)=run f (kas_bin fu (bubble p k (k-run f (kas_place p k k 0 k))) (k+1)):=j6 f _ _;rw[e];obtain ⟨a1,a2,a3⟩:=vi O h k 0 k (cS _) (av _) (by lia) (λi hi=>absurd hi (iY _)) (λi hi hk=>absurd hk (by lia));have:=B7 fu (k+1) (by rw[bubble_size];lia) (Ij O (by lia) h a1 a2 a3);rw[show k+(fu+1)=k+1+fu by lia];exact this
omit O in
def iq {p:Array Nat}{i j:Nat}(hj:j<=p.size)(k:Nat):(kas_rev p i j).getD k 0=if i<=k/\k<j then p.getD (i+j-1-k) 0 else p.getD k 0:=by
 unfold kas_rev;rw[gd,getElem?_mirror_all hj k,gd p (i+j-1-k),gd p k];split<;>rfl
omit O in
def oI (p:Array Nat)(i j:Nat):(kas_rev p i j).size=p.size:=mirror_size _ _ _ _
omit O in
def Ik {p:Array Nat}{m:Nat}(hm:m<=p.size)(h:Down f p m):Up f (kas_rev p 0 m) m:=λi j hij hj=>by
 rw[iq hm,iq hm,ar (by lia),ar (by lia)];exact h _ _ (by lia) (by lia)
def mi (f:Nat->Nat->Bool)(p:Array Nat)(m q:Nat):Prop:=∀ i j,m-(q+1)<=i->i<m->m-(q+1)<=j->j<m->f (p.getD i 0) (p.getD j 0)=false
omit O in
def B8 {p:Array Nat}{m q:Nat}(hm:m<=p.size)(hq:q+1<=m)(h:Down f p m)(hA:mi f p m q):Down f (kas_rev p (m-(q+1)) m) m:=λi j hij hj=>by
 rw[iq hm,iq hm];by_cases ci:m-(q+1)<=i/\i<m
 .rw[ar ci,ar (by lia)];exact hA _ _ (by lia) (by lia) (by lia) (by lia)
 .rw[az ci];split
  .exact h _ _ (by lia) (by lia)
  .exact h _ _ (by lia) (by lia)
def vj {m:Nat}(h1:1<=m)(h:Down f p m)(e:f (p.getD (m-1) 0) (p.getD m 0)=false):Down f p (m+1):=λi j hij hj=>by
 by_cases c:j<m
 .exact h i j hij c
 .have:j=m:=by lia
  subst this;by_cases ci:i=j-1
  .rw[ci];exact e
  .exact not_lt O (h i (j-1) (by lia) (by lia)) e
def oJ:∀(fu:Nat) {p:Array Nat} (m q:Nat),q+1<=m->m+fu<=p.size->Down f p m->mi f p m q->
  m<=(run f (kas_desc fu p m q)).2.1/\(run f (kas_desc fu p m q)).2.1<=m+fu/\(run f (kas_desc fu p m q)).2.2+1<=(run f (kas_desc fu p m q)).2.1/\(run f (kas_desc fu p m q)).1.size=p.size/\Down f (run f (kas_desc fu p m q)).1 (run f (kas_desc fu p m q)).2.1/\mi f (run f (kas_desc fu p m q)).1 (run f (kas_desc fu p m q)).2.1 (run f (kas_desc fu p m q)).2.2
 | 0,p,m,q,hq,hz,h,hA=>#[av _,av _,hq,rfl,h,hA]
 | fu+1,p,m,q,hq,hz,h,hA=>by
  have one:∀{p':Array Nat},mi f p' (m+1) 0:=λ{p'} i j a b c d=>by
   have:i=j:=by lia
   subst this;exact O.irr _
  cases e:f (p.getD m 0) (p.getD (m-1) 0) with
  | true=>
   have st:run f (kas_desc (fu+1) p m q)=run f (if q>0 then kas_desc fu (kas_rev p (m-(q+1)) m) (m+1) 0 else kas_desc fu p (m+1) 0):=by
    show run f (if f (p.getD m 0) (p.getD (m-1) 0)=true then _ else _)=_
    rw[e,ar rfl]
   rw[st];by_cases cq:q>0
   .rw[ar cq];have hD:=B8 (by lia) hq h hA;have hl:f ((kas_rev p (m-(q+1)) m).getD (m-1) 0) ((kas_rev p (m-(q+1)) m).getD m 0)=false:=by
     rw[iq (by lia),iq (by lia),ar (by lia),az (by lia)];exact not_lt O (hA _ (m-1) (by lia) (by lia) (by lia) (by lia)) (asym O e)
    obtain ⟨b1,b2,b3,b4,b5,b6⟩:=oJ fu (p:=kas_rev p (m-(q+1)) m) (m+1) 0 (by lia) (by rw[oI];lia) (vj O (by lia) hD hl) one;exact #[by lia,by lia,b3,by rw[b4,oI],b5,b6]
   .rw[az cq];obtain ⟨b1,b2,b3,b4,b5,b6⟩:=oJ fu (p:=p) (m+1) 0 (by lia) (by lia) (vj O (by lia) h (asym O e)) one;exact #[by lia,by lia,b3,b4,b5,b6]
  | false=>
   have st:run f (kas_desc (fu+1) p m q)=if f (p.getD (m-1) 0) (p.getD m 0)=true then (p,m,q) else run f (kas_desc fu p (m+1) (q+1)):=by
    show run f (if f (p.getD m 0) (p.getD (m-1) 0)=true then _ else _)=_
    rw[e,az (by decide)];show run f (if f (p.getD (m-1) 0) (p.getD m 0)=true then _ else _)=_
    split<;>rfl
   rw[st];cases e2:f (p.getD (m-1) 0) (p.getD m 0) with
   | true=>
    rw[ar rfl];exact #[av _,by show m<=_;lia,hq,rfl,h,hA]
   | false=>
    rw[az (by decide)];have hA2:mi f p (m+1) (q+1):=λi j a b c d=>by
     by_cases ci:i=m
     .by_cases cj:j=m
      .rw[ci,cj];exact O.irr _
      .rw[ci];exact not_lt O e (hA (m-1) j (by lia) (by lia) (by lia) (by lia))
     .by_cases cj:j=m
      .rw[cj];exact not_lt O (hA i (m-1) (by lia) (by lia) (by lia) (by lia)) e2
      .exact hA i j (by lia) (by lia) (by lia) (by lia)
    obtain ⟨b1,b2,b3,b4,b5,b6⟩:=oJ fu (p:=p) (m+1) (q+1) (by lia) (by lia) (vj O (by lia) h e2) hA2;exact #[by lia,by lia,b3,b4,b5,b6]
def B9 {p:Array Nat}{m r:Nat}(h1:1<=m)(hm:m<=r)(hr:r<=p.size)(h:Down f p m):m<=(run f (kas_tail3 m r p)).1/\(run f (kas_tail3 m r p)).1<=r/\Up f (run f (kas_tail3 m r p)).2 (run f (kas_tail3 m r p)).1:=by
 have e:run f (kas_tail3 m r p)=(run f (kas_asc (kas_rev p 0 m) (r-m) m),kas_rev p 0 m):=j6 f _ _;rw[e];obtain ⟨a1,a2,a3,_⟩:=vh O (p:=kas_rev p 0 m) (r-m) m h1 (Ik (by lia) h);exact #[a2,by show run f _<=r;lia,a1]
def Ca {p:Array Nat}{m r:Nat}(h1:1<=m)(hm:m+1<=r)(hr:r<=p.size)(h:Down f p (m+1)):1<=(run f (kas_descPart m r p)).1/\(run f (kas_descPart m r p)).1<=r/\Up f (run f (kas_descPart m r p)).2 (run f (kas_descPart m r p)).1:=by
 have e:run f (kas_descPart m r p)=run f (if (run f (kas_desc (r-(m+1)) p (m+1) 0)).2.2>0 then kas_tail3 (run f (kas_desc (r-(m+1)) p (m+1) 0)).2.1 r (kas_rev (run f (kas_desc (r-(m+1)) p (m+1) 0)).1 ((run f (kas_desc (r-(m+1)) p (m+1) 0)).2.1-((run f (kas_desc (r-(m+1)) p (m+1) 0)).2.2+1)) (run f (kas_desc (r-(m+1)) p (m+1) 0)).2.1) else kas_tail3 (run f (kas_desc (r-(m+1)) p (m+1) 0)).2.1 r (run f (kas_desc (r-(m+1)) p (m+1) 0)).1):=j6 f _ _
 rw[e];obtain ⟨b1,b2,b3,b4,b5,b6⟩:=oJ O (r - (m+1)) (p:=p) (m+1) 0 (by lia) (by lia) h (λi j a b c d=>by
  have:i=j:=by lia
  subst this;exact O.irr _)
 generalize run f (kas_desc (r-(m+1)) p (m+1) 0)=t at b1 b2 b3 b4 b5 b6;split
 .obtain ⟨c1,c2,c3⟩:=B9 O (p:=kas_rev t.1 (t.2.1-(t.2.2+1)) t.2.1) (m:=t.2.1) (r:=r) (by lia) (by lia) (by rw[oI,b4];exact hr) (B8 (by rw[b4];lia) b3 b5 b6);exact #[by lia,c2,c3]
 .obtain ⟨c1,c2,c3⟩:=B9 O (p:=t.1) (m:=t.2.1) (r:=r) (by lia) (by lia) (by rw[b4];exact hr) b5;exact #[by lia,c2,c3]
def Il {p:Array Nat}{r:Nat}(h1:1<=r)(hr:r<=p.size):1<=(run f (kas_count r p)).1/\(run f (kas_count r p)).1<=r/\Up f (run f (kas_count r p)).2 (run f (kas_count r p)).1:=by
 obtain ⟨a1,a2,a3,a4⟩:=vh O (p:=p) (r-1) 1 (av _) (λi j hij hj=>absurd hj (by lia));have e:run f (kas_count r p)=run f (if (run f (kas_asc p (r-1) 1)==r)=true then .ret (run f (kas_asc p (r-1) 1),p) else if run f (kas_asc p (r-1) 1)>1 then .ask (p.getD 0 0) (p.getD (run f (kas_asc p (r-1) 1)-1) 0) λc=>if c=true then .ret (run f (kas_asc p (r-1) 1),p) else kas_descPart (run f (kas_asc p (r-1) 1)) r (kas_rev p 0 (run f (kas_asc p (r-1) 1))) else kas_descPart (run f (kas_asc p (r-1) 1)) r p):=j6 f _ _
 rw[e];generalize run f (kas_asc p (r-1) 1)=m at a1 a2 a3 a4;by_cases c:m=r
 .subst c;rw[ar (by simp)];exact #[a2,av _,a1]
 .rw[az (by simpa using c)];have hlt:=a4 (by lia);by_cases c1:m>1
  .rw[ar c1];cases e2:f (p.getD 0 0) (p.getD (m-1) 0) with
   | true=>
    have st:run f (.ask (p.getD 0 0) (p.getD (m-1) 0) λc=>if c=true then .ret (m,p) else kas_descPart m r (kas_rev p 0 m))=(m,p):=by
     show run f (if f (p.getD 0 0) (p.getD (m-1) 0)=true then _ else _)=_
     rw[e2,ar rfl];rfl
    rw[st];exact #[a2,by show m<=r;lia,a1]
   | false=>
    have st:run f (.ask (p.getD 0 0) (p.getD (m-1) 0) λc=>if c=true then .ret (m,p) else kas_descPart m r (kas_rev p 0 m))=run f (kas_descPart m r (kas_rev p 0 m)):=by
     show run f (if f (p.getD 0 0) (p.getD (m-1) 0)=true then _ else _)=_
     rw[e2,az (by decide)]
    rw[st];have low:∀ i,i<m->f (p.getD i 0) (p.getD 0 0)=false:=λi hi=>by
     by_cases ci:i=0
     .rw[ci];exact O.irr _
     .exact a1 0 i (by lia) hi
    have high:∀ j,j<m->f (p.getD (m-1) 0) (p.getD j 0)=false:=λj hj=>by
     by_cases cj:j=m-1
     .rw[cj];exact O.irr _
     .exact a1 j (m-1) (by lia) (by lia)
    have all:∀ i j,i<m->j<m->f (p.getD i 0) (p.getD j 0)=false:=λi j hi hj=>not_lt O (low i hi) (not_lt O e2 (high j hj));refine Ca O a2 (by lia) (by rw[oI];exact hr) λi j hij hj=>?_;rw[iq (by lia),iq (by lia),ar (by lia)];by_cases cj:j<m
    .rw[ar (by lia)];exact all _ _ (by lia) (by lia)
    .rw[az (by lia),show j=m by lia];exact not_lt O (all _ (m-1) (by lia) (by lia)) (asym O hlt)
  .rw[az c1];have hm1:m=1:=by lia
   subst hm1;refine Ca O (av _) (by lia) hr λi j hij hj=>?_;rw[show i=0 by lia,show j=1 by lia];exact asym O hlt
def sort_run {n:Nat}(hn:0<n):Up f (run f (kas_sort n)) n/\Good n (run f (kas_sort n)):=by
 refine #[?_,(sort_res hn).run f];obtain ⟨a1,a2,a3⟩:=Il O (p:=(List.range n).toArray) (r:=n) hn (by simp);have g:=(B0 hn (p:=(List.range n).toArray) (Array.Perm.refl _) n).run f;have e:run f (kas_sort n)=run f (if (run f (kas_count n (List.range n).toArray)).1<n then kas_bin (n-max (run f (kas_count n (List.range n).toArray)).1 1) (run f (kas_count n (List.range n).toArray)).2 (max (run f (kas_count n (List.range n).toArray)).1 1) else .ret (run f (kas_count n (List.range n).toArray)).2):=j6 f _ _
 rw[e];generalize run f (kas_count n (List.range n).toArray)=t at a1 a2 a3 g;have hs:=Good.size g;rw[Nat.max_eq_left a1];split
 .have:=B7 O (n-t.1) (p:=t.2) t.1 (by lia) a3;rw[show t.1+(n-t.1)=n by lia]at this;exact this
 .show Up f t.2 n;rw[show n=t.1 by lia];exact a3
end
end Kas
namespace Tim
open PySem PySem.W PyProof.Rows
section
variable {prog:Program}{w:World}{A:Around}{E:Value->Shared->Prop}{s:Shared}{κ:KeyKind}{kd:SortKind}
def Im {vs:List Value}(keys:∀ v∈vs,∃ k,κ.keyOf v=some k)(hO:LtG prog w A s κ kd)(h2:2<=vs.length)(h64:vs.length<64) :
  wpAny (model prog w) A (sortRuns'.run (SortSt.mk' kd (vs.toArray.zip vs.toArray) (List.toArray []) 7 none)) (λr s'=>s'=s/\(arrOf r.2).Perm (pairsOf vs)/\failedOf r.2=none/\Up κ (arrOf r.2) 0 (pairsOf vs).size) E s:=by
 obtain ⟨f,hf⟩:∃ f:Nat->Nat->Bool,f=λi j=>κ.blt (keyV κ (vs.getD i .none)) (keyV κ (vs.getD j .none)):=#[_,rfl];have O:Kas.Ord f:=by
  subst hf;exact #[λa=>κ.irrefl _,λa b c=>κ.trans _ _ _,λa b c=>κ.negTrans _ _ _]
 have hn:0<vs.length:=by lia
 have hk:∀ i,i<vs.length->κ.keyOf (vs.getD i .none)=some (keyV κ (vs.getD i .none)):=λi hi=>by
  have e:vs.getD i .none=vs[i]:=by rw[aF,aD hi];rfl
  obtain ⟨k,hk⟩:=keys _ (cJ hi);rw[e];unfold keyV;rw[hk];rfl
 refine kat_run (ks:=vs) rfl h2 h64 (Q:=λst' s'=>s'=s/\(arrOf st').Perm (pairsOf vs)/\failedOf st'=none/\Up κ (arrOf st') 0 (pairsOf vs).size) (G:=λp s'=>s'=s/\Kas.Up f p vs.length/\Kas.Good vs.length p) (λp st' s' hp har hfl hG=>#[hG.1,?_,hfl,?_]) (Kas.wp_of (n:=vs.length) (f:=f) (λi j C hi hj hC=>?_) (Kas.sort_res hn) #[rfl,Kas.sort_run O hn])
 .rw[har];have hm:(p.map (kas_item (vs.toArray.zip vs.toArray))).Perm ((List.range vs.length).toArray.map (kas_item (vs.toArray.zip vs.toArray))):=by
   have h1:=(tY.mp hG.2.2).map (kas_item (vs.toArray.zip vs.toArray));refine tY.mpr ?_;rw[Array.toList_map,Array.toList_map];exact h1
  have hr:=kas_range (vs.toArray.zip vs.toArray);rw[show (vs.toArray.zip vs.toArray).size=vs.length by simp]at hr;rw[hr]at hm;exact hm
 .intro i j _ hij hj;rw[pairsOf_size]at hj;have hat:∀ x,x<vs.length->kAt κ (arrOf st') x=keyV κ (vs.getD (p.getD x 0) .none):=λx hx=>by
   have hxp:x<p.size:=by lia
   rw[uB (by rw[har,Array.size_map];exact hxp)];have e:(arrOf st')[x]'(by rw[har,Array.size_map];exact hxp)=(vs.getD (p.getD x 0) .none,vs.getD (p.getD x 0) .none):=by
    have e1:(arrOf st')[x]?=some (kas_item (vs.toArray.zip vs.toArray) (p.getD x 0)):=by
     rw[har,Array.getElem?_map,Array.getElem?_eq_getElem hxp];show some (kas_item _ p[x])=_;have:p.getD x 0=p[x]:=by simp[Array.getD,hxp]
     rw[this]
    rw[kat_item rfl]at e1;exact (Array.getElem?_eq_some_iff.mp e1).2
   rw[e];rfl
  rw[hat i (by lia),hat j hj];by_cases c:i=j
  .subst c;exact KeyOrd.kle_refl _
  .have:=hG.2.1 i j (by lia) hj;subst hf;exact this
 .unfold kas_ask;subst hf;exact hO _ _ _ _ _ _ (hk i hi) (hk j hj) hC
def Io {a:Addr}{vs:List Value}{n:Nat}{P:Fin->Shared->Prop}(ho:s.heap.get? a=some (seqObj "list" vs.toArray n))(hz:vs.length<=sizeLine)(h64:vs.length<64)(keys:∀ v∈vs,∃ k,κ.keyOf v=some k)
  (hlt:∀ h',l6 a s.heap h'->LtG prog w A { s with heap:=h' } κ kd)
  (hkd:∀(h':Heap) (E:Value->Shared->Prop) (Q:SortKind->Shared->Prop),l6 a s.heap h'->2<=vs.length->Q kd { s with heap:=h' }->wpAny (model prog w) A (keyKind' vs.toArray) Q E { s with heap:=h' })
  (h:∀ out:List Value,out.Perm vs->out.Pairwise (λx y=>κ.kle (keyV κ x) (keyV κ y))->P (.done (.ret .none)) { s with heap:=sortedHeap s.heap a vs out.toArray }) :
  wpAny (model prog w) A (Builtin.«list.sort» #[[.ref a],[]]) P E s:=by
 rw[list_sort_plain];have hlt0:a<s.heap.objs.size:=aZ ho;refine aA (listItems_at ho rfl ?_);refine aA (listUpdate_at ho rfl ?_ (by simpa using hz) (cS _));obtain ⟨m,ho1⟩:∃ m,(s.heap.update a (Obj.mapSeq λ_=>(List.toArray []))).get? a=some (seqObj "list" (List.toArray []) m):=#[_,get?_update_seq ho (λ_=>(List.toArray []))];refine aA (seqEpoch_at ho1 rfl ?_);refine aA (wpAny_newTuple ?_ (by simpa using hz));refine aA (wpAny_newList ?_);refine wpAny_holding ?_;have z1:(s.heap.update a (Obj.mapSeq λ_=>(List.toArray []))).objs.size=s.heap.objs.size:=by rw[Heap.size_update]
 have hk:l6 a s.heap (((s.heap.update a (Obj.mapSeq λ_=>(List.toArray []))).push (seqObj "tuple" vs.toArray 0)).push (seqObj "list" (List.toArray []) 0)):=λb o hb e=>
  bD _ (bD _ ((iU _ _ (bE hb)).trans e))
 have ho6:(((s.heap.update a (Obj.mapSeq λ_=>(List.toArray []))).push (seqObj "tuple" vs.toArray 0)).push (seqObj "list" (List.toArray []) 0)).get? a=some (seqObj "list" (List.toArray []) m):=bD _ (bD _ ho1);show wpAny (model prog w) A _ P E { s with heap:=((s.heap.update a (Obj.mapSeq λ_=>(List.toArray []))).push (seqObj "tuple" vs.toArray 0)).push (seqObj "list" (List.toArray []) 0) };dsimp only;have fin:∀ st':SortSt,(arrOf st').Perm (pairsOf vs)->failedOf st'=none->Up κ (arrOf st') 0 (pairsOf vs).size->wpAny (model prog w) A (do
   let touched:=(<-seqEpoch a) != m
   Builtin.List.listUpdate (.ref a) λ_=>(arrOf st').map (·.2)
   if let some e:=failedOf st' then rule "list.sort.comparison-raised";throw e
   if touched then rule "list.sort.modified";raiseError "ValueError" "list modified during sort"
   ret .none) P E { s with heap:=((s.heap.update a (Obj.mapSeq λ_=>(List.toArray []))).push (seqObj "tuple" vs.toArray 0)).push (seqObj "list" (List.toArray []) 0) }:=λst' hp hf hU=>by
  refine aA (seqEpoch_at ho6 rfl ?_);refine aA (listUpdate_at ho6 rfl ?_ (cS _) (by
   refine cD (Nat.le_of_eq ((Array.size_map ..).trans (hp.size_eq.trans (pairsOf_size _)))) ?_;lia))
  rw[hf];simp only[bne_self_eq_false,tZ,if_false];obtain ⟨o1,o2⟩:=Gp hp hU;have:=h _ o1 o2;have e:((arrOf st').toList.map (·.2)).toArray=(arrOf st').map (·.2):=by rw[<-Array.toList_map,Array.toArray_toList]
  rw[e]at this;exact bg this
 by_cases h2:vs.toArray.size<2
 .rw[ar h2,ar h2];refine aA (bg ?_);rw[StateT.run_pure];refine aA (bg ?_);refine fin (SortSt.mk' general' (vs.toArray.zip vs.toArray) (List.toArray []) 7 none) (Array.Perm.refl _) rfl ?_;intro i j q1 q2 q3;have:i=j:=by
   rw[pairsOf_size]at q3;simp at h2;lia
  subst this;exact KeyOrd.kle_refl _
 .rw[az h2,az h2];have h2':2<=vs.length:=by
   simp at h2;lia
  refine aA (hkd _ _ _ hk h2' ?_);refine aA (dX (Im keys (hlt _ hk) h2' h64) ?_ λ_ _ e=>e);rintro ⟨⟨⟩,st'⟩ s' ⟨rfl,hp,hf,hs⟩;exact fin st' hp hf hs
def Ip {l:Addr}{vs:List Value}{Q:Value->Shared->Prop}(hl:∀{Q':List Value->Shared->Prop},Q' vs { s with heap:=(s.heap.push (seqObj "list" (List.toArray []) 0)).update s.heap.objs.size (Obj.mapSeq (· ++ vs.toArray)) }->wpAny (model prog w) A.in1 (collect (.ref l)) Q' E s)(hz:vs.length<=sizeLine)(h64:vs.length<64)(keys:∀ v∈vs,∃ k,κ.keyOf v=some k)
  (hlt:∀ h',(∀ b o,s.heap.get? b=some o->h'.get? b=some o)->LtG prog w A.in1.in1 { s with heap:=h' } κ kd)
  (hkd:∀(h':Heap) (E:Value->Shared->Prop) (Q:SortKind->Shared->Prop),(∀ b o,s.heap.get? b=some o->h'.get? b=some o)->2<=vs.length->Q kd { s with heap:=h' }->wpAny (model prog w) A.in1.in1 (keyKind' vs.toArray) Q E { s with heap:=h' })
  (h:∀(out:List Value) (h':Heap) (c:Nat),out.Perm vs->out.Pairwise (λx y=>κ.kle (keyV κ x) (keyV κ y))->(∀ b o,s.heap.get? b=some o->h'.get? b=some o)->
   h'.get? (s.heap.objs.size+1)=some (seqObj "list" out.toArray c)->Q (.ref (s.heap.objs.size+1)) { s with heap:=h' }) :
  wpAny (model prog w) A (call (.builtin "sorted") [.ref l]) Q E s:=by
 refine Calls.call_function_entry kind_sorted plain_sorted entry_sorted (args_sorted1 _) ?_;unfold Builtin.«sorted»;refine aA (m:=checkCount "sorted" 1 1 _) (bg ?_);refine aA (hl ?_);refine aA (wpAny_newList ?_ (by simpa using hz));have z1:((s.heap.push (seqObj "list" (List.toArray []) 0)).update s.heap.objs.size (Obj.mapSeq (· ++ vs.toArray))).objs.size=s.heap.objs.size+1:=by
  rw[Heap.size_update,size_push']
 have hn:(((s.heap.push (seqObj "list" (List.toArray []) 0)).update s.heap.objs.size (Obj.mapSeq (· ++ vs.toArray))).push (seqObj "list" vs.toArray 0)).get? (s.heap.objs.size+1)=some (seqObj "list" vs.toArray 0):=by
  rw[<-z1];exact cV _ rfl
 have hk:∀ b o,s.heap.get? b=some o->(((s.heap.push (seqObj "list" (List.toArray []) 0)).update s.heap.objs.size (Obj.mapSeq (· ++ vs.toArray))).push (seqObj "list" vs.toArray 0)).get? b=some o:=λb o e=>
  bD _ ((iU _ _ (jB (aZ e))).trans (bD _ e))
 show wpAny _ _ _ _ _ { s with heap:=((s.heap.push (seqObj "list" (List.toArray []) 0)).update s.heap.objs.size (Obj.mapSeq (· ++ vs.toArray))).push (seqObj "list" vs.toArray 0) };rw[z1];generalize ((s.heap.push (seqObj "list" (List.toArray []) 0)).update s.heap.objs.size (Obj.mapSeq (· ++ vs.toArray))).push (seqObj "list" vs.toArray 0)=h1 at hn hk ⊢;have up:∀ h',l6 (s.heap.objs.size+1) h1 h'->∀ b o,s.heap.get? b=some o->h'.get? b=some o:=λh' kb b o e=>kb b o (λz=>by
  have:=aZ e;rw[z]at this;exact absurd this (Nat.not_lt.mpr (gQ _))) (hk b o e)
 refine aA (wpAny_holding (wpAny_call_entry slot_list_sort #[_,hn,rfl] entry_list_sort (Io (s:={ s with heap:=h1 }) hn hz h64 keys (λh' kb=>hlt h' (up h' kb)) (λh' E Q kb h2 q=>hkd h' E Q (up h' kb) h2 q) λout p1 p2=>#[_,rfl,?_]) (args_list_sort _)));obtain ⟨kb,c,hc⟩:=Gq (out:=out) hn;exact bg #[_,rfl,h out _ c p1 p2 (up _ kb) hc]
end
end Tim
namespace L2
open PySem PySem.Spec PyProof.Rows
inductive Cb (α:Type)[Rep α][Srt α](K:Frag)(xs:List V)(H:Hp)(Q:VK):Prop
 | c:∀(p:Addr) (vs:List V) (as:List α),xs=[.ref p]->SqL K H p vs->aI K H as vs->as.length<64->(∀ l ws,H l=none->aI K H (bc as) ws->Q (.ref l) (upd H l (.lst ws)))->Cb α K xs H Q
section
variable {X:Cx}
def Iq {α:Type}[Rep α][Srt α]{Q:VK}{p:Addr}{vs:List V}{its:List Value}{as:List α}(I:Inv X OG U H s)(rv:Vals vs its)(hz:vs.length<=sizeLine)(ha:aI X.K H as vs)(h64:as.length<64)
  (col:∀{Q':List Value->Shared->Prop},Q' its { s with heap:=(s.heap.push (seqObj "list" (List.toArray []) 0)).update s.heap.objs.size (Obj.mapSeq (· ++ its.toArray)) }->wpAny (model X.prog X.w) X.A.in1 (collect (.ref p)) Q' X.xe s)
  (q:∀ l ws,H l=none->aI X.K H (bc as) ws->Q (.ref l) (upd H l (.lst ws))):wpAny (model X.prog X.w) X.A (call (.builtin "sorted") [.ref p]) (EP X OG U Q) X.xe s:=by
 have hlen:=rv.length;obtain ⟨km,kk⟩:=Bg I ha rv;refine Tim.Ip (κ:=srtKind α X.K H) (kd:=Srt.kd α) col (by lia) (by have:=ha.length;lia) (λv hv=>?_) (λh' k E x y a b Q hx hy q=>?_) (λh' E Q k h2 q=>Srt.kind (Inv.kept (t':=s.toks) I k) ha rv h2 q) λout h' c p1 p2 k hc=>?_
 .obtain ⟨a,_,_,_,e⟩:=kk v hv;exact #[a,e]
 .obtain ⟨x1,r1,e1⟩:=Bd hx;obtain ⟨y1,r2,e2⟩:=Bd hy;exact Srt.lt (Inv.kept (t':=s.toks) I k) e1 e2 r1 r2 q
 .obtain ⟨ws,bs,w1,w2,w3⟩:=Bf (α:=α) (K:=X.K) (H:=H) (out:=out) λv hv=>kk v (p1.mem_iff.mp hv);have eb:bs=bc as:=by
   refine oC ?_ ?_
   .rw[w3,<-km];exact p1.map _
   .rw[w3];exact fJ.mpr p2
  rw[eb]at w2;have hw:ws.length<=sizeLine:=by
   have:=w1.length;have:=p1.length_eq;lia
  exact #[.ref (s.heap.objs.size+1),_,I.laid (a:=s.heap.objs.size+1) (o:=.lst ws) (t':=s.toks) k (gQ _) #[hw,out,c,w1,hc],rfl,q _ ws (I.hok.fresh (gQ _)) w2]
def vk (α:Type)[Rep α][Srt α]:cT X (.builtin "sorted") (Cb α X.K):=by
 intro OG s U H xs us Q I r h;obtain ⟨p,vs,as,rfl,hq,ha,h64,q⟩:=h;obtain ⟨u,rfl,rx⟩:=d4 r;cases rx
 obtain ⟨its,rv,pl,hz⟩:=I.list hq;exact Iq I rv hz ha h64 (λh=>PyProof.Rows.collect_list pl.isList h (by have:=rv.length;lia)) q
end
end L2
set_option maxHeartbeats 4000000
namespace My
open PySem PySem.Spec PyProof.Rows L2
local macro_rules|`(tactic| walk_at "sc") => `(tactic| exact ⟨rfl,rfl,rfl,by decide +kernel,rfl,by decide +kernel,by decide +kernel⟩)
local macro_rules|`(tactic| walk_at "side")=>`(tactic| first|lia|(dsimp only;lia)|(simp only[CDiv,Gs,CPow,CMul];lia)|decide)
local macro_rules|`(tactic| walk_at "rd")=>`(tactic| repeat (first|(refine ⟨_,_,rfl,rfl,(by walk_at "side"),?_⟩)|(refine ⟨_,rfl,?_⟩)|(refine ⟨_,_,rfl,rfl,?_⟩)|(refine ⟨rfl,?_⟩)|(refine ⟨(by walk_at "side"),?_⟩)))
def top (i:Nat):Stmt:=PySem.Challenge.pw_bridgefind_k54_whole_answers_carried_alo.main.body.getD i (.Pass #[0,0,0,0])
abbrev oK:Stmt:=top 7
abbrev oM:Stmt:=top 8
abbrev oN:Stmt:=top 9
abbrev oO:Stmt:=top 10
abbrev oP:Stmt:=top 11
abbrev j7:Stmt:=top 12
abbrev j8:Stmt:=top 13
abbrev oQ:Stmt:=top 14
abbrev oR:Stmt:=top 17
abbrev oS:Stmt:=top 18
abbrev oT:Stmt:=top 19
abbrev oU:Stmt:=top 21
abbrev oV:Stmt:=top 22
abbrev oW:Stmt:=top 23
abbrev oX:Stmt:=top 24
abbrev oY:Stmt:=top 25
abbrev oZ:Stmt:=top 27
abbrev o4:Stmt:=top 28
abbrev o5:Stmt:=top 29
abbrev o6:Stmt:=top 30
abbrev o7:Stmt:=top 31
abbrev o8:Stmt:=top 33
abbrev o9:Stmt:=top 34
abbrev pb:Stmt:=top 35
abbrev pe:Stmt:=top 36
abbrev ph:Stmt:=top 37
abbrev pj:Stmt:=top 38
abbrev pk:Stmt:=top 39
abbrev pq:Stmt:=top 41
abbrev pw:Stmt:=top 42
abbrev px:Stmt:=top 43
abbrev pz:Stmt:=top 44
abbrev pA:Stmt:=top 45
abbrev pB:Stmt:=top 46
abbrev pC:Stmt:=top 47
abbrev pD:Stmt:=top 48
abbrev pE:Stmt:=top 50
abbrev pF:Stmt:=top 51
abbrev pG:Stmt:=top 52
abbrev pH:Stmt:=top 53
abbrev pI:Stmt:=top 54
abbrev pJ:Stmt:=top 55
abbrev pK:Stmt:=top 56
abbrev pL:Stmt:=top 57
abbrev pM:Stmt:=top 58
abbrev pN:Stmt:=top 59
abbrev pO:Stmt:=top 61
abbrev pP:Stmt:=top 62
abbrev pQ:Stmt:=top 63
abbrev j9:Stmt:=top 66
abbrev pR:Stmt:=top 67
abbrev pS:Stmt:=top 68
abbrev pT:Stmt:=top 69
abbrev ka:Stmt:=top 70
abbrev pU:Stmt:=top 72
abbrev pV:Stmt:=top 73
abbrev pW:Stmt:=top 74
abbrev pX:Stmt:=top 75
abbrev pY:Stmt:=top 76
abbrev pZ:Stmt:=top 78
abbrev p0:Stmt:=top 79
abbrev p7:Stmt:=top 80
abbrev p8:Stmt:=top 81
abbrev p9:Stmt:=top 82
abbrev qa:Stmt:=top 83
abbrev qb:Stmt:=top 84
abbrev qd:Stmt:=top 85
abbrev qe:Stmt:=top 86
abbrev qg:Stmt:=top 87
abbrev qh:Stmt:=top 88
abbrev qi:Stmt:=top 89
abbrev qj:Stmt:=top 90
abbrev ql:Stmt:=top 91
abbrev qm:Stmt:=top 92
abbrev qo:Stmt:=top 93
abbrev qp:Stmt:=top 94
abbrev qr:Stmt:=top 95
abbrev qt:Stmt:=top 96
def Ir:aO ["thing"] ["thing"] (aH oK):=by walk_at "sc"
def Iu:aO ["thing"] ["thing"] (aH oM):=by walk_at "sc"
def Iv:aO ["thing"] ["thing"] (aH oN):=by walk_at "sc"
def vm:aO ["entry","key","z"] ["entry"] (aH oO):=by walk_at "sc"
def ke:aO ["length","is_below","low","high","middle"] ["length","is_below"] (aH oP):=by walk_at "sc"
def Iw:aO ["row","key"] ["row","key"] (aH j7):=by walk_at "sc"
def Iy:aO ["entries","key"] ["entries","key"] (aH j8):=by walk_at "sc"
def vn:aO ["lists","together","entries"] ["lists"] (aH oQ):=by walk_at "sc"
def Cc:aO ["one","other","unlike"] ["one","other"] (aH oR):=by walk_at "sc"
def mj:aO ["numbers","told","at","number","figure"] ["numbers"] (aH oS):=by walk_at "sc"
def qu:aO ["entries","numbers","turn"] ["entries"] (aH oT):=by walk_at "sc"
def Iz:aO ["things","at"] ["things","at"] (aH oU):=by walk_at "sc"
def IA:aO ["taken"] ["taken"] (aH oV):=by walk_at "sc"
def qv:aO ["numbers","told","label","at"] ["numbers"] (aH oW):=by walk_at "sc"
def mn:aO ["entries","tints","told","colour","at"] ["entries"] (aH oX):=by walk_at "sc"
def IB:aO ["entries"] ["entries"] (aH oY):=by walk_at "sc"
def IC:aO ["many","thing"] ["many","thing"] (aH oZ):=by walk_at "sc"
def ID:aO ["tree","knot"] ["tree","knot"] (aH o4):=by walk_at "sc"
def vo:aO ["tree","knot","told","other"] ["tree","knot"] (aH o5):=by walk_at "sc"
def vp:aO ["tree","thing","knot","at"] ["tree","thing"] (aH o6):=by walk_at "sc"
def IE:aO ["tree","thing"] ["tree","thing"] (aH o7):=by walk_at "sc"
def IF:aO ["lists"] ["lists"] (aH o8):=by walk_at "sc"
def Cd:aO ["stand","knot","row","rows"] ["stand","knot","row"] (aH o9):=by walk_at "sc"
def IG:aO ["stand","knot"] ["stand","knot"] (aH pb):=by walk_at "sc"
def mq:aO ["stand","knot","tree","told","at","parts"] ["stand","knot"] (aH pe):=by walk_at "sc"
def Ce:aO ["stand","told"] ["stand"] (aH ph):=by walk_at "sc"
def IH:aO ["stand"] ["stand"] (aH pj):=by walk_at "sc"
def Cf:aO ["stand","knot","fulls"] ["stand","knot"] (aH pk):=by walk_at "sc"
def Cg:aO ["stand","one","other","rows"] ["stand","one","other"] (aH pq):=by walk_at "sc"
def vq:aO ["row","by","told","key"] ["row","by"] (aH pw):=by walk_at "sc"
def II:aO ["stand","by"] ["stand","by"] (aH px):=by walk_at "sc"
def IJ:aO ["row"] ["row"] (aH pz):=by walk_at "sc"
def IK:aO ["stand"] ["stand"] (aH pA):=by walk_at "sc"
def IL:aO ["tree","thing"] ["tree","thing"] (aH pB):=by walk_at "sc"
def qw:aO ["stand","order","tree","formers","parents"] ["stand","order"] (aH pC):=by walk_at "sc"
def IM:aO ["way","order"] ["way","order"] (aH pD):=by walk_at "sc"
def IP:aO ["stand","way"] ["stand","way"] (aH pE):=by walk_at "sc"
def IQ:aO ["stand","way"] ["stand","way"] (aH pF):=by walk_at "sc"
def IR:aO ["stand","way","key"] ["stand","way","key"] (aH pG):=by walk_at "sc"
def Ci:aO ["stand","way","key","rows"] ["stand","way","key"] (aH pH):=by walk_at "sc"
def Cj:aO ["stand","way","key","knots"] ["stand","way","key"] (aH pI):=by walk_at "sc"
def IS:aO ["row","low","high"] ["row","low","high"] (aH pJ):=by walk_at "sc"
def IT:aO ["stand","way","low","high"] ["stand","way","low","high"] (aH pK):=by walk_at "sc"
def vt:aO ["stand","way","key","entries","at"] ["stand","way","key"] (aH pL):=by walk_at "sc"
def vv:aO ["stand","way","key","entries","at"] ["stand","way","key"] (aH pM):=by walk_at "sc"
def vw:aO ["stand","way","key","many","entries","at"] ["stand","way","key","many"] (aH pN):=by walk_at "sc"
def vx:aO ["full","knot","told","entry"] ["full","knot"] (aH pO):=by walk_at "sc"
def kg:aO ["full","child_full","behind","at","entry","told"] ["full","child_full"] (aH pP):=by walk_at "sc"
def mr:aO ["tree","fulls","told","knot","full","jumps"] ["tree","fulls"] (aH pQ):=by walk_at "sc"
def IU:aO ["bridges","knot","is_below"] ["bridges","knot","is_below"] (aH j9):=by walk_at "sc"
def IV:aO ["bridges","knot","at","child"] ["bridges","knot","at","child"] (aH pR):=by walk_at "sc"
def qx:aO ["bridges","knot","start","is_below","beyond","at"] ["bridges","knot","start","is_below"] (aH pS):=by walk_at "sc"
def kh:aO ["bridges","way","is_below","at","told","parent","knot"] ["bridges","way","is_below"] (aH pT):=by walk_at "sc"
def IW:aO ["tree","fulls","way","key"] ["tree","fulls","way","key"] (aH ka):=by walk_at "sc"
def Ck:aO ["stand","way","key","found"] ["stand","way","key"] (aH pU):=by walk_at "sc"
def IX:aO ["thing"] ["thing"] (aH pV):=by walk_at "sc"
def IY:aO ["full","at","key"] ["full","at","key"] (aH pW):=by walk_at "sc"
def Cm:aO ["bridges","line","below","start"] ["bridges","line","below"] (aH pX):=by walk_at "sc"
def qy:aO ["stand","way","key","paper","fulls","bridges","line"] ["stand","way","key","paper"] (aH pY):=by walk_at "sc"
def qz:aO ["_law_rows_here","_law_found","_law_row_here"] ["_law_rows_here"] (aH pZ):=by walk_at "sc"
def IZ:aO ["_law_script"] ["_law_script"] (aH p0):=by walk_at "sc"
def vy:aO ["_law_cell","_law_k","_law_one","_law_two"] ["_law_cell","_law_k"] (aH p7):=by walk_at "sc"
def kj:aO ["_law_state","_law_most","_law_k","_law_script","_law_cell","_law_found"] ["_law_state","_law_most"] (aH p8):=by walk_at "sc"
def Cn:aO ["_law_state","_law_way_here"] ["_law_state"] (aH p9):=by walk_at "sc"
def qA:aO ["_law_state","_law_most","_law_way_here","_law_parents","_law_k"] ["_law_state","_law_most"] (aH qa):=by walk_at "sc"
def vz:aO ["_law_state","_law_most","_law_found","_law_k"] ["_law_state","_law_most"] (aH qb):=by walk_at "sc"
def kl:aO ["_law_state","_law_many","_law_most","_law_rows_here","_law_k","_law_row_here"] ["_law_state","_law_many","_law_most"] (aH qd):=by walk_at "sc"
def I0:aO ["_law_tree_here","_law_knot"] ["_law_tree_here","_law_knot"] (aH qe):=by walk_at "sc"
def qB:aO ["_law_state","_law_tree_here","_law_way_here","_law_some"] ["_law_state","_law_tree_here"] (aH qg):=by walk_at "sc"
def qC:aO ["_law_state","_law_most","_law_keys","_law_tree_here"] ["_law_state"] (aH qh):=by walk_at "sc"
def vA:aO ["_law_state","_law_stand_here","_law_every_here","_law_key_here"] ["_law_state","_law_stand_here"] (aH qi):=by walk_at "sc"
def ko:aO ["_law_state","_law_tree_here","_law_found","_law_free","_law_number","_law_knot"] ["_law_state","_law_tree_here"] (aH qj):=by walk_at "sc"
def Ja:aO ["_law_order_here","_law_entry_here"] ["_law_order_here","_law_entry_here"] (aH ql):=by walk_at "sc"
def ji:aO ["_law_state","_law_stand_here","_law_way_here","_law_key_here","_law_high","_law_order_here","_law_found","_law_moved","_law_due","_law_first","_law_back"] ["_law_state","_law_stand_here","_law_way_here","_law_key_here","_law_high"] (aH qm):=by walk_at "sc"
def kq:aO ["_law_state","_law_stand_here","_law_way_here","_law_key_here","_law_high","_law_every_here","_law_by","_law_found","_law_due"] ["_law_state","_law_stand_here","_law_way_here","_law_key_here","_law_high"] (aH qo):=by walk_at "sc"
def jj:aO ["_law_stand_here","_law_way_here","_law_key_here","_law_found","_law_there","_law_due","_law_knot","_law_own","_law_some"] ["_law_stand_here","_law_way_here","_law_key_here"] (aH qp):=by walk_at "sc"
def ku:aO ["_law_state","_law_stand_here","_law_key_here","_law_high","_law_one","_law_other","_law_found","_law_knot","_law_old"] ["_law_state","_law_stand_here","_law_key_here","_law_high"] (aH qr):=by walk_at "sc"
def kx:aO ["_law_script","_law_state","_law_stand_here","_law_way_here","_law_key_here","_law_high"] ["_law_script"] (aH qt):=by walk_at "sc"
abbrev kz:List Str:=["thing"]
abbrev qD:List Str:=["thing"]
abbrev qE:List Str:=["thing"]
abbrev qF:List Str:=["entry"]
abbrev kC:List Str:=["length","is_below"]
abbrev mv:List Str:=["row","key"]
abbrev kF:List Str:=["entries","key"]
abbrev mw:List Str:=["lists"]
abbrev qG:List Str:=["one","other"]
abbrev qH:List Str:=["numbers"]
abbrev qI:List Str:=["entries"]
abbrev mz:List Str:=["things","at"]
abbrev qJ:List Str:=["taken"]
abbrev qK:List Str:=["numbers"]
abbrev qL:List Str:=["entries"]
abbrev qM:List Str:=["entries"]
abbrev mB:List Str:=["many","thing"]
abbrev mC:List Str:=["tree","knot"]
abbrev qN:List Str:=["tree","knot"]
abbrev qO:List Str:=["tree","thing"]
abbrev jk:List Str:=["tree","thing"]
abbrev qP:List Str:=["lists"]
abbrev qQ:List Str:=["stand","knot","row"]
abbrev mD:List Str:=["stand","knot"]
abbrev mE:List Str:=["stand","knot"]
abbrev mG:List Str:=["stand"]
abbrev qR:List Str:=["stand"]
abbrev qS:List Str:=["stand","knot"]
abbrev qT:List Str:=["stand","one","other"]
abbrev qU:List Str:=["row","by"]
abbrev qV:List Str:=["stand","by"]
abbrev qW:List Str:=["row"]
abbrev qX:List Str:=["stand"]
abbrev qY:List Str:=["tree","thing"]
abbrev qZ:List Str:=["stand","order"]
abbrev mH:List Str:=["way","order"]
abbrev kG:List Str:=["stand","way"]
abbrev kH:List Str:=["stand","way"]
abbrev jl:List Str:=["stand","way","key"]
abbrev jm:List Str:=["stand","way","key"]
abbrev q9:List Str:=["stand","way","key"]
abbrev rf:List Str:=["row","low","high"]
abbrev kI:List Str:=["stand","way","low","high"]
abbrev mI:List Str:=["stand","way","key"]
abbrev rg:List Str:=["stand","way","key"]
abbrev rh:List Str:=["stand","way","key","many"]
abbrev rj:List Str:=["full","knot"]
abbrev rl:List Str:=["full","child_full"]
abbrev mJ:List Str:=["tree","fulls"]
abbrev rm:List Str:=["bridges","knot","is_below"]
abbrev mK:List Str:=["bridges","knot","at","child"]
abbrev rp:List Str:=["bridges","knot","start","is_below"]
abbrev rq:List Str:=["bridges","way","is_below"]
abbrev rA:List Str:=["tree","fulls","way","key"]
abbrev mM:List Str:=["stand","way","key"]
abbrev rB:List Str:=["thing"]
abbrev rC:List Str:=["full","at","key"]
abbrev rD:List Str:=["bridges","line","below"]
abbrev mN:List Str:=["stand","way","key","paper"]
abbrev mO:List Str:=["_law_rows_here"]
abbrev rE:List Str:=["_law_script"]
abbrev rF:List Str:=["_law_cell","_law_k"]
abbrev eW:List Str:=["_law_state","_law_most"]
abbrev kJ:List Str:=["_law_state"]
abbrev rG:List Str:=["_law_state","_law_most"]
abbrev rH:List Str:=["_law_state","_law_most"]
abbrev rJ:List Str:=["_law_state","_law_many","_law_most"]
abbrev rK:List Str:=["_law_tree_here","_law_knot"]
abbrev rL:List Str:=["_law_state","_law_tree_here"]
abbrev rM:List Str:=["_law_state"]
abbrev rN:List Str:=["_law_state","_law_stand_here"]
abbrev rO:List Str:=["_law_state","_law_tree_here"]
abbrev rP:List Str:=["_law_order_here","_law_entry_here"]
abbrev rQ:List Str:=["_law_state","_law_stand_here","_law_way_here","_law_key_here","_law_high"]
abbrev rR:List Str:=["_law_state","_law_stand_here","_law_way_here","_law_key_here","_law_high"]
abbrev rS:List Str:=["_law_stand_here","_law_way_here","_law_key_here"]
abbrev rT:List Str:=["_law_state","_law_stand_here","_law_key_here","_law_high"]
abbrev rV:List Str:=["_law_script"]
structure Txt (K:Frag)(mg:Str->Option Value):Prop where
 jy:mg "abs" = none
 nv:mg "all" = none
 Nl:mg "bool" = none
 Nm:mg "dict" = none
 xK:mg "enumerate" = none
 tM:mg "int" = none
 ly:mg "isinstance" = none
 bG:mg "len" = none
 jz:mg "list" = none
 lz:mg "max" = none
 xM:mg "min" = none
 dG:mg "range" = none
 Ew:mg "reversed" = none
 Nn:mg "set" = none
 xN:mg "sorted" = none
 Np:mg "sum" = none
 gg:mg "tuple" = none
 lA:mg "zip" = none
 Nq:∃ t,mg "KNOT_NUMBERS" = some (.int 64 t)
 Nr:∃ t,mg "TURNS" = some (.int 5 t)
 Ex:∃ t,mg "MOST_BEHIND_START" = some (.int 2 t)
def vB (m n i j:Nat)(hi:i<2)(hj:j<2):(2*m+i) &&& (2*n+j)=2*(m &&& n)+(i &&& j):=by
 apply Nat.eq_of_testBit_eq;intro k;cases k with
 | zero=>
  have h1:i=0\/i=1:=by lia
  have h2:j=0\/j=1:=by lia
  rcases h1 with rfl|rfl<;>rcases h2 with rfl|rfl<;>simp[Nat.testBit_zero]<;>lia
 | succ k=>
  have h1:i=0\/i=1:=by lia
  have h2:j=0\/j=1:=by lia
  have e1:(2*m+i)/2=m:=by lia
  have e2:(2*n+j)/2=n:=by lia
  have e3:(2*(m &&& n)+(i &&& j))/2=m &&& n:=by
   rcases h1 with rfl|rfl<;>rcases h2 with rfl|rfl<;>simp<;>lia
  rw[Nat.testBit_and,jH,jH,jH,e1,e2,e3,Nat.testBit_and]
def Jb (m n i j:Nat)(hi:i<2)(hj:j<2):(2*m+i) ||| (2*n+j)=2*(m ||| n)+(i ||| j):=by
 apply Nat.eq_of_testBit_eq;intro k;cases k with
 | zero=>
  have h1:i=0\/i=1:=by lia
  have h2:j=0\/j=1:=by lia
  rcases h1 with rfl|rfl<;>rcases h2 with rfl|rfl<;>simp[Nat.testBit_zero]<;>lia
 | succ k=>
  have h1:i=0\/i=1:=by lia
  have h2:j=0\/j=1:=by lia
  have e1:(2*m+i)/2=m:=by lia
  have e2:(2*n+j)/2=n:=by lia
  have e3:(2*(m ||| n)+(i ||| j))/2=m ||| n:=by
   rcases h1 with rfl|rfl<;>rcases h2 with rfl|rfl<;>simp<;>lia
  rw[Nat.testBit_or,jH,jH,jH,e1,e2,e3,Nat.testBit_or]
def lu (a b:Nat):Nat:=if a=b then 0 else if a%2=b%2 then lu (a/2) (b/2)+1 else 0
termination_by a+b
decreasing_by lia
def vC {a b:Nat}(hab:a≠b)(h:a%2=b%2):lu a b=lu (a/2) (b/2)+1:=by
 rw[lu,az hab,ar h]
def vD {a b:Nat}(h:a%2≠b%2):lu a b=0:=by
 rw[lu];split
 .rfl
 .rfl
def xr (a b:Nat):Nat:=(a ||| b)-(a &&& b)
def ir (n:Nat):Nat:=n-(n &&& (n-1))
def Co (a b:Nat):a &&& b<=a ||| b:=cD Nat.and_le_left Nat.left_le_or
def Jc (m n i j:Nat)(hi:i<2)(hj:j<2):xr (2*m+i) (2*n+j)=2*xr m n+(if i=j then 0 else 1):=by
 unfold xr;rw[Jb m n i j hi hj,vB m n i j hi hj];have q:=Co m n;have h1:i=0\/i=1:=by lia
 have h2:j=0\/j=1:=by lia
 rcases h1 with rfl|rfl<;>rcases h2 with rfl|rfl<;>simp<;>lia
def Cp (a b:Nat):xr a b=2*xr (a/2) (b/2)+(if a%2=b%2 then 0 else 1):=by
 have e1:2*(a/2)+a%2=a:=by lia
 have e2:2*(b/2)+b%2=b:=by lia
 have q:=Jc (a/2) (b/2) (a%2) (b%2) (by lia) (by lia);rw[e1,e2]at q;exact q
def Cq:∀(n a b:Nat),a+b<=n->a≠b->0<xr a b:=by
 intro n
 induction n with
 | zero=>intro a b h1 h2;lia
 | succ n ih=>
  intro a b h1 h2;rw[Cp];by_cases h:a%2=b%2
  .have:=ih (a/2) (b/2) (by lia) (by lia);lia
  .rw[az h];lia
def Jd (m:Nat):ir (2*m+1)=1:=by
 unfold ir;have q:=vB m m 1 0 (by lia) (by lia);have e:2*m+1-1=2*m+0:=by lia
 rw[e,q];simp
def Je (m:Nat)(h:0<m):ir (2*m)=2*ir m:=by
 unfold ir;have q:=vB m (m-1) 0 1 (by lia) (by lia);have e:2*m-1=2*(m-1)+1:=by lia
 have e':2*m=2*m+0:=by lia
 rw[e];have:(2*m &&& 2*(m-1)+1)=2*(m &&& m-1)+(0 &&& 1):=q;rw[this];have z:m &&& (m-1)<=m:=Nat.and_le_left;simp;lia
def Jf:∀(n a b:Nat),a+b<=n->a≠b->ir (xr a b)=2^lu a b:=by
 intro n
 induction n with
 | zero=>intro a b h1 h2;lia
 | succ n ih=>
  intro a b h1 h2;rw[Cp];by_cases h:a%2=b%2
  .rw[ar h,vC h2 h,Nat.add_zero,Je _ (Cq n _ _ (by lia) (by lia)),ih _ _ (by lia) (by lia),lG];lia
  .rw[az h,vD h,Jd,Nat.pow_zero]
def Jg:∀(n a b:Nat),a+b<=n->a≠b->a%2^lu a b=b%2^lu a b/\a%2^(lu a b+1)≠b%2^(lu a b+1):=by
 intro n
 induction n with
 | zero=>intro a b h1 h2;lia
 | succ n ih=>
  intro a b h1 h2;by_cases h:a%2=b%2
  .rw[vC h2 h];obtain ⟨q1,q2⟩:=ih (a/2) (b/2) (by lia) (by lia);have s:∀ x k:Nat,x%2^(k+1)=2*(x/2%2^k)+x%2:=by
    intro x k;rw[lG,Nat.mul_comm,Nat.mod_mul];lia
   rw[s a,s b,s a,s b];constructor
   .omega
   .omega
  .rw[vD h];simp[Nat.mod_one];lia
def Jh:∀(k a b:Nat),a≠b->a<2^k->b<2^k->lu a b<k:=by
 intro k
 induction k with
 | zero=>intro a b h1 h2 h3;simp at h2 h3;lia
 | succ k ih=>
  intro a b h1 h2 h3;by_cases h:a%2=b%2
  .rw[vC h1 h];have:=ih (a/2) (b/2) (by lia) (by rw[lG]at h2;lia) (by rw[lG]at h3;lia);lia
  .rw[vD h];lia
def fig (a b:Nat):Nat:=2*lu a b+b/2^lu a b%2
def vE (a b:Nat):fig a b/2=lu a b:=by
 unfold fig;have:=Nat.mod_lt (b/2^lu a b) (by decide:0<2);lia
def vF (a b:Nat):fig a b%2=b/2^lu a b%2:=by
 unfold fig;have:=Nat.mod_lt (b/2^lu a b) (by decide:0<2);lia
def Cr (x k:Nat):x%2^(k+1)=x%2^k+2^k*(x/2^k%2):=by
 rw[lG,Nat.mod_mul]
def Cs {a b:Nat}(h:a≠b):a/2^lu a b%2≠b/2^lu a b%2:=by
 obtain ⟨h1,h2⟩:=Jg _ a b (av _) h;intro e;apply h2;rw[Cr,Cr,h1,e]
def Ji {a b c:Nat}(h2:b≠c):fig a b≠fig b c:=by
 intro e;have e1:lu a b=lu b c:=by rw[<-vE,e,vE]
 have e2:b/2^lu a b%2=c/2^lu b c%2:=by rw[<-vF,e,vF]
 rw[e1]at e2;exact Cs h2 e2
def Jj {a b:Nat}(h:a≠b):a%2≠fig a b:=by
 intro e;have l:a%2<2:=Nat.mod_lt _ (by decide);have e1:lu a b=0:=by
  have:=vE a b;lia
 have e2:=vF a b;have e3:=Cs h;rw[e1]at e2 e3;simp at e2 e3;lia
def Jk {a b k:Nat}(h:a≠b)(ha:a<2^k)(hb:b<2^k):fig a b<2*k:=by
 have:=Jh k a b h ha hb;have:=Nat.mod_lt (b/2^lu a b) (by decide:0<2);unfold fig;lia
def gI (xs:List Nat)(i:Nat):Nat:=if i=0 then xs.getD 0 0%2 else fig (xs.getD (i-1) 0) (xs.getD i 0)
def dD (xs:List Nat):List Nat:=(List.range xs.length).map (gI xs)
def kK (xs:List Nat):(dD xs).length=xs.length:=by unfold dD;rw[af,bY]
def Ct {xs:List Nat}{i:Nat}(h:i<xs.length):(dD xs)[i]?=some (gI xs i):=by
 unfold dD;rw[aQ,dY h];rfl
def vG {xs:List Nat}{i:Nat}(h:i<xs.length):(dD xs).getD i 0=gI xs i:=by
 rw[aF,Ct h];rfl
def Jl {xs:List Nat}{i:Nat}(h:i<xs.length):(dD xs).take (i+1)=(dD xs).take i++[gI xs i]:=by
 have h':i<(dD xs).length:=by rw[kK];exact h
 rw[cx h'];have:=Ct h;rw[aD h']at this;rw[aV this]
def Unl (xs:List Nat):Prop:=∀ i,i+1<xs.length->xs.getD i 0≠xs.getD (i+1) 0
def Jm (h:Unl xs):Unl (dD xs):=by
 intro i hi;rw[kK]at hi;rw[vG (by lia),vG hi];unfold gI;rw[az (by lia:¬ i+1=0),jI];by_cases h0:i=0
 .subst h0;rw[ar rfl];exact Jj (h 0 hi)
 .rw[az h0];exact Ji (h i hi)
def dE (m:Nat)(xs:List Nat):Prop:=∀ i,i<xs.length->xs.getD i 0<m
def mP {k:Nat}(hk:1<=k)(h:Unl xs)(hb:dE (2^k) xs):dE (2*k) (dD xs):=by
 intro i hi;rw[kK]at hi;rw[vG hi];unfold gI;split
 .have:xs.getD 0 0%2<2:=Nat.mod_lt _ (by decide);lia
 .have:=h (i-1) (by lia);rw[show i-1+1=i by lia]at this;exact Jk this (hb _ (by lia)) (hb _ hi)
def Jn (a b:Nat):Builtin.bitXor (a:Int) (b:Int)=((xr a b:Nat):Int):=by
 have h1:Builtin.bitAnd (a:Int) (b:Int)=((a &&& b:Nat):Int):=by
  unfold Builtin.bitAnd;rw[aU (iS a),aU (iS b)];rfl
 have n1:¬ (0:Int)<=Builtin.bitNot (a:Int):=by unfold Builtin.bitNot;lia
 have n2:¬ (0:Int)<=Builtin.bitNot (b:Int):=by unfold Builtin.bitNot;lia
 have h2:Builtin.bitOr (a:Int) (b:Int)=((a ||| b:Nat):Int):=by
  unfold Builtin.bitOr Builtin.bitAnd;rw[bH n1,bH n2];have e:∀ x:Int,Builtin.bitNot (Builtin.bitNot x)=x:=λx=>by unfold Builtin.bitNot;lia
  show Builtin.bitNot (Builtin.bitNot _)=_;rw[e,e,e];rfl
 unfold Builtin.bitXor xr;rw[h1,h2];have:=Co a b;lia
def Jo (n:Nat)(h:0<n):Builtin.bitAnd (n:Int) (-(n:Int))=((ir n:Nat):Int):=by
 have n2:¬ (0:Int)<=-(n:Int):=by lia
 have e:(Builtin.bitNot (-(n:Int))).toNat=n-1:=by unfold Builtin.bitNot;lia
 unfold Builtin.bitAnd ir;rw[aU (iS n),bH n2];show (n:Int)-(((n:Int).toNat &&& (Builtin.bitNot (-(n:Int))).toNat:Nat):Int)=_;rw[e,eA];have:n &&& (n-1)<=n:=Nat.and_le_left;lia
def Jp (a b:Nat)(h:a≠b):((Builtin.Int.intBits (Builtin.bitAnd (Builtin.bitXor (a:Int) (b:Int)) (-(Builtin.bitXor (a:Int) (b:Int)))):Nat):Int)-1=((lu a b:Nat):Int):=by
 rw[Jn,Jo _ (Cq _ a b (av _) h),Jf _ a b (av _) h];unfold Builtin.Int.intBits;have p:0 < 2 ^ lu a b:=Nat.two_pow_pos _;rw[az (by
  intro z;have z':=eq_of_beq z;lia),Int.natAbs_natCast,Nat.log2_two_pow]
 lia
def atZ {α:Type}(l:List α)(i:Int):Option α:=if 0<=i then l[i.toNat]? else none
def gJ {α:Type}(l:List α)(i:Nat):atZ l (i:Int)=l[i]?:=by
 unfold atZ;rw[ar (iS i),eA]
def rW {α:Type}{l:List α}{i:Int}(h:i<0):atZ l i=none:=by
 unfold atZ;rw[az (by lia)]
def vH {α:Type}{l:List α}{x:α}(h:atZ l i=some x):0<=i/\i<l.length:=by
 unfold atZ at h;split at h
 .have:=(aY.mp h).1;lia
 .cases h
def Cu {α:Type}{l:List α}{i:Int}(h0:0<=i)(h:i<l.length):∃ x,atZ l i=some x:=by
 unfold atZ;rw[ar h0];exact #[_,aD (by lia)]
def kL {α β:Type}(f:Option α->α->Option α->β):Option α->List α->List β
 | _,[]=>[]
 | p,x::l=>f p x l.head? :: kL f (some x) l
def mapW {α β:Type}(f:Option α->α->Option α->β)(l:List α):List β:=kL f none l
def mQ {α β:Type}(f:Option α->α->Option α->β):∀(l:List α) (p:Option α) (k:Nat),(kL f p l)[k]?=l[k]?.map λx=>f (if k=0 then p else l[k-1]?) x l[k+1]?
 | [],_,_=>rfl
 | x::l,p,0=>by
  show some (f p x l.head?)=some (f p x l[0]?);rw[List.head?_eq_getElem?]
 | x::l,p,k+1=>by
  show (kL f (some x) l)[k]?=l[k]?.map λy=>f (x::l)[k]? y l[k+1]?;rw[mQ f l (some x) k];cases k with
  | zero=>rfl
  | succ k=>rfl
def Cv {α β:Type}(f:Option α->α->Option α->β):∀(l:List α) (p:Option α),(kL f p l).length=l.length
 | [],_=>rfl
 | x::l,p=>by
  show (kL f (some x) l).length+1=l.length+1;rw[Cv f l]
def mR {α β:Type}(f:Option α->α->Option α->β)(l:List α):(mapW f l).length=l.length:=Cv f l none
def rX {α β:Type}(f:Option α->α->Option α->β)(l:List α)(i:Int):atZ (mapW f l) i=(atZ l i).map λx=>f (atZ l (i-1)) x (atZ l (i+1)):=by
 by_cases h:0<=i
 .obtain ⟨k,rfl⟩:∃ k:Nat,i=(k:Int):=#[i.toNat,by lia];rw[gJ,gJ,mapW,mQ,show ((k:Int)+1)=((k+1:Nat):Int) by lia,gJ];have e:atZ l ((k:Int)-1)=if k=0 then none else l[k-1]?:=by
   split
   .rw[rW (by lia)]
   .rw[show ((k:Int)-1)=((k-1:Nat):Int) by lia,gJ]
  rw[e]
 .rw[rW (l:=mapW f l) (by lia),rW (l:=l) (i:=i) (by lia)];rfl
def UnlZ (xs:List Nat):Prop:=∀(i:Int) (x y:Nat),atZ xs i=some x->atZ xs (i+1)=some y->x≠y
def unlZ (h:Unl xs):UnlZ xs:=by
 intro i x y hx hy;obtain ⟨a,b⟩:=vH hx;obtain ⟨_,c⟩:=vH hy;obtain ⟨k,rfl⟩:∃ k:Nat,i=(k:Int):=#[i.toNat,by lia];rw[gJ]at hx;rw[show ((k:Int)+1)=((k+1:Nat):Int) by lia,gJ]at hy;have:=h k (by lia);rw[aF,aF,hx,hy]at this;exact this
def Cw (h:UnlZ xs):Unl xs:=by
 intro k hk;have:=h k xs[k] xs[k+1] (by rw[gJ];exact aD (by lia)) (by rw[show ((k:Int)+1)=((k+1:Nat):Int) by lia,gJ];exact aD hk);rw[aF,aF,aD (show k<xs.length by lia),aD hk];exact this
def eX (p n:Option Nat):Nat:=if p≠some 0/\n≠some 0 then 0 else if p≠some 1/\n≠some 1 then 1 else 2
def Cy (p n:Option Nat):eX p n<=2:=by
 unfold eX;split
 .omega
 .split<;>lia
def vI {p:Option Nat}{x:Nat}(h:p=some x):eX p n≠x:=by
 subst h;unfold eX;split
 .rename_i c;intro z;exact c.1 (by rw[<-z])
 .split
  .rename_i c;intro z;exact c.1 (by rw[<-z])
  .rename_i c d;intro z;subst z;have c1:n=some 0:=lB λq=>c #[by decide,q];have d1:n=some 1:=lB λq=>d #[by decide,q];rw[c1]at d1;cases d1
def Jq (p n:Option Nat):eX p n=eX n p:=by
 unfold eX;simp only[And.comm]
def Cz {n:Option Nat}{x:Nat}(h:n=some x):eX p n≠x:=by
 rw[Jq];exact vI h
def recF (v:Nat)(p:Option Nat)(x:Nat)(n:Option Nat):Nat:=if x=v then eX p n else x
def recL (v:Nat)(xs:List Nat):List Nat:=mapW (recF v) xs
def gK (v:Nat)(xs:List Nat):(recL v xs).length=xs.length:=mR _ _
def rY (h:UnlZ xs):UnlZ (recL v xs):=by
 intro i x y hx hy;unfold recL at hx hy;rw[rX]at hx hy;cases ex:atZ xs i with
 | none=>rw[ex]at hx;cases hx
 | some x0=>
  cases ey:atZ xs (i+1) with
  | none=>rw[ey]at hy;cases hy
  | some y0=>
   rw[ex]at hx;rw[ey]at hy;have hx:x=recF v (atZ xs (i-1)) x0 (atZ xs (i+1)):=(aV hx).symm;have hy:y=recF v (atZ xs (i+1-1)) y0 (atZ xs (i+1+1)):=(aV hy).symm;have n0:=h i x0 y0 ex ey;have e1:i+1-1=i:=by lia
   unfold recF at hx hy;rw[e1,ex]at hy;rw[ey]at hx;split at hx
   .rename_i c;split at hy
    .rename_i c';lia
    .rw[hx,hy];exact Cz rfl
   .split at hy
    .rw[hx,hy];exact (vI rfl).symm
    .omega
def vJ {v:Nat}{P:Nat->Prop}{xs:List Nat}(hP:∀ x,x<=2->P x)(h:∀ i x,atZ xs i=some x->x=v\/P x):∀ i x,atZ (recL v xs) i=some x->P x:=by
 intro i x hx;unfold recL at hx;rw[rX]at hx;cases ex:atZ xs i with
 | none=>rw[ex]at hx;cases hx
 | some x0=>
  rw[ex]at hx;have hx:x=recF v (atZ xs (i-1)) x0 (atZ xs (i+1)):=(aV hx).symm;unfold recF at hx;split at hx
  .rw[hx];exact hP _ (Cy _ _)
  .rw[hx];rcases h i x0 ex with q|q
   .exact absurd q (by assumption)
   .exact q
def colL (xs:List Nat):List Nat:=recL 5 (recL 4 (recL 3 xs))
def CA (xs:List Nat):(colL xs).length=xs.length:=by
 unfold colL;rw[gK,gK,gK]
def CB (h:UnlZ xs):UnlZ (colL xs):=rY (rY (rY h))
def Jr {xs:List Nat}(h:∀ i x,atZ xs i=some x->x<=5):∀ i x,atZ (colL xs) i=some x->x<=2:=by
 refine vJ (P:=λx=>x<=2) (λx h=>h) ?_;refine vJ (P:=λx=>x=5\/x<=2) (λx h=>.inr h) ?_;refine vJ (P:=λx=>x=4\/x=5\/x<=2) (λx h=>.inr (.inr h)) ?_;intro i x e;have:=h i x e;lia
def vK (sh:Nat)(p:Option (Nat×Bool))(x:Nat×Bool)(n:Option (Nat×Bool)):Nat×Bool:=
 (x.1,x.2||(decide (x.1=sh)&&p.isSome && !(p.map (·.2)).getD false && !(n.map (·.2)).getD false))
def da (sh:Nat)(l:List (Nat×Bool)):List (Nat×Bool):=mapW (vK sh) l
def dv (c:List Nat):List (Nat×Bool):=c.map λx=>(x,false)
def fY (c:List Nat):List (Nat×Bool):=da 0 (da 1 (da 2 (dv c)))
def gM (c:List Nat):List Bool:=(fY c).map (·.2)
def Js (c:List Nat):(fY c).length=c.length:=by
 unfold fY da dv;rw[mR,mR,mR,af]
def CC (c:List Nat):(gM c).length=c.length:=by
 unfold gM;rw[af,Js]
def CD (c:List Nat)(i:Int):atZ (dv c) i=(atZ c i).map λx=>(x,false):=by
 unfold dv atZ;split
 .rw[aQ]
 .rfl
def mkZ (l:List (Nat×Bool))(i:Int):Bool:=((atZ l i).map (·.2)).getD false
def clZ (l:List (Nat×Bool))(i:Int):Option Nat:=(atZ l i).map (·.1)
def Jt (sh:Nat)(l:List (Nat×Bool))(i:Int):clZ (da sh l) i=clZ l i:=by
 unfold clZ da;rw[rX];cases atZ l i<;>rfl
def rZ (sh:Nat)(l:List (Nat×Bool))(i:Int):mkZ (da sh l) i=(mkZ l i||(decide (clZ l i=some sh)&&(clZ l (i-1)).isSome && !mkZ l (i-1) && !mkZ l (i+1))):=by
 unfold mkZ clZ da;rw[rX];cases atZ l i with
 | none=>simp
 | some x=>
  unfold vK;cases atZ l (i-1)<;>cases atZ l (i+1)<;>simp
structure MkOk (c:List Nat)(l:List (Nat×Bool)):Prop where
 cl:∀ i,clZ l i=atZ c i
 ind:∀ i,mkZ l i=true->mkZ l (i+1)=true->False
 fst:∀ i,mkZ l i=true->(atZ c (i-1)).isSome=true/\(atZ c i).isSome=true
def r6 (c:List Nat):MkOk c (dv c):=by
 have e:∀ i,mkZ (dv c) i=false:=λi=>by
  unfold mkZ;rw[CD];cases atZ c i<;>rfl
 refine #[λi=>?_,λi h=>?_,λi h=>?_]
 .unfold clZ;rw[CD];cases atZ c i<;>rfl
 .rw[e]at h;cases h
 .rw[e]at h;cases h
def kM (hu:UnlZ c)(h:MkOk c l):MkOk c (da sh l):=by
 refine #[λi=>by rw[Jt,h.cl],λi h1 h2=>?_,λi h1=>?_]
 .rw[rZ]at h1 h2;simp only[Bool.or_eq_true,gj,decide_eq_true_eq,nO]at h1 h2;rw[show i+1-1=i by lia]at h2;rcases h1 with h1|h1<;>rcases h2 with h2|h2
  .exact h.ind i h1 h2
  .rw[h1]at h2;exact absurd h2.1.2 (by decide)
  .rw[h2]at h1;exact absurd h1.2 (by decide)
  .have a:=h1.1.1.1;have b:=h2.1.1.1;rw[h.cl]at a b;exact hu i sh sh a b rfl
 .rw[rZ]at h1;simp only[Bool.or_eq_true,gj,decide_eq_true_eq,nO]at h1;rcases h1 with h1|h1
  .exact h.fst i h1
  .refine #[?_,?_]
   .rw[<-h.cl];exact h1.1.1.2
   .rw[<-h.cl,h1.1.1.1];rfl
def fz (h:mkZ l i=true):mkZ (da sh l) i=true:=by
 rw[rZ,h];rfl
def vL {sh:Nat}(h:MkOk c l)(hc:atZ c i=some sh)(hp:(atZ c (i-1)).isSome=true):mkZ (da sh l) (i-1)=true\/mkZ (da sh l) i=true\/mkZ (da sh l) (i+1)=true:=by
 by_cases a:mkZ l (i-1)=true
 .exact .inl (fz a)
 .by_cases b:mkZ l (i+1)=true
  .exact .inr (.inr (fz b))
  .refine .inr (.inl ?_);rw[rZ,h.cl,h.cl,hc,hp,iZ.mpr a,iZ.mpr b];simp
def CF (hu:UnlZ c):MkOk c (fY c):=kM hu (kM hu (kM hu (r6 c)))
def Ju (hu:UnlZ c)(hc:∀ i x,atZ c i=some x->x<=2){i:Int}(h1:(atZ c (i-1)).isSome=true)(h2:(atZ c i).isSome=true):mkZ (fY c) (i-1)=true\/mkZ (fY c) i=true\/mkZ (fY c) (i+1)=true:=by
 obtain ⟨x,hx⟩:=Option.isSome_iff_exists.mp h2;have hle:=hc i x hx;have z:x=2\/x=1\/x=0:=by lia
 rcases z with rfl|rfl|rfl
 .rcases vL (r6 c) hx h1 with q|q|q
  .exact .inl (fz (fz q))
  .exact .inr (.inl (fz (fz q)))
  .exact .inr (.inr (fz (fz q)))
 .rcases vL (kM (sh:=2) hu (r6 c)) hx h1 with q|q|q
  .exact .inl (fz q)
  .exact .inr (.inl (fz q))
  .exact .inr (.inr (fz q))
 .exact vL (kM (sh:=1) hu (kM (sh:=2) hu (r6 c))) hx h1
structure iu (ms:List Bool):Prop where
 fst:ms.getD 0 false=false
 ind:∀ i,ms.getD i false=true->ms.getD (i+1) false=true->False
 dom:∀ i,1<=i->i<ms.length->ms.getD (i-1) false=true\/ms.getD i false=true\/ms.getD (i+1) false=true
def mT (c:List Nat)(i:Nat):(gM c).getD i false=mkZ (fY c) (i:Int):=by
 unfold mkZ gM;rw[gJ,aF,aQ]
def Jv (hu:UnlZ c)(hc:∀ i x,atZ c i=some x->x<=2):iu (gM c):=by
 refine #[?_,λi h1 h2=>?_,λi h1 h2=>?_]
 .rw[mT];cases e:mkZ (fY c) ((0:Nat):Int) with
  | false=>rfl
  | true=>
   have:=((CF hu).fst _ e).1;rw[rW (by lia)]at this;cases this
 .rw[mT]at h1 h2;exact (CF hu).ind i h1 h2
 .rw[CC]at h2;have a:(atZ c ((i:Int)-1)).isSome=true:=by
   obtain ⟨x,hx⟩:=Cu (l:=c) (i:=(i:Int)-1) (by lia) (by lia);rw[hx];rfl
  have b:(atZ c (i:Int)).isSome=true:=by
   obtain ⟨x,hx⟩:=Cu (l:=c) (i:=(i:Int)) (by lia) (by lia);rw[hx];rfl
  rcases Ju hu hc a b with q|q|q
  .refine .inl ?_;rw[mT,show ((i-1:Nat):Int)=(i:Int)-1 by lia];exact q
  .refine .inr (.inl ?_);rw[mT];exact q
  .refine .inr (.inr ?_);rw[mT];exact q
def Jw {y:Nat}(h:y<eX p n):p=some y\/n=some y:=by
 unfold eX at h;split at h
 .omega
 .rename_i c;have c0:p=some 0\/n=some 0:=lB λq=>c #[λz=>q (.inl z),λz=>q (.inr z)];split at h
  .have:y=0:=by lia
   subst this;exact c0
  .rename_i d;have d0:p=some 1\/n=some 1:=lB λq=>d #[λz=>q (.inl z),λz=>q (.inr z)];have:y=0\/y=1:=by lia
   rcases this with rfl|rfl
   .exact c0
   .exact d0
def c4 (xs:List Nat)(k:Nat):List Nat:=(if k=0 then none else xs[k-1]?).toList++xs[k+1]?.toList
def CG {k y:Nat}:y∈c4 xs k↔(if k=0 then none else xs[k-1]?)=some y\/xs[k+1]?=some y:=by
 unfold c4;rw[bO,Option.mem_toList,Option.mem_toList]
def fZ (xs:List Nat)(k:Nat):Nat:=eX (if k=0 then none else xs[k-1]?) xs[k+1]?
def Jx {k:Nat}:fZ xs k∉c4 xs k:=λh=>by
 rcases CG.mp h with q|q
 .exact vI q rfl
 .exact Cz q rfl
def Jy {k y:Nat}(h:y<fZ xs k):y∈c4 xs k:=CG.mpr (Jw h)
def Jz (xs:List Nat)(k:Nat):fZ xs k<=2:=Cy _ _
def vM {xs:List Nat}{k:Nat}(h:k<xs.length):(recL v xs)[k]?=some (if xs.getD k 0=v then fZ xs k else xs.getD k 0):=by
 unfold recL mapW;rw[mQ,aF,aD h];rfl
def mixL (v:Nat)(xs:List Nat)(k:Nat):List Nat:=(recL v xs).take k++xs.drop k
def JA {xs:List Nat}{k:Nat}(h:xs.length<=k):mixL v xs k=recL v xs:=by
 unfold mixL;rw[bh (by rw[gK];exact h),gq h,di]
def CH (v:Nat)(xs:List Nat)(k:Nat):(mixL v xs k).length=xs.length:=by
 unfold mixL;rw[bB,bt,eQ,gK];lia
def kO (v:Nat)(xs:List Nat)(k j:Nat):(mixL v xs k)[j]?=if j<k then (recL v xs)[j]? else xs[j]?:=by
 unfold mixL;by_cases hk:k<=xs.length
 .rw[List.getElem?_append,bt,gK,gU hk];split
  .rw[lH];rw[ar (by assumption)]
  .rw[nX];congr 1;lia
 .rw[gq (by lia),di,bh (by rw[gK];lia)];split
  .rfl
  .rw[dk (by rw[gK];lia),dk (by lia)]
def CI {k j:Nat}(h:k<=j):(mixL v xs k)[j]?=xs[j]?:=by
 rw[kO,az (by lia)]
def JB {v:Nat}{xs:List Nat}{k:Nat}(h:k<xs.length)(hv:xs.getD k 0≠v):mixL v xs (k+1)=mixL v xs k:=by
 apply fe;intro j;rw[kO,kO];by_cases c:j<k
 .rw[ar c,ar (by lia)]
 .rw[az c];split
  .have:j=k:=by lia
   subst this;rw[vM h,az hv,aF,aD h];rfl
  .rfl
def JC {v:Nat}{k:Nat}(hu:Unl xs)(h:k<xs.length)(hv:xs.getD k 0=v):(if k=0 then none else (mixL v xs k)[k-1]?)=if k=0 then none else xs[k-1]?:=by
 cases k with
 | zero=>rfl
 | succ k=>
  show (mixL v xs (k+1))[k]?=xs[k]?;rw[kO,ar (by lia),vM (by lia)];have:=hu k h;rw[hv]at this;rw[az this,aF,aD (show k<xs.length by lia)];rfl
def JD {v:Nat}{k:Nat}(hu:Unl xs)(h:k<xs.length)(hv:xs.getD k 0=v):c4 (mixL v xs k) k=c4 xs k:=by
 unfold c4;rw[JC hu h hv,CI (j:=k+1) (by lia)]
def JE {v:Nat}{xs:List Nat}{k:Nat}(h:k<xs.length)(hv:xs.getD k 0=v):mixL v xs (k+1)=(mixL v xs k).set k (fZ xs k):=by
 apply fe;intro j;rw[nY,CH,kO,kO];by_cases c:k=j
 .subst c;rw[ar rfl,ar h,ar (by lia),vM h,ar hv]
 .rw[az c];by_cases c2:j<k
  .rw[ar c2,ar (by lia)]
  .rw[az c2,az (by lia)]
def d6 (sh:Nat)(cs:List Nat)(ms:List Bool):List Bool:=(da sh (cs.zip ms)).map (·.2)
def iw {cs:List Nat}{ms:List Bool}(h:cs.length=ms.length):(d6 sh cs ms).length=ms.length:=by
 unfold d6 da;rw[af,mR,nZ];lia
def JF {cs:List Nat}:∀{ms:List Bool},cs.length=ms.length->(cs.zip ms).map (·.1)=cs:=by
 induction cs with
 | nil=>intro ms _;rfl
 | cons c cs ih=>
  intro ms h;cases ms with
  | nil=>cases h
  | cons m ms=>
   show c::(cs.zip ms).map (·.1)=c::cs;rw[ih (Nat.succ.inj h)]
def CJ:∀(l:List (Nat×Bool)),(l.map (·.1)).zip (l.map (·.2))=l
 | []=>rfl
 | x::l=>by
  show x::(l.map (·.1)).zip (l.map (·.2))=x::l;rw[CJ l]
def JG (sh:Nat)(l:List (Nat×Bool)):(da sh l).map (·.1)=l.map (·.1):=by
 apply fe;intro k;unfold da mapW;rw[aQ,aQ,mQ];cases l[k]?<;>rfl
def CK {cs:List Nat}{ms:List Bool}(h:cs.length=ms.length):da sh (cs.zip ms)=cs.zip (d6 sh cs ms):=by
 have e:=CJ (da sh (cs.zip ms));rw[JG,JF h]at e;exact e.symm
def JH (cs:List Nat):dv cs=cs.zip (cs.map λ_=>false):=by
 unfold dv
 induction cs with
 | nil=>rfl
 | cons c cs ih=>
  show (c,false)::cs.map (λx=>(x,false))=(c,false)::cs.zip (cs.map λ_=>false);rw[ih]
def JI (cs:List Nat):gM cs=d6 0 cs (d6 1 cs (d6 2 cs (cs.map λ_=>false))):=by
 have l1:cs.length=(cs.map λ_=>false).length:=by rw[af]
 have l2:cs.length=(d6 2 cs (cs.map λ_=>false)).length:=by rw[iw l1,<-l1]
 unfold gM fY;rw[JH,CK l1,CK l2];rfl
def r9 {cs:List Nat}{ms:List Bool}(hl:cs.length=ms.length){k:Nat}(h:k<cs.length):(d6 sh cs ms)[k]?=some (ms.getD k false||(decide (cs.getD k 0=sh)&&decide (1<=k) && !ms.getD (k-1) false && !ms.getD (k+1) false)):=by
 unfold d6 da mapW;have gz:∀ j,(cs.zip ms)[j]?=if h:j<cs.length then some (cs[j],ms[j]'(by lia)) else none:=λj=>by
  split
  .rename_i q;rw[aD (by rw[nZ];lia),List.getElem_zip]
  .exact dk (by rw[nZ];lia)
 have gm:∀ j,ms.getD j false=(((cs.zip ms)[j]?).map (·.2)).getD false:=λj=>by
  rw[gz];split
  .rw[aF,aD (by lia)];rfl
  .rw[aF,dk (by lia)];rfl
 rw[aQ,mQ,gm k,gm (k+1),gm (k-1),aF,aD h];have e:=gz k;rw[dif_pos h]at e;rw[e];show some _=some _;unfold vK;cases k with
 | zero=>simp
 | succ k=>
  have e2:=gz k;rw[dif_pos (by lia)]at e2;simp[e2]
def mixM (sh:Nat)(cs:List Nat)(ms:List Bool)(k:Nat):List Bool:=(d6 sh cs ms).take k++ms.drop k
def JJ {cs:List Nat}{ms:List Bool}(hl:cs.length=ms.length){k:Nat}(h:cs.length<=k):mixM sh cs ms k=d6 sh cs ms:=by
 unfold mixM;rw[bh (by rw[iw hl];lia),gq (by lia),di]
def CL {cs:List Nat}{ms:List Bool}(hl:cs.length=ms.length)(k:Nat):(mixM sh cs ms k).length=cs.length:=by
 unfold mixM;rw[bB,bt,eQ,iw hl];lia
def iy {cs:List Nat}{ms:List Bool}(hl:cs.length=ms.length)(k j:Nat):(mixM sh cs ms k)[j]?=if j<k then (d6 sh cs ms)[j]? else ms[j]?:=by
 unfold mixM;by_cases hk:k<=ms.length
 .rw[List.getElem?_append,bt,iw hl,gU hk];split
  .rw[lH];rw[ar (by assumption)]
  .rw[nX];congr 1;lia
 .rw[gq (by lia),di,bh (by rw[iw hl];lia)];split
  .rfl
  .rw[dk (by rw[iw hl];lia),dk (by lia)]
def CM (ms:List Bool)(k:Nat):Bool:=!ms.getD (k-1) false && !ms.getD k false && !ms.getD (k+1) false
def JK {sh:Nat}{cs:List Nat}{ms:List Bool}(hl:cs.length=ms.length){k:Nat}(h:k<cs.length)(hn:¬ (1<=k/\cs.getD k 0=sh/\CM ms k=true)):mixM sh cs ms (k+1)=mixM sh cs ms k:=by
 apply fe;intro j;rw[iy hl,iy hl];by_cases c:j<k
 .rw[ar c,ar (by lia)]
 .rw[az c];split
  .have:j=k:=by lia
   subst this;rw[r9 hl h];unfold CM at hn;rw[aD (by lia)];have e:ms.getD j false=ms[j]'(by lia):=by
    rw[aF,aD (by lia)];rfl
   rw[e]at hn ⊢;congr 1;generalize ms[j]=a at hn ⊢;generalize ms.getD (j-1) false=b at hn ⊢;generalize ms.getD (j+1) false=d at hn ⊢;cases a<;>cases b<;>cases d<;>simp at hn ⊢
   intro q;lia
  .rfl
structure dO (ms:List Bool)(sp:List Nat):Prop where
 up:sp.Pairwise (· < ·)
 iff:∀ j,j∈sp↔ms.getD j false=true
def JL (ms:List Bool):dO ms ((List.range ms.length).filter λk=>ms.getD k false):=by
 refine #[List.Pairwise.filter _ n8,λj=>?_];rw[dh,cC];constructor
 .exact λh=>h.2
 .intro h;refine #[?_,h];rw[aF]at h;cases e:ms[j]? with
  | none=>rw[e]at h;cases h
  | some x=>exact (aY.mp e).1
def dO.lt (S:dO ms sp){j:Nat}(h:j∈sp):j<ms.length:=by
 have h:=(S.iff j).mp h;rw[aF]at h;cases e:ms[j]? with
 | none=>rw[e]at h;cases h
 | some x=>exact (aY.mp e).1
def dO.step (S:dO ms sp)(M:iu ms){t:Nat}(h:t+1<sp.length):sp[t]+2<=sp[t+1]/\sp[t+1]<=sp[t]+3:=by
 have up:=fc.mp S.up;have lt:=up t (t+1) (by lia) h (by lia);have m0:=(S.iff _).mp (cJ (show t<sp.length by lia));have m1:=(S.iff _).mp (cJ h);have l1:=S.lt (cJ h);have no:∀ j,sp[t]<j->j<sp[t+1]->ms.getD j false=false:=λj a b=>by
  cases e:ms.getD j false with
  | false=>rfl
  | true=>
   obtain ⟨u,hu,q⟩:=fL ((S.iff j).mpr e);have c1:¬ u<=t:=λz=>by
    by_cases z':u=t
    .subst z';lia
    .have:=up u t hu (by lia) (by lia);lia
   have c2:¬ t+1<=u:=λz=>by
    by_cases z':u=t+1
    .subst z';lia
    .have:=up (t+1) u h hu (by lia);lia
   lia
 refine #[?_,?_]
 .by_cases c:sp[t+1]=sp[t]+1
  .rw[c]at m1;exact (M.ind _ m0 m1).elim
  .omega
 .refine iW λc=>?_;rcases M.dom (sp[t]+2) (by lia) (by lia) with q|q|q
  .rw[no (sp[t]+2-1) (by lia) (by lia)]at q;cases q
  .rw[no (sp[t]+2) (by lia) (by lia)]at q;cases q
  .rw[no (sp[t]+2+1) (by lia) (by lia)]at q;cases q
def dO.first (S:dO ms sp)(M:iu ms)(h:2<=ms.length):∃ hp:0<sp.length,1<=sp[0]/\sp[0]<=2:=by
 have ex:∃ j,j<=2/\ms.getD j false=true:=by
  rcases M.dom 1 (by lia) (by lia) with q|q|q
  .exact #[0,by lia,q]
  .exact #[1,by lia,q]
  .exact #[2,by lia,q]
 obtain ⟨j,hj,e⟩:=ex;obtain ⟨u,hu,q⟩:=fL ((S.iff j).mpr e);refine #[by lia,?_,?_]
 .have m0:=(S.iff _).mp (cJ (show 0<sp.length by lia));refine i0 λz=>?_;rw[z,M.fst]at m0;cases m0
 .by_cases c:u=0
  .subst c;lia
  .have:=fc.mp S.up 0 u (by lia) hu (by lia);lia
def dO.last (S:dO ms sp)(M:iu ms)(h:2<=ms.length)(hp:0<sp.length):ms.length<=sp[sp.length-1]+2:=by
 have ex:∃ j,ms.length-2<=j/\ms.getD j false=true:=by
  rcases M.dom (ms.length-1) (by lia) (by lia) with q|q|q
  .exact #[_,by lia,q]
  .exact #[_,by lia,q]
  .exact #[_,by lia,q]
 obtain ⟨j,hj,e⟩:=ex;obtain ⟨u,hu,q⟩:=fL ((S.iff j).mpr e);by_cases c:u=sp.length-1
 .subst c;lia
 .have:=fc.mp S.up u (sp.length-1) hu (by lia) (by lia);lia
def dO.low (S:dO ms sp)(M:iu ms):∀(t:Nat) (h:t<sp.length),2*t+1<=sp[t]
 | 0,h=>by
  have m0:=(S.iff _).mp (cJ h);refine i0 λz=>?_;rw[z,M.fst]at m0;cases m0
 | t+1,h=>by
  have a:=dO.low S M t (by lia);have b:=(S.step M h).1;lia
def dO.half (S:dO ms sp)(M:iu ms):2*sp.length<=ms.length:=by
 by_cases c:sp.length=0
 .omega
 .have a:=S.low M (sp.length-1) (by lia);have b:=S.lt (cJ (show sp.length-1<sp.length by lia));lia
def dO.none (S:dO ms sp)(M:iu ms)(h:ms.length<2):sp=[]:=by
 have:=S.half M;exact jG (by lia)
def dz {α:Type}(es:List α)(ms:List Bool):List α:=((es.zip ms).filter (·.2)).map (·.1)
def colN (xs:List Nat):Nat->List Nat
 | 0=>xs
 | i+1=>recL (3+i) (colN xs i)
def JM (xs:List Nat)(i:Nat):(colN xs i).length=xs.length:=by
 induction i with
 | zero=>rfl
 | succ i ih=>rw[colN,gK,ih]
def JN (h:Unl xs)(i:Nat):Unl (colN xs i):=by
 induction i with
 | zero=>exact h
 | succ i ih=>exact Cw (rY (unlZ ih))
def mkN (cs:List Nat):Nat->List Bool
 | 0=>cs.map λ_=>false
 | i+1=>d6 (2-i) cs (mkN cs i)
def JO (cs:List Nat):mkN cs 3=gM cs:=(JI cs).symm
def JP (cs:List Nat)(i:Nat):cs.length=(mkN cs i).length:=by
 induction i with
 | zero=>rw[mkN,af]
 | succ i ih=>rw[mkN,iw ih,ih]
def JQ {cs:List Nat}{ms:List Bool}(hl:cs.length=ms.length):mixM sh cs ms 1=ms:=by
 by_cases h:0<cs.length
 .rw[JK hl h (λz=>by lia)];rfl
 .have:ms=[]:=jG (by lia);subst this;unfold mixM;rw[jG (show (d6 sh cs []).length=0 by rw[iw hl];rfl)];rfl
def bf (ps:List Nat):Prop:=∀ i (h:i<ps.length),ps[i]<=i
def par (ps:List Nat):Nat->Option Nat
 | 0=>none
 | k+1=>ps[k]?
def bM (T:bf ps){k p:Nat}(h:par ps k=some p):p<k/\k<ps.length+1:=by
 cases k with
 | zero=>cases h
 | succ k=>
  obtain ⟨h1,rfl⟩:=aY.mp (show ps[k]?=some p from h);have:=T k h1;lia
def iz {ps:List Nat}{k:Nat}(h1:1<=k)(h2:k<ps.length+1):∃ p,par ps k=some p:=by
 cases k with
 | zero=>lia
 | succ k=>exact #[_,aD (show k<ps.length by lia)]
def JR {ps:List Nat}{k:Nat}(h2:k<ps.length+1)(h:par ps k=none):k=0:=by
 cases k with
 | zero=>rfl
 | succ k=>
  have:=List.getElem?_eq_none_iff.mp (show ps[k]?=none from h);lia
def wayF (ps:List Nat)(one:Nat):Nat->Nat->Option (List Nat)
 | 0,_=>none
 | f+1,o=>if o=one then some [o] else match par ps o with
  | none=>none
  | some p=>(wayF ps one f p).map (· ++ [o])
def CN (T:bf ps){one:Nat}:∀ f g o,o<f->o<g->wayF ps one f o=wayF ps one g o
 | 0,_,_,h,_=>absurd h (iY _)
 | _,0,_,_,h=>absurd h (iY _)
 | f+1,g+1,o,hf,hg=>by
  unfold wayF;split
  .rfl
  .cases e:par ps o with
   | none=>rfl
   | some p=>
    have:=(bM T e).1;show (wayF ps one f p).map _=(wayF ps one g p).map _;rw[CN T f g p (by lia) (by lia)]
def wayL (ps:List Nat)(one o:Nat):Option (List Nat):=wayF ps one (o+1) o
def JS :wayL ps o o=some [o]:=by
 unfold wayL wayF;rw[ar rfl]
def sf (T:bf ps){one o:Nat}(h:o≠one):wayL ps one o=match par ps o with
  | none=>none
  | some p=>(wayL ps one p).map (· ++ [o]):=by
 unfold wayL;rw[wayF,az h];cases e:par ps o with
 | none=>rfl
 | some p=>
  show (wayF ps one o p).map _=(wayF ps one (p+1) p).map _;rw[CN T o (p+1) p (bM T e).1 (by lia)]
def CO (T:bf ps){one:Nat}:∀ n o,o<=n->o<one->wayL ps one o=none
 | n,o,hn,h=>by
  rw[sf T (by lia)];cases e:par ps o with
  | none=>rfl
  | some p=>
   have hp:=(bM T e).1;show (wayL ps one p).map _=none;cases n with
   | zero=>lia
   | succ n=>rw[CO T n p (by lia) (by lia)];rfl
def f6 (ps:List Nat)(w:List Nat):Prop:=∀ t,t+1<w.length->par ps (w.getD (t+1) 0)=some (w.getD t 0)
def JT {x:Nat}(h:f6 ps w)(hx:w≠[]->par ps x=some (w.getD (w.length-1) 0)):f6 ps (w++[x]):=by
 intro t ht;rw[bB,dj]at ht;have e0:(w++[x]).getD t 0=w.getD t 0:=by
  rw[aF,aF,iT (by lia)]
 rw[e0];by_cases c:t+1<w.length
 .have e1:(w++[x]).getD (t+1) 0=w.getD (t+1) 0:=by
   rw[aF,aF,iT c]
  rw[e1];exact h t c
 .have et:t+1=w.length:=by lia
  have e1:(w++[x]).getD (t+1) 0=x:=by
   rw[aF,et,gi (av _),lI];rfl
  rw[e1];have:=hx (λz=>by rw[z]at et;simp at et);rw[<-et,jI]at this;exact this
def isB (ps:List Nat)(k j:Nat):Bool:=(wayL ps k j).isSome
def benL (ps:List Nat)(k n:Nat):List Nat:=(List.range n).filter (isB ps k)
def jn {k:Nat}:isB ps k k=true:=by
 unfold isB;rw[JS];rfl
def iA (T:bf ps){k j:Nat}(h:j<k):isB ps k j=false:=by
 unfold isB;rw[CO T j j (av _) h];rfl
def f7 (T:bf ps){k j p:Nat}(h:j≠k)(e:par ps j=some p):isB ps k j=isB ps k p:=by
 unfold isB;rw[sf T h,e];show ((wayL ps k p).map _).isSome=_;cases wayL ps k p<;>rfl
def JU (T:bf ps)(k:Nat):benL ps k (k+1)=[k]:=by
 unfold benL;rw[eS,eB];have e1:(List.range k).filter (isB ps k)=[]:=by
  rw[gw];intro j hj z;rw[iA T (cC.mp hj)]at z;cases z
 rw[e1,List.nil_append,dI jn];rfl
def f9 {k:Nat}:j∈benL ps k n↔j<n/\isB ps k j=true:=by
 unfold benL;rw[dh,cC]
def CP {k:Nat}:benL ps k (n+1)=benL ps k n++(if isB ps k n=true then [n] else []):=by
 unfold benL;rw[eS,eB];congr 1;by_cases h:isB ps k n=true
 .rw[ar h,dI h];rfl
 .rw[az h,dR h];rfl
def vN (ps:List Nat)(k n:Nat):(benL ps k n).length<=n:=by
 have:=fg (isB ps k) (List.range n);rw[bY]at this;exact this
def sg (ps:List Nat)(k n:Nat):(benL ps k n).Pairwise (· < ·):=List.Pairwise.filter _ n8
def CQ (T:bf ps):∀ n j,j<=n->j<ps.length+1->isB ps 0 j=true
 | n,j,hn,h=>by
  by_cases c:j=0
  .rw[c];exact jn
  .obtain ⟨p,e⟩:=iz (by lia) h;have:=(bM T e).1;rw[f7 T c e];cases n with
   | zero=>lia
   | succ n=>exact CQ T n p (by lia) (by lia)
def CS (T:bf ps):benL ps 0 (ps.length+1)=List.range (ps.length+1):=by
 unfold benL;rw[lJ];exact λj hj=>CQ T j j (av _) (cC.mp hj)
def bN (ps:List Nat)(k n:Nat):List Nat:=(List.range n).filter λj=>decide (par ps j=some k)
def cY {k j:Nat}:j∈bN ps k n↔j<n/\par ps j=some k:=by
 unfold bN;rw[dh,cC,decide_eq_true_eq]
def iB {k:Nat}:bN ps k (n+1)=bN ps k n++(if par ps n=some k then [n] else []):=by
 unfold bN;rw[eS,eB];congr 1;by_cases h:par ps n=some k
 .rw[ar h,dI (by exact aU h)];rfl
 .rw[az h,dR (by rw[bH h];decide)];rfl
def iC (ps:List Nat)(k n:Nat):(bN ps k n).length<=n:=by
 have:=fg (λj=>decide (par ps j=some k)) (List.range n);rw[bY]at this;exact this
def si (ps:List Nat)(k n:Nat):(bN ps k n).Pairwise (· < ·):=List.Pairwise.filter _ n8
def sk (T:bf ps){k:Nat}:∀ n j,j<=n->j<ps.length+1->(isB ps k j=true↔j=k\/∃ c,par ps c=some k/\isB ps c j=true)
 | n,j,hn,h=>by
  by_cases c:j=k
  .constructor
   .exact λ_=>.inl c
   .intro _;rw[c];exact jn
  .cases e:par ps j with
   | none=>
    have j0:=JR h e;have no:∀ m,j≠m->isB ps m j=false:=λm hm=>by
     unfold isB;rw[sf T hm,e];rfl
    constructor
    .intro z;rw[no k c]at z;cases z
    .rintro (z|⟨d,hd,z⟩)
     .exact absurd z c
     .by_cases y:j=d
      .rw[<-y,e]at hd;cases hd
      .rw[no d y]at z;cases z
   | some p=>
    have hp:=(bM T e).1;cases n with
    | zero=>lia
    | succ n=>
     have ih:=sk T (k:=k) n p (by lia) (by lia);rw[f7 T c e,ih];constructor
     .rintro (z|⟨d,hd,z⟩)
      .refine .inr #[j,?_,jn];rw[e,z]
      .by_cases y:j=d
       .rw[<-y]at z;rw[iA T hp]at z;cases z
       .exact .inr #[d,hd,by rw[f7 T y e];exact z]
     .rintro (z|⟨d,hd,z⟩)
      .exact absurd z c
      .by_cases y:j=d
       .subst y;rw[e]at hd;exact .inl (aV hd)
       .rw[f7 T y e]at z;exact .inr #[d,hd,z]
def so (T:bf ps){k c d:Nat}(hc:par ps c=some k)(hd:par ps d=some k)(hcd:c≠d):∀ n j,j<=n->isB ps c j=true->isB ps d j=true->False
 | n,j,hn,h1,h2=>by
  by_cases e1:j=c
  .subst e1;rw[f7 T hcd hc,iA T (bM T hd).1]at h2;cases h2
  .by_cases e2:j=d
   .subst e2;rw[f7 T e1 hd,iA T (bM T hc).1]at h1;cases h1
   .cases e:par ps j with
    | none=>
     unfold isB at h1;rw[sf T e1,e]at h1;cases h1
    | some p=>
     have hp:=(bM T e).1;rw[f7 T e1 e]at h1;rw[f7 T e2 e]at h2;cases n with
     | zero=>lia
     | succ n=>exact so T hc hd hcd n p (by lia) h1 h2
def JV (T:bf ps){k:Nat}(hk:k<ps.length+1):(k::((bN ps k (ps.length+1)).map λc=>benL ps c (ps.length+1)).flatten).Perm (benL ps k (ps.length+1)):=by
 have lt:∀{l:List Nat},l.Pairwise (· < ·)->l.Nodup:=λh=>List.Pairwise.imp (λ{a b} (q:a<b)=>bX q) h;refine (ub ?_ (lt (sg ps k _))).mpr λj=>?_
 .rw[c6];refine #[λh=>?_,?_]
  .obtain ⟨l,hl,hj⟩:=jJ.mp h;obtain ⟨c,hc,rfl⟩:=bI.mp hl;have h1:=(cY.mp hc).2;have h2:=(f9.mp hj).2;rw[iA T (bM T h1).1]at h2;cases h2
  .show List.Pairwise _ _;rw[List.pairwise_flatten];refine #[λl hl=>?_,?_]
   .obtain ⟨c,hc,rfl⟩:=bI.mp hl;exact lt (sg ps c _)
   .rw[fJ];refine List.Pairwise.imp_of_mem (λ{c d} hc hd hcd=>?_) (si ps k _);intro x hx y hy z;subst z;exact so T (cY.mp hc).2 (cY.mp hd).2 (bX hcd) x x (av _) (f9.mp hx).2 (f9.mp hy).2
 .rw[bq,jJ,f9];constructor
  .rintro (rfl|⟨l,hl,hj⟩)
   .exact #[hk,jn]
   .obtain ⟨c,hc,rfl⟩:=bI.mp hl;obtain ⟨h1,h2⟩:=f9.mp hj;exact #[h1,(sk T j j (av _) h1).mpr (.inr #[c,(cY.mp hc).2,h2])]
  .rintro ⟨h1,h2⟩;rcases (sk T j j (av _) h1).mp h2 with q|⟨c,hc,q⟩
   .exact .inl q
   .exact .inr #[_,bI.mpr #[c,cY.mpr #[(bM T hc).2,hc],rfl],f9.mpr #[h1,q]]
def JW (t u:TS):TS:=λD U H=>∀ N:L2.St->Hp->Prop,(∀ U' H',u D U' H'->N U' H')->t { D with nx:=N } U H
def cz {st:Stmt}{rest:List Stmt}{t:TS}(h1:PS X st t)(h2:PSs X rest u):PSs X (st::rest) (JW t u):=λOG s U H D I h=>aK h1 h2 OG s U H D I (h (u D) λ_ _ z=>z)
inductive CT (t u:TS)(D:Ends)(U:L2.St)(H:Hp):Prop
 | c:∀(M:L2.St->Hp->Prop),(∀ N:L2.St->Hp->Prop,(∀ U' H',M U' H'->N U' H')->t { D with nx:=N } U H)->(∀ U' H',M U' H'->u D U' H')->CT t u D U H
def c5 {st:Stmt}{rest:List Stmt}{t:TS}(h1:PS X st t)(h2:PSs X rest u):PSs X (st::rest) (CT t u):=λOG s U H D I h=>by
 obtain ⟨M,h3,h4⟩:=h;exact c8 h1 h2 OG s U H D I #[M,h3 M λ_ _ z=>z,h4]
def CU {tb:TS}{D:Ends}{Pn:L2.St->Hp->Prop}{i:Nat}{x:V}{U:L2.St}{H:Hp}(h:∀(N B:L2.St->Hp->Prop) (R:VK),(∀ U H,Pn U H->N U H)->(∀ U H,D.nx U H->B U H)->(∀ v H,D.rt v H->R v H)->tb { nx:=N,rt:=R,bk:=B,ct:=N } (U.set i (some x)) H):gX i x U H λU2 H2=>tb { D with nx:=Pn,ct:=Pn,bk:=D.nx } U2 H2:=h Pn D.nx D.rt (λ_ _ z=>z) (λ_ _ z=>z) (λ_ _ z=>z)
seal PSs PS PE PT PW PA PI PG PO
section
variable {P:Program}{w:World}{K:Frag}{mg:Str->Option Value}{base:Heap}
def JX (T:Txt K mg)(xO:DF K mg "_law_mixed" p7 rF):FC P w K mg base 1 "_law_mixed" rF uH:=by
 refine xO.ok vy (λvs H Q E h=>?_) (λf cdv A outer s H vs Q E hr h=>?_)
 .obtain ⟨c,k,rfl,_⟩:=h;rfl
 obtain ⟨c,k,rfl,q⟩:=h;refine #[_,(aK (aL (i:=2) vy.nd rfl (au rfl) (aG gZ (aG eC (aG cf (aG cf (aG gZ (pv 0) ag) (aG eC ag (pv 1))) ag) ag) ag))
   (aK (aL (i:=3) vy.nd rfl (au rfl) (aG gZ (aG cf (aG cf (aG eC (pv 2) (pv 2)) (aG eC ag (pv 2))) (pv 1)) ag))
   (aw (aE (aG um (aG gZ (aG cf (aG cf (aG eC (pv 3) (pv 3)) (aG eC ag (pv 3))) (aG eC ag (pv 1))) ag) ag))))),?_]
 walk_at "rd"
 exact q _
def JY (T:Txt K mg)(xP:DF K mg "_law_begin" p0 rE):FC P w K mg base 1 "_law_begin" rE (uI K):=by
 refine xP.ok IZ (λvs H Q E h=>?_) (λf cdv A outer s H vs Q E hr h=>?_)
 .obtain ⟨L,ns,rfl,_⟩:=h;rfl
 obtain ⟨L,ns,rfl,hS,q⟩:=h;refine #[_,(aw (aE (Gd (uz fj (pv 0) (uz fj ag (uz fj ag Gb))) rfl rfl (by simp) (by decide)))),?_];intro p hp;refine #[_,rfl,ah,[(.inr "script",.ref L),(.inr "at",.int 0),(.inr "left",.int 0)],rfl,(by show 3<=15;decide),?_];have e:upd (upd H p (.dK [])) p (.dK (ie [] [(.inr "script",.ref L),(.inr "at",.int 0),(.inr "left",.int 0)]))=upd H p (dw L 0 0):=by
  rw[EU];have:ie [] [((.inr "script" : Key),V.ref L),(.inr "at",.int 0),(.inr "left",.int 0)]=[(.inr "script",.ref L),(.inr "at",.int 0),(.inr "left",.int 0)]:=by
   have a1:putK [] (.inr "script" : Key) (V.ref L)=[(.inr "script",.ref L)]:=lZ (kvs:=[]) _ rfl;have a2:putK [((.inr "script" : Key),V.ref L)] (.inr "at") (.int 0)=[(.inr "script",.ref L),(.inr "at",.int 0)]:=by
    rw[lZ _ (by rw[eV (fV (show ("script" : Str) ≠ "at" by decide +kernel))];rfl)];rfl
   have a3:putK [((.inr "script" : Key),V.ref L),(.inr "at",.int 0)] (.inr "left") (.int 0)=[(.inr "script",.ref L),(.inr "at",.int 0),(.inr "left",.int 0)]:=by
    rw[lZ _ (by rw[eV (fV (show ("script" : Str) ≠ "left" by decide +kernel)),eV (fV (show ("at" : Str) ≠ "left" by decide +kernel))];rfl)];rfl
   unfold ie;simp only[List.foldl_cons,List.foldl_nil];rw[a1,a2,a3]
  rw[this];rfl
 rw[e];exact q p _ hp (aJ hp _) #[ns,0,0,ah,(aJ hp _).seq hS]
def JZ (T:Txt K mg)(xQ:DF K mg "_law_take" p8 eW)(Nt:FC P w K mg base 1 "_law_mixed" rF uH):FC P w K mg base 2 "_law_take" eW (fq K):=by
 refine xQ.ok kj (λvs H Q E h=>?_) (λf cdv A outer s H vs Q E hr h=>?_)
 .obtain ⟨d,L,m,rfl,_⟩:=h;rfl
 obtain ⟨d,L,m,rfl,⟨hm,hm'⟩,⟨ns,a,l,hd,hS⟩,q⟩:=h;refine #[_,(aK (aL (i:=2) kj.nd rfl (au rfl) (gF (dS hr) (pv 0) fj (λ_ _=>rfl)))
   (aK (aL (i:=3) kj.nd rfl (au rfl) (gF (dS hr) (pv 0) fj (λ_ _=>rfl)))
   (c8 (bu (aX dr (gF (dS hr) (pv 0) fj (λ_ _=>rfl)) ag (aS _)) (aK (jW (dS hr) (pv 0) fj (aG cf (pv 2) ag) rfl)
   (aK (aL (i:=4) kj.nd rfl (au rfl) ag)
   (c8 (bu (aX i9 (aT (bJ (K:=K)) rfl T.bG bF (aa (pv 3) ae)) ag (aS _)) (aw (aL (i:=4) kj.nd rfl (au rfl) (aB (bw (K:=K)) (pv 3) (aG gZ (pv 2) (aT (bJ (K:=K)) rfl T.bG bF (aa (pv 3) ae))) (λ_ _=>rfl)))) bz)
   (c8 (bu (PW.pt (fO (aX lU (pv 2) (aT (bJ (K:=K)) rfl T.bG bF (aa (pv 3) ae)) (aS _)) (fN (aX eG (aT ja rfl T.jy boot_abs (aa (pv 4) ae)) (aG fS ag ag) (aS _))))) (aw (aE (aG gZ (ax Nt hr (aa (pv 4) (aa (pv 2) ae))) (pv 1)))) bz)
   (aw (jW (dS hr) (pv 0) fj (aT ja rfl T.jy boot_abs (aa (pv 4) ae)) rfl)))))) bz)
   (aK (aL (i:=5) kj.nd rfl (au rfl) (aG gZ (gF (dS hr) (pv 0) fj (λ_ _=>rfl)) (pv 1)))
   (aK (jW (dS hr) (pv 0) fj (aG um (gF (dS hr) (pv 0) fj (λ_ _=>rfl)) (pv 1)) rfl)
   (aw (aE (pv 5)))))))),?_]
 refine #[_,rfl,_,_,rfl,GB hd,_,rfl,_,_,rfl,GA hd,?_];refine #[λU' H'=>∃(x2 x3 x4 x5:Option V) (a' l':Int),U'=[some (.ref d),some (.int m),x2,x3,x4,x5]/\H' d=some (dw L a' l')/\Keep d H H',?_,?_]
 .refine #[_,rfl,_,_,rfl,uG hd,rfl,_,rfl,?_];refine ite2 (λ_=>?_) (λ_=>?_)
  .refine #[_,rfl,_,_,rfl,rfl,_,rfl,_,_,rfl,GC hd,?_];have hd1:upd H d (dw L (a+1) l) d=some (dw L (a+1) l):=ah;obtain ⟨-,k1⟩:=LS.set (a':=a+1) (l':=l) hd hS;have hS1:=uF hd k1 hS;generalize upd H d (dw L (a+1) l)=H1 at hd1 k1 hS1 ⊢;refine #[λU' H'=>∃ c:Int,U'=[some (.ref d),some (.int m),some (.int a),some (.ref L),some (.int c),none]/\H1=H',?_,?_]
   .refine #[_,rfl,_,_,rfl,.inl hS1,_,_,rfl,rfl,_,rfl,?_];refine ite2 (λc=>?_) (λc=>?_)
    .have c':(0:Int)<(((ns.map V.int).length:Nat):Int):=cE c;obtain ⟨v,hv⟩:=GD (ns:=ns) (k:=a) (by rw[af]at c';lia);refine #[_,rfl,_,rfl,_,rfl,_,_,rfl,.inl hS1,_,_,rfl,rfl,c',_,_,_,_,rfl,rfl,hS1,hv,?_];exact #[v,rfl,rfl]
    .exact #[0,rfl,rfl]
   rintro U' H' ⟨c,rfl,rfl⟩;refine #[λU' H'=>U'=[some (.ref d),some (.int m),some (.int a),some (.ref L),some (.int c),none]/\H1=H',?_,?_]
   .refine #[_,rfl,_,rfl,_,_,rfl,.inl hS1,_,_,rfl,rfl,_,rfl,?_];refine ite2 (λ_=>?_) (λ_=>?_)
    .refine iteT ?_;refine #[_,rfl,_,rfl,c,a,rfl,λv=>#[_,rfl,_,_,rfl,rfl,hm,?_]];exact q _ _ (nM _ (by lia)) (nN _ hm) k1 #[ns,a+1,l,hd1,hS1]
    .refine #[_,rfl,_,rfl,_,_,rfl,rfl,#[by decide,by decide,by decide],_,_,rfl,rfl,_,rfl,?_];refine ite2 (λ_=>?_) (λ_=>?_)
     .refine #[_,rfl,_,rfl,c,a,rfl,λv=>#[_,rfl,_,_,rfl,rfl,hm,?_]];exact q _ _ (nM _ (by lia)) (nN _ hm) k1 #[ns,a+1,l,hd1,hS1]
     .exact #[rfl,rfl]
   rintro U' H' ⟨rfl,rfl⟩;refine #[_,rfl,_,rfl,_,rfl,_,_,rfl,AV hd1,?_];obtain ⟨-,k2⟩:=LS.set (a':=a+1) (l':=if c<0 then -c else c) hd1 hS1
   exact #[_,_,_,_,_,_,rfl,ah,k1.trans k2]
  .exact #[_,_,_,_,a,l,rfl,hd,Keep.refl _ _]
 rintro U' H' ⟨x2,x3,x4,x5,a',l',rfl,hd',k'⟩;have hS':=uF hd k' hS;refine #[_,rfl,_,_,rfl,uG hd',_,rfl,_,_,rfl,rfl,hm,?_];refine #[_,rfl,_,_,rfl,uG hd',_,rfl,_,_,rfl,rfl,#[hm,hm'],_,rfl,_,_,rfl,AV hd',?_];obtain ⟨s1,k1⟩:=LS.set (a':=a') (l':=l'/m) hd' hS';refine #[_,rfl,?_];exact q _ _ (nM _ (by lia)) (nN _ hm) (k'.trans k1) s1
inductive vO (vs:List V)(H:Hp)(Q:VK)(w_1:XK):Prop
 | c:∀(a b:Nat),vs=[.int a,.int b]->a≠b->Q (.int (lu a b:Nat)) H->vO vs H Q w_1
def J0 (T:Txt K mg)(xR:DF K mg "lowest_unlike" oR qG):FC P w K mg base 1 "lowest_unlike" qG vO:=by
 refine xR.ok Cc (λvs H Q E h=>?_) (λf cdv A outer s H vs Q E hr h=>?_)
 .obtain ⟨a,b,rfl,_⟩:=h;rfl
 obtain ⟨a,b,rfl,hab,q⟩:=h;refine #[_,(aK (aL (i:=2) Cc.nd rfl (au rfl) (aG Fg (pv 0) (pv 1)))
   (aw (aE (aG cF (FN F.plainAttrs_int F.slot_int_bit_length F.type_int_bit_length Gz (aG zU (pv 2) (gy gA (pv 2)))) ag)))),?_]
 refine #[_,rfl,_,rfl,_,_,rfl,rfl,_,rfl,_,rfl,_,rfl,_,_,rfl,rfl,rfl,_,rfl,rfl,_,_,rfl,rfl,?_];rw[<-Jp a b hab]at q;exact q
inductive kP (K:Frag)(vs:List V)(H:Hp)(Q:VK)(w_1:XK):Prop
 | c:∀(d L:Addr),vs=[.ref d]->LS K L d H->(∀(v:Int) (H':Hp),-(10^60)<v->v<10^60->Keep d H H'->LS K L d H'->Q (.int v) H')->kP K vs H Q w_1
def J1 {x m:Int}(h1:-999<=x)(h2:x<=999)(h3:0<m)(h4:m<=10^57):-(10^60)<x*m/\x*m<10^60:=by
 have a:=Int.mul_le_mul_of_nonneg_right h2 (Int.le_of_lt h3);have b:=Int.mul_le_mul_of_nonneg_right h1 (Int.le_of_lt h3);lia
def J2 (T:Txt K mg)(xS:DF K mg "_law_key" p9 kJ)(cn:FC P w K mg base 2 "_law_take" eW (fq K)):FC P w K mg base 3 "_law_key" kJ (kP K):=by
 refine xS.ok Cn (λvs H Q E h=>?_) (λf cdv A outer s H vs Q E hr h=>?_)
 .obtain ⟨d,L,rfl,_⟩:=h;rfl
 obtain ⟨d,L,rfl,hs,q⟩:=h;refine #[_,(aK (aL (i:=1) Cn.nd rfl (au rfl) (ax cn hr (aa (pv 0) (aa ag ae))))
   (c8 (bu (aX eG (pv 1) ag (aS _)) (aw (aE (ax cn hr (aa (pv 0) (aa ag ae))))) bz)
   (c8 (bu (aX eG (pv 1) ag (aS _)) (aw (aE (aG cF (ax cn hr (aa (pv 0) (aa ag ae))) ag))) bz)
   (c8 (bu (aX dr (pv 1) ag (aS _)) (aw (aE (aG eC (aG cF (ax cn hr (aa (pv 0) (aa ag ae))) ag) (aB (bw (K:=K)) (cy (aa ag (aa (aG fS ag ag) (aa (aG fS ag ag) (aa (aG fS ag ag) ae))))) (ax cn hr (aa (pv 0) (aa ag ae))) (λ_ _=>rfl))))) bz)
   (aw (aE (aG eC (aB (bw (K:=K)) (cy (aa ag (aa (gy gA ag) ae))) (ax cn hr (aa (pv 0) (aa ag ae))) (λ_ _=>rfl)) (aG cF (aG cF (aG fS ag ag) ag) (ax cn hr (aa (pv 0) (aa ag ae))))))))))),?_]
 refine #[_,rfl,d,L,8,rfl,by decide,hs,λw1 H1 w0 w8 k1 s1=>?_];have nd:∀{H':Hp} {p:Addr},LS K L d H'->H' p=none->p≠d:=λs hp z=>by
  obtain ⟨_,_,_,e,_⟩:=s.ex;rw[<-z,hp]at e;cases e
 refine #[λU' H'=>U'=[some (.ref d),some (.int w1)]/\H1=H',?_,?_]
 .refine #[_,rfl,_,_,rfl,rfl,_,rfl,?_];refine ite2 (λc=>?_) (λc=>?_)
  .refine #[_,rfl,d,L,10,rfl,by decide,s1,λu H2 u0 u1 k2 s2=>?_];exact q u H2 (by lia) (by lia) (k1.trans k2) s2
  .exact #[rfl,rfl]
 rintro U' H' ⟨rfl,rfl⟩;refine #[λU' H'=>U'=[some (.ref d),some (.int w1)]/\H1=H',?_,?_]
 .refine #[_,rfl,_,_,rfl,rfl,_,rfl,?_];refine ite2 (λc=>?_) (λc=>?_)
  .refine #[_,rfl,d,L,60,rfl,by decide,s1,λu H2 u0 u1 k2 s2=>#[_,_,rfl,rfl,?_]];exact q (u-30) H2 (by lia) (by lia) (k1.trans k2) s2
  .exact #[rfl,rfl]
 rintro U' H' ⟨rfl,rfl⟩;refine #[λU' H'=>U'=[some (.ref d),some (.int w1)]/\H1=H',?_,?_]
 .refine #[_,rfl,rfl,_,rfl,?_];refine ite2 (λc=>?_) (λc=>?_)
  .refine #[_,rfl,d,L,1999,rfl,by decide,s1,λu H2 u0 u1 k2 s2=>#[_,_,rfl,rfl,?_]];refine #[_,_,rfl,rfl,#[by decide,by decide,by decide],_,_,rfl,rfl,#[by decide,by decide,by decide],_,_,rfl,rfl,#[by decide,by decide,by decide],(by show 4<=sizeLine;decide),λp hp=>?_];refine #[_,rfl,d,L,4,rfl,by decide,s2.of_new hp _,λb H3 b0 b1 k3 s3=>?_];obtain ⟨m,hat,m0,m1⟩:∃ m:Int,atI [V.int 1,V.int (10^(19:Int).toNat),V.int (10^(38:Int).toNat),V.int (10^(57:Int).toNat)] b=some (.int m)/\0<m/\m<=10^57:=by
    have z:b=0\/b=1\/b=2\/b=3:=by lia
    rcases z with rfl|rfl|rfl|rfl
    .exact #[_,rfl,by decide +kernel,by decide +kernel]
    .exact #[_,rfl,by decide +kernel,by decide +kernel]
    .exact #[_,rfl,by decide +kernel,by decide +kernel]
    .exact #[_,rfl,by decide +kernel,by decide +kernel]
   refine #[_,_,_,_,rfl,rfl,SqL.of (k3 p _ (nd s2 hp) ah),hat,_,_,rfl,rfl,.inl #[by lia,by lia],?_];obtain ⟨f1,f2⟩:=J1 (x:=u-999) (m:=m) (by lia) (by lia) m0 m1;exact q _ H3 f1 f2 ((k1.trans k2).trans ((aJ hp _).keep.trans k3)) s3
  .exact #[rfl,rfl]
 rintro U' H' ⟨rfl,rfl⟩;refine #[_,rfl,(by show 2<=sizeLine;decide),λp hp=>?_];refine #[_,rfl,d,L,2,rfl,by decide,s1.of_new hp _,λb H2 b0 b1 k2 s2=>?_];obtain ⟨m,hat,hm⟩:∃ m:Int,atI [V.int 1,V.int (-1)] b=some (.int m)/\(m=1\/m = -1):=by
  have z:b=0\/b=1:=by lia
  rcases z with rfl|rfl
  .exact #[_,rfl,.inl rfl]
  .exact #[_,rfl,.inr rfl]
 refine #[_,_,_,_,rfl,rfl,SqL.of (k2 p _ (nd s1 hp) ah),hat,_,_,rfl,rfl,#[by decide,by decide,by decide],_,_,rfl,rfl,_,rfl,d,L,3,rfl,by decide,s2,λu H3 u0 u1 k3 s3=>#[_,_,rfl,rfl,_,_,rfl,rfl,.inl #[by lia,by lia],?_]];have e60:(10:Int)^(60:Int).toNat=10^60:=rfl;rw[e60];have kk:=k1.trans ((aJ hp _).keep.trans (k2.trans k3));rcases hm with rfl|rfl
 .exact q _ H3 (by lia) (by lia) kk s3
 .exact q _ H3 (by lia) (by lia) kk s3
def Rise (es:List (Int×Int)):Prop:=es.Pairwise λa b=>pLt a b=true
def d7 (k:Int)(e:Int×Int):Prop:=-(10^60)<e.1/\e.1<10^60/\0<=e.2/\e.2<k
def J4 {κ:Type}[DecidableEq κ](kvs:List (κ×V))(k:κ)(v:V):(putK kvs k v).map (·.1)=if (kvs.any λkv=>decide (kv.1=k))=true then kvs.map (·.1) else kvs.map (·.1)++[k]:=by
 unfold putK;split
 .rw[bT];apply dJ;intro a ha;show (if a.1=k then (a.1,v) else a).1=a.1
  split<;>rfl
 .rw[aN];rfl
def iD (e:Int×Int):Int:=64*(if 0<=e.1 then 2*e.1 else -2*e.1-1)+e.2
def gb (e:Int×Int):Nat:=(iD e).toNat
def sv {e:Int×Int}(h:d7 64 e):((gb e:Nat):Int)=iD e:=by
 obtain ⟨h1,h2,h3,h4⟩:=h;unfold gb iD;split<;>lia
def J5 {e:Int×Int}(h:d7 64 e):gb e<2^207:=by
 have z:=sv h;obtain ⟨h1,h2,h3,h4⟩:=h;unfold iD at z;split at z<;>lia
def J6 {e f:Int×Int}(h:d7 64 e)(g:d7 64 f)(z:gb e=gb f):e=f:=by
 have z1:=sv h;have z2:=sv g;obtain ⟨h1,h2,h3,h4⟩:=h;obtain ⟨g1,g2,g3,g4⟩:=g;obtain ⟨a,b⟩:=e;obtain ⟨c,d⟩:=f;rw[z,z2]at z1;unfold iD at z1;dsimp only at *;have:a=c/\b=d:=by
  split at z1<;>split at z1<;>lia
 rw[this.1,this.2]
inductive vP (K:Frag)(vs:List V)(H:Hp)(Q:VK)(w_1:XK):Prop
 | c:∀(v:V) (e:Int×Int),vs=[v]->Rep.has K H e v->Q (.int (iD e)) H->vP K vs H Q w_1
def J7 (T:Txt K mg)(xT:DF K mg "code" oO qF):FC P w K mg base 1 "code" qF (vP K):=by
 refine xT.ok vm (λvs H Q E h=>?_) (λf cdv A outer s H vs Q E hr h=>?_)
 .obtain ⟨v,e,rfl,_⟩:=h;rfl
 obtain ⟨v,e,rfl,he,q⟩:=h;obtain ⟨p,x1,x2,rfl,hT,e1,e2⟩:=(show hasP K H e v from he);have hT:=SqT.of (K:=K) hT;have e1:x1=.int e.1:=e1;have e2:x2=.int e.2:=e2;subst e1 e2;refine #[_,(aK (aL (i:=1) vm.nd rfl (au rfl) (aB (aR (K:=K)) (pv 0) ag (λ_ _=>rfl)))
   (aK (aL (i:=2) vm.nd rfl (au rfl) (lQ (aX lU (pv 1) ag (aS _)) (aG eC ag (pv 1)) (aG cF (aG eC (gy gA ag) (pv 1)) ag)))
   (aw (aE (aG cf (aG eC (oD rfl T.Nq) (pv 2)) (aB (aR (K:=K)) (pv 0) ag (λ_ _=>rfl))))))),?_]
 refine #[_,rfl,_,_,_,_,rfl,rfl,hT,rfl,?_];refine #[_,rfl,_,_,rfl,rfl,_,rfl,?_];refine ite2 (λc=>?_) (λc=>?_)
 .have c':0<=e.1:=cE c;refine #[_,rfl,_,_,rfl,rfl,.inl #[by decide,by decide],?_];refine #[_,rfl,_,_,rfl,rfl,.inl #[by decide,by decide],_,rfl,_,_,_,_,rfl,rfl,hT,rfl,_,_,rfl,rfl,?_];unfold iD at q;rw[ar c']at q;exact q
 .have c':¬ 0<=e.1:=lK (iZ.mpr c);refine #[_,rfl,_,rfl,_,_,rfl,rfl,.inl #[by decide,by decide],_,_,rfl,rfl,?_];refine #[_,rfl,_,_,rfl,rfl,.inl #[by decide,by decide],_,rfl,_,_,_,_,rfl,rfl,hT,rfl,_,_,rfl,rfl,?_];unfold iD at q;rw[az c']at q;exact q
abbrev nV (n:Nat):V:=.int (n:Int)
def mU {v:Int}(h:0<=v):∃ n:Nat,v=(n:Int):=#[v.toNat,by lia]
def eL {xs:List Nat}{i:Nat}(h:i<xs.length):atI (xs.map nV) (i:Int)=some (nV (xs.getD i 0)):=
 cL (by rw[aQ,aD h,aF,aD h];rfl)
def J8 {xs:List Nat}{i:Nat}(h0:i≠0)(h:i<xs.length):atI (xs.map nV) ((i:Int)-1)=some (nV (xs.getD (i-1) 0)):=by
 have e:(i:Int)-1=((i-1:Nat):Int):=by lia
 rw[e];exact eL (by lia)
def eN {xs:List Nat}{i:Nat}{x:V}(h:(xs.map nV)[i]?=some x):i<xs.length/\x=nV (xs.getD i 0):=by
 rw[aQ]at h;cases e:xs[i]? with
 | none=>rw[e]at h;cases h
 | some y=>
  rw[e]at h;refine #[(aY.mp e).1,?_];rw[aF,e];exact (aV h).symm
def J9 (n:Nat):Builtin.bitAnd (n:Int) 1=((n%2:Nat):Int):=by
 unfold Builtin.bitAnd;rw[aU (iS n),aU (by decide:(0:Int)<=1)];show ((n &&& 1:Nat):Int)=_;rw[Nat.and_one_is_mod]
def Ka (a b:Nat):2*((lu a b:Nat):Int)+Builtin.bitAnd ((b:Int)/2^((lu a b:Nat):Int).toNat) 1=((fig a b:Nat):Int):=by
 have e:(b:Int)/2^((lu a b:Nat):Int).toNat=((b/2^lu a b:Nat):Int):=by
  rw[eA,Int.natCast_ediv,Int.natCast_pow];rfl
 rw[e,J9];unfold fig;lia
def Kb {K:Frag}{xs:List Nat}:aI K H (xs.map λn:Nat=>(n:Int)) (xs.map nV):=by
 have e:xs.map nV=(xs.map λn:Nat=>(n:Int)).map V.int:=by rw[bT];rfl
 rw[e];exact aI.ints
def But (p:Addr)(H H':Hp):Prop:=∀ b o,b≠p->H b=some o->H' b=some o
def But.sq {K:Frag}{p:Addr}{a:Addr}(k:But p H H')(h:SqL K H a xs)(n:H p=none):SqL K H' a xs:=by
 rcases h with (h|⟨o,h⟩)|h
 .exact .inl (.inl (k _ _ (aq h n) h))
 .exact .inl (.inr #[o,k _ _ (aq h n) h])
 .exact .inr h
def vQ (xs:List Nat):(xs.map nV).all fo=true:=by
 rw[ff];intro x hx;obtain ⟨n,_,rfl⟩:=bI.mp hx;rfl
def vR (n:Nat)(xs:List Nat):inV (.int (n:Int)) (xs.map nV)=decide (n∈xs):=by
 unfold inV
 induction xs with
 | nil=>rfl
 | cons x xs ih=>
  rw[bK,fI,ih];show ((x:Int)==(n:Int)||decide (n∈xs))=decide (n∈x::xs);by_cases h:x=n
  .subst h;simp
  .have:((x:Int)==(n:Int))=false:=by
    rw[tU];lia
   rw[this,Bool.false_or];have e:(n∈x::xs)=(n∈xs):=propext (by simp[bE h]);simp[bE h]
inductive vS (K:Frag)(vs:List V)(H:Hp)(Q:VK)(w_1:XK):Prop
 | c:∀(a:Addr) (xs:List Nat),vs=[.ref a]->SqL K H a (xs.map nV)->Unl xs->xs.length<=1000->(∀(p:Addr) (H':Hp),H p=none->Same H H'->H' p=some (.lst ((dD xs).map nV))->Q (.ref p) H')->vS K vs H Q w_1
def Kc (T:Txt K mg)(xU:DF K mg "turned" oS qH)(Nu:FC P w K mg base 1 "lowest_unlike" qG vO):FC P w K mg base 2 "turned" qH (vS K):=by
 refine xU.ok mj (λvs H Q E h=>?_) (λf cdv A outer s H vs Q E hr h=>?_)
 .obtain ⟨a,xs,rfl,_⟩:=h;rfl
 obtain ⟨a,xs,rfl,hS,hu,hz,q⟩:=h;refine #[_,(aK (aL (i:=1) mj.nd rfl (au rfl) (cy ae))
   (aK (cO PassesOwn.never rfl (uN rfl T.xK (aa (pv 0) ae)) (i8 rfl (c7 (aP (i:=2) mj.nd rfl (au rfl)) (c7 (aP (i:=3) mj.nd rfl (au rfl)) fP))) (aw (bu (aX dr (pv 2) ag (aS _)) (aw (dB (d5 F.plainAttrs_list F.slot_list_append F.type_list_append eJ (pv 1) (aa (aG gZ (pv 3) ag) ae)))) (aK (aL (i:=4) mj.nd rfl (au rfl) (ax Nu hr (aa (aB (bw (K:=K)) (pv 0) (aG cF (pv 2) ag) (λ_ _=>rfl)) (aa (pv 3) ae))))
   (aw (dB (d5 F.plainAttrs_list F.slot_list_append F.type_list_append eJ (pv 1) (aa (aG cf (aG eC ag (pv 4)) (aG zU (aG Ff (pv 3) (pv 4)) ag)) ae))))))))
   (aw (aE (pv 1))))),?_]
 refine #[(by show 0<=sizeLine;decide),λp hp=>?_];have k0:But p H (upd H p (.lst [])):=λb o n e=>by rw[ak n];exact e
 refine #[_,rfl,a,rfl,#[_,k0.sq hS hp],?_];refine uO (xs:=xs.map nV) (λi U H2=>∃ x2 x3 x4:Option V,U=[some (.ref a),some (.ref p),x2,x3,x4]/\H2 p=some (.lst (((dD xs).take i).map nV))/\But p H H2) ?_ ?_ ?_ ?_
 .exact #[_,_,_,rfl,ah,k0]
 .rintro i U H2 _ ⟨x2,x3,x4,rfl,_,k2⟩;exact k2.sq hS hp
 .rintro i x U H2 r hx ⟨x2,x3,x4,rfl,h2,k2⟩ hr;obtain ⟨hi,rfl⟩:=eN hx;have hS2:=k2.sq hS hp;have np:p≠r:=aq h2 hr;have h3:upd H2 r (.tup [.int i,nV (xs.getD i 0)]) p=some (.lst (((dD xs).take i).map nV)):=by rw[ak np];exact h2
  have k3:But p H (upd H2 r (.tup [.int i,nV (xs.getD i 0)])):=λb o n e=>(aJ hr _) b o (k2 b o n e);have hS3:=k3.sq hS hp;have hlen:(((dD xs).take i).map nV).length<sizeLine:=aW (by rw[af,bt,kK];lia);refine #[r,_,rfl,SqT.of ah,rfl,_,_,rfl,_,_,rfl,rfl,?_];generalize upd H2 r (.tup [.int i,nV (xs.getD i 0)])=H3 at h3 k3 hS3 ⊢;have fin:∀ v:V,v=nV (gI xs i)->∃ y2 y3 y4:Option V,[some (V.ref a),some (V.ref p),y2,y3,y4]=[some (V.ref a),some (V.ref p),y2,y3,y4]/\upd H3 p (.lst (((dD xs).take i).map nV++[v])) p=some (.lst (((dD xs).take (i+1)).map nV))/\But p H (upd H3 p (.lst (((dD xs).take i).map nV++[v]))):=by
   rintro v rfl;refine #[none,none,none,rfl,?_,λb o n e=>by rw[ak n];exact k3 b o n e];rw[ah,Jl hi,aN];rfl
  refine #[_,rfl,rfl,_,rfl,?_];refine ite2 (λc=>?_) (λc=>?_)
  .have c':i=0:=by
    have:=V.int.inj (cE c);lia
   refine #[_,rfl,.inl #[rfl,_,SqL.of h3],_,rfl,_,_,rfl,rfl,(by show (0:Int) < 2;decide),_,_,_,rfl,rfl,h3,hlen,?_];obtain ⟨_,_,_,_,g2,g3⟩:=fin (.int (((xs.getD i 0:Nat):Int) % 2)) (by
    unfold gI;rw[ar c',c'];show V.int _=V.int _;rw[Int.natCast_emod];rfl)
   exact #[_,_,_,rfl,g2,g3]
  .have c':i≠0:=λz=>c (by subst z;decide);have hne:xs.getD (i-1) 0≠xs.getD i 0:=by
    have:=hu (i-1) (by lia);rw[show i-1+1=i by lia]at this;exact this
   refine #[_,rfl,_,rfl,_,_,rfl,rfl,_,_,_,_,rfl,rfl,hS3,J8 c' hi,_,rfl,_,_,rfl,hne,?_];refine #[_,rfl,.inl #[rfl,_,SqL.of h3],_,rfl,_,_,rfl,rfl,.inl #[by decide,by decide],_,rfl,_,rfl,_,_,rfl,rfl,iS _,_,_,rfl,rfl,_,_,rfl,rfl,_,_,_,rfl,rfl,h3,hlen,?_];obtain ⟨_,_,_,_,g2,g3⟩:=fin (.int (2 * ((lu (xs.getD (i - 1) 0) (xs.getD i 0):Nat):Int)+Builtin.bitAnd (((xs.getD i 0:Nat):Int) / 2 ^ ((lu (xs.getD (i - 1) 0) (xs.getD i 0):Nat):Int).toNat) 1)) (by
    unfold gI;rw[az c',Ka])
   exact #[_,_,_,rfl,g2,g3]
 .rintro U H2 ⟨x2,x3,x4,rfl,h2,k2⟩;refine #[_,rfl,?_];refine q p H2 hp (λb o e=>k2 b o (aq e hp) e) ?_;rw[h2,bh (by rw[kK,af];exact av _)]
def dF:Nat->List Nat->List Nat
 | 0,xs=>xs
 | n+1,xs=>dD (dF n xs)
def sC (n:Nat)(xs:List Nat):(dF n xs).length=xs.length:=by
 induction n with
 | zero=>rfl
 | succ n ih=>rw[dF,kK,ih]
def kQ (h:Unl xs)(n:Nat):Unl (dF n xs):=by
 induction n with
 | zero=>exact h
 | succ n ih=>exact Jm ih
def sE {k:Nat}(h:dE m xs)(hk:m<=k):dE k xs:=λi hi=>cH (h i hi) hk
def Kd (h:Unl xs)(hb:dE (2^207) xs):dE 414 (dF 1 xs):=mP (k:=207) (by decide) h hb
def Ke (h:Unl xs)(hb:dE (2^207) xs):dE 18 (dF 2 xs):=mP (k:=9) (by decide) (kQ h 1) (sE (Kd h hb) (by decide))
def Kf (h:Unl xs)(hb:dE (2^207) xs):dE 10 (dF 3 xs):=mP (k:=5) (by decide) (kQ h 2) (sE (Ke h hb) (by decide))
def Kg (h:Unl xs)(hb:dE (2^207) xs):dE 8 (dF 4 xs):=mP (k:=4) (by decide) (kQ h 3) (sE (Kf h hb) (by decide))
def Kh (h:Unl xs)(hb:dE (2^207) xs):dE 6 (dF 5 xs):=mP (k:=3) (by decide) (kQ h 4) (sE (Kg h hb) (by decide))
def de (es:List (Int×Int)):List Nat:=es.map gb
def gN (es:List (Int×Int)):(de es).length=es.length:=af _
def vT {es:List (Int×Int)}{i:Nat}(h:i<es.length):(de es).getD i 0=gb es[i]:=by
 unfold de;rw[aF,aQ,aD h];rfl
def Ki {es:List (Int×Int)}(h:∀ e∈es,d7 64 e):dE (2^207) (de es):=λi hi=>by
 rw[gN]at hi;rw[vT hi];exact J5 (h _ (cJ hi))
def vU {es:List (Int×Int)}(h:∀ e∈es,d7 64 e)(hr:Rise es):Unl (de es):=λi hi=>by
 rw[gN]at hi;rw[vT (by lia),vT hi];intro z;have e:=J6 (h _ (cJ (by lia))) (h _ (cJ hi)) z;have:=fc.mp hr i (i+1) (by lia) hi (by lia);rw[e]at this;have q:=fX.mp this;lia
def Kj {es:List (Int×Int)}{i:Nat}(h:i<es.length):(de es).take (i+1)=(de es).take i++[gb es[i]]:=by
 have h':i<(de es).length:=by rw[gN];exact h
 have z:(de es)[i]'h'=gb es[i]:=List.getElem_map gb;rw[cx h',z]
inductive vV (K:Frag)(vs:List V)(H:Hp)(Q:VK)(w_1:XK):Prop
 | c:∀(a:Addr) (ws:List V) (es:List (Int×Int)),vs=[.ref a]->SqL K H a ws->aI K H es ws->es.length<=1000->(∀ e∈es,d7 64 e)->Rise es->(∀(p:Addr) (H':Hp),H p=none->Same H H'->H' p=some (.lst ((dF 5 (de es)).map nV))->Q (.ref p) H')->vV K vs H Q w_1
def Kk {K:Frag}{H0:Hp}{D:Addr}{es:List (Int×Int)}{ws:List V}{i:Nat}{x:V}(hD:H0 D=none)(hw:aI K H0 es ws)(hx:ws[i]?=some x)(k:But D H0 H2):∃ h:i<es.length,Rep.has K H2 es[i] x:=by
 obtain ⟨e,h1,h2⟩:=hw.get hx;have hi:=(aY.mp h1).1;refine #[hi,?_];have z:es[i]=e:=(aY.mp h1).2;rw[z];obtain ⟨a,x1,x2,rfl,q,e1,e2⟩:=(show hasP K H0 e x from h2);exact #[a,x1,x2,rfl,k _ _ (aq q hD) q,e1,e2]
def Kl (T:Txt K mg)(xV:DF K mg "labels" oT qI)(Nv:FC P w K mg base 1 "code" qF (vP K))(Nw:FC P w K mg base 2 "turned" qH (vS K)):FC P w K mg base 3 "labels" qI (vV K):=by
 refine xV.ok qu (λvs H Q E h=>?_) (λf cdv A outer s H vs Q E hr h=>?_)
 .obtain ⟨a,ws,es,rfl,_⟩:=h;rfl
 obtain ⟨a,ws,es,rfl,hS,hw,hz,he,hri,q⟩:=h;have hlen:=hw.length;refine #[_,(aK (gG (i:=1) (N:=["entry"]) (own:=1) (cap:=[]) qu.nd rfl rfl rfl (cQ (pv 0)) #[rfl,rfl,rfl,rfl,rfl,rfl] (λ_ _ _ _ _=>(aP (i:=0) (show List.Nodup (["entry"]:List Str) by decide +kernel) rfl (au rfl))) (λ_ _ _ _ _=>bW) (λ_ _ _ _ _=>(ax Nv hr (aa (pv 0) ae))))
   (aK (cO PassesOwn.never rfl (fQ rfl T.dG (aa (oD rfl T.Nr) ae)) (aP (i:=2) qu.nd rfl (au rfl)) (aw (aL (i:=1) qu.nd rfl (au rfl) (ax Nw hr (aa (pv 1) ae)))))
   (aw (aE (pv 1))))),?_]
 refine #[_,rfl,a,rfl,#[_,hS],λD hD=>?_];have k0:But D H (upd H D (.lst [])):=λb o n e=>by rw[ak n];exact e
 refine c9 (xs:=ws) (λi U H2=>∃ x0:Option V,U=[x0]/\H2 D=some (.lst (((de es).take i).map nV))/\But D H H2) ?_ ?_ ?_ ?_
 .exact #[_,rfl,ah,k0]
 .rintro i U H2 _ ⟨x0,rfl,_,k2⟩;exact k2.sq hS hD
 .rintro i m x U H2 hx hm ⟨x0,rfl,h2,k2⟩;obtain ⟨hi,hhas⟩:=Kk hD hw hx k2;refine bZ ?_;refine #[_,rfl,x,es[i],rfl,hhas,?_];refine #[_,h2,aW (by rw[af,bt,gN];lia),m-1,by lia,by lia,_,rfl,?_,λb o n e=>by rw[ak n];exact k2 b o n e];rw[ah,Kj hi,aN,<-sv (he _ (cJ hi))];rfl
 .rintro U H2 ⟨x0,rfl,h2,k2⟩;have e0:H2 D=some (.lst ((de es).map nV)):=by
   rw[h2,bh (by rw[gN];lia)]
  have same0:Same H H2:=λb o e=>k2 b o (aq e hD) e;refine #[5,rfl,by decide,by decide,?_];refine fR (n:=5) (λi U H3=>∃(p:Addr) (x2 x3:Option V),U=[some (.ref a),some (.ref p),x2]/\H p=none/\Same H H3/\H3 p=some (.lst ((dF i (de es)).map nV))) ?_ ?_ ?_
  .exact #[D,_,none,rfl,hD,same0,e0]
  .rintro i U H3 hi ⟨p,x2,x3,rfl,hp,s3,h3⟩;refine #[_,rfl,p,_,rfl,SqL.of h3,kQ (vU he hri) i,by rw[sC,gN];exact hz,λp4 H4 hp4 s4 h4=>?_];exact #[p4,_,none,rfl,s3.free hp4,s3.trans s4,h4]
  .rintro U H3 ⟨p,x2,x3,rfl,hp,s3,h3⟩;refine #[_,rfl,?_];exact q p H3 hp s3 h3
def fT {n d i:Nat}:HT.sIx n d (some (i:Int))=min i n:=by
 unfold HT.sIx;simp
 try lia
def sF (xs:List V)(a b:Nat):cutV xs (some (a:Int)) (some (b:Int))=(xs.drop a).take (b-a):=by
 unfold cutV;rw[fT,fT];by_cases h:a<=xs.length
 .rw[gU h];by_cases h2:b<=xs.length
  .rw[gU h2]
  .rw[n9 (by lia),bh (by rw[eQ];exact av _),bh (by rw[eQ];lia)]
 .rw[n9 (show xs.length<=a by lia),gq (av _),gq (show xs.length<=a by lia)];simp
def CV {α:Type}(xs:List α)(k:Nat):(xs.drop k).take 1=xs[k]?.toList:=by
 by_cases h:k<xs.length
 .rw[List.drop_eq_getElem_cons h,aD h];rfl
 .rw[gq (by lia),dk (by lia)];rfl
def Km {k:Nat}{i j:Int}(hi:i=if (k:Int)-1>0 then (k:Int)-1 else 0)(hj:j=(k:Int)):cutV xs (some i) (some j)=(if k=0 then none else xs[k-1]?).toList:=by
 subst hj;have e:i=((k-1:Nat):Int):=by
  rw[hi];split<;>lia
 subst e;rw[sF];split
 .rename_i h;subst h;simp
 .rw[show k-(k-1)=1 by lia,CV]
def Kn {k:Nat}{i j:Int}(hi:i=(k:Int)+1)(hj:j=(k:Int)+2):cutV xs (some i) (some j)=xs[k+1]?.toList:=by
 subst hi hj;rw[show (k:Int)+1=((k+1:Nat):Int) by lia,show (k:Int)+2=((k+2:Nat):Int) by lia,sF,show k+2-(k+1)=1 by lia,CV]
def Ko (xs:List Nat)(k:Nat):(if k=0 then none else (xs.map nV)[k-1]?).toList++(xs.map nV)[k+1]?.toList=(c4 xs k).map nV:=by
 unfold c4;rw[aN,aQ,aQ];congr 1
 .split
  .rfl
  .cases xs[k-1]?<;>rfl
 .cases xs[k+1]?<;>rfl
def But.new {p b:Addr}(k:But p H H2)(hb:H2 b=none)(o:HO):But p H (upd H2 b o):=λx o' n e=>(aJ hb o) x o' (k x o' n e)
inductive vW (K:Frag)(vs:List V)(H:Hp)(Q:VK)(w_1:XK):Prop
 | c:∀(a:Addr) (xs:List Nat),vs=[.ref a]->SqL K H a (xs.map nV)->Unl xs->dE 6 xs->xs.length<=1000->(∀(p:Addr) (H':Hp),H p=none->Same H H'->H' p=some (.lst ((colL xs).map nV))->Q (.ref p) H')->vW K vs H Q w_1
def d8 (es:List (Int×Int)):List Bool:=gM (colL (dF 5 (de es)))
def kR (es:List (Int×Int)):(d8 es).length=es.length:=by
 unfold d8;rw[CC,CA,sC,gN]
def vX {es:List (Int×Int)}(he:∀ e∈es,d7 64 e)(hri:Rise es):Unl (dF 5 (de es)):=kQ (vU he hri) 5
def CW {es:List (Int×Int)}(he:∀ e∈es,d7 64 e)(hri:Rise es):dE 6 (dF 5 (de es)):=Kh (vU he hri) (Ki he)
def Kp {xs:List Nat}(h:dE 6 xs):∀ i x,atZ xs i=some x->x<=5:=λi x e=>by
 obtain ⟨h0,h1⟩:=vH e;have:=h i.toNat (by lia);unfold atZ at e;rw[ar h0]at e;rw[aF,e]at this;exact Nat.lt_succ_iff.mp this
def CY {es:List (Int×Int)}(he:∀ e∈es,d7 64 e)(hri:Rise es):iu (d8 es):=Jv (CB (unlZ (vX he hri))) (Jr (Kp (CW he hri)))
inductive vY (K:Frag)(vs:List V)(H:Hp)(Q:VK)(w_1:XK):Prop
 | c:∀(a:Addr) (ws:List V) (es:List (Int×Int)),vs=[.ref a]->H a=some (.lst ws)->aI K H es ws->es.length<=1000->(∀ e∈es,d7 64 e)->Rise es->(∀(p:Addr) (H':Hp),H p=none->Same H H'->H' p=some (.lst ((d8 es).map V.bl))->Q (.ref p) H')->vY K vs H Q w_1
inductive vZ (K:Frag)(vs:List V)(H:Hp)(Q:VK)(w_1:XK):Prop
 | c:∀(a:Addr) (ws:List V) (es:List (Int×Int)),vs=[.ref a]->H a=some (.lst ws)->aI K H es ws->es.length<=1000->(∀ e∈es,d7 64 e)->Rise es->(∀(p:Addr) (H':Hp),H p=none->Same H H'->H' p=some (.lst (dz ws (d8 es)))->Q (.ref p) H')->vZ K vs H Q w_1
def CZ (o:Option Bool):o.toList.any id=o.getD false:=by
 cases o with
 | none=>rfl
 | some b=>cases b<;>rfl
def Kq (ms:List Bool):inV (.bl true) (ms.map V.bl)=ms.any id:=by
 unfold inV
 induction ms with
 | nil=>rfl
 | cons m ms ih=>
  rw[bK,fI,ih,fI];cases m<;>rfl
def Kr (ms:List Bool):(ms.map V.bl).all fo=true:=by
 rw[ff];intro x hx;obtain ⟨n,_,rfl⟩:=bI.mp hx;rfl
def C0 {α:Type}{as:List α}{bs:List Bool}{a:α}{b:Bool}(h:as.length=bs.length):dz (as++[a]) (bs++[b])=dz as bs++(if b=true then [a] else []):=by
 unfold dz;rw[List.zip_append h,eB,aN];congr 1;cases b<;>rfl
def Ks {α:Type}(as:List α)(bs:List Bool):(dz as bs).length<=as.length:=by
 unfold dz;rw[af];refine cD (fg _ _) ?_;rw[nZ];lia
def C1 {α:Type}[Rep α]{K:Frag}:∀{es:List α} {ws:List V} {ms:List Bool},aI K H es ws->aI K H (dz es ms) (dz ws ms)
 | _,_,_,.nil=>by
  unfold dz;exact .nil
 | e::es,w::ws,[],.cons h t=>by
  unfold dz;exact .nil
 | e::es,w::ws,m::ms,.cons h t=>by
  have:=C1 (ms:=ms) t;unfold dz at this ⊢;cases m with
  | false=>exact this
  | true=>exact .cons h this
def C2 (bs:List Nat)(c:Nat):((List.range (c+1)).filter λc=>!decide (c∈bs))=((List.range c).filter λc=>!decide (c∈bs))++(if c∈bs then [] else [c]):=by
 rw[eS,eB];congr 1;by_cases h:c∈bs
 .rw[ar h];simp[List.filter,h]
 .rw[az h];simp[List.filter,h]
def C3 {H:Hp}{p t:Addr}{xs ys:List V}(h1:H p=some (.lst xs))(h2:H t=some (.tup ys)):p≠t:=λz=>by
 rw[z,h2]at h1;cases h1
def C4 {n k:Nat}(h:k<n):ixN n (k:Int)=some k:=by
 unfold ixN;simp;lia
def besV (xs:List V)(k:Nat):List V:=(if k=0 then none else xs[k-1]?).toList++xs[k+1]?.toList
def Kt (xs:List V)(k:Nat):(besV xs k).length<=2:=by
 have e:∀ o:Option V,o.toList.length<=1:=λo=>by cases o<;>simp
 unfold besV;rw[bB];have:=e (if k=0 then none else xs[k-1]?)
 have:=e xs[k+1]?;lia
inductive spNb (K:Frag)(vs:List V)(H:Hp)(Q:VK)(w_1:XK):Prop
 | c:∀(a:Addr) (xs:List V) (k:Nat),vs=[.ref a,.int k]->H a=some (.lst xs)->(∀(g:Addr) (H':Hp),H g=none->Same H H'->H' g=some (.lst (besV xs k))->Q (.ref g) H')->spNb K vs H Q w_1
def Ku (T:Txt K mg)(xW:DF K mg "neighbours" oU mz):FC P w K mg base 1 "neighbours" mz (spNb K):=by
 refine xW.ok Iz (λvs H Q E h=>?_) (λf cdv A outer s H vs Q E hr h=>?_)
 .obtain ⟨a,xs,k,rfl,_⟩:=h;rfl
 obtain ⟨a,xs,k,rfl,ha,q⟩:=h;refine #[_,(aw (aE (aG jU (gE (j4 (K:=K)) (pv 0) (eI (aT (lV rfl) rfl T.lz boot_max (aa (aG cF (pv 1) ag) (aa ag ae)))) (eI (pv 1))) (gE (j4 (K:=K)) (pv 0) (eI (aG cf (pv 1) ag)) (eI (aG cf (pv 1) ag)))))),?_];refine #[_,rfl,_,rfl,_,_,rfl,rfl,_,_,rfl,_,rfl,_,rfl,_,rfl,_,_,rfl,SqL.of ha,λb hb=>?_];have kb:=aJ hb (.lst (cutV xs (some (if 0>(k:Int)-1 then 0 else (k:Int)-1)) (some (k:Int))))
 have hbb:upd H b (.lst (cutV xs (some (if 0>(k:Int)-1 then 0 else (k:Int)-1)) (some (k:Int)))) b=some (.lst (if k=0 then none else xs[k-1]?).toList):=by
  rw[ah,Km (k:=k) (by split<;>split<;>lia) rfl]
 generalize upd H b (.lst (cutV xs (some (if 0>(k:Int)-1 then 0 else (k:Int)-1)) (some (k:Int))))=H3 at kb hbb ⊢
 refine #[_,rfl,_,rfl,_,_,rfl,rfl,_,rfl,_,rfl,_,_,rfl,rfl,_,rfl,_,_,rfl,SqL.of (kb _ _ ha),λc hc=>?_];have kc:=aJ hc (.lst (cutV xs (some ((k:Int)+1)) (some ((k:Int)+2))));have hcb:=kc _ _ hbb;have hcc:upd H3 c (.lst (cutV xs (some ((k:Int)+1)) (some ((k:Int)+2)))) c=some (.lst xs[k+1]?.toList):=by
  rw[ah,Kn (k:=k) rfl rfl]
 generalize upd H3 c (.lst (cutV xs (some ((k:Int)+1)) (some ((k:Int)+2))))=H4 at kc hcb hcc ⊢;refine #[b,c,_,_,rfl,rfl,hcb,hcc,?_,λg hg=>?_]
 .rw[<-bB];exact cD (Kt xs k) (by decide)
 exact q g _ (kb.free (kc.free hg)) (kb.trans (kc.trans (aJ hg _))) ah
inductive v3 (K:Frag)(vs:List V)(H:Hp)(Q:VK)(w_1:XK):Prop
 | c:∀(a:Addr) (xs:List Nat) (k:Nat),vs=[.ref a]->H a=some (.lst ((c4 xs k).map nV))->(∀ H':Hp,Same H H'->Q (.int (fZ xs k:Nat)) H')->v3 K vs H Q w_1
def Kv (T:Txt K mg)(xX:DF K mg "least_free" oV qJ):FC P w K mg base 1 "least_free" qJ (v3 K):=by
 refine xX.ok IA (λvs H Q E h=>?_) (λf cdv A outer s H vs Q E hr h=>?_)
 .obtain ⟨a,xs,k,rfl,_⟩:=h;rfl
 obtain ⟨a,xs,k,rfl,ha,q⟩:=h;refine #[_,(aw (aE (aT (GZ rfl) rfl T.xM boot_min (aa (cg (N:=["colour","taken"]) (own:=1) (cap:=[0]) rfl (fm (cX (aa ag (aa ag (aa ag ae))))) #[rfl,rfl,rfl,rfl,rfl,rfl] (λ_ _ _ _ _=>(aP (i:=0) (show List.Nodup (["colour","taken"]:List Str) by decide +kernel) rfl (au rfl))) (λ_ _ _ _ _=>(jd (aX (Bn (K:=K)) (pv 0) (pv 1) (by with_unfolding_all rfl)))) (λ_ _ _ _ _=>(pv 0))) ae)))),?_]
 refine #[(by show 3<=sizeLine;decide),λt ht=>?_];have st:=aJ ht (.tup [V.int 0,V.int 1,V.int 2]);have ht1:upd H t (.tup [V.int 0,V.int 1,V.int 2]) t=some (.tup [V.int 0,V.int 1,V.int 2]):=ah;generalize upd H t (.tup [V.int 0,V.int 1,V.int 2])=H1 at st ht1 ⊢;have h1a:=st _ _ ha;refine #[t,rfl,#[_,SqT.of ht1],λD hD=>?_];refine ik (xs:=[V.int 0,V.int 1,V.int 2]) (λc U H6=>∃ x0:Option V,U=[x0,some (.ref a)]/\H6 D=some (.lst (((List.range c).filter λc=>!decide (c∈c4 xs k)).map nV))/\But D H1 H6) ?_ ?_ ?_ ?_
 .exact #[_,rfl,ah,λb o n e=>by rw[ak n];exact e]
 .rintro i U H6 _ ⟨x0,rfl,_,k6⟩;exact SqT.of (k6 _ _ (aq ht1 hD) ht1)
 .rintro c m x U H6 hx hm ⟨x0,rfl,h6,k6⟩;obtain ⟨hi,rfl⟩:c<3/\x=V.int (c:Int):=by
   rcases c with _|_|_|c
   .exact #[by decide,(aV hx).symm]
   .exact #[by decide,(aV hx).symm]
   .exact #[by decide,(aV hx).symm]
   .cases hx
  have h6g:=k6 _ _ (aq h1a hD) h1a;have hlen:=fg (λc=>!decide (c∈c4 xs k)) (List.range c);rw[bY]at hlen;refine #[_,rfl,_,rfl,_,_,rfl,.inl (SqL.of h6g),rfl,vQ _,_,rfl,?_];show if (!inV (.int (c:Int)) ((c4 xs k).map nV))=true then _ else _
  rw[vR];have hm3:c+m=3:=hm;refine ite2 (λe=>?_) (λe=>?_)
  .have e':c∉c4 xs k:=λz=>by
    rw[aU z]at e;cases e
   refine #[_,rfl,_,h6,aW (by rw[af];lia),m-1,by lia,(by show c+1+(m-1)=3;lia),_,rfl,?_,λb o n e=>by rw[ak n];exact k6 b o n e];rw[ah,C2,az e',aN];rfl
  .have e':c∈c4 xs k:=lB λz=>e (by rw[bH z];rfl);refine #[m-1,by lia,(by show c+1+(m-1)=3;lia),_,rfl,?_,k6];rw[h6,C2,ar e',di]
 .rintro U H6 ⟨x0,rfl,h6,k6⟩;have h6:H6 D=some (.lst (((List.range 3).filter λc=>!decide (c∈c4 xs k)).map nV)):=h6;have s6:Same H1 H6:=λb o e=>k6 b o (aq e hD) e;have mem:∀ c,c∈((List.range 3).filter λc=>!decide (c∈c4 xs k))↔c<3/\c∉c4 xs k:=λc=>by
   rw[dh,cC];constructor
   .rintro ⟨h1,h2⟩;refine #[h1,λz=>?_];rw[aU z]at h2;cases h2
   .rintro ⟨h1,h2⟩;exact #[h1,by rw[bH h2];rfl]
  have hf:fZ xs k∈((List.range 3).filter λc=>!decide (c∈c4 xs k)):=(mem _).mpr #[Nat.lt_succ_of_le (Jz xs k),Jx];refine #[D,((List.range 3).filter λc=>!decide (c∈c4 xs k)).map λn:Nat=>(n:Int),rfl,?_,?_,λM hM hL=>?_]
  .rw[bT];exact SqL.of h6
  .rw[af];exact uc hf
  have eM:M=(fZ xs k:Int):=by
   have h1:=hL _ (bI.mpr #[_,hf,rfl]);obtain ⟨c,hc,rfl⟩:=bI.mp hM;have h2:¬ c<fZ xs k:=λz=>((mem c).mp hc).2 (Jy z);lia
  rw[eM];exact q _ (st.trans s6)
def Kw (xs:List Nat)(k:Nat):besV (xs.map nV) k=(c4 xs k).map nV:=Ko xs k
def Kx (T:Txt K mg)(xY:DF K mg "colours" oW qK)(xZ:FC P w K mg base 1 "neighbours" mz (spNb K))(Nx:FC P w K mg base 1 "least_free" qJ (v3 K)):FC P w K mg base 3 "colours" qK (vW K):=by
 refine xY.ok qv (λvs H Q E h=>?_) (λf cdv A outer s H vs Q E hr h=>?_)
 .obtain ⟨a,xs,rfl,_⟩:=h;rfl
 obtain ⟨a,xs,rfl,hS,hu,hb,hz,q⟩:=h;refine #[_,(aK (aL (i:=1) qv.nd rfl (au rfl) (dC (uT (K:=K)) rfl T.jz boot_list (aa (pv 0) ae)))
   (aK (cO PassesOwn.never rfl (fm (cX (aa ag (aa ag (aa ag ae))))) (aP (i:=2) qv.nd rfl (au rfl)) (aw (cO PassesOwn.never rfl (fQ rfl T.dG (aa (aT (bJ (K:=K)) rfl T.bG bF (aa (pv 0) ae)) ae)) (aP (i:=3) qv.nd rfl (au rfl)) (aw (bu (aX dr (aB (bw (K:=K)) (pv 1) (pv 3) (λ_ _=>rfl)) (pv 2) (aS _)) (aw (oj (ax Nx hr (aa (ax xZ hr (aa (pv 1) (aa (pv 3) ae))) ae)) (ui (pv 1) (pv 3) uu))) bz)))))
   (aw (aE (pv 1))))),?_]
 refine #[_,rfl,a,_,rfl,.inl hS,λp hp=>?_];have k0:But p H (upd H p (.lst (xs.map nV))):=λb o n e=>by rw[ak n];exact e
 refine #[(by show 3<=sizeLine;decide),λt ht=>?_];have npt:p≠t:=aq ah ht;refine #[t,rfl,#[_,SqT.of ah],?_];refine oq (xs:=[V.int 3,V.int 4,V.int 5]) (λi U H2=>∃ x2 x3:Option V,U=[some (.ref a),some (.ref p),x2,x3]/\H2 p=some (.lst ((colN xs i).map nV))/\H2 t=some (.tup [V.int 3,V.int 4,V.int 5])/\But p H H2) ?_ ?_ ?_ ?_
 .exact #[_,_,rfl,by rw[ak npt];exact ah,ah,k0.new ht _]
 .rintro i U H2 _ ⟨x2,x3,rfl,_,h2t,_⟩;exact SqT.of h2t
 .rintro i x U H2 hx ⟨x2,x3,rfl,h2,h2t,k2⟩;obtain ⟨hi,rfl⟩:i<3/\x=V.int ((3+i:Nat):Int):=by
   rcases i with _|_|_|i
   .exact #[by decide,(aV hx).symm]
   .exact #[by decide,(aV hx).symm]
   .exact #[by decide,(aV hx).symm]
   .cases hx
  have hyl:=JM xs i;have hyu:=JN hu i;have hnx:colN xs (i+1)=recL (3+i) (colN xs i):=rfl;rw[hnx];generalize colN xs i=ys at h2 hyl hyu ⊢;generalize 3+i=v;have hSa:SqL K H2 a (xs.map nV):=k2.sq hS hp;refine #[_,rfl,_,_,rfl,.inl hSa,_,rfl,by rw[af];lia,by rw[af];lia,?_];have el:((((xs.map nV).length:Nat):Int)).toNat=ys.length:=by rw[af,eA,hyl]
  rw[el];refine fR (n:=ys.length) (λk U H3=>∃ x3:Option V,U=[some (.ref a),some (.ref p),some (.int v),x3]/\H3 p=some (.lst ((mixL v ys k).map nV))/\H3 t=some (.tup [V.int 3,V.int 4,V.int 5])/\But p H H3) ?_ ?_ ?_
  .exact #[_,rfl,h2,h2t,k2]
  .rintro k U H3 hk ⟨x3,rfl,h3,h3t,k3⟩;rw[gV];have ml:=CH v ys k;have eg:(mixL v ys k).getD k 0=ys.getD k 0:=by
    rw[aF,CI (av k),<-aF]
   have hat:atI ((mixL v ys k).map nV) (k:Int)=some (nV (ys.getD k 0)):=by
    rw[<-eg];exact eL (by lia)
   refine #[_,rfl,_,rfl,_,_,_,_,rfl,rfl,SqL.of h3,hat,_,rfl,rfl,_,rfl,?_];refine ite2 (λc=>?_) (λc=>?_)
   .have c':ys.getD k 0=v:=by
     have:=V.int.inj (cE c);lia
    refine #[_,rfl,_,rfl,p,_,k,rfl,h3,λg H4 hg s4 h4=>?_];rw[Kw,JD hyu hk c']at h4;refine #[g,ys,k,rfl,h4,λH5 s5=>?_];have s35:=s4.trans s5;have same:∀ b o,b≠p->H3 b=some o->upd H5 p (.lst (((mixL v ys k).map nV).set k (nV (fZ ys k)))) b=some o:=λb o n e=>by
     rw[ak n];exact s35 _ _ e
    refine #[_,rfl,_,rfl,_,_,_,k,rfl,rfl,s35 _ _ h3,C4 (by rw[af,ml];exact hk),?_];refine #[_,rfl,?_,same _ _ (bE (C3 h3 h3t)) h3t,λb o n e=>same _ _ n (k3 b o n e)];rw[ah,JE hk c',i3]
   .have c':ys.getD k 0≠v:=λz=>c (by rw[z];exact aU rfl);exact #[_,rfl,by rw[JB hk c'];exact h3,h3t,k3]
  .rintro U H3 ⟨x3,rfl,h3,h3t,k3⟩;rw[JA (av _)]at h3;exact #[_,_,rfl,h3,h3t,k3]
 .rintro U H2 ⟨x2,x3,rfl,h2,_,k2⟩;refine #[_,rfl,?_];exact q p H2 hp (λb o e=>k2 b o (aq e hp) e) h2
def fA (ms:List Bool)(k:Nat):Bool:=!ms.getD (k-1) false && !ms.getD (k+1) false
def besB (ms:List Bool)(k:Nat):List Bool:=(if k=0 then none else ms[k-1]?).toList++ms[k+1]?.toList
def Ky (ms:List Bool)(k:Nat):besV (ms.map V.bl) k=(besB ms k).map V.bl:=by
 unfold besV besB;rw[aN,aQ,aQ];congr 1
 .split
  .rfl
  .cases ms[k-1]?<;>rfl
 .cases ms[k+1]?<;>rfl
def Kz {k:Nat}(h:1<=k):(besB ms k).any id=!fA ms k:=by
 unfold besB fA;rw[az (by lia),List.any_append,CZ,CZ,aF,aF];generalize ms[k-1]?.getD false=x;generalize ms[k+1]?.getD false=z;cases x<;>cases z<;>rfl
def KA {sh:Nat}{ms:List Bool}(hu:Unl cs)(hl:cs.length=ms.length){k:Nat}(h:k<cs.length)(h1:1<=k)(hs:cs.getD k 0=sh):fA (mixM sh cs ms k) k=fA ms k:=by
 unfold fA;have e:∀ j,k<=j->(mixM sh cs ms k).getD j false=ms.getD j false:=λj hj=>by
  rw[aF,aF,iy hl,az (by lia)]
 rw[e (k+1) (by lia)];have e2:(mixM sh cs ms k).getD (k-1) false=ms.getD (k-1) false:=by
  rw[aF,iy hl,ar (by lia),r9 hl (by lia)];have:=hu (k-1) (by lia);rw[show k-1+1=k by lia,hs]at this;rw[bH this];simp
 rw[e2]
def C5 {sh:Nat}{cs:List Nat}{ms:List Bool}(hl:cs.length=ms.length){k:Nat}(h:k<cs.length)(hn:¬ (cs.getD k 0=sh/\fA ms k=true)):mixM sh cs ms (k+1)=mixM sh cs ms k:=by
 apply fe;intro j;rw[iy hl,iy hl];by_cases c:j<k
 .rw[ar c,ar (by lia)]
 .rw[az c];split
  .have:j=k:=by lia
   subst this;rw[r9 hl h];unfold fA at hn;rw[aD (by lia)];have e:ms.getD j false=ms[j]'(by lia):=by
    rw[aF,aD (by lia)];rfl
   rw[e];congr 1;generalize ms[j]=a;generalize ms.getD (j-1) false=b at hn ⊢;generalize ms.getD (j+1) false=d at hn ⊢;by_cases z:cs.getD j 0=sh
   .have hn':¬ ((!b && !d)=true):=λy=>hn #[z,y];cases b with
    | true=>simp
    | false=>
     cases d with
     | true=>simp
     | false=>exact absurd rfl hn'
   .rw[bH z];simp
  .rfl
def KB {sh:Nat}{cs:List Nat}{ms:List Bool}(hl:cs.length=ms.length){k:Nat}(h:k<cs.length)(hp:1<=k/\cs.getD k 0=sh/\fA ms k=true):mixM sh cs ms (k+1)=(mixM sh cs ms k).set k true:=by
 apply fe;intro j;rw[nY,CL hl,iy hl,iy hl];by_cases c:k=j
 .subst c;rw[ar rfl,ar h,ar (by lia),r9 hl h];obtain ⟨p1,p2,p3⟩:=hp;unfold fA at p3;simp only[gj,nO]at p3;rw[p2,p3.1,p3.2,aU p1];simp
 .rw[az c];by_cases c2:j<k
  .rw[ar c2,ar (by lia)]
  .rw[az c2,az (by lia)]
def KC (T:Txt K mg)(ya:DF K mg "marks" oX qL)(Ny:FC P w K mg base 3 "labels" qI (vV K))(Nz:FC P w K mg base 3 "colours" qK (vW K))(xZ:FC P w K mg base 1 "neighbours" mz (spNb K)):FC P w K mg base 5 "marks" qL (vY K):=by
 refine ya.ok mn (λvs H Q E h=>?_) (λf cdv A outer s H vs Q E hr h=>?_)
 .obtain ⟨a,ws,es,rfl,_⟩:=h;rfl
 obtain ⟨a,ws,es,rfl,ha,hw,hz,he,hri,q⟩:=h;refine #[_,(aK (aL (i:=1) mn.nd rfl (au rfl) (ax Nz hr (aa (ax Ny hr (aa (pv 0) ae)) ae)))
   (aK (gG (i:=2) (N:=["tint"]) (own:=1) (cap:=[]) mn.nd rfl rfl rfl (cQ (pv 1)) #[rfl,rfl,rfl,rfl,rfl,rfl] (λ_ _ _ _ _=>(aP (i:=0) (show List.Nodup (["tint"]:List Str) by decide +kernel) rfl (au rfl))) (λ_ _ _ _ _=>bW) (λ_ _ _ _ _=>bV))
   (aK (cO PassesOwn.never rfl (fm (cX (aa ag (aa ag (aa ag ae))))) (aP (i:=3) mn.nd rfl (au rfl)) (aw (cO PassesOwn.never rfl (gY rfl T.dG (aa ag (aa (aT (bJ (K:=K)) rfl T.bG bF (aa (pv 1) ae)) ae))) (aP (i:=4) mn.nd rfl (au rfl)) (aw (bu (PW.pt (jR (aX dr (aB (bw (K:=K)) (pv 1) (pv 4) (λ_ _=>rfl)) (pv 3) (aS _)) (jQ (aX (Bn (K:=K)) bV (ax xZ hr (aa (pv 2) (aa (pv 4) ae))) (by with_unfolding_all rfl))))) (aw (oj bV (ui (pv 2) (pv 4) uu))) bz)))))
   (aw (aE (pv 2)))))),?_]
 refine #[_,rfl,a,ws,es,rfl,SqL.of ha,hw,hz,he,hri,λp H3 hp s3 h3=>?_];refine #[p,_,rfl,SqL.of h3,vX he hri,CW he hri,by rw[sC,gN];exact hz,λc H4 hc s4 h4=>?_];have cu:Unl (colL (dF 5 (de es))):=Cw (CB (unlZ (vX he hri)));have cl:(colL (dF 5 (de es))).length=es.length:=by rw[CA,sC,gN]
 have fin:d8 es=mkN (colL (dF 5 (de es))) 3:=(JO _).symm;generalize colL (dF 5 (de es))=cs at h4 cu cl fin;have s04:=s3.trans s4;refine #[_,rfl,c,rfl,#[_,SqL.of h4],λF hF=>?_];refine c9 (xs:=cs.map nV) (λi U H5=>∃ x0:Option V,U=[x0]/\H5 F=some (.lst ((List.replicate i false).map V.bl))/\But F H4 H5) ?_ ?_ ?_ ?_
 .exact #[_,rfl,ah,λb o n e=>by rw[ak n];exact e]
 .rintro i U H5 _ ⟨x0,rfl,_,k5⟩;exact k5.sq (SqL.of h4) hF
 .rintro i m x U H5 hx hm ⟨x0,rfl,h5,k5⟩;have hi:=(aY.mp hx).1;rw[af]at hi hm;refine bZ ?_;refine #[_,h5,aW (by rw[af,eF];lia),m-1,by lia,by rw[af];lia,_,rfl,?_,λb o n e=>by rw[ak n];exact k5 b o n e];rw[ah,i4,aN];rfl
 rintro U H5 ⟨x0,rfl,h5,k5⟩;have s45:Same H4 H5:=λb o e=>k5 b o (aq e hF) e;have h5c:=s45 _ _ h4;have nFc:c≠F:=aq h4 hF;have hF0:H F=none:=s04.free hF;have k05:But F H H5:=λb o _ e=>s45 _ _ (s04 _ _ e);have e5:H5 F=some (.lst ((mkN cs 0).map V.bl)):=by
  rw[h5,mkN,af,show List.replicate cs.length false=cs.map (λ_=>false) from by rw[List.map_const']]
 refine #[(by show 3<=sizeLine;decide),λt ht=>?_];have st:=aJ ht (.tup [V.int 2,V.int 1,V.int 0]);refine #[t,rfl,#[_,SqT.of ah],?_];refine oq (xs:=[V.int 2,V.int 1,V.int 0]) (λi U H6=>∃(x3 x4:Option V),U=[some (.ref a),some (.ref c),some (.ref F),x3,x4]/\H6 F=some (.lst ((mkN cs i).map V.bl))/\H6 c=some (.lst (cs.map nV))/\H6 t=some (.tup [V.int 2,V.int 1,V.int 0])/\But F H H6) ?_ ?_ ?_ ?_
 .exact #[_,_,rfl,st _ _ e5,st _ _ h5c,ah,k05.new ht _]
 .rintro i U H6 _ ⟨x3,x4,rfl,_,_,h6t,_⟩;exact SqT.of h6t
 .rintro i x U H6 hx ⟨x3,x4,rfl,h6,h6c,h6t,k6⟩;obtain ⟨hi,rfl⟩:i<3/\x=V.int ((2-i:Nat):Int):=by
   rcases i with _|_|_|i
   .exact #[by decide,(aV hx).symm]
   .exact #[by decide,(aV hx).symm]
   .exact #[by decide,(aV hx).symm]
   .cases hx
  have hml:=JP cs i;have hnx:mkN cs (i+1)=d6 (2-i) cs (mkN cs i):=rfl;rw[hnx];generalize mkN cs i=ms at h6 hml ⊢;generalize 2-i=sh;refine #[_,rfl,_,_,rfl,.inl (SqL.of h6c),1,_,rfl,#[by lia,by lia,by rw[af];lia,by rw[af];lia],?_];have en:((((cs.map nV).length:Nat):Int)-1).toNat=cs.length-1:=by rw[af];lia
  rw[en];have km:∀ k,(mixM sh cs ms k).length=cs.length:=CL hml;refine fR (n:=cs.length-1) (λj U H7=>∃(x4:Option V),U=[some (.ref a),some (.ref c),some (.ref F),some (.int sh),x4]/\H7 F=some (.lst ((mixM sh cs ms (1+j)).map V.bl))/\H7 c=some (.lst (cs.map nV))/\H7 t=some (.tup [V.int 2,V.int 1,V.int 0])/\But F H H7) ?_ ?_ ?_
  .exact #[_,rfl,by rw[JQ hml];exact h6,h6c,h6t,k6]
  .rintro j U H7 hj ⟨x4,rfl,h7,h7c,h7t,k7⟩;have ek:(1:Int)+(j:Int)=((1+j:Nat):Int):=by lia
   have hk1:1<=1+j:=by lia
   have hkl:1+j<cs.length:=by lia
   rw[ek];have es1:1+(j+1)=1+j+1:=by lia
   rw[es1];generalize 1+j=k at h7 hk1 hkl ⊢;have hat:=eL (xs:=cs) hkl;have mc:cs.getD k 0=sh->fA (mixM sh cs ms k) k=fA ms k:=λz=>KA cu hml hkl hk1 z;refine #[_,rfl,_,rfl,_,_,_,_,rfl,rfl,SqL.of h7c,hat,_,rfl,rfl,_,rfl,?_];refine ite2 (λe=>?_) (λe=>?_)
   .have e':cs.getD k 0=sh:=by
     have:=V.int.inj (cE e);lia
    refine #[_,rfl,_,rfl,F,_,k,rfl,h7,λb H8 hb sb hbb=>?_];rw[Ky]at hbb;have kb:But F H H8:=λx o n e=>sb _ _ (k7 x o n e);refine #[_,_,rfl,.inl (SqL.of hbb),rfl,Kr _,_,rfl,?_];show if (!inV (.bl true) ((besB (mixM sh cs ms k) k).map V.bl))=true then _ else _
    rw[Kq,Kz hk1,mc e',Bool.not_not];refine ite2 (λy=>?_) (λy=>?_)
    .refine #[_,rfl,_,rfl,_,_,_,k,rfl,rfl,sb _ _ h7,C4 (by rw[af,km];exact hkl),?_];have same:∀ b o,b≠F->H8 b=some o->upd H8 F (.lst (((mixM sh cs ms k).map V.bl).set k (.bl true))) b=some o:=λb o n e=>by
      rw[ak n];exact e
     refine #[_,rfl,?_,same _ _ (λz=>?_) (sb _ _ h7c),same _ _ (bE (C3 (sb _ _ h7) (sb _ _ h7t))) (sb _ _ h7t),λb o n e=>same _ _ n (kb b o n e)]
     .rw[ah,KB hml hkl #[hk1,e',y],i3]
     .exact nFc z
    .exact #[_,rfl,by rw[C5 hml hkl (λz=>y z.2)];exact sb _ _ h7,sb _ _ h7c,sb _ _ h7t,kb]
   .have e':cs.getD k 0≠sh:=λz=>e (by rw[z];exact aU rfl);refine iteF ?_;exact #[_,rfl,by rw[C5 hml hkl (λz=>e' z.1)];exact h7,h7c,h7t,k7]
  .rintro U H7 ⟨x4,rfl,h7,h7c,h7t,k7⟩;rw[JJ hml (by lia)]at h7;exact #[_,_,rfl,h7,h7c,h7t,k7]
 .rintro U H6 ⟨x3,x4,rfl,h6,_,_,k6⟩;refine #[_,rfl,?_];refine q F H6 hF0 (λb o e=>k6 b o (aq e hF0) e) ?_;rw[fin];exact h6
def KD {α:Type}:dz ([]:List α) []=[]:=rfl
def KE {ms:List Bool}{i:Nat}{x:V}(h:(ms.map V.bl)[i]?=some x):∃ hi:i<ms.length,x=.bl ms[i]:=by
 rw[aQ]at h;cases e:ms[i]? with
 | none=>rw[e]at h;cases h
 | some y=>
  rw[e]at h;obtain ⟨hi,rfl⟩:=aY.mp e;exact #[hi,(aV h).symm]
def sG {α:Type}{l:List α}{i:Nat}(h:i<l.length):l.take (i+1)=l.take i++[l[i]]:=cx h
def KF (T:Txt K mg)(yc:DF K mg "handed" oY qM)(NA:FC P w K mg base 5 "marks" qL (vY K)):FC P w K mg base 6 "handed" qM (vZ K):=by
 refine yc.ok IB (λvs H Q E h=>?_) (λf cdv A outer s H vs Q E hr h=>?_)
 .obtain ⟨a,ws,es,rfl,_⟩:=h;rfl
 obtain ⟨a,ws,es,rfl,ha,hw,hz,he,hri,q⟩:=h;have hwl:=hw.length;have hml:=kR es;refine #[_,(aw (aE (cg (N:=["entry","mark"]) (own:=2) (cap:=[]) rfl (jX rfl T.lA (aa (pv 0) (aa (ax NA hr (aa (pv 0) ae)) ae))) #[rfl,rfl,rfl,rfl,rfl,rfl] (λ_ _ _ _ _=>(oE (K:=K) (n:=2) rfl (c7 (aP (i:=0) (show List.Nodup (["entry","mark"]:List Str) by decide +kernel) rfl (au rfl)) (c7 (aP (i:=1) (show List.Nodup (["entry","mark"]:List Str) by decide +kernel) rfl (au rfl)) fP)))) (λ_ _ _ _ _=>(jd (dM (pv 1)))) (λ_ _ _ _ _=>(pv 0))))),?_];refine #[_,rfl,_,rfl,a,ws,es,rfl,ha,hw,hz,he,hri,λu H6 hu g6 h6u=>?_];have h6p:=g6 _ _ ha;generalize d8 es=ms at hml h6u q;refine #[a,u,rfl,#[_,SqL.of h6p],#[_,SqL.of h6u],λD hD=>?_];refine uW (xs:=ws) (ys:=ms.map V.bl) (by rw[af,hml];exact hwl.symm) (λj U H7=>∃ x0 x1:Option V,U=[x0,x1]/\H7 D=some (.lst (dz (ws.take j) (ms.take j)))/\But D H6 H7) ?_ ?_ ?_ ?_
 .exact #[_,_,rfl,by rw[nW,nW,KD];exact ah,λb o n e=>by rw[ak n];exact e]
 .rintro j U H7 _ ⟨x0,x1,rfl,_,k7⟩;exact #[k7.sq (SqL.of h6p) hD,k7.sq (SqL.of h6u) hD]
 .rintro j m' x y U H7 r' hx hy hm' ⟨x0,x1,rfl,h7,k7⟩ hr';obtain ⟨hj,rfl⟩:=KE hy;obtain ⟨hjw,rfl⟩:=aY.mp hx;have hsn:=C0 (a:=ws[j]) (b:=ms[j]) (show (ws.take j).length=(ms.take j).length by rw[bt,bt];lia);rw[<-sG hjw,<-sG hj]at hsn;refine #[r',_,rfl,SqT.of ah,rfl,_,_,rfl,_,_,rfl,rfl,?_];have s7:=aJ hr' (.tup [ws[j],.bl ms[j]]);have h8:=s7 _ _ h7;have k8:=k7.new hr' (.tup [ws[j],.bl ms[j]]);generalize upd H7 r' (.tup [ws[j],.bl ms[j]])=H8 at h8 k8 ⊢;refine #[_,rfl,_,rfl,?_];have hl8:=Ks (ws.take j) (ms.take j);rw[bt]at hl8;refine ite2 (λe=>?_) (λe=>?_)
  .refine #[_,rfl,_,h8,aW (by lia),m'-1,by lia,by lia,_,_,rfl,?_,λb o n e=>by rw[ak n];exact k8 b o n e];rw[ah,hsn,ar e]
  .refine #[m'-1,by lia,by lia,_,_,rfl,?_,k8];rw[h8,hsn,az e,di]
 .rintro U H7 ⟨x0,x1,rfl,h7,k7⟩;rw[bh (av _),bh (by lia)]at h7;have s7:Same H6 H7:=λb o e=>k7 b o (aq e hD) e;exact q D H7 (g6.free hD) (g6.trans s7) h7
def jq {K:Frag}{H:Hp}{q:Addr}{zs:List V}(hq:H q=some (.lst zs)){es:List (Int×Int)}{ws:List V}(h:aI K H es ws):aI K (upd H q o) es ws:=pImp (λ_ _ h=>by
  obtain ⟨a,x1,x2,rfl,hT,e1,e2⟩:=(show hasP K H _ _ from h);exact #[a,x1,x2,rfl,by rw[ak (zE hT hq (by intro z;cases z))];exact hT,e1,e2]) h
def Own (K:Frag)(H:Hp):List Addr->List (List (Int×Int))->Prop:=Paired λq l=>∃ ws,H q=some (.lst ws)/\aI K H l ws
section
variable {K:Frag}{H H':Hp}
def Own.length {qs:List Addr}{ls:List (List (Int×Int))}(h:Own K H qs ls):qs.length=ls.length:=Paired.length h
def Own.ext (e:Ext H H'){qs:List Addr}{ls:List (List (Int×Int))}(h:Own K H qs ls):Own K H' qs ls:=pImp (λ_ _ h=>by
 obtain ⟨ws,h1,h2⟩:=h;exact #[ws,e _ _ h1 nofun,aI.mono e h2]) h
def Own.get:∀{qs:List Addr} {ls:List (List (Int×Int))} {i:Nat} {x:V},Own K H qs ls->(qs.map V.ref)[i]?=some x->∃ q l ws,qs[i]?=some q/\x=.ref q/\ls[i]?=some l/\H q=some (.lst ws)/\aI K H l ws
 | _,_,_,_,.nil,e=>by simp at e
 | _,_,0,_,.cons ⟨ws,h1,h2⟩ _,e=>by
  simp at e;exact #[_,_,ws,rfl,e.symm,rfl,h1,h2]
 | _,_,i+1,x,.cons _ t,e=>by
  obtain ⟨q,l,ws,h1,h2,h3,h4,h5⟩:=Own.get (i:=i) (x:=x) t (by simpa using e);exact #[q,l,ws,by simpa using h1,h2,by simpa using h3,h4,h5]
def Own.append {qs qs':List Addr}{ls ls':List (List (Int×Int))}(h:Own K H qs ls)(g:Own K H qs' ls'):Own K H (qs++qs') (ls++ls'):=pApp h g
def Own.other {q:Addr}{zs:List V}(hq:H q=some (.lst zs)){qs:List Addr}{ls:List (List (Int×Int))}(h:Own K H qs ls)(hn:q∉qs):Own K (upd H q o) qs ls:=by
 unfold Own at h
 induction h with
 | nil=>exact .nil
 | cons h _ ih=>
  obtain ⟨ws,h1,h2⟩:=h;rw[bq,not_or]at hn;exact .cons #[ws,by rw[ak (bE hn.1)];exact h1,jq hq h2] (ih hn.2)
end
def C6 {ls:List (List (Int×Int))}{i:Nat}{l:List (Int×Int)}(h:ls[i]?=some l):(ls.take (i+1)).flatten=(ls.take i).flatten++l:=by
 have hi:=(aY.mp h).1;rw[cx hi,jK,(aY.mp h).2];simp
def KG {ls:List (List (Int×Int))}(i:Nat):(ls.take i).flatten.length<=ls.flatten.length:=by
 have e:ls.flatten=(ls.take i).flatten++(ls.drop i).flatten:=by rw[<-jK,gW]
 rw[e,bB];lia
inductive sH (K:Frag)(vs:List V)(H:Hp)(Q:VK)(w_1:XK):Prop
 | c:∀(a:Addr) (qs:List Addr) (ls:List (List (Int×Int))),vs=[.ref a]->H a=some (.lst (qs.map V.ref))->Own K H qs ls->ls.flatten.length<=63->(∀(p:Addr) (ws:List V) (H':Hp),H p=none->Same H H'->H' p=some (.lst ws)->aI K H' (bc ls.flatten) ws->Q (.ref p) H')->sH K vs H Q w_1
def KH (T:Txt K mg)(yd:DF K mg "joined_up" oQ mw):FC P w K mg base 1 "joined_up" mw (sH K):=by
 refine yd.ok vn (λvs H Q E h=>?_) (λf cdv A outer s H vs Q E hr h=>?_)
 .obtain ⟨a,qs,ls,rfl,_⟩:=h;rfl
 obtain ⟨a,qs,ls,rfl,ha,ho,hz,q⟩:=h;have hll:=ho.length;refine #[_,(aK (aL (i:=1) vn.nd rfl (au rfl) (cy ae))
   (aK (cO PassesOwn.never rfl (cQ (pv 0)) (aP (i:=2) vn.nd rfl (au rfl)) (aw (dB (d5 F.plainAttrs_list F.slot_list_extend F.type_list_extend FP (pv 1) (aa (pv 2) ae)))))
   (aw (aE (aT (vk (Int×Int)) rfl T.xN boot_sorted (aa (pv 1) ae)))))),?_]
 refine #[(by show 0<=sizeLine;decide),λt ht=>?_];have k0:But t H (upd H t (.lst [])):=λb o n e=>by rw[ak n];exact e
 refine #[_,rfl,a,rfl,#[_,SqL.of (k0 _ _ (aq ha ht) ha)],?_];refine lS (xs:=qs.map V.ref) (λi U H2=>∃(zs:List V) (x2:Option V),U=[some (.ref a),some (.ref t),x2]/\H2 t=some (.lst zs)/\aI K H2 (ls.take i).flatten zs/\But t H H2/\Own K H2 qs ls) ?_ ?_ ?_ ?_
 .exact #[[],_,rfl,ah,.nil,k0,ho.ext (aJ ht _).ext]
 .rintro i U H2 _ ⟨zs,x2,rfl,h2,_,k2,_⟩;exact SqL.of (k2 _ _ (aq ha ht) ha)
 .rintro i x U H2 hx ⟨zs,x2,rfl,h2,hw,k2,o2⟩;obtain ⟨g,l,ws,e1,rfl,e3,e4,e5⟩:=o2.get hx;have hlen:zs.length+ws.length<=1000:=by
   have z1:=hw.length;have z2:=e5.length;have z3:=KG (ls:=ls) (i+1);rw[C6 e3,bB]at z3;lia
  have hgo:∀ b∈qs,b≠t:=λb hb z=>by
   obtain ⟨j,hj,rfl⟩:=fL hb;obtain ⟨_,_,ws0,f1,f2,_,f4,_⟩:=ho.get (i:=j) (x:=.ref qs[j]) (by rw[aQ,aD hj];rfl);cases f2
   rw[z,ht]at f4;cases f4
  refine #[_,rfl,.inl #[rfl,_,SqL.of h2],_,rfl,t,g,zs,ws,rfl,rfl,h2,e4,eP (aW hlen),?_];refine #[_,_,rfl,ah,?_,λb o n e=>by rw[ak n];exact k2 b o n e,o2.other h2 (λz=>hgo t z rfl)];rw[C6 e3];exact (jq h2 hw).append (jq h2 e5)
 .rintro U H2 ⟨zs,x2,rfl,h2,hw,k2,o2⟩;rw[bh (by rw[af];lia)]at hw;refine #[_,rfl,t,zs,_,rfl,SqL.of h2,hw,by lia,λl ws hl hs=>?_];have e2:=aJ hl (.lst ws);have s2:Same H H2:=λb o e=>k2 b o (aq e ht) e;exact q l ws _ (s2.free hl) (s2.trans e2) ah (aI.mono e2.ext hs)
def b8 (ps:List Nat):List V:=.non::ps.map nV
def parV (ps:List Nat)(k:Nat):V:=match par ps k with
 | none=>.non
 | some p=>nV p
def ck (ps:List Nat):(b8 ps).length=ps.length+1:=by
 unfold b8;rw[dH,af]
def iE {ps:List Nat}{k:Nat}(h:k<ps.length+1):atI (b8 ps) (k:Int)=some (parV ps k):=by
 refine cL ?_;unfold b8 parV;cases k with
 | zero=>rfl
 | succ k=>
  show (ps.map nV)[k]?=some (match ps[k]? with|none=>_|some p=>nV p)
  rw[aQ,aD (show k<ps.length by lia)];rfl
def kS {k p:Nat}(h:par ps k=some p):parV ps k=nV p:=by
 unfold parV;rw[h]
def C7 {k:Nat}(h:par ps k=none):parV ps k=.non:=by
 unfold parV;rw[h]
def iF {k m:Nat}:parV ps k=.int (m:Int)↔par ps k=some m:=by
 cases e:par ps k with
 | none=>
  rw[C7 e];exact #[nofun,nofun]
 | some p=>
  rw[kS e];constructor
  .intro z;have:=Int.ofNat.inj (V.int.inj z);rw[this]
  .intro z;rw[aV z]
def sI (ps:List Nat)(k:Nat)(i:Int):scal (parV ps k) (.int i)=true:=by
 cases e:par ps k with
 | none=>rw[C7 e];rfl
 | some p=>rw[kS e];rfl
def But.new' {p b:Addr}(k:But p H H2)(hb:H2 b=none)(o:HO):But p H (upd H2 b o):=λx o' n e=>(aJ hb o) x o' (k x o' n e)
inductive v5 (K:Frag)(vs:List V)(H:Hp)(Q:VK)(w_1:XK):Prop
 | c:∀(d L:Addr) (m:Int),vs=[.ref d,.int m]->(0<m/\m<=40)->LS K L d H->(∀(t:Addr) (ps:List Nat) (H':Hp),H t=none->bf ps->(ps.length:Int)<m->H' t=some (.tup (b8 ps))->Keep d H H'->LS K L d H'->Q (.ref t) H')->v5 K vs H Q w_1
def KI {u:Nat}(T:bf ps)(h:u<=ps.length):bf (ps++[u]):=by
 intro i hi;rw[bB,dj]at hi;by_cases c:i<ps.length
 .rw[List.getElem_append_left c];exact T i c
 .have:i=ps.length:=by lia
  subst this;rw[List.getElem_append_right (av _)];simp;exact h
def KJ (T:Txt K mg)(ye:DF K mg "_law_tree" qa rG)(cn:FC P w K mg base 2 "_law_take" eW (fq K)):FC P w K mg base 3 "_law_tree" rG (v5 K):=by
 refine ye.ok qA (λvs H Q E h=>?_) (λf cdv A outer s H vs Q E hr h=>?_)
 .obtain ⟨d,L,m,rfl,_⟩:=h;rfl
 obtain ⟨d,L,m,rfl,⟨hm0,hm1⟩,hs,q⟩:=h;refine #[_,(aK (aL (i:=2) qA.nd rfl (au rfl) (ax cn hr (aa (pv 0) (aa ag ae))))
   (aK (aL (i:=3) qA.nd rfl (au rfl) (cy (aa eU ae)))
   (aK (cO PassesOwn.never rfl (gY rfl T.dG (aa ag (aa (aG cf ag (ax cn hr (aa (pv 0) (aa (pv 1) ae)))) ae))) (aP (i:=4) qA.nd rfl (au rfl)) (aw (dB (d5 F.plainAttrs_list F.slot_list_append F.type_list_append eJ (pv 3) (aa (aB (bw (K:=K)) (cy (aa (aG cF (pv 4) ag) (aa ag (aa (ax cn hr (aa (pv 0) (aa (pv 4) ae))) (aa (aT (lV rfl) rfl T.lz boot_max (aa ag (aa (aG cF (aG cF (pv 4) ag) (ax cn hr (aa (pv 0) (aa ag ae)))) ae))) ae))))) (pv 2) (λ_ _=>rfl)) ae)))))
   (aw (aE (dC (gH (K:=K)) rfl T.gg boot_tuple (aa (pv 3) ae))))))),?_]
 refine #[_,rfl,d,L,4,rfl,by decide,hs,λw1 H1 w0 w4 k1 s1=>?_];refine #[(by show 1<=sizeLine;decide),λp hp=>?_];have g0:=aJ hp (.lst [V.non]);have hpd:p≠d:=by
  obtain ⟨ns,a,l,e,_⟩:=s1.ex;exact bE (aq e hp)
 have hp0:H p=none:=by
  cases e:H p with
  | none=>rfl
  | some o=>
   have:=k1 p o hpd e;rw[hp]at this;cases this
 refine #[_,rfl,_,rfl,d,L,m,rfl,#[hm0,by lia],s1.same g0,λn H2 n0 n1 k2 s2=>#[_,_,rfl,rfl,1,_,rfl,#[by lia,by lia,by lia,by lia],?_]];have en:((1:Int)+n-1).toNat=n.toNat:=by lia
 rw[en];refine fR (n:=n.toNat) (λi U H3=>∃(ps:List Nat) (x4:Option V),U=[some (.ref d),some (.int m),some (.int w1),some (.ref p),x4]/\H3 p=some (.lst (b8 ps))/\ps.length=i/\bf ps/\(∀ b o,b≠d->b≠p->H b=some o->H3 b=some o)/\LS K L d H3) ?_ ?_ ?_
 .exact #[[],_,rfl,k2 p _ hpd ah,rfl,λi hi=>absurd hi (by simp),λb o n1 n2 e=>k2 b o n1 (g0 b o (k1 b o n1 e)),s2]
 .rintro i U H3 hi ⟨ps,x4,rfl,h3,rfl,hT,k3,s3⟩;have ek:(1:Int)+((ps.length:Nat):Int)=((ps.length+1:Nat):Int):=by lia
  rw[ek];refine #[_,rfl,.inl #[rfl,_,SqL.of h3],?_];refine #[_,rfl,_,_,rfl,rfl,_,rfl,_,rfl,d,L,_,rfl,#[by lia,by lia],s3,λv1 H4 v10 v11 k4 s4=>?_];refine #[_,rfl,_,_,rfl,rfl,_,rfl,d,L,2,rfl,by decide,s4,λv2 H5 v20 v21 k5 s5=>#[_,_,rfl,rfl,_,_,rfl,(by show 4<=sizeLine;decide),λl hl=>?_]];have h4:=k4 p _ hpd h3;have h5:=k5 p _ hpd h4;obtain ⟨u,hat,hu⟩:∃ u:Nat,atI [V.int (((ps.length+1:Nat):Int)-1),V.int 0,V.int v1,V.int (if ((ps.length+1:Nat):Int)-1-v2>0 then ((ps.length+1:Nat):Int)-1-v2 else 0)] w1=some (nV u)/\u<=ps.length:=by
   have z:w1=0\/w1=1\/w1=2\/w1=3:=by lia
   rcases z with rfl|rfl|rfl|rfl
   .refine #[ps.length,?_,av _];rw[show ((ps.length+1:Nat):Int)-1=((ps.length:Nat):Int) by lia];rfl
   .exact #[0,rfl,cS _]
   .obtain ⟨u,rfl⟩:=mU v10;exact #[u,rfl,by lia]
   .refine #[(if ((ps.length+1:Nat):Int)-1-v2>0 then ((ps.length+1:Nat):Int)-1-v2 else 0).toNat,?_,?_]
    .show some (V.int _)=some (V.int _);rw[Int.toNat_of_nonneg (by split<;>lia)]
    .split<;>lia
  refine #[_,rfl,_,_,_,_,rfl,rfl,SqL.of ah,hat,_,_,_,rfl,rfl,by rw[ak (aq h5 hl)];exact h5,aW (by rw[ck];lia),?_];refine #[ps++[u],_,rfl,?_,by rw[bB,dj],KI hT hu,λb o n1 n2 e=>?_,?_]
  .rw[ah];unfold b8;rw[aN];rfl
  .rw[ak n2];have e5:=k5 b o n1 (k4 b o n1 (k3 b o n1 n2 e));exact (aJ hl _) _ _ e5
  .exact LS.put hs hp0 (λb o n1 n2 e=>(aJ hl _) _ _ (k5 b o n1 (k4 b o n1 (k3 b o n1 n2 e)))) (s5.of_new hl _)
 .rintro U H3 ⟨ps,x4,rfl,h3,hl,hT,k3,s3⟩;refine #[_,rfl,p,_,rfl,.inl #[SqL.of h3,λt ht=>?_]];have sn:=aJ ht (.tup (b8 ps));have htp:t≠p:=bE (aq h3 ht);have ht0:H t=none:=by
   cases e:H t with
   | none=>rfl
   | some o=>
    have htd:t≠d:=by
     obtain ⟨ns,a,l,e,_⟩:=s3.ex;exact bE (aq e ht)
    have:=k3 t o htd htp e;rw[ht]at this;cases this
  exact q t ps _ ht0 hT (by lia) ah (λb o n e=>sn _ _ (k3 b o n (aq e hp0) e)) (s3.of_new ht _)
inductive kT (K:Frag)(vs:List V)(H:Hp)(Q:VK)(w_1:XK):Prop
 | c:∀(t:Addr) (ps:List Nat) (k:Nat),vs=[.ref t,.int k]->H t=some (.tup (b8 ps))->ps.length<=900->(∀(p:Addr) (H':Hp),H p=none->Same H H'->H' p=some (.lst ((bN ps k (ps.length+1)).map nV))->Q (.ref p) H')->kT K vs H Q w_1
def KL (T:Txt K mg)(yf:DF K mg "children" o4 mC):FC P w K mg base 1 "children" mC (kT K):=by
 refine yf.ok ID (λvs H Q E h=>?_) (λf cdv A outer s H vs Q E hr h=>?_)
 .obtain ⟨t,ps,k,rfl,_⟩:=h;rfl
 obtain ⟨t,ps,k,rfl,ht,hz,q⟩:=h;refine #[_,(aw (aE (cg (N:=["other","tree","knot"]) (own:=1) (cap:=[0,1]) rfl (fQ rfl T.dG (aa (aT (bJ (K:=K)) rfl T.bG bF (aa (pv 0) ae)) ae)) #[rfl,rfl,rfl,rfl,rfl,rfl] (λ_ _ _ _ _=>(aP (i:=0) (show List.Nodup (["other","tree","knot"]:List Str) by decide +kernel) rfl (au rfl))) (λ_ _ _ _ _=>(jd (aX dr (aB (aR (K:=K)) (pv 1) (pv 0) (λ_ _=>rfl)) (pv 2) (aS _)))) (λ_ _ _ _ _=>(pv 0))))),?_];refine #[_,rfl,_,_,rfl,.inr (SqT.of ht),_,rfl,by lia,by rw[ck];lia,λD hD=>?_];have el:((((b8 ps).length:Nat):Int)).toNat=ps.length+1:=by rw[ck,eA]
 rw[el];refine ij (n:=ps.length+1) (λj U H3=>∃ x0:Option V,U=[x0,some (.ref t),some (.int k)]/\H3 D=some (.lst ((bN ps k j).map nV))/\But D H H3) ?_ ?_ ?_
 .exact #[_,rfl,ah,λb o n e=>by rw[ak n];exact e]
 .rintro j m U H3 hm hj ⟨x0,rfl,h3,k3⟩;rw[gV];have h3t:=k3 _ _ (aq ht hD) ht;have hlen:=iC ps k j;refine #[_,rfl,_,rfl,_,_,_,_,rfl,rfl,SqT.of h3t,iE hj,_,rfl,sI _ _ _,_,rfl,?_];refine ite2 (λc=>?_) (λc=>?_)
  .have c':par ps j=some k:=iF.mp (cE c);refine #[_,rfl,_,h3,aW (by rw[af];lia),m-1,by lia,by lia,_,rfl,?_,λb o n e=>by rw[ak n];exact k3 b o n e];rw[ah,iB,ar c',aN];rfl
  .have c':¬ par ps j=some k:=λz=>c (aU (iF.mpr z));refine #[m-1,by lia,by lia,_,rfl,?_,k3];rw[h3,iB,az c',di]
 .rintro U H3 ⟨x0,rfl,h3,k3⟩;exact q D H3 hD (λb o e=>k3 b o (aq e hD) e) h3
inductive v7 (K:Frag)(vs:List V)(H:Hp)(Q:VK)(w_1:XK):Prop
 | c:∀(t:Addr) (ps:List Nat) (k:Nat),vs=[.ref t,.int k]->H t=some (.tup (b8 ps))->bf ps->k<ps.length+1->ps.length<=900->(∀(p:Addr) (H':Hp),H p=none->Same H H'->H' p=some (.lst ((benL ps k (ps.length+1)).map nV))->Q (.ref p) H')->v7 K vs H Q w_1
def KM (T:Txt K mg)(yg:DF K mg "beneath" o5 qN):FC P w K mg base 1 "beneath" qN (v7 K):=by
 refine yg.ok vo (λvs H Q E h=>?_) (λf cdv A outer s H vs Q E hr h=>?_)
 .obtain ⟨t,ps,k,rfl,_⟩:=h;rfl
 obtain ⟨t,ps,k,rfl,ht,hT,hk,hz,q⟩:=h;refine #[_,(aK (aL (i:=2) vo.nd rfl (au rfl) (cy (aa (pv 1) ae)))
   (aK (cO PassesOwn.never rfl (gY rfl T.dG (aa (aG cf (pv 1) ag) (aa (aT (bJ (K:=K)) rfl T.bG bF (aa (pv 0) ae)) ae))) (aP (i:=3) vo.nd rfl (au rfl)) (aw (bu (aX (uV (K:=K)) (aB (aR (K:=K)) (pv 0) (pv 3) (λ_ _=>rfl)) (pv 2) (by with_unfolding_all rfl)) (aw (dB (d5 F.plainAttrs_list F.slot_list_append F.type_list_append eJ (pv 2) (aa (pv 3) ae)))) bz)))
   (aw (aE (pv 2))))),?_]
 refine #[_,rfl,(by show 1<=sizeLine;decide),λp hp=>?_];have k0:But p H (upd H p (.lst [.int (k:Int)])):=λb o n e=>by rw[ak n];exact e
 have ntp:t≠p:=aq ht hp;refine #[_,rfl,_,_,rfl,rfl,_,rfl,_,_,rfl,.inr (SqT.of (k0 _ _ ntp ht)),_,_,rfl,#[by lia,by lia,by lia,by rw[ck];lia],?_];have en:((((b8 ps).length:Nat):Int)-((k:Int)+1)).toNat=ps.length-k:=by rw[ck];lia
 rw[en];refine fR (n:=ps.length-k) (λi U H3=>∃ x3:Option V,U=[some (.ref t),some (.int k),some (.ref p),x3]/\H3 p=some (.lst ((benL ps k (k+1+i)).map nV))/\But p H H3) ?_ ?_ ?_
 .refine #[_,rfl,?_,k0];rw[ah,Nat.add_zero,JU hT];rfl
 .rintro i U H3 hi ⟨x3,rfl,h3,k3⟩;have ek:(k:Int)+1+(i:Int)=((k+1+i:Nat):Int):=by lia
  rw[ek];have hj:k+1+i<ps.length+1:=by lia
  have hj1:1<=k+1+i:=by lia
  have hjk:k+1+i≠k:=by lia
  have ei:k+1+(i+1)=k+1+i+1:=by lia
  rw[ei];generalize k+1+i=j at h3 hj hj1 hjk ⊢;obtain ⟨u,hu⟩:=iz hj1 hj;have h3t:=k3 _ _ ntp ht;have hat:=iE hj;rw[kS hu]at hat;have hlen:=vN ps k j;refine #[_,rfl,_,rfl,_,_,_,_,rfl,rfl,SqT.of h3t,hat,_,rfl,_,_,rfl,.inl (SqL.of h3),rfl,vQ _,_,rfl,?_];show if inV (.int (u:Int)) ((benL ps k j).map nV)=true then _ else _
  rw[vR];have hB:isB ps k j=isB ps k u:=f7 hT hjk hu;have hult:=(bM hT hu).1;refine ite2 (λc=>?_) (λc=>?_)
  .have c':isB ps k u=true:=(f9.mp (cE c)).2;refine #[_,rfl,.inl #[rfl,_,SqL.of h3],_,rfl,_,_,_,rfl,rfl,h3,aW (by rw[af];lia),?_];refine #[_,rfl,?_,λb o n e=>by rw[ak n];exact k3 b o n e];rw[ah,CP,hB,ar c',aN];rfl
  .have c':¬ isB ps k u=true:=λz=>c (aU (f9.mpr #[hult,z]));refine #[_,rfl,?_,k3];rw[h3,CP,hB,az c',di]
 .rintro U H3 ⟨x3,rfl,h3,k3⟩;refine #[_,rfl,?_];rw[show k+1+(ps.length-k)=ps.length+1 by lia]at h3;exact q p H3 hp (λb o e=>k3 b o (aq e hp) e) h3
def cM (es:List (Int×Int)):List (Int×Int):=dz es (d8 es)
def aC (OF:List (List Int))(k:Nat):List Int:=OF.getD k []
def ownE (OF:List (List Int))(k:Nat):List (Int×Int):=(aC OF k).map λx=>(x,(k:Int))
def kU (ps:List Nat)(OF:List (List Int)):Nat->Nat->List (Int×Int)
 | 0,_=>[]
 | f+1,k=>bc (((bN ps k (ps.length+1)).map λc=>cM (kU ps OF f c)).flatten++ownE OF k)
def C8 (T:bf ps):∀ f g k,k<ps.length+1->ps.length+1-k<=f->ps.length+1-k<=g->kU ps OF f k=kU ps OF g k
 | 0,_,k,hk,h,_=>by lia
 | _,0,k,hk,_,h=>by lia
 | f+1,g+1,k,hk,hf,hg=>by
  unfold kU;congr 3;refine dJ λc hc=>?_;have h:=cY.mp hc;have:=bM T h.2;show cM _=cM _;rw[C8 T f g c h.1 (by lia) (by lia)]
def ay (ps:List Nat)(OF:List (List Int))(k:Nat):List (Int×Int):=kU ps OF (ps.length+1-k) k
def gc (ps:List Nat)(OF:List (List Int))(k:Nat):List (List (Int×Int)):=((bN ps k (ps.length+1)).map λc=>cM (ay ps OF c))++[ownE OF k]
def iG (T:bf ps){k:Nat}(hk:k<ps.length+1):ay ps OF k=bc (gc ps OF k).flatten:=by
 unfold ay gc;obtain ⟨f,hf⟩:∃ f,ps.length+1-k=f+1:=#[ps.length-k,by lia];rw[hf,kU,jK,List.flatten_singleton];congr 3;refine dJ λc hc=>?_;have h:=cY.mp hc;have:=bM T h.2;show cM _=cM _;rw[C8 T f (ps.length+1-c) c h.1 (by lia) (by lia)];rfl
structure cA (OF:List (List Int)):Prop where
 up:∀ row∈OF,row.Pairwise (· < ·)
 key:∀ row∈OF,∀ x∈row,-(10^60)<x/\x<10^60
def cA.at_up (R:cA OF)(k:Nat):(aC OF k).Pairwise (· < ·):=by
 unfold aC;rw[aF];cases e:OF[k]? with
 | none=>exact .nil
 | some row=>exact R.up row (cW e)
def cA.at_key (R:cA OF)(k:Nat):∀ x∈aC OF k,-(10^60)<x/\x<10^60:=by
 unfold aC;rw[aF];cases e:OF[k]? with
 | none=>exact λx hx=>nomatch hx
 | some row=>exact R.key row (cW e)
def C9 {α:Type}:∀(es:List α) (ms:List Bool),(dz es ms).Sublist es
 | [],_=>by
  unfold dz;exact List.Sublist.refl _
 | e::es,[]=>by
  unfold dz;exact List.nil_sublist _
 | e::es,m::ms=>by
  have ih:=C9 es ms;unfold dz at ih ⊢;cases m with
  | false=>exact List.Sublist.cons e ih
  | true=>exact List.Sublist.cons₂ e ih
def fB (es:List (Int×Int)):(cM es).Sublist es:=C9 _ _
def Of (ps:List Nat)(OF:List (List Int))(k:Nat)(e:Int×Int):Prop:=∃ j,j<ps.length+1/\isB ps k j=true/\e.2=(j:Int)/\e.1∈aC OF j
def sJ {ps:List Nat}{k:Nat}(hk:k<ps.length+1){e:Int×Int}(h:e∈ownE OF k):Of ps OF k e/\e.2=(k:Int):=by
 obtain ⟨x,hx,rfl⟩:=bI.mp h;exact #[#[k,hk,jn,rfl,hx],rfl]
def KN (R:cA OF)(k:Nat):(ownE OF k).Nodup:=by
 unfold ownE;rw[List.nodup_iff_pairwise_ne,fJ];exact List.Pairwise.imp (λ{a b} (h:a < b) z=>by
  have:=congrArg Prod.fst z;have:a=b:=this;lia) (R.at_up k)
def sL (T:bf ps)(R:cA OF):∀(m k:Nat),ps.length+1-k<=m->k<ps.length+1->(∀ e∈ay ps OF k,Of ps OF k e)/\(gc ps OF k).flatten.Nodup
 | 0,k,hm,hk=>by lia
 | m+1,k,hm,hk=>by
  have ih:∀ c,par ps c=some k->(∀ e∈ay ps OF c,Of ps OF c e)/\(ay ps OF c).Nodup:=λc hc=>by
   have:=bM T hc;have q:=sL T R m c (by lia) this.2;refine #[q.1,?_];rw[iG T this.2];exact (fW _).nodup_iff.mpr q.2
  have up:∀{c:Nat} {e:Int×Int},par ps c=some k->Of ps OF c e->Of ps OF k e:=λ{c e} hc h=>by
   obtain ⟨j,h1,h2,h3,h4⟩:=h;exact #[j,h1,(sk T j j (av _) h1).mpr (.inr #[c,hc,h2]),h3,h4]
  refine #[λe he=>?_,?_]
  .rw[iG T hk,jZ]at he;obtain ⟨l,hl,he⟩:=jJ.mp he;rcases bO.mp hl with q|q
   .obtain ⟨c,hc,rfl⟩:=bI.mp q;have hp:=(cY.mp hc).2;exact up hp ((ih c hp).1 e ((fB _).mem he))
   .rw[a0.mp q]at he;exact (sJ hk he).1
  .show List.Pairwise _ _;unfold gc;rw[List.pairwise_flatten];refine #[λl hl=>?_,?_]
   .rcases bO.mp hl with q|q
    .obtain ⟨c,hc,rfl⟩:=bI.mp q;exact (ih c (cY.mp hc).2).2.sublist (fB _)
    .rw[a0.mp q];exact KN R k
   .rw[ud];refine #[?_,List.pairwise_singleton _ _,?_]
    .rw[fJ];refine List.Pairwise.imp_of_mem (λ{c d} hc hd hcd=>?_) (si ps k _);intro x hx y hy z;subst z;have pc:=(cY.mp hc).2;have pd:=(cY.mp hd).2;obtain ⟨j,_,h2,h3,_⟩:=(ih c pc).1 x ((fB _).mem hx);obtain ⟨i,_,g2,g3,_⟩:=(ih d pd).1 x ((fB _).mem hy);have:j=i:=by lia
     subst this;exact so T pc pd (bX hcd) j j (av _) h2 g2
    .intro l hl l' hl' x hx y hy z;subst z;obtain ⟨c,hc,rfl⟩:=bI.mp hl;rw[a0.mp hl']at hy;have pc:=(cY.mp hc).2;obtain ⟨j,_,h2,h3,_⟩:=(ih c pc).1 x ((fB _).mem hx);have h4:=(sJ hk hy).2;have:j=k:=by lia
     subst this;rw[iA T (bM T pc).1]at h2;cases h2
def sM (T:bf ps)(R:cA OF){k:Nat}(hk:k<ps.length+1):∀ e∈ay ps OF k,Of ps OF k e:=(sL T R _ k (av _) hk).1
def Da (T:bf ps)(R:cA OF){k:Nat}(hk:k<ps.length+1):(ay ps OF k).Nodup:=by
 rw[iG T hk];exact (fW _).nodup_iff.mpr (sL T R _ k (av _) hk).2
def eY (T:bf ps)(R:cA OF){k:Nat}(hk:k<ps.length+1):Rise (ay ps OF k):=by
 rw[iG T hk];exact Be (sL T R _ k (av _) hk).2
def v8 (T:bf ps)(R:cA OF)(hz:ps.length<=40){k:Nat}(hk:k<ps.length+1):∀ e∈ay ps OF k,d7 64 e:=λe he=>by
 obtain ⟨j,h1,h2,h3,h4⟩:=sM T R hk e he;have:=R.at_key j _ h4;exact #[this.1,this.2,by lia,by lia]
def wtR (ps:List Nat)(OF:List (List Int))(k:Nat):Nat:=((benL ps k (ps.length+1)).map λj=>(aC OF j).length).sum
def wtF (ps:List Nat)(OF:List (List Int))(k:Nat):Nat:=((benL ps k (ps.length+1)).map λj=>(ay ps OF j).length).sum
def v9 {l m:List Nat}(h:l.Perm m):l.sum=m.sum:=by
 induction h with
 | nil=>rfl
 | cons x _ ih=>rw[cZ,cZ,ih]
 | swap x y l=>rw[cZ,cZ,cZ,cZ];lia
 | trans _ _ h1 h2=>rw[h1,h2]
def Dc (f:Nat->Nat):∀(ls:List (List Nat)),(ls.flatten.map f).sum=(ls.map λl=>(l.map f).sum).sum
 | []=>rfl
 | l::ls=>by
  rw[List.flatten_cons,aN,List.sum_append,Dc f ls,bK,cZ]
def De (T:bf ps)(f:Nat->Nat){k:Nat}(hk:k<ps.length+1):((benL ps k (ps.length+1)).map f).sum=f k+((bN ps k (ps.length+1)).map λc=>((benL ps c (ps.length+1)).map f).sum).sum:=by
 have h:=v9 ((JV T hk).map f);rw[bK,cZ,Dc,bT]at h;exact h.symm
def Df {f g:Nat->Nat}:∀{l:List Nat},(∀ x∈l,f x<=g x)->(l.map f).sum<=(l.map g).sum
 | [],_=>av _
 | x::l,h=>by
  rw[bK,cZ,bK,cZ];have h1:=h x bL;have h2:=Df (f:=f) (g:=g) (l:=l) λy hy=>h y (cp _ hy);lia
def Dg {α:Type}:∀(ls:List (List α)),ls.flatten.length=(ls.map List.length).sum
 | []=>rfl
 | l::ls=>by
  rw[List.flatten_cons,bB,Dg ls,bK,cZ]
def KO (T:bf ps){k:Nat}(hk:k<ps.length+1):(ay ps OF k).length=(aC OF k).length+((bN ps k (ps.length+1)).map λc=>(cM (ay ps OF c)).length).sum:=by
 rw[iG T hk,je];unfold gc;rw[jK,bB,List.flatten_singleton,Dg,bT];unfold ownE;rw[af,lL];rfl
def Dh (T:bf ps):∀(m k:Nat),ps.length+1-k<=m->k<ps.length+1->(ay ps OF k).length<=wtR ps OF k
 | 0,k,hm,hk=>by lia
 | m+1,k,hm,hk=>by
  unfold wtR;rw[KO T hk,De T _ hk];refine tW (Df λc hc=>?_) _;have h:=cY.mp hc;have:=bM T h.2;exact cD (fB _).length_le (Dh T m c (by lia) h.1)
def Di (f:Nat->Nat)(P:Nat->Bool):∀(l:List Nat),((l.filter P).map f).sum<=(l.map f).sum
 | []=>av _
 | x::l=>by
  have ih:=Di f P l;rw[bK,cZ];by_cases h:P x=true
  .rw[dI h,bK,cZ];lia
  .rw[dR h];lia
def cw (OF:List (List Int)):Nat:=(OF.map List.length).sum
def KP (OF:List (List Int)):((List.range OF.length).map λj=>(aC OF j).length).sum=cw OF:=by
 unfold cw;congr 1;apply fe;intro i;rw[aQ,aQ];by_cases h:i<OF.length
 .rw[dY h,aD h];show some (aC OF i).length=some OF[i].length;unfold aC;rw[aF,aD h];rfl
 .rw[dk (by rw[bY];lia),dk (by lia)];rfl
def Dj {ps:List Nat}{OF:List (List Int)}(hl:OF.length=ps.length+1)(k:Nat):wtR ps OF k<=cw OF:=by
 unfold wtR benL;refine cD (Di _ _ _) ?_;rw[<-hl,KP];exact av _
def kW (T:bf ps){OF:List (List Int)}(hl:OF.length=ps.length+1){k:Nat}(hk:k<ps.length+1):(ay ps OF k).length<=cw OF:=cD (Dh T _ k (av _) hk) (Dj hl k)
def bA (H:Hp)(as:List Addr)(OF:List (List Int)):Prop:=Paired (λa row=>H a=some (.tup (row.map V.int))) as OF
def bA.ext {H H':Hp}(e:∀ b o,H b=some o->H' b=some o)(h:bA H as OF):bA H' as OF:=pImp (λ_ _=>e _ _) h
def bA.keep {d p:Addr}{H H':Hp}(hd:∀ a row,H a=some (.tup row)->a≠d)(e:∀ b o,b≠d->H b=some o->H' b=some o)(h:bA H as OF):bA H' as OF:=pImp (λ_ _ h=>e _ _ (hd _ _ h) h) h
def bA.length (h:bA H as OF):as.length=OF.length:=Paired.length h
def bA.get :∀{as:List Addr} {OF:List (List Int)} {k:Nat},bA H as OF->k<OF.length->∃ a,as[k]?=some a/\H a=some (.tup ((aC OF k).map V.int))
 | _,_,_,.nil,hk=>by simp at hk
 | a::as,row::OF,0,.cons h t,_=>#[a,rfl,h]
 | a::as,row::OF,k+1,.cons h t,hk=>by
  obtain ⟨b,h1,h2⟩:=bA.get (k:=k) t (by simpa using hk);refine #[b,by rw[lE];exact h1,?_];have:aC (row::OF) (k+1)=aC OF k:=by
   unfold aC;rw[aF,aF,lE]
  rw[this];exact h2
def bA.snoc {a:Addr}{row:List Int}(h:bA H as OF)(g:H a=some (.tup (row.map V.int))):bA H (as++[a]) (OF++[row]):=pApp h (.cons g .nil)
structure bR (H:Hp)(st:Addr)(ps:List Nat)(OF:List (List Int))(t rs:Addr)(as:List Addr):Prop where
 st:H st=some (.tup [.ref t,.ref rs])
 tr:H t=some (.tup (b8 ps))
 rs:H rs=some (.tup (as.map V.ref))
 at_:bA H as OF
 len:OF.length=ps.length+1
 T:bf ps
 R:cA OF
 few:ps.length<=40
 keys:cw OF<=63
def bR.same {st t rs:Addr}(S:bR H st ps OF t rs as)(e:Same H H'):bR H' st ps OF t rs as:=
 #[e _ _ S.st,e _ _ S.tr,e _ _ S.rs,S.at_.ext e,S.len,S.T,S.R,S.few,S.keys]
def iH {as:List Addr}{k:Nat}{a:Addr}(h:as[k]?=some a):atI (as.map V.ref) (k:Int)=some (.ref a):=cL (by rw[aQ,h];rfl)
def wb {α:Type}{l:List α}(h:l.Nodup):l.reverse.Nodup:=(List.reverse_perm l).nodup_iff.mpr h
def jr (K:Frag)(H:Hp)(ps:List Nat)(OF:List (List Int))(j:Nat)(q:Addr):Prop:=∃ ws,H q=some (.lst ws)/\aI K H (ay ps OF j) ws
def bS (K:Frag)(H:Hp)(ps:List Nat)(OF:List (List Int)):List Nat->List Addr->Prop:=Paired (jr K H ps OF)
def jr.same {K:Frag}(h:jr K H ps OF j q)(e:Same H H'):jr K H' ps OF j q:=by
 obtain ⟨ws,h1,h2⟩:=h;exact #[ws,e _ _ h1,h2.mono e.ext]
def bS.same {K:Frag}(e:Same H H'){js:List Nat}{qs:List Addr}(h:bS K H ps OF js qs):bS K H' ps OF js qs:=pImp (λ_ _ h=>jr.same h e) h
def bS.ext {K:Frag}(e:Ext H H'){js:List Nat}{qs:List Addr}(h:bS K H ps OF js qs):bS K H' ps OF js qs:=pImp (λ_ _ h=>by
  obtain ⟨ws,a1,a2⟩:=h;exact #[ws,e _ _ a1 nofun,a2.mono e]) h
def bS.length {K:Frag}{js:List Nat}{qs:List Addr}(h:bS K H ps OF js qs):js.length=qs.length:=Paired.length h
def bS.snoc {K:Frag}{js:List Nat}{qs:List Addr}(h:bS K H ps OF js qs)(g:jr K H ps OF j q):bS K H ps OF (js++[j]) (qs++[q]):=pApp h (.cons g .nil)
def bS.get {K:Frag}:∀{js:List Nat} {qs:List Addr} {i j:Nat},bS K H ps OF js qs->js[i]?=some j->∃ q,qs[i]?=some q/\jr K H ps OF j q
 | _,_,i,j,.nil,h=>by simp at h
 | _::_,q::_,0,j,.cons h t,e=>by
  have:=aV (show some _=some j from e);subst this;exact #[q,rfl,h]
 | _::_,_::_,i+1,j,.cons h t,e=>by
  obtain ⟨q,h1,h2⟩:=bS.get (i:=i) t (by simpa using e);exact #[q,by simpa using h1,h2]
def bS.rev {K:Frag}{js:List Nat}{qs:List Addr}(h:bS K H ps OF js qs):bS K H ps OF js.reverse qs.reverse:=by
 unfold bS at h
 induction h with
 | nil=>exact .nil
 | cons h _ ih=>
  rw[nS,nS];exact bS.snoc ih h
def bS.alloc {K:Frag}:∀{js:List Nat} {qs:List Addr},bS K H ps OF js qs->∀ q∈qs,∃ ws,H q=some (.lst ws)
 | _,_,.nil=>λq hq=>nomatch hq
 | _::_,_::_,.cons h t=>λq hq=>by
  rcases bq.mp hq with e|e
  .obtain ⟨ws,h1,_⟩:=h;exact #[ws,e ▸ h1]
  .exact bS.alloc t q e
abbrev kN (j:Nat):Key:=Sum.inl (j:Int)
def cG:List Nat->List Addr->List (Key×V)
 | j::js,q::qs=>(kN j,.ref q)::cG js qs
 | _,_=>[]
def Dk :∀{js:List Nat} {qs:List Addr},j∉js->valV (cG js qs) (kN j)=none
 | [],_,_=>rfl
 | _::_,[],_=>rfl
 | i::js,q::qs,h=>by
  have h1:¬ kN i=kN j:=λz=>h (by
   have:=Int.ofNat.inj (Sum.inl.inj z);rw[this];exact bL)
  show valV ((kN i,V.ref q)::cG js qs) (kN j)=none;rw[eV h1];exact Dk λz=>h (cp _ z)
def sN {q:Addr}:∀{js:List Nat} {qs:List Addr} {i:Nat},js.Nodup->js[i]?=some j->qs[i]?=some q->valV (cG js qs) (kN j)=some (.ref q)
 | [],_,_,_,h,_=>by simp at h
 | _::_,[],_,_,_,h=>by simp at h
 | a::js,b::qs,0,_,h1,h2=>by
  have:=aV (show some a=some j from h1);subst this;have:=aV (show some b=some q from h2);subst this;exact hZ (p:=(kN a,V.ref b)) rfl
 | a::js,b::qs,i+1,hn,h1,h2=>by
  have g1:js[i]?=some j:=by simpa using h1
  have hne:¬ kN a=kN j:=λz=>by
   have e:=Int.ofNat.inj (Sum.inl.inj z);exact (c6.mp hn).1 (e ▸ cW g1)
  show valV ((kN a,V.ref b)::cG js qs) (kN j)=_;rw[eV hne];exact sN (c6.mp hn).2 g1 (by simpa using h2)
def Dl {q:Addr}:∀{js:List Nat} {qs:List Addr},js.length=qs.length->cG (js++[j]) (qs++[q])=cG js qs++[(kN j,.ref q)]
 | [],[],_=>rfl
 | [],_::_,h=>by cases h
 | _::_,[],h=>by cases h
 | a::js,b::qs,h=>by
  show (kN a,V.ref b)::cG (js++[j]) (qs++[q])=(kN a,V.ref b)::(cG js qs++[(kN j,V.ref q)]);rw[Dl (Nat.succ.inj h)]
def KQ {j:Nat}{q:Addr}{js:List Nat}{qs:List Addr}(hl:js.length=qs.length)(h:j∉js):putK (cG js qs) (kN j) (.ref q)=cG (js++[j]) (qs++[q]):=by
 rw[lZ _ (Dk h),Dl hl]
def wg:∀{js:List Nat} {qs:List Addr},js.length=qs.length->(cG js qs).length=js.length
 | [],[],_=>rfl
 | [],_::_,h=>by cases h
 | _::_,[],h=>by cases h
 | a::js,b::qs,h=>by
  show (cG js qs).length+1=js.length+1;rw[wg (Nat.succ.inj h)]
def KR {l:List Nat}(h:l.Pairwise (· > ·)){i j c:Nat}(hj:l[i]?=some j)(hc:c∈l)(hcj:j<c):c∈l.take i:=by
 obtain ⟨u,hu,rfl⟩:=fL hc;obtain ⟨hi,rfl⟩:=aY.mp hj;have:u<i:=by
  refine oa λz=>?_;by_cases e:i=u
  .subst e;lia
  .have:=fc.mp h i u hi hu (by lia);lia
 rw[List.mem_iff_getElem?];exact #[u,by rw[lH,ar this,aD hu]]
def KS (T:bf ps){k c:Nat}(h:isB ps k j=true)(hc:par ps c=some j):isB ps k c=true:=by
 by_cases e:c=k
 .rw[e];exact jn
 .rw[f7 T e hc];exact h
inductive sO (K:Frag)(vs:List V)(H:Hp)(Q:VK)(w_1:XK):Prop
 | c:∀(st:Addr) (ps:List Nat) (OF:List (List Int)) (t rs:Addr) (as:List Addr) (j:Nat),vs=[.ref st,.int j]->bR H st ps OF t rs as->j<ps.length+1->(∀(D:Addr) (us:List V) (H':Hp),H D=none->Same H H'->H' D=some (.lst us)->aI K H' (ownE OF j) us->Q (.ref D) H')->sO K vs H Q w_1
def KU (T:Txt K mg)(yh:DF K mg "own_entries" pb mD):FC P w K mg base 1 "own_entries" mD (sO K):=by
 refine yh.ok IG (λvs H Q E h=>?_) (λf cdv A outer s H vs Q E hr h=>?_)
 .obtain ⟨st,ps,OF,t,rs,as,k,rfl,_⟩:=h;rfl
 obtain ⟨st,ps,OF,t,rs,as,j,rfl,S4,hjn,q⟩:=h;refine #[_,(aw (aE (cg (N:=["key","knot"]) (own:=1) (cap:=[1]) rfl (fm (aB (aR (K:=K)) (aB (aR (K:=K)) (pv 0) ag (λ_ _=>rfl)) (pv 1) (λ_ _=>rfl))) #[rfl,rfl,rfl,rfl,rfl,rfl] (λ_ _ _ _ _=>(aP (i:=0) (show List.Nodup (["key","knot"]:List Str) by decide +kernel) rfl (au rfl))) (λ_ _ _ _ _=>bW) (λ_ _ _ _ _=>(cX (aa (pv 0) (aa (pv 1) ae))))))),?_];obtain ⟨a,ha1,ha4⟩:=S4.at_.get (k:=j) (by rw[S4.len];exact hjn);have hkeys:=S4.keys;refine #[_,rfl,_,_,_,_,rfl,rfl,SqT.of S4.st,rfl,_,rfl,_,_,_,_,rfl,rfl,SqT.of S4.rs,iH ha1,a,rfl,#[_,SqT.of ha4],λD3 hD3=>?_];refine ik (xs:=(aC OF j).map V.int) (λm U H5=>∃(us:List V) (x0:Option V),U=[x0,some (.int j)]/\H5 D3=some (.lst us)/\aI K H5 ((ownE OF j).take m) us/\But D3 H H5) ?_ ?_ ?_ ?_
 .exact #[[],_,rfl,ah,.nil,λb o n e=>by rw[ak n];exact e]
 .rintro m U H5 _ ⟨us,x0,rfl,_,_,k5⟩;exact SqT.of (k5 _ _ (aq ha4 hD3) ha4)
 .rintro m r x U H5 hx hm ⟨us,x0,rfl,h5,hw5,k5⟩;rw[aQ]at hx;obtain ⟨y,hy,rfl⟩:=cI.mp hx;have hlow:=(aY.mp hy).1;have htk3:(ownE OF j).take (m+1)=(ownE OF j).take m++[(y,(j:Int))]:=by
   unfold ownE;rw[<-nU,<-nU,cx hlow,aN];rw[(aY.mp hy).2];rfl
  have hul:=hw5.length;rw[bt]at hul;rw[af]at hm;have hrl:(aC OF j).length<=cw OF:=by
   have:=Dj S4.len (k:=j) (ps:=ps);have e2:wtR ps OF j=(aC OF j).length+_:=De S4.T _ hjn;lia
  refine bZ ?_;refine #[_,rfl,_,rfl,(by show 2<=sizeLine;decide),λu hu=>?_];have su:=aJ hu (.tup [.int y,.int (j:Int)]);have h6:=su _ _ h5;have hut:upd H5 u (.tup [.int y,.int (j:Int)]) u=some (.tup [.int y,.int (j:Int)]):=ah;have k6:=k5.new' hu (.tup [.int y,.int (j:Int)]);have hw6:=hw5.mono su.ext;generalize upd H5 u (.tup [.int y,.int (j:Int)])=H6 at su h6 hut k6 hw6 ⊢;refine #[_,h6,aW (by lia),r-1,by lia,by rw[af];lia,us++[.ref u],_,rfl,ah,?_,λb o n e=>by rw[ak n];exact k6 b o n e];rw[htk3];exact (jq h6 hw6).append (jq h6 (.cons #[u,.int y,.int (j:Int),rfl,hut,rfl,rfl] .nil))
 .rintro U H5 ⟨us,x0,rfl,h5,hw5,k5⟩;rw[af,bh (by unfold ownE;rw[af];exact av _)]at hw5;exact q D3 us H5 hD3 (λx o e=>k5 x o (aq e hD3) e) h5 hw5
inductive sP (K:Frag)(vs:List V)(H:Hp)(Q:VK)(w_1:XK):Prop
 | c:∀(st:Addr) (ps:List Nat) (OF:List (List Int)) (t rs:Addr) (as:List Addr) (k:Nat),vs=[.ref st,.int k]->bR H st ps OF t rs as->k<ps.length+1->(∀(D:Addr) (qs:List Addr) (H':Hp),H D=none->Same H H'->H' D=some (.dK (cG (benL ps k (ps.length+1)).reverse qs))->qs.Nodup->(∀ q∈qs,H q=none)->bS K H' ps OF (benL ps k (ps.length+1)).reverse qs->Q (.ref D) H')->sP K vs H Q w_1
def KW (T:Txt K mg)(yi:DF K mg "full_rows_beneath" pe mE)(NB:FC P w K mg base 1 "beneath" qN (v7 K))(yj:FC P w K mg base 1 "children" mC (kT K))(NC:FC P w K mg base 6 "handed" qM (vZ K))(yk:FC P w K mg base 1 "own_entries" mD (sO K))(yl:FC P w K mg base 1 "joined_up" mw (sH K)):FC P w K mg base 7 "full_rows_beneath" mE (sP K):=by
 refine yi.ok mq (λvs H Q E h=>?_) (λf cdv A outer s H vs Q E hr h=>?_)
 .obtain ⟨st,ps,OF,t,rs,as,k,rfl,_⟩:=h;rfl
 obtain ⟨st,ps,OF,t,rs,as,k,rfl,S,hk,q⟩:=h;refine #[_,(aK (aL (i:=2) mq.nd rfl (au rfl) (aB (aR (K:=K)) (pv 0) ag (λ_ _=>rfl)))
   (aK (aL (i:=3) mq.nd rfl (eE rfl) AJ)
   (aK (cO PassesOwn.never rfl (G6 rfl T.Ew (aa (ax NB hr (aa (pv 2) (aa (pv 1) ae))) ae)) (aP (i:=4) mq.nd rfl (au rfl)) (aK (gG (i:=5) (N:=["child","told"]) (own:=1) (cap:=[3]) mq.nd rfl rfl rfl (cQ (ax yj hr (aa (pv 2) (aa (pv 4) ae)))) #[rfl,rfl,rfl,rfl,rfl,rfl] (λ_ _ _ _ _=>(aP (i:=0) (show List.Nodup (["child","told"]:List Str) by decide +kernel) rfl (au rfl))) (λ_ _ _ _ _=>bW) (λ_ _ _ _ _=>(ax NC hr (aa (gF (dS hr) (pv 1) (pv 0) (λ_ _=>rfl)) ae))))
   (aK (dB (d5 F.plainAttrs_list F.slot_list_append F.type_list_append eJ (pv 5) (aa (ax yk hr (aa (pv 0) (aa (pv 4) ae))) ae)))
   (aw (jW (dS hr) (pv 3) (pv 4) (ax yl hr (aa (pv 5) ae)) rfl)))))
   (aw (aE (pv 3)))))),?_]
 refine #[_,rfl,_,_,_,_,rfl,rfl,SqT.of S.st,rfl,λD hD=>?_];have s0:=aJ hD (.dK []);have hD0:upd H D (.dK []) D=some (.dK []):=ah;generalize upd H D (.dK [])=H0 at s0 hD0 ⊢;refine #[_,rfl,_,rfl,t,ps,k,rfl,s0 _ _ S.tr,S.T,hk,by have:=S.few;lia,λb H1 hb s1 h1=>?_];refine #[b,_,rfl,SqL.of h1,?_];have hup:=sg ps k (ps.length+1);have hmem:=λj=>f9 (ps:=ps) (k:=k) (n:=ps.length+1) (j:=j);have hbl:=vN ps k (ps.length+1);generalize benL ps k (ps.length+1)=bs at h1 q hup hmem hbl ⊢;have hdn:bs.reverse.Pairwise (· > ·):=by
  rw[List.pairwise_reverse];exact hup
 have hnd:bs.reverse.Nodup:=List.Pairwise.imp (λ{a b} (q:a>b)=>jB q) hdn;refine G7 (xs:=bs.map nV) (λi U H2=>∃(qs:List Addr) (x5 x6:Option V),U=[some (.ref st),some (.int k),some (.ref t),some (.ref D),x5,x6]/\H2 D=some (.dK (cG (bs.reverse.take i) qs))/\qs.Nodup/\(∀ q∈qs,H q=none)/\bS K H2 ps OF (bs.reverse.take i) qs/\H2 b=some (.lst (bs.map nV))/\But D H H2) ?_ ?_ ?_ ?_
 .exact #[[],_,_,rfl,s1 _ _ hD0,jD,(λq hq=>nomatch hq),.nil,h1,λx o _ e=>s1 _ _ (s0 _ _ e)]
 .rintro i U H2 _ ⟨qs,x5,x6,rfl,_,_,_,_,h2b,_⟩;exact SqL.of h2b
 .rintro i x U H2 hx ⟨qs,x5,x6,rfl,h2,hqn,hqf,hF,h2b,k2⟩;rw[<-List.map_reverse]at hx;obtain ⟨hi,hxe⟩:=eN hx;have hji:bs.reverse[i]?=some (bs.reverse.getD i 0):=by
   rw[aF,aD hi];rfl
  subst hxe;have htk:bs.reverse.take (i+1)=bs.reverse.take i++[bs.reverse.getD i 0]:=by
   rw[cx hi,aF,aD hi];rfl
  rw[htk];generalize bs.reverse.getD i 0=j at hji htk ⊢;have hjm:j∈bs:=gT.mp (cW hji);obtain ⟨hjn,hjB⟩:=(hmem j).mp hjm;have hjnot:j∉bs.reverse.take i:=λz=>by
   have hnd':=hnd;rw[<-gW (i+1) bs.reverse,htk]at hnd';have:=(fK.mp hnd').1;exact (fK.mp this).2.2 j z j (a0.mpr rfl) rfl
  have noD:∀{p:Addr} {o:HO},H p=some o->p≠D:=λ{p o} e=>aq e hD;have S2:bR H2 st ps OF t rs as:=#[k2 _ _ (noD S.st) S.st,k2 _ _ (noD S.tr) S.tr,k2 _ _ (noD S.rs) S.rs,bA.keep (p:=D) (d:=D) (λa row e=>noD e) k2 S.at_,S.len,S.T,S.R,S.few,S.keys];have hkeys:=S.keys;have hfew:=S.few;refine #[_,rfl,_,rfl,t,ps,j,rfl,S2.tr,by lia,λc H3 hc s3 h3=>?_];refine #[c,rfl,#[_,SqL.of h3],λD2 hD2=>?_];have hcmem:=λm=>cY (ps:=ps) (k:=j) (n:=ps.length+1) (j:=m);have hcl:=iC ps j (ps.length+1);have hparts:gc ps OF j=((bN ps j (ps.length+1)).map λc=>cM (ay ps OF c))++[ownE OF j]:=rfl;generalize bN ps j (ps.length+1)=cs at h3 hcmem hcl hparts ⊢;have h3D:=s3 _ _ h2;have nDD2:D≠D2:=aq h3D hD2;have F3:bS K H3 ps OF (bs.reverse.take i) qs:=hF.same s3;refine c9 (xs:=cs.map nV) (λm U H4=>∃(gs:List Addr) (x0:Option V),U=[x0,some (.ref D)]/\H4 D2=some (.lst (gs.map V.ref))/\Own K H4 gs ((cs.take m).map λc=>cM (ay ps OF c))/\D2∉gs/\But D2 H3 H4) ?_ ?_ ?_ ?_
  .exact #[[],_,rfl,ah,.nil,nofun,λb o n e=>by rw[ak n];exact e]
  .rintro m U H4 _ ⟨gs,x0,rfl,_,_,_,k4⟩;exact k4.sq (SqL.of h3) hD2
  .rintro m r x U H4 hx hm ⟨gs,x0,rfl,h4,hO,hg,k4⟩;obtain ⟨hmi,rfl⟩:=eN hx;have hcm:cs[m]?=some (cs.getD m 0):=by
    rw[aF,aD hmi];rfl
   have htk2:cs.take (m+1)=cs.take m++[cs.getD m 0]:=by
    rw[cx hmi,aF,aD hmi];rfl
   rw[htk2];generalize cs.getD m 0=ch at hcm ⊢;obtain ⟨hchn,hchp⟩:=(hcmem ch).mp (cW hcm);have hlt:=(bM S.T hchp).1;have hin:ch∈bs.reverse.take i:=KR hdn hji (gT.mpr ((hmem ch).mpr #[hchn,KS S.T hjB hchp])) hlt;obtain ⟨u,hu,hue⟩:=fL hin;have hu2:(bs.reverse.take i)[u]?=some ch:=by rw[aD hu,hue]
   obtain ⟨qq,hq1,ws,hq2,hq3⟩:=F3.get hu2;have hnd2:(bs.reverse.take i).Nodup:=hnd.sublist (List.take_sublist _ _);have hv:=sN hnd2 hu2 hq1;have k4D:=k4 _ _ nDD2 h3D;have hq4:=k4 _ _ (aq hq2 hD2) hq2;have hq5:aI K H4 (ay ps OF ch) ws:=by
    have key:∀{es:List (Int×Int)} {vs:List V},aI K H3 es vs->aI K H4 es vs:=by
     intro es vs hh
     induction hh with
     | nil=>exact .nil
     | cons a _ ih=>
      obtain ⟨b,x1,x2,rfl,q,e1,e2⟩:=(show hasP K H3 _ _ from a);exact .cons #[b,x1,x2,rfl,k4 _ _ (aq q hD2) q,e1,e2] ih
    exact key hq3
   have hlen:=kW S.T S.len (OF:=OF) hchn;refine bZ ?_;have hdg:DGet H4 D (.int (ch:Int)) (some (.ref qq)):=by
    rw[<-hv];exact DGet.k (k:=kN ch) k4D
   refine #[_,rfl,_,rfl,D,_,rfl,hdg,?_];refine #[qq,ws,ay ps OF ch,rfl,hq4,hq5,by lia,v8 S.T S.R hfew hchn,eY S.T S.R hchn,λg H5 hg5 s5 h5=>?_];have hgl:=hO.length;rw[af,bt]at hgl;have h5D2:=s5 _ _ h4;have ngD2:D2≠g:=aq h4 hg5;rw[af]at hm;refine #[_,h5D2,aW (by rw[af];lia),r-1,by lia,by rw[af];lia,gs++[g],_,rfl,?_,?_,?_,λx o n e=>by rw[ak n];exact s5 _ _ (k4 x o n e)]
   .rw[ah,aN];rfl
   .rw[aN];refine Own.other h5D2 (Own.append (hO.ext s5.ext) (.cons #[_,h5,?_] .nil)) ?_
    .exact C1 (hq5.mono s5.ext)
    .intro z;rcases bO.mp z with z|z
     .exact hg z
     .exact ngD2 (a0.mp z)
   .intro z;rcases bO.mp z with z|z
    .exact hg z
    .exact ngD2 (a0.mp z)
  .rintro U H4 ⟨gs,x0,rfl,h4,hO,hg,k4⟩;rw[af,bh (av _)]at hO;have hgl:=hO.length;rw[af]at hgl;have s34:Same H3 H4:=λx o e=>k4 x o (aq e hD2) e;have s24:Same H2 H4:=s3.trans s34;have S4:=S2.same s24;refine #[_,rfl,.inl #[rfl,_,SqL.of h4],_,rfl,_,rfl,st,ps,OF,t,rs,as,j,rfl,S4,hjn,λD3 us H5 hD3 s45 h5 hw5=>?_];have h5D2:=s45 _ _ h4;have n23:D2≠D3:=aq h4 hD3;refine #[_,_,_,rfl,rfl,h5D2,aW (by rw[af];lia),?_];have O5:Own K H5 (gs++[D3]) (gc ps OF j):=by
    rw[hparts];exact Own.append (hO.ext s45.ext) (.cons #[us,h5,hw5] .nil)
   have nin:D2∉gs++[D3]:=λz=>by
    rcases bO.mp z with z|z
    .exact hg z
    .exact n23 (a0.mp z)
   have O6:=O5.other (o:=.lst (gs.map V.ref++[.ref D3])) h5D2 nin;have h6:upd H5 D2 (.lst (gs.map V.ref++[.ref D3])) D2=some (.lst ((gs++[D3]).map V.ref)):=by
    rw[ah,aN];rfl
   have k26:∀ x o,H2 x=some o->upd H5 D2 (.lst (gs.map V.ref++[.ref D3])) x=some o:=λx o e=>by
    rw[ak (aq (s3 _ _ e) hD2)];exact s45 _ _ (s24 _ _ e)
   generalize upd H5 D2 (.lst (gs.map V.ref++[.ref D3]))=H6 at O6 h6 k26 ⊢;have hfl:(gc ps OF j).flatten.length<=63:=by
    have:=kW S.T S.len (OF:=OF) hjn;rw[iG S.T hjn,je]at this;lia
   refine #[_,rfl,D2,gs++[D3],gc ps OF j,rfl,h6,O6,hfl,λp ws H7 hp s7 h7 hw7=>?_];rw[<-iG S.T hjn]at hw7;have s27:Same H2 H7:=λx o e=>s7 _ _ (k26 x o e);have h7D:=s27 _ _ h2;have hql:=hF.length;have hpD:p≠D:=bE (aq (k26 _ _ h2) hp);refine #[_,rfl,_,rfl,D,_,rfl,DPut.k (k:=kN j) h7D (aW (by rw[wg hql,bt,fh];lia)),?_];rw[KQ hql hjnot];have e78:Ext H7 (upd H7 D (.dK (cG (bs.reverse.take i++[j]) (qs++[p])))):=λx o e n=>by
    rw[ak (λz=>by
     rw[z,h7D]at e;cases e
     exact n _ rfl)]
    exact e
   have F8:bS K (upd H7 D (.dK (cG (bs.reverse.take i++[j]) (qs++[p])))) ps OF (bs.reverse.take i++[j]) (qs++[p]):=by
    exact bS.ext e78 (bS.snoc (hF.same s27) #[ws,h7,hw7])
   refine #[qs++[p],_,_,rfl,ah,?_,?_,F8,?_,λx o n e=>?_]
   .rw[fK];refine #[hqn,c6.mpr #[nofun,jD],λa ha b hb z=>?_];rw[a0.mp hb]at z;subst z;obtain ⟨ws',hws⟩:=hF.alloc a ha;have:=k26 _ _ hws;rw[hp]at this;cases this
   .intro x hx;rcases bO.mp hx with z|z
    .exact hqf x z
    .rw[a0.mp z];cases e:H p with
     | none=>rfl
     | some o=>
      have:=k26 _ _ (k2 p o hpD e);rw[hp]at this;cases this
   .rw[ak (λz=>by rw[z,h2]at h2b;cases h2b)]
    exact s27 _ _ h2b
   .rw[ak n];exact s27 _ _ (k2 x o n e)
 .rintro U H2 ⟨qs,x5,x6,rfl,h2,hqn,hqf,hF,h2b,k2⟩;refine #[_,rfl,?_];rw[af,bh (by rw[fh];exact av _)]at h2 hF;exact q D qs H2 hD (λx o e=>k2 x o (aq e hD) e) h2 hqn hqf hF
inductive sQ (K:Frag)(vs:List V)(H:Hp)(Q:VK)(w_1:XK):Prop
 | c:∀(st:Addr) (ps:List Nat) (OF:List (List Int)) (t rs:Addr) (as:List Addr),vs=[.ref st]->bR H st ps OF t rs as->(∀(p:Addr) (qs:List Addr) (H':Hp),H p=none->Same H H'->H' p=some (.lst (qs.map V.ref))->qs.Nodup->(∀ q∈qs,H q=none)->p∉qs->bS K H' ps OF (List.range (ps.length+1)) qs->Q (.ref p) H')->sQ K vs H Q w_1
def KY {n i:Nat}(h:i<n):(List.range n).reverse[n-1-i]?=some i:=by
 rw[nQ (by rw[bY];lia),bY,dY (by lia)];congr 1;lia
def KZ (T:Txt K mg)(ym:DF K mg "full_rows" ph mG)(yn:FC P w K mg base 7 "full_rows_beneath" mE (sP K)):FC P w K mg base 8 "full_rows" mG (sQ K):=by
 refine ym.ok Ce (λvs H Q E h=>?_) (λf cdv A outer s H vs Q E hr h=>?_)
 .obtain ⟨st,ps,OF,t,rs,as,rfl,_⟩:=h;rfl
 obtain ⟨st,ps,OF,t,rs,as,rfl,S,q⟩:=h;refine #[_,(aK (aL (i:=1) Ce.nd rfl (eE rfl) (ax yn hr (aa (pv 0) (aa ag ae))))
   (aw (aE (cg (N:=["knot","told"]) (own:=1) (cap:=[1]) rfl (fQ rfl T.dG (aa (aT (bJ (K:=K)) rfl T.bG bF (aa (aB (aR (K:=K)) (pv 0) ag (λ_ _=>rfl)) ae)) ae)) #[rfl,rfl,rfl,rfl,rfl,rfl] (λ_ _ _ _ _=>(aP (i:=0) (show List.Nodup (["knot","told"]:List Str) by decide +kernel) rfl (au rfl))) (λ_ _ _ _ _=>bW) (λ_ _ _ _ _=>(gF (dS hr) (pv 1) (pv 0) (λ_ _=>rfl))))))),?_]
 refine #[_,rfl,st,ps,OF,t,rs,as,0,rfl,S,by lia,λD qs H1 hD s1 h1 hqn hqf hF=>?_];rw[CS S.T]at h1 hF;have S1:=S.same s1;have hfew:=S.few;have hql:=hF.length;rw[fh,bY]at hql;refine #[_,rfl,_,_,_,_,rfl,rfl,SqT.of S1.st,rfl,_,_,rfl,.inr (SqT.of S1.tr),_,rfl,by lia,by rw[ck];lia,λp hp=>?_];have el:((((b8 ps).length:Nat):Int)).toNat=ps.length+1:=by rw[ck,eA]
 rw[el];refine ij (n:=ps.length+1) (λi U H2=>∃ x0:Option V,U=[x0,some (.ref D)]/\H2 p=some (.lst ((qs.reverse.take i).map V.ref))/\But p H1 H2) ?_ ?_ ?_
 .exact #[_,rfl,ah,λb o n e=>by rw[ak n];exact e]
 .rintro i m U H2 hm hi ⟨x0,rfl,h2,k2⟩;rw[gV];have hi2:i<qs.reverse.length:=by rw[fh];lia
  have hq1:qs[ps.length+1-1-i]?=some qs.reverse[i]:=by
   have:=nQ (l:=qs) (i:=i) (by lia);rw[aD hi2]at this;rw[this];congr 1;lia
  have hv:=sN (wb jL) (KY hi) hq1;have h2D:=k2 _ _ (aq h1 hp) h1;have hdg:DGet H2 D (.int (i:Int)) (some (.ref qs.reverse[i])):=by
   rw[<-hv];exact DGet.k (k:=kN i) h2D
  refine bZ ?_;refine #[_,rfl,_,rfl,D,_,rfl,hdg,?_];refine #[_,h2,aW (by rw[af,bt];lia),m-1,by lia,by lia,_,rfl,?_,λb o n e=>by rw[ak n];exact k2 b o n e];rw[ah,cx hi2,aN];rfl
 .rintro U H2 ⟨x0,rfl,h2,k2⟩;rw[bh (by rw[fh];lia)]at h2;have s2:Same H1 H2:=λb o e=>k2 b o (aq e hp) e;have F2:=(hF.same s2).rev;rw[List.reverse_reverse]at F2;refine q p qs.reverse H2 ?_ (s1.trans s2) h2 (wb hqn) (λx hx=>hqf x (gT.mp hx)) (λz=>?_) F2
  .cases e:H p with
   | none=>rfl
   | some o=>
    have:=s1 _ _ e;rw[hp]at this;cases this
  .obtain ⟨ws,hws⟩:=hF.alloc p (gT.mp z);rw[hp]at hws;cases hws
def kX (x:Key):Prop:=∃ a:Int,x=.inl a/\-(10^60)<a/\a<10^60
def toI:Key->Int
 | .inl a=>a
 | _=>0
def K0 {kvs:List (Key×V)}{v:V}(h1:(kvs.map (·.1)).Nodup)(h2:∀ y∈kvs.map (·.1),kX y)(hx:kX x):((putK kvs x v).map (·.1)).Nodup/\∀ y∈(putK kvs x v).map (·.1),kX y:=by
 rw[J4];split
 .exact #[h1,h2]
 .rename_i c;refine #[?_,λy hy=>?_]
  .rw[fK];refine #[h1,c6.mpr #[nofun,jD],λa ha b hb z=>?_];rw[a0.mp hb]at z;subst z;obtain ⟨p,hp,e⟩:=bI.mp ha;exact c (List.any_eq_true.mpr #[p,hp,aU e])
  .rcases bO.mp hy with z|z
   .exact h2 y z
   .rw[a0.mp z];exact hx
def Dm:∀{l:List Key},(∀ y∈l,kX y)->l.map kV=(l.map toI).map V.int
 | [],_=>rfl
 | x::l,h=>by
  obtain ⟨a,rfl,_⟩:=h x bL;show V.int a::l.map kV=V.int a::(l.map toI).map V.int;rw[Dm λy hy=>h y (cp _ hy)]
def Dn:∀{l:List Key},l.Nodup->(∀ y∈l,kX y)->(l.map toI).Nodup
 | [],_,_=>jD
 | x::l,hn,h=>by
  rw[bK,c6];have hc:=c6.mp hn;refine #[λz=>?_,Dn hc.2 λy hy=>h y (cp _ hy)];obtain ⟨y,hy,e⟩:=bI.mp z;obtain ⟨a,rfl,_⟩:=h x bL;obtain ⟨b,rfl,_⟩:=h y (cp _ hy);have:b=a:=e;subst this;exact hc.1 hy
inductive wj (K:Frag)(vs:List V)(H:Hp)(Q:VK)(w_1:XK):Prop
 | c:∀(d L:Addr) (m:Int),vs=[.ref d,.int m]->(0<=m/\m<=40)->LS K L d H->(∀(a:Addr) (row:List Int) (H':Hp),H a=none->row.Pairwise (· < ·)->(∀ x∈row,-(10^60)<x/\x<10^60)->(row.length:Int)<=m->H' a=some (.tup (row.map V.int))->Keep d H H'->LS K L d H'->Q (.ref a) H')->wj K vs H Q w_1
def K1 (T:Txt K mg)(yo:DF K mg "_law_row" qb rH)(cn:FC P w K mg base 2 "_law_take" eW (fq K))(ny:FC P w K mg base 3 "_law_key" kJ (kP K)):FC P w K mg base 4 "_law_row" rH (wj K):=by
 refine yo.ok vz (λvs H Q E h=>?_) (λf cdv A outer s H vs Q E hr h=>?_)
 .obtain ⟨d,L,m,rfl,_⟩:=h;rfl
 obtain ⟨d,L,m,rfl,⟨hm0,hm1⟩,hs,q⟩:=h;refine #[_,(aK (aL (i:=2) vz.nd rfl (au rfl) AJ)
   (aK (cO PassesOwn.never rfl (fQ rfl T.dG (aa (ax cn hr (aa (pv 0) (aa (aG cf (pv 1) ag) ae))) ae)) (aP (i:=3) vz.nd rfl (au rfl)) (aw (jW (dS hr) (pv 2) (ax ny hr (aa (pv 0) ae)) bV rfl)))
   (aw (aE (dC (gH (K:=K)) rfl T.gg boot_tuple (aa (aT (vk Int) rfl T.xN boot_sorted (aa (dC (G8 rfl) rfl T.jz boot_list (aa (pv 2) ae)) ae)) ae)))))),?_]
 intro g hg;have ngd:g≠d:=λz=>by
  obtain ⟨_,_,_,e,_⟩:=hs.ex;rw[<-z,hg]at e;cases e
 refine #[_,rfl,_,rfl,_,_,rfl,rfl,d,L,m+1,rfl,#[by lia,by lia],hs.of_new hg _,λn H1 n0 n1 k1 s1=>#[_,rfl,by lia,by lia,?_]];refine fR (n:=n.toNat) (λi U H2=>∃(kvs:List (Key×V)) (x3:Option V),U=[some (.ref d),some (.int m),some (.ref g),x3]/\H2 g=some (.dK kvs)/\kvs.length<=i/\(kvs.map (·.1)).Nodup/\(∀ y∈kvs.map (·.1),kX y)/\(∀ b o,b≠d->b≠g->H b=some o->H2 b=some o)/\LS K L d H2) ?_ ?_ ?_
 .exact #[[],_,rfl,k1 g _ ngd ah,av _,jD,λy hy=>(by simp at hy),λb o b1 b2 e=>k1 b o b1 (by rw[ak b2];exact e),s1]
 .rintro i U H2 hi ⟨kvs,x3,rfl,h2,hl,hn,hy,kk,s2⟩;refine #[_,rfl,_,rfl,d,L,rfl,s2,λv H3 v0 v1 k3 s3=>?_];have h3:H3 g=some (.dK kvs):=k3 g _ ngd h2;obtain ⟨p1,p2⟩:=K0 (v:=.bl true) hn hy (x:=.inl v) #[v,rfl,v0,v1];refine #[g,_,rfl,DPut.k (k:=.inl v) (kvs:=kvs) h3 (aW (by lia)),?_];refine #[putK kvs (.inl v) (.bl true),_,rfl,ah,?_,p1,p2,?_,?_]
  .have:=oy kvs (Sum.inl v:Key) (.bl true);lia
  .intro b o b1 b2 e;rw[ak b2];exact k3 b o b1 (kk b o b1 b2 e)
  .exact LS.put hs hg (λb o b1 b2 e=>k3 b o b1 (kk b o b1 b2 e)) s3
 .rintro U H2 ⟨kvs,x3,rfl,h2,hl,hn,hy,kk,s2⟩;refine #[_,rfl,g,kvs,rfl,h2,λl hl1=>?_];have ei:kvs.map (λkv=>kV kv.1)=((kvs.map (·.1)).map toI).map V.int:=by
   rw[<-Dm hy,bT];rfl
  rw[ei];have e1:=aJ hl1 (.lst (((kvs.map (·.1)).map toI).map V.int));refine #[l,_,_,rfl,SqL.of ah,aI.ints,by rw[af,af];lia,λl2 ws hl2 hw=>?_];rw[hw.toInts];have e2:=aJ hl2 (.lst ((bc ((kvs.map (·.1)).map toI)).map V.int));refine #[l2,_,rfl,.inl #[SqL.of ah,λa ha=>?_]];have e3:=aJ ha (.tup ((bc ((kvs.map (·.1)).map toI)).map V.int));have e13:=e1.trans (e2.trans e3);have free:H a=none:=by
   have z2:H2 a=none:=e1.free (e2.free ha);cases z:H a with
   | none=>rfl
   | some o=>
    by_cases c1:a=d
    .obtain ⟨_,_,_,e,_⟩:=s2.ex;rw[<-c1,z2]at e;cases e
    .by_cases c2:a=g
     .rw[c2,h2]at z2;cases z2
     .rw[kk a o c1 c2 z]at z2;cases z2
  refine q a _ _ free ?_ (λx hx=>?_) ?_ ah (λb o b1 e=>e13 _ _ (kk b o b1 (aq e hg) e)) (s2.same e13)
  .exact List.Pairwise.imp (λ{a b} (h:Srt.blt a b=true)=>cE h) (Be (Dn hn hy))
  .rw[jZ]at hx;obtain ⟨y,hy2,rfl⟩:=bI.mp hx;obtain ⟨a,rfl,h1,h2⟩:=hy y hy2;exact #[h1,h2]
  .rw[je,af,af];lia
inductive wm (K:Frag)(vs:List V)(H:Hp)(Q:VK)(w_1:XK):Prop
 | c:∀(d L:Addr) (n m:Nat),vs=[.ref d,.int n,.int m]->n<=40->m<=40->LS K L d H->(∀(r:Addr) (as:List Addr) (OF:List (List Int)) (H':Hp),H r=none->bA H' as OF->OF.length=n->cA OF->(∀ row∈OF,row.length<=m)->H' r=some (.tup (as.map V.ref))->Keep d H H'->LS K L d H'->Q (.ref r) H')->wm K vs H Q w_1
def cA.snoc {row:List Int}(R:cA OF)(h1:row.Pairwise (· < ·))(h2:∀ x∈row,-(10^60)<x/\x<10^60):cA (OF++[row]):=by
 refine #[λr hr=>?_,λr hr=>?_]
 .rcases bO.mp hr with z|z
  .exact R.up r z
  .rw[a0.mp z];exact h1
 .rcases bO.mp hr with z|z
  .exact R.key r z
  .rw[a0.mp z];exact h2
def K2 (T:Txt K mg)(yp:DF K mg "_law_rows" qd rJ)(cn:FC P w K mg base 2 "_law_take" eW (fq K))(ND:FC P w K mg base 4 "_law_row" rH (wj K)):FC P w K mg base 5 "_law_rows" rJ (wm K):=by
 refine yp.ok kl (λvs H Q E h=>?_) (λf cdv A outer s H vs Q E hr h=>?_)
 .obtain ⟨d,L,n,m,rfl,_⟩:=h;rfl
 obtain ⟨d,L,n,m,rfl,hn,hm,hs,q⟩:=h;refine #[_,(aK (aL (i:=3) kl.nd rfl (au rfl) (cy ae))
   (aK (cO PassesOwn.never rfl (fQ rfl T.dG (aa (pv 1) ae)) (aP (i:=4) kl.nd rfl (au rfl)) (aK (aL (i:=5) kl.nd rfl (au rfl) (ax ND hr (aa (pv 0) (aa (pv 2) ae))))
   (c8 (bu (aX dr (ax cn hr (aa (pv 0) (aa ag ae))) ag (aS _)) (aw (aL (i:=5) kl.nd rfl (au rfl) (cX ae))) bz)
   (c8 (bu (PW.pt (jR (aX i9 (pv 4) ag (aS _)) (jQ (aX dr (ax cn hr (aa (pv 0) (aa ag ae))) ag (aS _))))) (aw (aL (i:=5) kl.nd rfl (au rfl) (aB (bw (K:=K)) (pv 3) (aG cF (pv 4) ag) (λ_ _=>rfl)))) bz)
   (aw (dB (d5 F.plainAttrs_list F.slot_list_append F.type_list_append eJ (pv 3) (aa (pv 5) ae))))))))
   (aw (aE (dC (gH (K:=K)) rfl T.gg boot_tuple (aa (pv 3) ae)))))),?_]
 refine #[(by show 0<=sizeLine;decide),λp hp=>?_];have g0:=aJ hp (.lst []);have ndT:∀{H':Hp} {a:Addr} {o:List V},LS K L d H'->H' a=some (.tup o)->a≠d:=λ{H' a o} s e z=>by
  obtain ⟨_,_,_,e2,_⟩:=s.ex;rw[<-z,e]at e2;cases e2
 have nd:∀{H':Hp} {a:Addr},LS K L d H'->H' a=none->a≠d:=λ{H' a} s e z=>by
  obtain ⟨_,_,_,e2,_⟩:=s.ex;rw[<-z,e]at e2;cases e2
 have hpd:p≠d:=nd hs hp;refine #[_,rfl,_,rfl,by lia,by lia,?_];rw[eA];refine fR (n:=n) (λi U H2=>∃(as:List Addr) (OF:List (List Int)) (x4 x5:Option V),U=[some (.ref d),some (.int n),some (.int m),some (.ref p),x4,x5]/\H2 p=some (.lst (as.map V.ref))/\bA H2 as OF/\OF.length=i/\cA OF/\(∀ row∈OF,row.length<=m)/\(∀ b o,b≠d->b≠p->H b=some o->H2 b=some o)/\LS K L d H2) ?_ ?_ ?_
 .exact #[[],[],_,_,rfl,ah,.nil,rfl,#[(λr hr=>nomatch hr),(λr hr=>nomatch hr)],(λr hr=>nomatch hr),λb o _ n e=>g0 b o e,hs.same g0]
 .rintro i U H2 hi ⟨as,OF,x4,x5,rfl,h2,hA,hl,hR,hlen,k2,s2⟩;rw[gV];have hal:=hA.length;have old:∀{H3:Hp} {b:Addr} {o:HO},(∀ b o,b≠d->H2 b=some o->H3 b=some o)->b≠d->b≠p->H b=some o->H3 b=some o:=λk n1 n2 e=>k _ _ n1 (k2 _ _ n1 n2 e);refine #[_,rfl,_,rfl,d,L,m,rfl,#[by lia,by lia],s2,λa row H3 ha hup hky hlr h3 k3 s3=>?_];refine #[λU' H'=>∃(a:Addr) (row:List Int),U'=[some (.ref d),some (.int n),some (.int m),some (.ref p),some (.int i),some (.ref a)]/\H' a=some (.tup (row.map V.int))/\row.Pairwise (· < ·)/\(∀ x∈row,-(10^60)<x/\x<10^60)/\row.length<=m/\(∀ b o,b≠d->H2 b=some o->H' b=some o)/\LS K L d H',?_,?_]
  .refine #[_,rfl,d,L,4,rfl,by decide,s3,λv H4 _ _ k4 s4=>#[rfl,_,rfl,?_]];have h4:=k4 _ _ (ndT s3 h3) h3;refine ite2 (λ_=>?_) (λ_=>?_)
   .refine #[(by show 0<=sizeLine;decide),λu hu=>?_];have su:=aJ hu (.tup []);exact #[u,[],rfl,ah,.nil,(λx hx=>nomatch hx),cS _,λb o n1 e=>su _ _ (k4 _ _ n1 (k3 _ _ n1 e)),s4.same su]
   .exact #[a,row,rfl,h4,hup,hky,by lia,λb o n1 e=>k4 _ _ n1 (k3 _ _ n1 e),s4]
  rintro U' H4 ⟨a,row,rfl,h4,hup,hky,hlr,k4,s4⟩;refine #[λU' H'=>∃(a:Addr) (row:List Int),U'=[some (.ref d),some (.int n),some (.int m),some (.ref p),some (.int i),some (.ref a)]/\H' a=some (.tup (row.map V.int))/\row.Pairwise (· < ·)/\(∀ x∈row,-(10^60)<x/\x<10^60)/\row.length<=m/\(∀ b o,b≠d->H2 b=some o->H' b=some o)/\LS K L d H',?_,?_]
  .refine #[_,rfl,_,_,rfl,rfl,_,rfl,?_];refine ite2 (λc=>?_) (λc=>?_)
   .have c':(0:Int)<(i:Int):=cE c;refine #[_,rfl,d,L,4,rfl,by decide,s4,λv H5 _ _ k5 s5=>#[rfl,_,rfl,?_]];have h5:=k5 _ _ (ndT s4 h4) h4;refine ite2 (λ_=>?_) (λ_=>?_)
    .have h5p:H5 p=some (.lst (as.map V.ref)):=k5 _ _ hpd (k4 _ _ hpd h2);obtain ⟨b,hb1,hb2⟩:=hA.get (k:=i-1) (by lia);have hb5:=k5 _ _ (ndT s4 (k4 _ _ (ndT s2 hb2) hb2)) (k4 _ _ (ndT s2 hb2) hb2);have hat:atI (as.map V.ref) ((i:Int)-1)=some (.ref b):=by
      rw[show (i:Int)-1=((i-1:Nat):Int) by lia];exact iH hb1
     refine #[_,rfl,_,rfl,_,_,rfl,rfl,_,_,_,_,rfl,rfl,SqL.of h5p,hat,?_];have hmem:aC OF (i-1)∈OF:=by
      unfold aC;rw[aF,aD (show i-1<OF.length by lia)];exact cJ _
     exact #[b,aC OF (i-1),rfl,hb5,hR.up _ hmem,hR.key _ hmem,hlen _ hmem,λb o n1 e=>k5 _ _ n1 (k4 _ _ n1 e),s5]
    .exact #[a,row,rfl,h5,hup,hky,hlr,λb o n1 e=>k5 _ _ n1 (k4 _ _ n1 e),s5]
   .refine iteF ?_;exact #[a,row,rfl,h4,hup,hky,hlr,k4,s4]
  rintro U' H5 ⟨a,row,rfl,h5,hup,hky,hlr,k5,s5⟩;have h5p:H5 p=some (.lst (as.map V.ref)):=k5 _ _ hpd h2;have keep:∀ b o,b≠p->H5 b=some o->upd H5 p (.lst (as.map V.ref++[.ref a])) b=some o:=λb o n e=>by rw[ak n];exact e
  have ntp:∀{b:Addr} {o:List V},H5 b=some (.tup o)->b≠p:=λ{b o} e z=>by
   rw[z,h5p]at e;cases e
  refine #[_,rfl,.inl #[rfl,_,SqL.of h5p],_,rfl,_,_,_,rfl,rfl,h5p,aW (by rw[af];lia),?_];refine #[as++[a],OF++[row],_,_,rfl,?_,?_,by rw[bB,dj,hl],hR.snoc hup hky,λr hr=>?_,λb o n1 n2 e=>keep _ _ n2 (k5 _ _ n1 (k2 _ _ n1 n2 e)),?_]
  .rw[ah,aN];rfl
  .refine bA.snoc ?_ (keep _ _ (ntp h5) h5);have hA5:bA H5 as OF:=bA.keep (p:=d) (λa row e=>ndT s2 e) k5 hA;exact bA.keep (p:=p) (d:=p) (λa row e=>ntp e) keep hA5
  .rcases bO.mp hr with z|z
   .exact hlen r z
   .rw[a0.mp z];exact hlr
  .exact LS.put hs hp (λb o n1 n2 e=>k5 _ _ n1 (k2 _ _ n1 n2 e)) s5
 .rintro U H2 ⟨as,OF,x4,x5,rfl,h2,hA,hl,hR,hlen,k2,s2⟩;refine #[_,rfl,p,_,rfl,.inl #[SqL.of h2,λt ht=>?_]];have sn:=aJ ht (.tup (as.map V.ref));have ht0:H t=none:=by
   cases e:H t with
   | none=>rfl
   | some o=>
    have:=k2 t o (nd s2 ht) (bE (aq h2 ht)) e;rw[ht]at this;cases this
  exact q t as OF _ ht0 (hA.ext sn) hl hR hlen ah (λb o n e=>sn _ _ (k2 b o n (aq e hp) e)) (s2.same sn)
abbrev En:=Int×Int
def d9 (k:Nat)(es:List En):Nat:=(es.filter λe=>decide (e.2=(k:Int))).length
def sR (k:Nat)(es:List En):List Nat:=(List.range (es.length+1)).map λp=>d9 k (es.take p)
def K3 (cs:List En)(s:Nat)(e:En):Nat:=if e∈cs then cs.idxOf e+1 else s
def stN (cs es:List En):Nat:=es.foldl (K3 cs) 0
def sS (es cs:List En):List Nat:=(List.range (es.length+1)).map λp=>stN cs (es.take p)
def inN (cs es:List En):Nat:=(es.filter λe=>decide (e∈cs)).length
def Do (h:Rise l):l.Nodup:=List.Pairwise.imp (λ{a b} (q:pLt a b=true) z=>by
 subst z;have:=fX.mp q;lia) h
def Dp (h1:Rise l)(h2:Rise m)(h:∀ e,e∈l↔e∈m):l=m:=by
 refine List.Perm.eq_of_pairwise (le:=λa b=>pLt a b=true) (λa b _ _ q1 q2=>?_) h1 h2 ((ub (Do h1) (Do h2)).mpr h);have:=fX.mp q1;have:=fX.mp q2;lia
def sT (T:bf ps){k:Nat}(hk:k<ps.length+1){e:En}:e∈ay ps OF k↔e∈ownE OF k\/∃ c,par ps c=some k/\e∈cM (ay ps OF c):=by
 rw[iG T hk,jZ,jJ];unfold gc;constructor
 .rintro ⟨l,hl,he⟩;rcases bO.mp hl with q|q
  .obtain ⟨c,hc,rfl⟩:=bI.mp q;exact .inr #[c,(cY.mp hc).2,he]
  .rw[a0.mp q]at he;exact .inl he
 .rintro (h|⟨c,hc,h⟩)
  .exact #[_,bO.mpr (.inr (a0.mpr rfl)),h]
  .exact #[_,bO.mpr (.inl (bI.mpr #[c,cY.mpr #[(bM T hc).2,hc],rfl])),h]
def K5 (T:bf ps)(R:cA OF){k c:Nat}(hk:k<ps.length+1)(hc:par ps c=some k){e:En}:(e∈ay ps OF k/\e∈ay ps OF c)↔e∈cM (ay ps OF c):=by
 have hcn:=(bM T hc).2;constructor
 .rintro ⟨h1,h2⟩;obtain ⟨j,g1,g2,g3,_⟩:=sM T R hcn e h2;rcases (sT T hk).mp h1 with h|⟨d,hd,h⟩
  .have h4:=(sJ hk h).2;have:j=k:=by lia
   subst this;rw[iA T (bM T hc).1]at g2;cases g2
  .by_cases z:d=c
   .rw[z]at h;exact h
   .obtain ⟨i,_,f2,f3,_⟩:=sM T R (bM T hd).2 e ((fB _).mem h);have:i=j:=by lia
    subst this;exact (so T hd hc z i i (av _) f2 g2).elim
 .intro h;exact #[(sT T hk).mpr (.inr #[c,hc,h]),(fB _).mem h]
def Dq (T:bf ps)(R:cA OF){k c:Nat}(hk:k<ps.length+1)(hc:par ps c=some k):((ay ps OF k).filter λe=>decide (e∈ay ps OF c))=cM (ay ps OF c):=by
 refine Dp (List.Pairwise.filter _ (eY T R hk)) ((eY T R (bM T hc).2).sublist (fB _)) λe=>?_;rw[dh,decide_eq_true_eq];exact K5 T R hk hc
def K6 {l:List En}{p:Nat}(h:p<l.length):l.take (p+1)=l.take p++[l[p]]:=cx h
def K7 (k:Nat)(es:List En)(e:En):d9 k (es++[e])=d9 k es+if e.2=(k:Int) then 1 else 0:=by
 unfold d9;rw[eB,bB];congr 1;by_cases h:e.2=(k:Int)
 .rw[ar h,dI (by exact aU h)];rfl
 .rw[az h,dR (by rw[bH h];decide)];rfl
def K8 (cs es:List En)(e:En):inN cs (es++[e])=inN cs es+if e∈cs then 1 else 0:=by
 unfold inN;rw[eB,bB];congr 1;by_cases h:e∈cs
 .rw[ar h,dI (by exact aU h)];rfl
 .rw[az h,dR (by rw[bH h];decide)];rfl
def Dr (cs es:List En)(e:En):stN cs (es++[e])=if e∈cs then cs.idxOf e+1 else stN cs es:=by
 unfold stN;rw[List.foldl_append];rfl
def spL (es:List En):List Nat:=(List.range es.length).filter λj=>(d8 es).getD j false
def sU (es:List En):dO (d8 es) (spL es):=by
 have:=JL (d8 es);rw[kR]at this;exact this
def Ds {es:List En}{ms:List Bool}(hl:es.length=ms.length):∀ i,i<=ms.length->dz (es.take i) (ms.take i)=((List.range i).filter λj=>ms.getD j false).map λj=>es.getD j (0,0)
 | 0,_=>rfl
 | i+1,h=>by
  have ft:((List.range (i+1)).filter λj=>ms.getD j false)=((List.range i).filter λj=>ms.getD j false)++(if ms.getD i false=true then [i] else []):=by
   rw[eS,eB];congr 1;by_cases h:ms.getD i false=true
   .rw[ar h,dI (p:=λj=>ms.getD j false) (a:=i) h];rfl
   .rw[az h,dR (p:=λj=>ms.getD j false) (a:=i) h];rfl
  rw[sG (show i<es.length by lia),sG (show i<ms.length by lia),C0 (by rw[bt,bt];lia),Ds hl i (by lia),ft,aN];congr 1;have e:ms.getD i false=ms[i]'(by lia):=by
   rw[aF,aD (show i<ms.length by lia)];rfl
  rw[e];split
  .rw[List.map_singleton,aF,aD (show i<es.length by lia)];rfl
  .rfl
def Dt (es:List En):cM es=(spL es).map λj=>es.getD j (0,0):=by
 have hl:=kR es;have:=Ds (es:=es) (ms:=d8 es) hl.symm (d8 es).length (av _);rw[bh (av _),bh (by lia),hl]at this;exact this
def stAt (sp:List Nat)(t:Nat):Nat:=if t=0 then 0 else sp.getD (t-1) 0+1
def K9 {l:List En}(h:l.Nodup){j:Nat}(hj:j<l.length):l.idxOf (l.getD j (0,0))=j:=by
 rw[aF,aD hj];exact List.Nodup.idxOf_getElem h j hj
def La {P:En->Bool}:∀(l:List En) (p:Nat),(l.take p).filter P=(l.filter P).take ((l.take p).filter P).length:=by
 intro l p;have e:l.filter P=(l.take p).filter P++(l.drop p).filter P:=by rw[<-eB,gW]
 rw[e,List.take_append_of_le_length (av _),bh (av _)]
def Du (T:bf ps)(R:cA OF){k c:Nat}(hk:k<ps.length+1)(hc:par ps c=some k):∀ p,p<=(ay ps OF k).length->stN (ay ps OF c) ((ay ps OF k).take p)=stAt (spL (ay ps OF c)) (inN (ay ps OF c) ((ay ps OF k).take p))
 | 0,_=>rfl
 | p+1,h=>by
  have ih:=Du T R hk hc p (by lia);have hp:p<(ay ps OF k).length:=by lia
  have hft:=La (P:=λe=>decide (e∈ay ps OF c)) (ay ps OF k) (p+1);rw[Dq T R hk hc]at hft;rw[K6 hp]at hft ⊢;rw[Dr,K8];by_cases z:(ay ps OF k)[p]∈ay ps OF c
  .rw[ar z,ar z];unfold stAt;rw[az (by lia),jI];congr 1;rw[eB,dI (by exact aU z),List.filter_nil,bB,dj]at hft;have hin:((ay ps OF k).take p |>.filter λe=>decide (e∈ay ps OF c)).length=inN (ay ps OF c) ((ay ps OF k).take p):=rfl;generalize inN (ay ps OF c) ((ay ps OF k).take p)=t at hin ⊢;have hg:(cM (ay ps OF c))[t]?=some (ay ps OF k)[p]:=by
    have h2:(((ay ps OF k).take p |>.filter λe=>decide (e∈ay ps OF c))++[(ay ps OF k)[p]])[t]?=some (ay ps OF k)[p]:=by
     rw[gi (by lia),hin,lI];rfl
    rw[hft,lH]at h2;split at h2
    .exact h2
    .cases h2
   rw[Dt,aQ]at hg;obtain ⟨j,hj,he⟩:=cI.mp hg;have hjl:j<(ay ps OF c).length:=by
    have:=(sU (ay ps OF c)).lt (cW hj);rw[kR]at this;exact this
   rw[<-he,K9 (Da T R (bM T hc).2) hjl,aF,hj];rfl
  .rw[az z,az z,Nat.add_zero];exact ih
def Lb {es:List En}(he:∀ e∈es,d7 64 e)(hri:Rise es){t:Nat}(ht:t<(spL es).length):stAt (spL es) (t+1)=stAt (spL es) t+2\/stAt (spL es) (t+1)=stAt (spL es) t+3:=by
 have M:=CY he hri;have S:=sU es;have g:∀ i (h:i<(spL es).length),(spL es).getD i 0=(spL es)[i]:=λi h=>by
  rw[aF,aD h];rfl
 unfold stAt;rw[az (by lia),jI];by_cases z:t=0
 .subst z;rw[ar rfl,g 0 ht];have hlen:2<=(d8 es).length:=by
   refine iW λy=>?_;have:=S.none M (by lia);rw[this]at ht;simp at ht
  obtain ⟨_,h1,h2⟩:=S.first M hlen;lia
 .rw[az z,g t ht,g (t-1) (by lia)];have:=S.step M (t:=t-1) (by lia);have e:t-1+1=t:=by lia
  have e2:(spL es)[t-1+1]'(by lia)=(spL es)[t]:=by congr 1
  rw[e2]at this;lia
def Lc {es:List En}(he:∀ e∈es,d7 64 e)(hri:Rise es):stAt (spL es) (spL es).length<=es.length/\es.length<=stAt (spL es) (spL es).length+1:=by
 have M:=CY he hri;have S:=sU es;have hl:=kR es;unfold stAt;by_cases z:(spL es).length=0
 .rw[ar z];refine #[cS _,?_];refine iW λy=>?_;obtain ⟨h,_⟩:=S.first M (by lia);lia
 .have g:(spL es).getD ((spL es).length-1) 0=(spL es)[(spL es).length-1]'(by lia):=by
   rw[aF,aD (by lia)];rfl
  rw[az z,g];have h1:=S.lt (cJ (show (spL es).length-1<(spL es).length by lia));refine #[by lia,?_];have hlen:2<=(d8 es).length:=iW λy=>z (by rw[S.none M y];rfl);have h2:=S.last M hlen (by lia);lia
def kY {f:Nat->Nat}{i:Nat}:((List.range (i+1)).map f).map nV=(((List.range i).map f)++[f i]).map nV:=by
 rw[eS,aN];rfl
def wo {us:List Nat}:atI ((us++[c]).map nV) (-1)=some (nV c):=by
 unfold atI ixN;rw[aN];simp;rw[ar (by lia)];show (List.map nV us++[nV c])[(-1+((us.length:Int)+1)).toNat]?=_;rw[show (-1+((us.length:Int)+1)).toNat=us.length by lia,gi (by rw[af];exact av _),af,lI];rfl
inductive wq (K:Frag)(vs:List V)(H:Hp)(Q:VK)(w_1:XK):Prop
 | c:∀(a:Addr) (ws:List V) (es:List En) (k:Nat),vs=[.ref a,.int k]->H a=some (.lst ws)->aI K H es ws->es.length<=900->(∀(p:Addr) (H':Hp),H p=none->Same H H'->H' p=some (.lst ((sR k es).map nV))->Q (.ref p) H')->wq K vs H Q w_1
def Ld (T:Txt K mg)(yq:DF K mg "owns_of" pO rj):FC P w K mg base 1 "owns_of" rj (wq K):=by
 refine yq.ok vx (λvs H Q E h=>?_) (λf cdv A outer s H vs Q E hr h=>?_)
 .obtain ⟨a,ws,es,k,rfl,_⟩:=h;rfl
 obtain ⟨a,ws,es,k,rfl,ha,hw,hz,q⟩:=h;have hwl:=hw.length;refine #[_,(aK (aL (i:=2) vx.nd rfl (au rfl) (cy (aa ag ae)))
   (aK (cO PassesOwn.never rfl (cQ (pv 0)) (aP (i:=3) vx.nd rfl (au rfl)) (aw (dB (d5 F.plainAttrs_list F.slot_list_append F.type_list_append eJ (pv 2) (aa (lQ (aX dr (aB (aR (K:=K)) (pv 3) ag (λ_ _=>rfl)) (pv 1) (aS _)) (aG cf (aB (bw (K:=K)) (pv 2) (gy gA ag) (λ_ _=>rfl)) ag) (aB (bw (K:=K)) (pv 2) (gy gA ag) (λ_ _=>rfl))) ae)))))
   (aw (aE (pv 2))))),?_]
 refine #[(by show 1<=sizeLine;decide),λp hp=>?_];have k0:But p H (upd H p (.lst [V.int 0])):=λb o n e=>by rw[ak n];exact e
 have nap:a≠p:=aq ha hp;refine #[_,rfl,a,rfl,#[_,SqL.of (k0 _ _ nap ha)],?_];refine lS (xs:=ws) (λi U H2=>∃ x3:Option V,U=[some (.ref a),some (.int k),some (.ref p),x3]/\H2 p=some (.lst (((List.range (i+1)).map λp=>d9 k (es.take p)).map nV))/\But p H H2) ?_ ?_ ?_ ?_
 .exact #[_,rfl,ah,k0]
 .rintro i U H2 _ ⟨x3,rfl,_,k2⟩;exact SqL.of (k2 _ _ nap ha)
 .rintro i x U H2 hx ⟨x3,rfl,h2,k2⟩;obtain ⟨e,he,hhas⟩:=hw.get hx;obtain ⟨b,y1,y2,rfl,hb,hy1,hy2⟩:=(show hasP K H e x from hhas);have hy1:y1=.int e.1:=hy1;have hy2:y2=.int e.2:=hy2;subst hy1 hy2;have h2b:=k2 _ _ (aq hb hp) hb;have hi:=(aY.mp he).1;have htk:es.take (i+1)=es.take i++[e]:=by
   rw[cx hi,(aY.mp he).2]
  have hon:=K7 k (es.take i) e;rw[<-htk]at hon;rw[kY]at h2;have hlen:((((List.range i).map λp=>d9 k (es.take p))++[d9 k (es.take i)]).map nV).length < sizeLine:=aW (by
   rw[af,bB,af,bY,dj];lia)
  have fin:∀ v:Nat,v=d9 k (es.take (i+1))->upd H2 p (.lst ((((List.range i).map λp=>d9 k (es.take p))++[d9 k (es.take i)]).map nV++[nV v])) p=some (.lst (((List.range (i+1+1)).map λp=>d9 k (es.take p)).map nV)):=λv hv=>by
   rw[ah,kY,aN (l₂:=[d9 k (es.take (i+1))]),kY,hv];rfl
  refine #[_,rfl,.inl #[rfl,_,SqL.of h2],?_];refine #[_,rfl,_,_,_,_,rfl,rfl,SqT.of h2b,rfl,_,rfl,rfl,_,rfl,?_];refine ite2 (λc=>?_) (λc=>?_)
  .have c':e.2=(k:Int):=V.int.inj (cE c);rw[ar c']at hon;refine #[_,rfl,_,rfl,_,_,_,_,rfl,rfl,SqL.of h2,wo,_,_,rfl,rfl,_,_,_,rfl,rfl,h2,hlen,?_];refine #[_,rfl,?_,λb o n e=>by rw[ak n];exact k2 b o n e];have:=fin (d9 k (es.take i)+1) hon.symm;rw[<-this];rfl
  .have c':¬ e.2=(k:Int):=λz=>c (by rw[z];exact aU rfl);rw[az c',Nat.add_zero]at hon;refine #[_,rfl,_,rfl,_,_,_,_,rfl,rfl,SqL.of h2,wo,_,_,_,rfl,rfl,h2,hlen,?_];exact #[_,rfl,fin _ hon.symm,λb o n e=>by rw[ak n];exact k2 b o n e]
 .rintro U H2 ⟨x3,rfl,h2,k2⟩;refine #[_,rfl,?_];rw[<-hwl]at h2;exact q p H2 hp (λb o e=>k2 b o (aq e hp) e) h2
def kvT:Nat->List En->List (List Key×V)
 | _,[]=>[]
 | o,e::es=>([.inl e.1,.inl e.2],nV (o+1))::kvT (o+1) es
abbrev kE (e:En):List Key:=[.inl e.1,.inl e.2]
def Le (h:kE e=kE f):e=f:=by
 obtain ⟨a,b⟩:=e;obtain ⟨c,d⟩:=f;injection h with h1 h2;injection h2 with h2 _;have h1:a=c:=Sum.inl.inj h1;have h2:b=d:=Sum.inl.inj h2;rw[h1,h2]
def wt (e:En):∀(o:Nat) (es:List En),valV (kvT o es) (kE e)=if e∈es then some (nV (o+es.idxOf e+1)) else none
 | _,[]=>rfl
 | o,f::es=>by
  show valV ((kE f,nV (o+1))::kvT (o+1) es) (kE e)=_;by_cases z:f=e
  .subst z;rw[hZ rfl,ar bL,List.idxOf_cons_self]
  .rw[eV (λy=>z (Le y)),wt e (o+1) es];have hm:(e∈f::es)=(e∈es):=propext #[λh=>(bq.mp h).resolve_left λy=>z y.symm,λh=>cp _ h];by_cases y:e∈es
   .have ei:(f::es).idxOf e=es.idxOf e+1:=by
     rw[List.idxOf_cons,beq_false_of_ne z];rfl
    rw[ar y,ar (by rw[hm];exact y),ei];congr 2;have:o+1+es.idxOf e+1=o+(es.idxOf e+1)+1:=by lia
    rw[this]
   .rw[az y,az (by rw[hm];exact y)]
def Dv (e:En):∀(o:Nat) (es:List En),kvT o (es++[e])=kvT o es++[(kE e,nV (o+es.length+1))]
 | _,[]=>rfl
 | o,f::es=>by
  show (kE f,nV (o+1))::kvT (o+1) (es++[e])=(kE f,nV (o+1))::(kvT (o+1) es++_);rw[Dv e (o+1) es,dH,show o+1+es.length+1=o+(es.length+1)+1 by lia]
def Dw:∀(o:Nat) (es:List En),(kvT o es).length=es.length
 | _,[]=>rfl
 | o,e::es=>by
  show (kvT (o+1) es).length+1=es.length+1;rw[Dw (o+1) es]
inductive wx (K:Frag)(vs:List V)(H:Hp)(Q:VK)(w_1:XK):Prop
 | c:∀(a c:Addr) (ws vs':List V) (es cs:List En),vs=[.ref a,.ref c]->H a=some (.lst ws)->aI K H es ws->es.length<=900->H c=some (.lst vs')->aI K H cs vs'->cs.length<=900->cs.Nodup->(∀(p:Addr) (H':Hp),H p=none->Same H H'->H' p=some (.lst ((sS es cs).map nV))->Q (.ref p) H')->wx K vs H Q w_1
def Lf (T:Txt K mg)(yr:DF K mg "starts_of" pP rl):FC P w K mg base 1 "starts_of" rl (wx K):=by
 refine yr.ok kg (λvs H Q E h=>?_) (λf cdv A outer s H vs Q E hr h=>?_)
 .obtain ⟨a,c,ws,us,es,cs,rfl,_⟩:=h;rfl
 obtain ⟨a,c,ws,us,es,cs,rfl,ha,hw,hz,hc,hu,hzc,hnd,q⟩:=h;have hwl:=hw.length;have hul:=hu.length;refine #[_,(aK (aL (i:=2) kg.nd rfl (au rfl) Ga)
   (aK (cO PassesOwn.never rfl (uN rfl T.xK (aa (pv 1) ae)) (i8 rfl (c7 (aP (i:=3) kg.nd rfl (au rfl)) (c7 (aP (i:=4) kg.nd rfl (au rfl)) fP))) (aw (jW (dS hr) (pv 2) (pv 4) (aG cf (pv 3) ag) rfl)))
   (aK (aL (i:=5) kg.nd rfl (au rfl) (cy (aa ag ae)))
   (aK (cO PassesOwn.never rfl (cQ (pv 0)) (aP (i:=4) kg.nd rfl (au rfl)) (aw (dB (d5 F.plainAttrs_list F.slot_list_append F.type_list_append eJ (pv 5) (aa (Gh (dS hr) (pv 2) (pv 4) (aB (bw (K:=K)) (pv 5) (gy gA ag) (λ_ _=>rfl)) #[rfl,rfl,rfl,rfl]) ae)))))
   (aw (aE (pv 5))))))),?_]
 intro D hD;have k0:But D H (upd H D (.dT [])):=λb o n e=>by rw[ak n];exact e
 have naD:a≠D:=aq ha hD;have ncD:c≠D:=aq hc hD;refine #[_,rfl,c,rfl,#[_,SqL.of (k0 _ _ ncD hc)],?_];refine uO (xs:=us) (λi U H2=>∃ x3 x4:Option V,U=[some (.ref a),some (.ref c),some (.ref D),x3,x4,none]/\H2 D=some (.dT (kvT 0 (cs.take i)))/\But D H H2) ?_ ?_ ?_ ?_
 .exact #[_,_,rfl,ah,k0]
 .rintro i U H2 _ ⟨x3,x4,rfl,_,k2⟩;exact SqL.of (k2 _ _ ncD hc)
 .rintro i x U H2 r hx ⟨x3,x4,rfl,h2,k2⟩ hr;obtain ⟨e,he,hhas⟩:=hu.get hx;obtain ⟨b,y1,y2,rfl,hb,hy1,hy2⟩:=(show hasP K H e x from hhas);have hy1:y1=.int e.1:=hy1;have hy2:y2=.int e.2:=hy2;subst hy1 hy2;have hi:=(aY.mp he).1;have htk:cs.take (i+1)=cs.take i++[e]:=by
   rw[cx hi,(aY.mp he).2]
  refine #[r,_,rfl,SqT.of ah,rfl,_,_,rfl,_,_,rfl,rfl,?_];have sr:=aJ hr (.tup [.int (i:Int),.ref b]);have h3:=sr _ _ h2;have k3:But D H (upd H2 r (.tup [.int (i:Int),.ref b])):=λb o n e=>sr b o (k2 b o n e);clear sr;generalize upd H2 r (.tup [.int (i:Int),.ref b])=H3 at h3 k3 ⊢;have h3b:=k3 _ _ (aq hb hD) hb;have hnot:e∉cs.take i:=λz=>by
   have hn2:=hnd;rw[<-gW (i+1) cs,htk]at hn2;have:=(fK.mp (fK.mp hn2).1).2.2 e z e (a0.mpr rfl);exact this rfl
  refine #[_,rfl,_,_,rfl,rfl,_,rfl,_,rfl,D,_,rfl,DPut.t (k:=kE e) h3 h3b (aW (by rw[Dw,bt];lia)),?_];refine #[_,_,rfl,?_,λb o n e=>by rw[ak n];exact k3 b o n e];rw[ah,lZ _ (by rw[wt,az hnot]),htk,Dv,bt,gU (by lia),Nat.zero_add];rfl
 .rintro U H2 ⟨x3,x4,rfl,h2,k2⟩;rw[bh (by lia)]at h2;refine #[(by show 1<=sizeLine;decide),λp hp=>?_];have nDp:D≠p:=aq h2 hp;have s2:Same H H2:=λb o e=>k2 b o (aq e hD) e;have k3:But p H2 (upd H2 p (.lst [V.int 0])):=λb o n e=>by rw[ak n];exact e
  have h2a:=s2 _ _ ha;refine #[_,rfl,a,rfl,#[_,SqL.of (k3 _ _ (aq h2a hp) h2a)],?_];refine lS (xs:=ws) (λi U H4=>∃ x4:Option V,U=[some (.ref a),some (.ref c),some (.ref D),x3,x4,some (.ref p)]/\H4 p=some (.lst (((List.range (i+1)).map λp=>stN cs (es.take p)).map nV))/\But p H2 H4) ?_ ?_ ?_ ?_
  .exact #[_,rfl,ah,k3]
  .rintro i U H4 _ ⟨x4,rfl,_,k4⟩;exact SqL.of (k4 _ _ (aq h2a hp) h2a)
  .rintro i x U H4 hx ⟨x4,rfl,h4,k4⟩;obtain ⟨e,he,hhas⟩:=hw.get hx;obtain ⟨b,y1,y2,rfl,hb,hy1,hy2⟩:=(show hasP K H e x from hhas);have hy1:y1=.int e.1:=hy1;have hy2:y2=.int e.2:=hy2;subst hy1 hy2;have h2b:=s2 _ _ hb;have h4b:=k4 _ _ (aq h2b hp) h2b;have h4D:=k4 _ _ nDp h2;have hi:=(aY.mp he).1;have htk:es.take (i+1)=es.take i++[e]:=by
    rw[cx hi,(aY.mp he).2]
   have hon:=Dr cs (es.take i) e;rw[<-htk]at hon;rw[kY]at h4;have hlen:((((List.range i).map λp=>stN cs (es.take p))++[stN cs (es.take i)]).map nV).length < sizeLine:=aW (by
    rw[af,bB,af,bY,dj];lia)
   refine #[_,rfl,.inl #[rfl,_,SqL.of h4],?_];refine #[_,rfl,D,rfl,.inr #[_,.inl h4D],_,rfl,_,rfl,_,rfl,_,_,_,_,rfl,rfl,SqL.of h4,wo,_,DGet.t (k:=kE e) h4D h4b,?_];have ev:(valV (kvT 0 cs) (kE e)).getD (nV (stN cs (es.take i)))=nV (stN cs (es.take (i+1))):=by
    rw[wt,hon];by_cases z:e∈cs
    .rw[ar z,ar z,Nat.zero_add];rfl
    .rw[az z,az z];rfl
   rw[ev];refine #[_,_,_,rfl,rfl,h4,hlen,?_];refine #[_,rfl,?_,λb o n e=>by rw[ak n];exact k4 b o n e];rw[ah,kY,aN (l₂:=[stN cs (es.take (i+1))]),kY];rfl
  .rintro U H4 ⟨x4,rfl,h4,k4⟩;refine #[_,rfl,?_];rw[<-hwl]at h4;refine q p H4 (s2.free hp) (s2.trans λb o e=>k4 b o (aq e hp) e) h4
def eh {α β:Type}{F G:α->β->Prop}(h:∀ a b,F a b->G a b):∀{l:List α} {m:List β},Paired F l m->Paired G l m
 | _,_,.nil=>.nil
 | _,_,.cons a t=>.cons (h _ _ a) (eh h t)
def kZ {α β:Type}{F:α->β->Prop}{a:α}{b:β}:∀{l:List α} {m:List β},Paired F l m->F a b->Paired F (l++[a]) (m++[b])
 | _,_,.nil,h=>.cons h .nil
 | _,_,.cons a t,h=>.cons a (kZ t h)
def eO {α β:Type}{F:α->β->Prop}:∀{l:List α} {m:List β} {i:Nat} {a:α},Paired F l m->l[i]?=some a->∃ b,m[i]?=some b/\F a b
 | _,_,i,a,.nil,h=>by simp at h
 | _::_,b::_,0,a,.cons h t,e=>by
  have:=aV (show some _=some a from e);subst this;exact #[b,rfl,h]
 | _::_,_::_,i+1,a,.cons h t,e=>by
  obtain ⟨q,h1,h2⟩:=eO (i:=i) t (by simpa using e);exact #[q,by simpa using h1,h2]
def Dx {α β:Type}{F:α->β->Prop}:∀{l:List α} {m:List β} {i:Nat} {b:β},Paired F l m->m[i]?=some b->∃ a,l[i]?=some a/\F a b
 | _,_,i,a,.nil,h=>by simp at h
 | a::_,_::_,0,b,.cons h t,e=>by
  have:=aV (show some _=some b from e);subst this;exact #[a,rfl,h]
 | _::_,_::_,i+1,a,.cons h t,e=>by
  obtain ⟨q,h1,h2⟩:=Dx (i:=i) t (by simpa using e);exact #[q,by simpa using h1,h2]
def dg (Av:List Addr)(H:Hp)(es:List En)(ps:List Nat)(OF:List (List Int))(c:Nat)(x:V):Prop:=∃ j s,x=.ref j/\s∉Av/\H j=some (.tup [.int (c:Int),.ref s])/\H s=some (.lst ((sS es (ay ps OF c)).map nV))
def BrAt (Av:List Addr)(H:Hp)(ps:List Nat)(OF:List (List Int))(k:Nat)(x:V):Prop:=∃ b o j xs,x=.ref b/\o∉Av/\j∉Av/\H b=some (.tup [.int ((ay ps OF k).length:Nat),.ref o,.ref j])/\H o=some (.lst ((sR k (ay ps OF k)).map nV))/\H j=some (.lst xs)/\Paired (dg Av H (ay ps OF k) ps OF) (bN ps k (ps.length+1)) xs
def dg.same {c:Nat}(e:Same H H')(h:dg Av H es ps OF c x):dg Av H' es ps OF c x:=by
 obtain ⟨j,s,h1,h2,h3,h4⟩:=h;exact #[j,s,h1,h2,e _ _ h3,e _ _ h4]
def dg.but {p:Addr}{Av:List Addr}{c:Nat}{zs:List V}(k:But p H H')(hp:p∈Av)(hz:H p=some (.lst zs))(h:dg Av H es ps OF c x):dg Av H' es ps OF c x:=by
 obtain ⟨j,s,h1,h2,h3,h4⟩:=h;exact #[j,s,h1,h2,k _ _ (λz=>by rw[z,hz]at h3;cases h3) h3,k _ _ (λz=>h2 (z ▸ hp)) h4]
def dg.less {Av Av':List Addr}{c:Nat}(s:∀ a∈Av',a∈Av)(h:dg Av H es ps OF c x):dg Av' H es ps OF c x:=by
 obtain ⟨j,q,h1,h2,h3,h4⟩:=h;exact #[j,q,h1,λz=>h2 (s _ z),h3,h4]
def BrAt.same {k:Nat}(e:Same H H')(h:BrAt Av H ps OF k x):BrAt Av H' ps OF k x:=by
 obtain ⟨b,o,j,xs,h1,h2,h3,h4,h5,h6,h7⟩:=h;exact #[b,o,j,xs,h1,h2,h3,e _ _ h4,e _ _ h5,e _ _ h6,eh (λa b=>dg.same e) h7]
def BrAt.but {p:Addr}{Av:List Addr}{k:Nat}{zs:List V}(kk:But p H H')(hp:p∈Av)(hz:H p=some (.lst zs))(h:BrAt Av H ps OF k x):BrAt Av H' ps OF k x:=by
 obtain ⟨b,o,j,xs,h1,h2,h3,h4,h5,h6,h7⟩:=h;exact #[b,o,j,xs,h1,h2,h3,kk _ _ (λz=>by rw[z,hz]at h4;cases h4) h4,kk _ _ (λz=>h2 (z ▸ hp)) h5,kk _ _ (λz=>h3 (z ▸ hp)) h6,eh (λa b=>dg.but kk hp hz) h7]
def BrAt.less {k:Nat}(h:BrAt Av H ps OF k x):BrAt [] H ps OF k x:=by
 obtain ⟨b,o,j,xs,h1,h2,h3,h4,h5,h6,h7⟩:=h;exact #[b,o,j,xs,h1,nofun,nofun,h4,h5,h6,eh (λa b=>dg.less (λa z=>absurd z dq)) h7]
inductive sV (K:Frag)(vs:List V)(H:Hp)(Q:VK)(w_1:XK):Prop
 | c:∀(st:Addr) (ps:List Nat) (OF:List (List Int)) (t rs:Addr) (as:List Addr) (pf:Addr) (qs:List Addr),vs=[.ref t,.ref pf]->bR H st ps OF t rs as->H pf=some (.lst (qs.map V.ref))->bS K H ps OF (List.range (ps.length+1)) qs->(∀(p:Addr) (xs:List V) (H':Hp),H p=none->Same H H'->H' p=some (.lst xs)->Paired (BrAt [] H' ps OF) (List.range (ps.length+1)) xs->Q (.ref p) H')->sV K vs H Q w_1
def Lg (T:Txt K mg)(yt:DF K mg "bridges_of" pQ mJ)(yj:FC P w K mg base 1 "children" mC (kT K))(NF:FC P w K mg base 1 "starts_of" rl (wx K))(NG:FC P w K mg base 1 "owns_of" rj (wq K)):FC P w K mg base 2 "bridges_of" mJ (sV K):=by
 refine yt.ok mr (λvs H Q E h=>?_) (λf cdv A outer s H vs Q E hr h=>?_)
 .obtain ⟨st,ps,OF,t,rs,as,pf,qs,rfl,_⟩:=h;rfl
 obtain ⟨st,ps,OF,t,rs,as,pf,qs,rfl,S,h1,hF,q⟩:=h;refine #[_,(aK (aL (i:=2) mr.nd rfl (au rfl) (cy ae))
   (aK (cO PassesOwn.never rfl (uN rfl T.xK (aa (pv 1) ae)) (i8 rfl (c7 (aP (i:=3) mr.nd rfl (au rfl)) (c7 (aP (i:=4) mr.nd rfl (eE rfl)) fP))) (aK (gG (i:=5) (N:=["child","full","fulls"]) (own:=1) (cap:=[4,1]) mr.nd rfl rfl rfl (cQ (ax yj hr (aa (pv 0) (aa (pv 3) ae)))) #[rfl,rfl,rfl,rfl,rfl,rfl] (λ_ _ _ _ _=>(aP (i:=0) (show List.Nodup (["child","full","fulls"]:List Str) by decide +kernel) rfl (au rfl))) (λ_ _ _ _ _=>bW) (λ_ _ _ _ _=>(cX (aa (pv 0) (aa (ax NF hr (aa (pv 1) (aa (aB (bw (K:=K)) (pv 2) (pv 0) (λ_ _=>rfl)) ae))) ae)))))
   (aw (dB (d5 F.plainAttrs_list F.slot_list_append F.type_list_append eJ (pv 2) (aa (cX (aa (aT (bJ (K:=K)) rfl T.bG bF (aa (pv 4) ae)) (aa (ax NG hr (aa (pv 4) (aa (pv 3) ae))) (aa (pv 5) ae)))) ae))))))
   (aw (aE (pv 2))))),?_]
 have hfew:=S.few;have hkeys:=S.keys;have hql:=hF.length;rw[bY]at hql;refine #[(by show 0<=sizeLine;decide),λp hp=>?_];have k0:But p H (upd H p (.lst [])):=λb o n e=>by rw[ak n];exact e
 have npf:pf≠p:=aq h1 hp;refine #[_,rfl,pf,rfl,#[_,SqL.of (k0 _ _ npf h1)],?_];refine uO (xs:=qs.map V.ref) (λi U H2=>∃(xs:List V) (x4 x5 x6:Option V),U=[some (.ref t),some (.ref pf),some (.ref p),x4,x5,x6]/\H2 p=some (.lst xs)/\Paired (BrAt [p] H2 ps OF) (List.range i) xs/\But p H H2) ?_ ?_ ?_ ?_
 .exact #[[],_,_,_,rfl,ah,.nil,k0]
 .rintro i U H2 _ ⟨xs,x4,x5,x6,rfl,_,_,k2⟩;exact SqL.of (k2 _ _ npf h1)
 .rintro i x U H2 r hx ⟨xs,x4,x5,x6,rfl,h2,hB,k2⟩ hr;rw[aQ]at hx;obtain ⟨qq,hqi,rfl⟩:=cI.mp hx;have hi:i<ps.length+1:=by
   have:=(aY.mp hqi).1;lia
  have hxl:xs.length=i:=by
   have:=Paired.length hB;rw[bY]at this;exact this.symm
  have noP:∀{b:Addr} {o:HO},H b=some o->b≠p:=λe=>aq e hp;have s12:Same H H2:=λb o e=>k2 b o (noP e) e;have S2:=S.same s12;have F2:=hF.same s12;have h2f:=s12 _ _ h1;obtain ⟨q2,hq2,ws,hq3,hw3⟩:=F2.get (i:=i) (j:=i) (dY hi);rw[hqi]at hq2;have:=aV hq2;subst this;refine #[r,_,rfl,SqT.of ah,rfl,_,_,rfl,_,_,rfl,rfl,?_];have sr:=aJ hr (.tup [.int (i:Int),.ref qq]);generalize upd H2 r (.tup [.int (i:Int),.ref qq])=H3 at sr ⊢;refine #[_,rfl,_,rfl,t,ps,i,rfl,sr _ _ S2.tr,by lia,λc H4 hc s4 h4=>?_];have s24:Same H2 H4:=sr.trans s4;refine #[c,rfl,#[_,SqL.of h4],λD hD=>?_];have hpD:p≠D:=aq (s24 _ _ h2) hD;have F4:=F2.same s24;have h4q:=s24 _ _ hq3;have h4w:=hw3.mono s24.ext;have hfl:=kW S.T S.len (OF:=OF) hi;refine c9 (xs:=(bN ps i (ps.length+1)).map nV) (λm U H5=>∃(ys:List V) (x0:Option V),U=[x0,some (.ref qq),some (.ref pf)]/\H5 D=some (.lst ys)/\Paired (dg [p,D] H5 (ay ps OF i) ps OF) ((bN ps i (ps.length+1)).take m) ys/\But D H4 H5) ?_ ?_ ?_ ?_
  .exact #[[],_,rfl,ah,.nil,λb o n e=>by rw[ak n];exact e]
  .rintro m U H5 _ ⟨ys,x0,rfl,_,_,k5⟩;exact k5.sq (SqL.of h4) hD
  .rintro m u x U H5 hx hm ⟨ys,x0,rfl,h5,hJ,k5⟩;obtain ⟨hmi,rfl⟩:=eN hx;have hcl:=iC ps i (ps.length+1);have hyl:=Paired.length hJ;rw[bt]at hyl;rw[af]at hm;have hcm:(bN ps i (ps.length+1))[m]?=some ((bN ps i (ps.length+1)).getD m 0):=by
    rw[aF,aD hmi];rfl
   have htk2:(bN ps i (ps.length+1)).take (m+1)=(bN ps i (ps.length+1)).take m++[(bN ps i (ps.length+1)).getD m 0]:=by
    rw[cx hmi,aF,aD hmi];rfl
   rw[htk2];generalize (bN ps i (ps.length+1)).getD m 0=ch at hcm ⊢;obtain ⟨hchn,hchp⟩:=cY.mp (cW hcm);have s45:Same H4 H5:=λb o e=>k5 b o (aq e hD) e;have F5:=F4.same s45;obtain ⟨qc,hqc,wc,hqc3,hwc⟩:=F5.get (i:=ch) (j:=ch) (dY hchn);have hfc:=kW S.T S.len (OF:=OF) hchn;refine bZ ?_;refine #[_,rfl,_,rfl,_,rfl,_,rfl,_,_,_,_,rfl,rfl,SqL.of (s45 _ _ (s24 _ _ h2f)),iH hqc,?_];refine #[qq,qc,ws,wc,ay ps OF i,ay ps OF ch,rfl,s45 _ _ h4q,h4w.mono s45.ext,by lia,hqc3,hwc,by lia,Da S.T S.R hchn,λsa H6 hsa s6 h6=>?_];refine #[(by show 2<=sizeLine;decide),λj hj=>?_];have sj:=aJ hj (.tup [.int (ch:Int),.ref sa]);have hjj:upd H6 j (.tup [.int (ch:Int),.ref sa]) j=some (.tup [.int (ch:Int),.ref sa]):=ah;generalize upd H6 j (.tup [.int (ch:Int),.ref sa])=H7 at sj hjj ⊢;have s57:=s6.trans sj;have h7D:=s57 _ _ h5;have nsaD:sa≠D:=bE (aq h5 hsa);have nsap:sa≠p:=bE (aq (s45 _ _ (s24 _ _ h2)) hsa);have kD:But D H7 (upd H7 D (.lst (ys++[.ref j]))):=λb o n e=>by rw[ak n];exact e
   refine #[_,h7D,aW (by lia),u-1,by lia,by rw[af];lia,ys++[.ref j],_,rfl,ah,?_,λb o n e=>by rw[ak n];exact s57 _ _ (k5 b o n e)];refine kZ (eh (λa b h=>dg.but kD (cp _ bL) h7D (dg.same s57 h)) hJ) ?_;refine dg.but kD (cp _ bL) h7D #[j,sa,rfl,?_,hjj,sj _ _ h6];intro z;rcases bq.mp z with z|z
   .exact nsap z
   .exact nsaD (a0.mp z)
  .rintro U H5 ⟨ys,x0,rfl,h5,hJ,k5⟩;rw[af,bh (av _)]at hJ;have s45:Same H4 H5:=λb o e=>k5 b o (aq e hD) e;have s25:=s24.trans s45;refine #[_,rfl,.inl #[rfl,_,SqL.of (s25 _ _ h2)],_,rfl,_,_,rfl,.inl (SqL.of (s45 _ _ h4q)),?_];have hwl:=h4w.length;refine #[_,rfl,_,rfl,qq,ws,ay ps OF i,i,rfl,s45 _ _ h4q,h4w.mono s45.ext,by lia,λo H6 ho s6 h6=>?_];refine #[_,rfl,(by show 3<=sizeLine;decide),λb hb=>?_];have sb:=aJ hb (.tup [.int ((ws.length:Nat):Int),.ref o,.ref D]);have hbb:upd H6 b (.tup [.int ((ws.length:Nat):Int),.ref o,.ref D]) b=some (.tup [.int ((ws.length:Nat):Int),.ref o,.ref D]):=ah;generalize upd H6 b (.tup [.int ((ws.length:Nat):Int),.ref o,.ref D])=H7 at sb hbb ⊢;have s57:=s6.trans sb;have s27:=s25.trans s57;have h7p:=s27 _ _ h2;have kp:But p H7 (upd H7 p (.lst (xs++[.ref b]))):=λb o n e=>by rw[ak n];exact e
   have nop:o≠p:=bE (aq (s25 _ _ h2) ho);refine #[_,_,_,rfl,rfl,h7p,aW (by lia),?_];refine #[xs++[.ref b],_,_,_,rfl,ah,?_,λb o n e=>by rw[ak n];exact s27 _ _ (k2 b o n e)];rw[eS];refine kZ (eh (λa b h=>BrAt.but kp bL h7p (BrAt.same s27 h)) hB) ?_;refine BrAt.but kp bL h7p #[b,o,D,ys,rfl,λz=>nop (a0.mp z),λz=>hpD (a0.mp z).symm,?_,sb _ _ h6,s57 _ _ h5,?_]
   .rw[hbb,hwl]
   .exact eh (λa b h=>dg.same s57 (dg.less (λa z=>by rw[a0.mp z];exact bL) h)) hJ
 .rintro U H2 ⟨xs,x4,x5,x6,rfl,h2,hB,k2⟩;refine #[_,rfl,?_];rw[af,<-hql]at hB;refine q p xs H2 hp (λb o e=>k2 b o (aq e hp) e) h2 (eh (λa b=>BrAt.less) hB)
def Lh {OF:List (List Int)}{row:List Int}(h:row∈OF):row.length<=cw OF:=by
 unfold cw
 induction OF with
 | nil=>cases h
 | cons r OF ih=>
  rw[bK,cZ];rcases bq.mp h with e|e
  .rw[e];lia
  .have:=ih e;lia
def Dy {m:Nat}:∀{OF:List (List Int)},(∀ row∈OF,row.length<=m)->cw OF<=OF.length*m
 | [],_=>cS _
 | r::OF,h=>by
  have h1:=h r bL;have h2:=Dy (m:=m) (OF:=OF) λx hx=>h x (cp _ hx);unfold cw at h2 ⊢;rw[bK,cZ,dH,Nat.succ_mul];lia
def aM (es:List (Int×Int))(key:Int):Nat:=(es.filter λe=>decide (e.1<key)).length
def Dz {es:List (Int×Int)}{key:Int}{m:Nat}(hm:m<=es.length)(h1:∀ i,i<m->decide ((es.getD i (0,0)).1<key)=true)(h2:∀ i,m<=i->i<es.length->decide ((es.getD i (0,0)).1<key)=false):aM es key=m:=by
 unfold aM
 conv=>lhs;rw[<-gW m es]
 rw[eB,bB];have e1:(es.take m).filter (λe=>decide (e.1<key))=es.take m:=by
  rw[lJ];intro x hx;obtain ⟨i,hi,rfl⟩:=fL hx;rw[bt]at hi;have:=h1 i (by lia);rw[aF,aD (by lia)]at this;rw[List.getElem_take];exact this
 have e2:(es.drop m).filter (λe=>decide (e.1<key))=[]:=by
  rw[gw];intro x hx;obtain ⟨i,hi,rfl⟩:=fL hx;rw[eQ]at hi;have:=h2 (m+i) (by lia) (by lia);rw[aF,aD (by lia)]at this;rw[List.getElem_drop];intro z;rw[show decide (es[m+i].1<key)=false from this]at z;cases z
 rw[e1,e2,bt,iV];lia
def la (h:Rise es):es.Pairwise (λa b=>a.1<=b.1):=h.imp λ{a b} h=>by
 have:=fX.mp h;lia
def iI (es:List (Int×Int))(key:Int):aM es key<=es.length:=fg _ _
def mV {key:Int}:∀{es:List (Int×Int)},es.Pairwise (λa b=>a.1<=b.1)->(∀ e∈es.take (aM es key),e.1<key)/\∀ e∈es.drop (aM es key),¬ e.1<key
 | [],_=>#[λe he=>(by simp at he),λe he=>(by simp at he)]
 | a::es,h=>by
  rw[jM]at h;obtain ⟨h1,h2⟩:=mV (key:=key) h.2;by_cases c:a.1<key
  .have e:aM (a::es) key=aM es key+1:=by
    unfold aM;rw[dI (by simpa using c),dH]
   rw[e,ue,uf];refine #[λx hx=>?_,h2];rcases bq.mp hx with z|z
   .rw[z];exact c
   .exact h1 x z
  .have all:∀ x∈a::es,¬ x.1<key:=λx hx=>by
    rcases bq.mp hx with z|z
    .rw[z];exact c
    .have:=h.1 x z;lia
   have e:aM (a::es) key=0:=by
    unfold aM;rw[gw.mpr λx hx=>by simpa using all x hx];rfl
   rw[e];exact #[λx hx=>(by simp at hx),λx hx=>all x (by simpa using hx)]
def DA {es:List (Int×Int)}(h:es.Pairwise (λa b=>a.1<=b.1)):es.take (aM es key)=es.filter λe=>decide (e.1<key):=by
 obtain ⟨h1,h2⟩:=mV (key:=key) h
 conv=>rhs;rw[<-gW (aM es key) es]
 rw[eB,lJ.mpr λe he=>aU (h1 e he),gw.mpr λe he z=>h2 e he (cE z),di]
def wz {es:List (Int×Int)}(h:es.Pairwise (λa b=>a.1<=b.1)){i:Nat}(hi:i<es.length):(i<aM es key->es[i].1<key)/\(aM es key<=i->¬ es[i].1<key):=by
 obtain ⟨h1,h2⟩:=mV (key:=key) h;refine #[λz=>h1 _ ?_,λz=>h2 _ ?_]
 .exact ua.mpr #[i,by lia,rfl]
 .refine List.mem_drop_iff_getElem.mpr #[i-aM es key,by lia,?_];congr 1;lia
structure Li (C F hd:List (Int×Int))(key:Int)(st:Nat):Prop where
 lo:st<=aM C key
 hi:aM C key<=st+2
 none:st=0->∀ e∈hd,¬ e.1<key
 some:st≠0->∃ h:st-1<C.length,C[st-1]∈hd/\C[st-1].1<key/\C[st-1]∈F
def DB (T:bf ps)(R:cA OF)(few:ps.length<=40){k c:Nat}(hk:k<ps.length+1)(hc:par ps c=some k)(key:Int) :
  Li (ay ps OF c) (ay ps OF k) (cM (ay ps OF c)) key (stN (ay ps OF c) ((ay ps OF k).take (aM (ay ps OF k) key))):=by
 have hcn:=(bM T hc).2;have hst:=Du T R hk hc (OF:=OF) (aM (ay ps OF k) key) (iI _ _);have hF:=la (eY T R hk);have hC:=la (eY T R hcn);have hcome:=Dq T R hk hc (OF:=OF);have hgr:=λt=>Lb (v8 T R few hcn) (eY T R hcn) (t:=t);have hla:=Lc (v8 T R few hcn) (eY T R hcn);have hsub:=fB (ay ps OF c);have hpick:=Dt (ay ps OF c);have hspl:∀ j∈spL (ay ps OF c),j<(ay ps OF c).length:=λj hj=>by
  have:=(sU (ay ps OF c)).lt hj;rw[kR]at this;exact this
 have ht:inN (ay ps OF c) ((ay ps OF k).take (aM (ay ps OF k) key))=aM (cM (ay ps OF c)) key:=by
  unfold inN;rw[DA hF,<-hcome];unfold aM;rw[oe,oe];congr 2
  funext e
  rw[Bool.and_comm]
 rw[hst,ht];have hmem:∀ e∈cM (ay ps OF c),e∈ay ps OF k:=λe he=>by
  rw[<-hcome]at he;exact (dh.mp he).1
 clear hst ht hcome hF;generalize ay ps OF k=F at hmem ⊢;generalize ay ps OF c=C at *;have hhd:(cM C).Pairwise (λa b=>a.1<=b.1):=hC.sublist hsub;have hlen:(cM C).length=(spL C).length:=by rw[hpick,af]
 have hti:=iI (cM C) key;have hat:∀ i (h:i<(spL C).length),∃(h1:(spL C)[i]<C.length) (h2:i<(cM C).length),(cM C)[i]=C[(spL C)[i]]:=λi h=>by
  have h1:=hspl _ (cJ h);refine #[h1,by lia,?_];have e:(cM C)[i]?=some C[(spL C)[i]]:=by
   rw[hpick,aQ,aD h];show some (C.getD (spL C)[i] (0,0))=_;rw[aF,aD h1];rfl
  exact (aY.mp e).2
 have bat:=λi h=>wz (key:=key) hhd (i:=i) h;have cat:=λi h=>wz (key:=key) hC (i:=i) h;have hall:=mV (key:=key) hhd;generalize aM (cM C) key=t at *;have hsp:∀ i (h:i<(spL C).length),stAt (spL C) (i+1)=(spL C)[i]+1:=λi h=>by
  unfold stAt;rw[az (by lia),jI,aF,aD h];rfl
 have before:∀ t',t=t'+1->∃(h:t'<(spL C).length) (h1:(spL C)[t']<C.length),stAt (spL C) t=(spL C)[t']+1/\C[(spL C)[t']]∈cM C/\C[(spL C)[t']].1<key:=λt' e=>by
  have h:t'<(spL C).length:=by lia
  obtain ⟨h1,h2,h3⟩:=hat t' h;refine #[h,h1,by rw[e];exact hsp t' h,?_,?_]
  .rw[<-h3];exact cJ h2
  .rw[<-h3];exact (bat t' h2).1 (by lia)
 refine #[?_,?_,?_,?_]
 .cases t with
  | zero=>exact cS _
  | succ t'=>
   obtain ⟨h,h1,e,_,hlt⟩:=before t' rfl;rw[e];refine Nat.succ_le_of_lt (oa λz=>(cat _ h1).2 z hlt)
 .rcases Nat.lt_or_ge t (spL C).length with z|z
  .obtain ⟨h1,h2,h3⟩:=hat t z;have hge:¬ C[(spL C)[t]].1<key:=by
    rw[<-h3];exact (bat t h2).2 (av _)
   have hle:aM C key<=(spL C)[t]:=iW λy=>hge ((cat _ h1).1 y);have:=hgr t z;rw[hsp t z]at this;lia
  .have e:t=(spL C).length:=by lia
   rw[e];have:=iI C key;lia
 .intro z;cases t with
  | zero=>exact λe he=>hall.2 e (by simpa using he)
  | succ t'=>
   obtain ⟨_,_,e,_⟩:=before t' rfl;lia
 .intro z;cases t with
  | zero=>exact absurd rfl z
  | succ t'=>
   obtain ⟨h,h1,e,hm,hlt⟩:=before t' rfl;have e2:stAt (spL C) (t'+1)-1=(spL C)[t']:=by lia
   refine #[by lia,?_];have e3:C[stAt (spL C) (t'+1)-1]'(by lia)=C[(spL C)[t']]:=by
    congr 1
   rw[e3];exact #[hm,hlt,hmem _ hm]
def iJ {β:Type}{F:Nat->β->Prop}{n:Nat}{l:List β}{k:Nat}(h:Paired F (List.range n) l)(hk:k<n):∃ b,l[k]?=some b/\F k b:=eO h (dY hk)
def DC :∀{cs:List Nat} {xs:List V},Paired (dg Av H es ps OF) cs xs->∃ kvs:List (Key×V),Paired (λ(z:V) (kv:Key×V)=>∃ b,z=.ref b/\H b=some (.tup [kV kv.1,kv.2])) xs kvs/\kvs.map (·.1)=cs.map (λc:Nat=>(Sum.inl (c:Int):Key))/\
  ∀ c∈cs,cs.Nodup->∃ s,valV kvs (.inl (c:Int))=some (.ref s)/\H s=some (.lst ((sS es (ay ps OF c)).map nV))
 | _,_,.nil=>#[[],.nil,rfl,λc hc=>nomatch hc]
 | c0::cs,_,.cons ⟨j,s,e1,_,e3,e4⟩ t=>by
  obtain ⟨kvs,h1,h2,h3⟩:=DC t;refine #[(.inl (c0:Int),.ref s)::kvs,.cons #[j,e1,e3] h1,by rw[bK,h2];rfl,λc hc hn=>?_];rw[c6]at hn;unfold valV;by_cases z:c=c0
  .subst z;exact #[s,by rw[List.find?_cons_of_pos (by simp)];rfl,e4]
  .rw[List.find?_cons_of_neg (by simp;lia)];rcases bq.mp hc with y|y
   .exact absurd y z
   .exact h3 c y hn.2
def DD (ps:List Nat)(k n:Nat):(bN ps k n).Nodup:=by
 unfold bN;exact List.Pairwise.filter _ jL
def figN (n:Nat):Nat:=if h:n=0 then 0 else figN (n/2)+1
termination_by n
decreasing_by exact Nat.div_lt_self (i0 h) (by decide)
def wA:figN 0=0:=by
 unfold figN;rfl
def sW {n:Nat}(h:n≠0):figN n=figN (n/2)+1:=by
 rw[figN,dif_neg h]
def DE:∀(n a b:Nat),b<=n->a<=b->figN a<=figN b
 | 0,a,b,hb,ha=>by
  have e1:a=0:=by lia
  have e2:b=0:=by lia
  rw[e1,e2];exact av _
 | n+1,a,b,hb,ha=>by
  by_cases z:a=0
  .rw[z,wA];exact cS _
  .rw[sW z,sW (show b≠0 by lia)];exact Nat.succ_le_succ (DE n _ _ (by lia) (by lia))
def wB:∀(n m:Nat),m<=n->figN m<=m
 | 0,m,h=>by
  rw[show m=0 by lia,wA];exact av _
 | n+1,m,h=>by
  by_cases z:m=0
  .rw[z,wA];exact av _
  .rw[sW z];have:=wB n (m/2) (by lia);lia
inductive mW (P:Program)(w:World)(K:Frag)(mg:Str->Option Value)(base:Heap)(vs:List V)(H:Hp)(Q:VK)(w_1:XK):Prop
 | c:∀(n:Nat) (f:Addr) (ps:List Str) (sp:Sp) (b:Nat->Bool) (R:List Nat->Hp->Prop),vs=[.int n,.ref f]->FV P w K mg base 3 f ps sp->R [] H->(∀(i:Nat) (L:List Nat) (H1:Hp) (Q1:VK),i<n->L.length<=figN n->R L H1->(∀ H2,R (L++[i]) H2->Q1 (.bl (b i)) H2)->sp [.int i] H1 Q1 E0)->(∀ i j,i<=j->j<n->b j=true->b i=true)->(∀(m:Nat) (L:List Nat) (H':Hp),m<=n->(∀ i,i<m->b i=true)->(∀ i,m<=i->i<n->b i=false)->L.length<=figN n->R L H'->Q (.int m) H')->mW P w K mg base vs H Q w_1
def Lj:L2.St->Hp->Nat:=λU _=>match U with
 | [_,_,some (.int lo),some (.int hi),_]=>(hi-lo).toNat
 | _=>0
def wC (T:Txt K mg)(nz:DF K mg "how_many_below" oP kC):FC P w K mg base 4 "how_many_below" kC (mW P w K mg base):=by
 refine nz.ok ke (λvs H Q E h=>?_) (λf cdv A outer s H vs Q E hr h=>?_)
 .obtain ⟨n,f,ps,sp,b,R,rfl,_⟩:=h;rfl
 obtain ⟨n,f,ps,sp,b,R,rfl,hF,hR,hask,hmono,q⟩:=h;refine #[_,(aK (aL (i:=2) ke.nd rfl (au rfl) ag)
   (aK (aL (i:=3) ke.nd rfl (au rfl) (pv 0))
   (aK (uk PassesOwn.never (aX eG (pv 2) (pv 3) (aS _)) (aK (aL (i:=4) ke.nd rfl (au rfl) (aG um (aG cf (pv 2) (pv 3)) ag))
   (aw (bu (dM (vc (kr:=3) hr (pv 1) (aa (pv 4) ae))) (aw (aL (i:=2) ke.nd rfl (au rfl) (aG cf (pv 4) ag))) (aw (aL (i:=3) ke.nd rfl (au rfl) (pv 4)))))))
   (aw (aE (pv 2)))))),?_]
 refine #[_,rfl,?_];refine Bm (λU H2=>∃(lo hi:Nat) (x4:Option V) (L:List Nat),U=[some (.int n),some (.ref f),some (.int lo),some (.int hi),x4]/\lo<=hi/\hi<=n/\(∀ i,i<lo->b i=true)/\(∀ i,hi<=i->i<n->b i=false)/\L.length+figN (hi-lo)<=figN n/\R L H2) (λU H2=>∃(lo:Nat) (x4:Option V) (L:List Nat),U=[some (.int n),some (.ref f),some (.int lo),some (.int lo),x4]/\lo<=n/\(∀ i,i<lo->b i=true)/\(∀ i,lo<=i->i<n->b i=false)/\L.length<=figN n/\R L H2) Lj ?_ ?_ ?_ ?_
 .exact #[0,n,_,[],rfl,cS _,av _,λi h=>absurd h (iY _),λi h1 h2=>absurd h2 (Nat.not_lt.mpr h1),by rw[iV,lM,Nat.zero_add];exact av _,hR]
 .rintro U H2 ⟨lo,hi,x4,L,rfl,h1,h2,hb1,hb2,hL,hR2⟩;refine #[_,rfl,_,rfl,_,_,rfl,rfl,_,rfl,?_];refine ite2 (λc=>?_) (λc=>?_)
  .have c1:(lo:Int)<(hi:Int):=cE c;have em:((lo:Int)+(hi:Int))/2=(((lo+hi)/2:Nat):Int):=by lia
   have m1:lo<=(lo+hi)/2:=by lia
   have m2:(lo+hi)/2<hi:=by lia
   have fst:figN (hi-lo)=figN ((hi-lo)/2)+1:=sW (by lia);have fle:∀ d,d<=(hi-lo)/2->(L++[(lo+hi)/2]).length+figN d<=figN n:=λd hd=>by
    have:=DE _ d _ (av _) hd;rw[bB,dj];lia
   refine #[_,rfl,_,rfl,_,_,rfl,rfl,_,_,rfl,rfl,#[by decide,by decide],?_];refine #[_,rfl,f,3,ps,sp,rfl,hF,av _,_,rfl,?_];show sp [V.int (((lo:Int)+(hi:Int))/2)] H2 _ E0;rw[em];refine hask ((lo+hi)/2) L H2 _ (by lia) (by lia) hR2 λH3 hR3=>#[_,rfl,?_];cases hbm:b ((lo+hi)/2) with
   | true=>
    refine iteT ?_;refine #[_,rfl,_,_,rfl,rfl,#[(lo+hi)/2+1,hi,some (V.int (((lo:Int)+(hi:Int))/2)),_,?_,by lia,h2,λi hi'=>hmono i ((lo+hi)/2) (by lia) (by lia) hbm,hb2,fle _ (by lia),hR3],?_]
    .show [some (V.int n),some (V.ref f),some (V.int (((lo:Int)+(hi:Int))/2+1)),some (V.int hi),some (V.int (((lo:Int)+(hi:Int))/2))]=_;rw[em,Int.natCast_add];rfl
    .show ((hi:Int)-(((lo:Int)+(hi:Int))/2+1)).toNat<((hi:Int)-(lo:Int)).toNat;lia
   | false=>
    refine iteF ?_;refine #[_,rfl,#[lo,(lo+hi)/2,some (V.int (((lo:Int)+(hi:Int))/2)),_,?_,m1,by lia,hb1,λi hi' hin=>?_,fle _ (by lia),hR3],?_]
    .show [some (V.int n),some (V.ref f),some (V.int lo),some (V.int (((lo:Int)+(hi:Int))/2)),some (V.int (((lo:Int)+(hi:Int))/2))]=_;rw[em]
    .cases hbi:b i with
     | false=>rfl
     | true=>
      have:=hmono ((lo+hi)/2) i hi' hin hbi;rw[hbm]at this;cases this
    .show ((((lo:Int)+(hi:Int))/2)-(lo:Int)).toNat<((hi:Int)-(lo:Int)).toNat;lia
  .have c1:¬ (lo:Int)<(hi:Int):=lK (iZ.mpr c);have e:hi=lo:=by lia
   subst e;exact #[hi,_,L,rfl,h2,hb1,hb2,by lia,hR2]
 .intro U H Q Q' m h;obtain ⟨y1,e3,y2,e4,i2,j2,f2,g2,b2,e5,q⟩:=h;exact #[y1,e3,y2,e4,i2,j2,f2,g2,b2,e5,m _ _ q]
 rintro U H2 ⟨lo,x4,L,rfl,h2,hb1,hb2,hL,hR2⟩;refine #[_,rfl,?_];exact q lo L H2 h2 hb1 hb2 hL hR2
abbrev jt:Str:=(envOfC ("first_place" : Str) (aH j9) 0 0 .none).qual ++ "<lambda>"
abbrev ju:Pos:=#[217,44,217,73]
inductive sX (K:Frag)(H:Hp):V->Bool->Prop where
 | int (i:Int):sX K H (.int i) true
 | bl (b:Bool):sX K H (.bl b) false
 | oth (x:V) (t:String) (ty:TyOf K H x (.type t)) (h2:kitO t "int" = some false):sX K H x false
inductive mX (K:Frag)(vs:List V)(H:Hp)(Q:VK)(w_1:XK):Prop
 | c:∀(x:V) (b:Bool),vs=[x]->sX K H x b->Q (.bl b) H->mX K vs H Q w_1
def Lk (T:Txt K mg)(yu:DF K mg "is_whole" oK kz):FC P w K mg base 1 "is_whole" kz (mX K):=by
 refine yu.ok Ir (λvs H Q E h=>?_) (λf cdv A outer s H vs Q E hr h=>?_)
 .obtain ⟨x,b,rfl,_⟩:=h;rfl
 obtain ⟨x,b,rfl,hk,q⟩:=h;refine #[_,(aw (aE (oh (aT (j3 (K:=K)) rfl T.ly boot_isinstance (aa (pv 0) (aa (jP (v:=.ty "int") rfl T.tM boot_int rfl) ae))) (jS (E4 (aT (j3 (K:=K)) rfl T.ly boot_isinstance (aa (pv 0) (aa (jP (v:=.ty "bool") rfl T.Nl boot_bool rfl) ae)))))))),?_];cases hk with
 | int i=>
  refine #[_,rfl,_,_,_,_,rfl,.int _,Gw,_,rfl,?_];refine iteT ?_;refine #[_,rfl,_,_,_,_,rfl,.int _,Gx,_,rfl,?_];exact q
 | bl c=>
  refine #[_,rfl,_,_,_,_,rfl,.bl _,(show kitO "bool" "int" = some true by decide +kernel),_,rfl,?_];refine iteT ?_;refine #[_,rfl,_,_,_,_,rfl,.bl _,Gy,_,rfl,?_];exact q
 | oth x t ty h2=>
  refine #[_,rfl,_,_,_,_,rfl,ty,h2,_,rfl,?_];refine iteF ?_;exact q
inductive mY (K:Frag)(H:Hp):V->Bool->Prop where
 | int (i:Int) (b:Bool) (h:b=decide ((if i<0 then -i else i)<10^60)):mY K H (.int i) b
 | bl (b:Bool):mY K H (.bl b) false
 | oth (x:V) (t:String) (ty:TyOf K H x (.type t)) (h1:kitO t "bool" = some false) (h2:kitO t "int" = some false):mY K H x false
inductive wD (K:Frag)(vs:List V)(H:Hp)(Q:VK)(w_1:XK):Prop
 | c:∀(x:V) (b:Bool),vs=[x]->mY K H x b->Q (.bl b) H->wD K vs H Q w_1
def Ll (T:Txt K mg)(yv:DF K mg "is_key" oM qD)(nA:FC P w K mg base 1 "is_whole" kz (mX K)):FC P w K mg base 2 "is_key" qD (wD K):=by
 refine yv.ok Iu (λvs H Q E h=>?_) (λf cdv A outer s H vs Q E hr h=>?_)
 .obtain ⟨x,b,rfl,_⟩:=h;rfl
 obtain ⟨x,b,rfl,hk,q⟩:=h;refine #[_,(aw (aE (oh (ax nA hr (aa (pv 0) ae)) (jS (d3 eG (aT ja rfl T.jy boot_abs (aa (pv 0) ae)) (aG fS ag ag) (aS _)))))),?_];cases hk with
 | int i b hb=>
  refine #[_,rfl,_,true,rfl,.int i,_,rfl,?_];refine iteT ?_;refine #[_,rfl,_,rfl,_,_,rfl,rfl,#[by decide,by decide,by decide],_,_,rfl,rfl,?_];rw[hb]at q;exact q
 | bl c=>
  refine #[_,rfl,_,false,rfl,.bl c,_,rfl,?_];refine iteF ?_;exact q
 | oth x t ty h1 h2=>
  refine #[_,rfl,_,false,rfl,.oth x t ty h2,_,rfl,?_];refine iteF ?_;exact q
structure cK (H:Hp)(wa:Addr)(ps w:List Nat):Prop where
 at_:H wa=some (.lst (w.map nV))
 len:w.length<=900
 ne:w≠[]
 ch:f6 ps w
 kn:∀ x∈w,x<ps.length+1
inductive sY (K:Frag)(vs:List V)(H:Hp)(Q:VK)(w_1:XK):Prop
 | c:∀(m x:Int),vs=[.int m,.int x]->0<=x->x<m->Q (.bl true) H->sY K vs H Q w_1
def Lm (T:Txt K mg)(yw:DF K mg "is_one_of_first" oZ mB)(nA:FC P w K mg base 1 "is_whole" kz (mX K)):FC P w K mg base 2 "is_one_of_first" mB (sY K):=by
 refine yw.ok IC (λvs H Q E h=>?_) (λf cdv A outer s H vs Q E hr h=>?_)
 .obtain ⟨m,x,rfl,_⟩:=h;rfl
 obtain ⟨m,x,rfl,h0,h1,q⟩:=h;refine #[_,(aw (aE (oh (ax nA hr (aa (pv 1) ae)) (jS (z7 lT eG ag (pv 1) (pv 0)))))),?_];refine #[_,rfl,_,true,rfl,.int x,_,rfl,?_];refine iteT ?_;refine #[_,rfl,_,_,rfl,rfl,_,rfl,?_];refine AS h0 ?_;refine #[_,rfl,_,_,rfl,rfl,?_];show Q (.bl (decide (x<m))) H;rw[aU h1];exact q
def DG {α:Type}{f:α->V}{us:List α}{c:α}:atI ((us++[c]).map f) (-1)=some (f c):=by
 unfold atI ixN;rw[aN];simp;rw[ar (by lia)];show (List.map f us++[f c])[(-1+((us.length:Int)+1)).toNat]?=_;rw[show (-1+((us.length:Int)+1)).toNat=us.length by lia,gi (by rw[af];exact av _),af,lI];rfl
inductive wF (K:Frag)(vs:List V)(H:Hp)(Q:VK)(w_1:XK):Prop
 | c:∀(t a:Addr) (ps w:List Nat),vs=[.ref t,.ref a]->H t=some (.tup (b8 ps))->ps.length<=900->H a=some (.lst (w.map nV))->w.length<=1000->w≠[]->f6 ps w->(∀ x∈w,x<ps.length+1)->Q (.bl true) H->wF K vs H Q w_1
def Ln (T:Txt K mg)(yx:DF K mg "is_way" o6 qO)(yy:FC P w K mg base 2 "is_one_of_first" mB (sY K)):FC P w K mg base 3 "is_way" qO (wF K):=by
 refine yx.ok vp (λvs H Q E h=>?_) (λf cdv A outer s H vs Q E hr h=>?_)
 .obtain ⟨t,a,ps,w,rfl,_⟩:=h;rfl
 obtain ⟨t,a,ps,w,rfl,ht,hz,ha,hwl,hne,hC,hlt,q⟩:=h;have hpos:0 < w.length:=lN.mpr hne;refine #[_,(c8 (bu (PW.pt (fO (dZ (dM (aT (j3 (K:=K)) rfl T.ly boot_isinstance (aa (pv 1) (aa (jP (v:=.ty "list") rfl T.jz boot_list rfl) ae))))) (fN (aX dr (aT (bJ (K:=K)) rfl T.bG bF (aa (pv 1) ae)) ag (aS _))))) (aw (aE bV)) bz)
   (aK (cO PassesOwn.never rfl (cQ (pv 1)) (aP (i:=2) vp.nd rfl (au rfl)) (aw (bu (dZ (dM (ax yy hr (aa (aT (bJ (K:=K)) rfl T.bG bF (aa (pv 0) ae)) (aa (pv 2) ae))))) (aw (aE bV)) bz)))
   (aK (cO PassesOwn.never rfl (gY rfl T.dG (aa ag (aa (aT (bJ (K:=K)) rfl T.bG bF (aa (pv 1) ae)) ae))) (aP (i:=3) vp.nd rfl (au rfl)) (aw (bu (aX hE (aB (aR (K:=K)) (pv 0) (aB (bw (K:=K)) (pv 1) (pv 3) (λ_ _=>rfl)) (λ_ _=>rfl)) (aB (bw (K:=K)) (pv 1) (aG cF (pv 3) ag) (λ_ _=>rfl)) (aS _)) (aw (aE bV)) bz)))
   (aw (aE bV))))),?_]
 refine #[λU' H'=>U'=[some (.ref t),some (.ref a),none,none]/\H=H',?_,?_]
 .refine #[_,rfl,_,_,_,_,rfl,.lst ha,uD,_,rfl,?_];refine iteF ?_;refine #[_,rfl,_,_,rfl,.inl (SqL.of ha),rfl,_,rfl,?_];refine uE (λz=>?_) ?_
  .have:=V.int.inj z;rw[af]at this;lia
  exact #[rfl,rfl]
 rintro U' H' ⟨rfl,rfl⟩;refine #[_,rfl,a,rfl,#[_,SqL.of ha],?_];refine lS (xs:=w.map nV) (λi U H2=>∃ x2:Option V,U=[some (.ref t),some (.ref a),x2,none]/\H2=H) ?_ ?_ ?_ ?_
 .exact #[_,rfl,rfl]
 .rintro i U H2 _ ⟨x2,rfl,rfl⟩;exact SqL.of ha
 .rintro i x U H2 hx ⟨x2,rfl,rfl⟩;obtain ⟨hi,rfl⟩:=eN hx;have hm:=hlt (w.getD i 0) (by rw[aF,aD hi];exact cJ hi);refine #[_,rfl,_,_,rfl,.inr (SqT.of ht),_,rfl,_,_,rfl,by lia,by rw[ck];lia,_,rfl,?_];refine iteF ?_;exact #[_,rfl,rfl]
 .rintro U H2 ⟨x2,rfl,rfl⟩;refine #[_,rfl,_,_,rfl,.inl (SqL.of ha),1,_,rfl,#[by lia,by lia,by rw[af];lia,by rw[af];lia],?_];have en:((((w.map nV).length:Nat):Int)-1).toNat=w.length-1:=by rw[af];lia
  rw[en];refine fR (n:=w.length-1) (λi U H3=>∃ x2 x3:Option V,U=[some (.ref t),some (.ref a),x2,x3]/\H3=H2) ?_ ?_ ?_
  .exact #[_,_,rfl,rfl]
  .rintro i U H3 hi ⟨x2,x3,rfl,rfl⟩;have ek:(1:Int)+(i:Int)=((i+1:Nat):Int):=by lia
   rw[ek];have h1:=hC i (by lia);have hm:=hlt (w.getD (i+1) 0) (by rw[aF,aD (show i+1<w.length by lia)];exact cJ _);have hat1:atI (w.map nV) ((i+1:Nat):Int)=some (nV (w.getD (i+1) 0)):=eL (by lia);have hat0:atI (w.map nV) (((i+1:Nat):Int)-1)=some (nV (w.getD i 0)):=by
    rw[show ((i+1:Nat):Int)-1=((i:Nat):Int) by lia];exact eL (by lia)
   have hatT:=iE hm;rw[kS h1]at hatT;refine #[_,rfl,_,rfl,_,rfl,_,_,_,_,rfl,rfl,SqL.of ha,hat1,_,_,_,_,rfl,rfl,SqT.of ht,hatT,_,rfl,_,rfl,_,_,rfl,rfl,_,_,_,_,rfl,rfl,SqL.of ha,hat0,rfl,_,rfl,?_];refine cU rfl ?_;exact #[_,_,rfl,rfl]
  .rintro U H3 ⟨x2,x3,rfl,rfl⟩;exact q
def cK.same {w:List Nat}(h:cK H wa ps w)(e:Same H H'):cK H' wa ps w:=#[e _ _ h.at_,h.len,h.ne,h.ch,h.kn]
inductive lb (K:Frag)(vs:List V)(H:Hp)(Q:VK)(w_1:XK):Prop
 | c:∀(t a:Addr) (ps w:List Nat),vs=[.ref t,.ref a]->H t=some (.tup (b8 ps))->ps.length<=900->cK H a ps w->Q .non H->lb K vs H Q w_1
def Lo (T:Txt K mg)(yz:DF K mg "need_way" o7 jk)(NH:FC P w K mg base 3 "is_way" qO (wF K)):FC P w K mg base 4 "need_way" jk (lb K):=by
 refine yz.ok IE (λvs H Q E h=>?_) (λf cdv A outer s H vs Q E hr h=>?_)
 .obtain ⟨t,a,ps,w,rfl,_⟩:=h;rfl
 obtain ⟨t,a,ps,w,rfl,ht,hl,W,q⟩:=h;refine #[_,(aw (bu (dZ (dM (ax NH hr (aa (pv 0) (aa (pv 1) ae))))) (aw uh) bz)),?_];refine #[_,rfl,_,rfl,t,a,ps,w,rfl,ht,hl,W.at_,by have:=W.len;lia,W.ne,W.ch,W.kn,_,rfl,?_];refine iteF ?_;exact q
def iK {w:List Nat}{i:Nat}(h:i<w.length):w.take (i+1)=w.take i++[w.getD i 0]:=by
 rw[cx h,aF,aD h];rfl
def iL {w:List Nat}{i:Nat}(h:i<w.length):w.getD i 0∈w:=by
 rw[aF,aD h];exact cJ h
def Lp (xs:List V)(a:Nat):cutV xs none (some (a:Int))=xs.take a:=by
 unfold cutV;rw[fT,show HT.sIx xs.length 0 none=0 from rfl,lO,lM];by_cases h:a<=xs.length
 .rw[gU h]
 .rw[n9 (by lia),bh (av _),bh (by lia)]
def mZ (xs:List V)(a:Nat):cutV xs (some (a:Int)) none=xs.drop a:=by
 unfold cutV;rw[fT,show HT.sIx xs.length xs.length none=xs.length from rfl];by_cases h:a<=xs.length
 .rw[gU h,bh (by rw[eQ];exact av _)]
 .rw[n9 (by lia),gq (av _),gq (show xs.length<=a by lia),List.take_nil]
def ownB (OF:List (List Int))(k:Nat)(key:Int):Nat:=((aC OF k).filter λx=>decide (x<key)).length
def Lq (T:bf ps)(R:cA OF){k:Nat}(hk:k<ps.length+1):((ay ps OF k).filter λe=>decide (e.2=(k:Int)))=ownE OF k:=by
 have hup:=R.at_up k;refine Dp ((eY T R hk).filter _) ?_ λe=>?_
 .unfold ownE;refine List.Pairwise.map _ (R:=λa b:Int=>a<b) (λa b (h:a<b)=>fX.mpr (.inl h)) hup
 .rw[dh];refine #[λzq0=>?_,λh=>#[(sT T hk).mpr (.inl h),aU (sJ hk h).2]];obtain ⟨h1,h2⟩:=zq0;rcases (sT T hk).mp h1 with h|⟨c,hc,h⟩
  .exact h
  .exfalso;have h2:=cE h2;have hcn:=(bM T hc);obtain ⟨j,hj,hb,e2,_⟩:=sM T R hcn.2 e ((fB _).subset h);have ej:j=k:=by lia
   subst ej;have:=iA T hcn.1;rw[hb]at this;cases this
def Lr (T:bf ps)(R:cA OF){k:Nat}(hk:k<ps.length+1)(key:Int):d9 k ((ay ps OF k).take (aM (ay ps OF k) key))=ownB OF k key:=by
 rw[DA (la (eY T R hk))];unfold d9;have e:((ay ps OF k).filter λe=>decide (e.1<key)).filter (λe=>decide (e.2=(k:Int)))=(ownE OF k).filter λe=>decide (e.1<key):=by
  rw[<-Lq T R hk,oe,oe];congr 1
  funext e
  rw[Bool.and_comm]
 rw[e];unfold ownE ownB;rw[jN,af];rfl
def KpV (Av:List Addr)(H H':Hp):Prop:=∀ b o,b∉Av->H b=some o->H' b=some o
def KpA (Av:List Addr)(mp:Addr)(H H':Hp):Prop:=∀ b o,b∉Av->b≠mp->H b=some o->H' b=some o
def KpA.trans (a:KpA Av mp H H1)(b:KpA Av mp H1 H2):KpA Av mp H H2:=λc o n1 n2 h=>b c o n1 n2 (a c o n1 n2 h)
def KpV.a (a:KpV Av H H1):KpA Av mp H H1:=λc o n1 _ h=>a c o n1 h
def KpA.of (a:Same H H1):KpA Av mp H H1:=λc o _ _ h=>a c o h
def KpA.gro (a:Gro mp H H1):KpA Av mp H H1:=λc o _ n h=>a c o n h
def FV.mono {w:World}{K:Frag}{mg:Str->Option Value}{base:Heap}{k:Nat}{f:Addr}(F:FV P w K mg base j f ps sp)(h:j<=k):FV P w K mg base k f ps sp:=by
 obtain ⟨fd,ok,r⟩:=F.ex;exact #[fd,ok.mono h,r]
structure AskF (P:Program)(w:World)(K:Frag)(mg:Str->Option Value)(base:Heap)(f:Addr)(Av:List Addr)(mp:Addr)(fp:Addr->Prop)(R:List (Nat×Nat)->Hp->Prop)(ps:List Nat)(OF:List (List Int))(key:Int):Prop where
 keep:∀ L H H',R L H->(∀ b o,fp b->H b=some o->H' b=some o)->R L H'
 alloc:∀ L H b,R L H->fp b->H b≠none
 avl:∀ L H,R L H->∀ a∈Av,∃ zs,H a=some (.lst zs)
 nmp:¬ fp mp
 ask:∃(pn:List Str) (sp:Sp),FV P w K mg base 2 f pn sp/\∀(kn i:Nat) (L:List (Nat×Nat)) (H:Hp) (Q:VK),kn<ps.length+1->i<(ay ps OF kn).length->L.length<=9000->R L H->
  (∀ H',R (L++[(kn,i)]) H'->KpV Av H H'->Q (.bl (decide (((ay ps OF kn).getD i (0,0)).1<key))) H')->sp [.int kn,.int i] H Q E0
def AskF.lift {w:World}{K:Frag}{mg:Str->Option Value}{f:Addr}{R:List (Nat×Nat)->Hp->Prop}{key:Int}(A:AskF P w K mg b1 f Av mp fp R ps OF key)(S:Sub K mg b1 b2):AskF P w K mg b2 f Av mp fp R ps OF key:=by
 obtain ⟨a,b,c,d,pn,sp,hF,r⟩:=A;exact #[a,b,c,d,pn,sp,hF.lift S,r]
structure cP (Av:List Addr)(mp:Addr)(R:List (Nat×Nat)->Hp->Prop)(ps:List Nat)(OF:List (List Int))(br:Addr)(xs:List V)(L:List (Nat×Nat))(H:Hp):Prop where
 r:R L H
 avs:∀ a∈Av,∃ zs,H a=some (.lst zs)
 at_:H br=some (.lst xs)
 nb:br∉Av
 ba:Paired (BrAt Av H ps OF) (List.range (ps.length+1)) xs
 tb:bp H mp ju jt
section
variable {Av:List Addr}{mp:Addr}{R:List (Nat×Nat)->Hp->Prop}{ps:List Nat}{OF:List (List Int)}{br:Addr}{xs:List V}{L L':List (Nat×Nat)}{H H':Hp}
def cP.nm (S:cP Av mp R ps OF br xs L H){b:Addr}{o:HO}(h:H b=some o)(n:∀ tab,o≠.tbl tab):b≠mp:=λz=>by
 obtain ⟨tab,e,_⟩:=S.tb.ex;rw[<-z,h]at e;exact n _ (aV e)
def cP.na (S:cP Av mp R ps OF br xs L H){b:Addr}{o:HO}(h:H b=some o)(n:∀ zs,o≠.lst zs):b∉Av:=λz=>by
 obtain ⟨zs,e⟩:=S.avs b z;rw[h]at e;exact n _ (aV e)
def cP.tup (S:cP Av mp R ps OF br xs L H)(k:KpA Av mp H H'){b:Addr}{us:List V}(h:H b=some (.tup us)):H' b=some (.tup us):=k _ _ (S.na h nofun) (S.nm h nofun) h
def cP.lst (S:cP Av mp R ps OF br xs L H)(k:KpA Av mp H H'){b:Addr}{us:List V}(h:H b=some (.lst us))(n:b∉Av):H' b=some (.lst us):=k _ _ n (S.nm h nofun) h
def cP.kp (S:cP Av mp R ps OF br xs L H)(k:KpA Av mp H H')(hT:bp H' mp ju jt)(hR:R L' H')(ha:∀ a∈Av,∃ zs,H' a=some (.lst zs)):cP Av mp R ps OF br xs L' H':=
 #[hR,ha,S.lst k S.at_ S.nb,S.nb,eh (λj x ⟨b,o,j',ys,h1,h2,h3,h4,h5,h6,h7⟩=>#[b,o,j',ys,h1,h2,h3,S.tup k h4,S.lst k h5 h2,S.lst k h6 h3,eh (λc y ⟨a,s,g1,g2,g3,g4⟩=>#[a,s,g1,g2,S.tup k g3,S.lst k g4 g2]) h7]) S.ba,hT]
def cP.tbv (S:cP Av mp R ps OF br xs L H)(k:KpV Av H H'):bp H' mp ju jt:=by
 obtain ⟨tab,h1,h2,h3⟩:=S.tb.ex;refine #[tab,k _ _ (S.na h1 nofun) h1,h2,?_];rcases h3 with h3|⟨c,h3,h4⟩
 .exact .inl h3
 .exact .inr #[c,h3,k _ _ (S.na h4 nofun) h4]
end
def DH {K:Frag}{H H':Hp}(k:∀ b us,H b=some (.tup us)->H' b=some (.tup us)):∀{es:List (Int×Int)} {ws:List V},aI K H es ws->aI K H' es ws
 | _,_,.nil=>.nil
 | _,_,.cons h t=>by
  refine .cons ?_ (DH k t);obtain ⟨a,x1,x2,rfl,hT,e1,e2⟩:=(show hasP K H _ _ from h);exact #[a,x1,x2,rfl,k _ _ hT,e1,e2]
def wG {D:Addr}{xs:List V}(x:bp H Pt pos q)(hD:H D=some (.lst xs)):bp (upd H D o) Pt pos q:=by
 obtain ⟨tab,h1,h2,h3⟩:=x.ex;have n1:Pt≠D:=λz=>by
  rw[z,hD]at h1;cases h1
 refine #[tab,by rw[ak n1];exact h1,h2,?_];rcases h3 with h3|⟨c,h3,h4⟩
 .exact .inl h3
 .refine .inr #[c,h3,?_];have n2:c≠D:=λz=>by
   rw[z]at h4;rw[show H D=_ from h4]at hD;cases hD
  show upd H D o c=_;rw[ak n2];exact h4
def cP.free {R:List (Nat×Nat)->Hp->Prop}(S:cP Av mp R ps OF br xs L H1)(k:KpA Av mp H H1){D:Addr}(h:H1 D=none):H D=none/\D∉Av/\D≠mp:=by
 have n1:D∉Av:=λz=>by
  obtain ⟨zs,e⟩:=S.avs D z;rw[h]at e;cases e
 have n2:D≠mp:=λz=>by
  obtain ⟨tab,e,_⟩:=S.tb.ex;rw[<-z,h]at e;cases e
 refine #[?_,n1,n2];cases e:H D with
 | none=>rfl
 | some o=>
  have:=k _ _ n1 n2 e;rw[h]at this;cases this
def wH (T:bf ps)(R:cA OF){k:Nat}(hk:k<ps.length+1)(key:Int):atI ((sR k (ay ps OF k)).map nV) ((aM (ay ps OF k) key:Nat):Int)=some (.int ((ownB OF k key:Nat):Int)):=by
 have hle:=iI (ay ps OF k) key;refine cL ?_;rw[aQ];unfold sR;rw[aQ,dY (by lia),<-Lr T R hk key];rfl
def sZ {wy:List Nat}{i:Nat}(h:i<wy.length):(wy.map nV)[i]?=some (nV (wy.getD i 0)):=by
 rw[aQ,aF,aD h];rfl
def wI {wy:List Nat}{i:Nat}(h:i<wy.length):wy.getD i 0∈wy:=by
 rw[aF,aD h];exact cJ h
def DI {α:Type}(f:Nat->α){wy:List Nat}{i:Nat}(h:i<wy.length):(wy.take (i+1)).map f=(wy.take i).map f++[f (wy.getD i 0)]:=by
 rw[cx h,aN,aF,aD h];rfl
def Ls (l:List Nat):cutV (l.map nV) (some 1) none=(l.drop 1).map nV:=by
 rw[show (1:Int)=((1:Nat):Int) from rfl,mZ,<-List.map_drop]
inductive wJ (P:Program)(w:World)(K:Frag)(mg:Str->Option Value)(base:Heap)(mp:Addr)(vs:List V)(H:Hp)(Q:VK)(w_1:XK):Prop
 | c:∀(br f:Addr) (xs:List V) (ps:List Nat) (OF:List (List Int)) (k:Nat) (key:Int) (Av:List Addr) (fp:Addr->Prop) (R:List (Nat×Nat)->Hp->Prop) (L:List (Nat×Nat)),vs=[.ref br,.int k,.ref f]->AskF P w K mg base f Av mp fp R ps OF key->cP Av mp R ps OF br xs L H->bf ps->cA OF->k<ps.length+1->L.length<=3000->(ay ps OF k).length<=1000->(∀(H':Hp) (L':List (Nat×Nat)),cP Av mp R ps OF br xs (L++L') H'->KpA Av mp H H'->L'.length<=figN (ay ps OF k).length->Q (.int (aM (ay ps OF k) key:Nat)) H')->wJ P w K mg base mp vs H Q w_1
def Lu (T:Txt K mg){mc mp:Addr}(tN:DFT K mg "first_place" j9 rm mc mp)(hBM:BMAt mg base)(nB:∀ b,Sub K mg base b->FC P w K mg b 4 "how_many_below" kC (mW P w K mg b)):FC P w K mg base 5 "first_place" rm (wJ P w K mg base mp):=by
 refine tN.ok IU (λvs H Q E h=>?_) (λf A outer s H vs Q E hr h=>?_)
 .obtain ⟨br,f,xs,ps,OF,k,key,Av,fp,R,L,rfl,_⟩:=h;rfl
 obtain ⟨br,f,xs,ps,OF,k,key,Av,fp,R,L,rfl,AF,S,hT,hR,hk,hLn,hFn,q⟩:=h;refine #[_,(aw (aE (HR (kf:=2) nB hr (aB (aR (K:=K)) (aB (bw (K:=K)) (pv 0) (pv 1) (λ_ _=>rfl)) ag (λ_ _=>rfl)) (oF (osc:=aH j9) (N:=["bridges","knot","is_below"]) (ps:=["at"]) (caps:=["is_below","knot"]) (cap:=[2,1]) #[rfl,rfl,rfl,by decide +kernel,by decide +kernel,by decide +kernel,by decide +kernel] (by decide +kernel) (by decide +kernel) rfl rfl rfl rfl (λ_ _ _ _ us hl=>match us,hl with|[_],_=>rfl) (λ_=>rfl)) rfl tN.hd hBM (λb _ _ _ _ _ _ _ S hr=>(HN P w K mg b (kr:=2) hr (pv 1) (aa (pv 2) (aa (pv 0) ae))))))),?_]
 obtain ⟨x,hx,b,o,j,ys,rfl,_,_,hb,ho,hj,hJ⟩:=iJ S.ba hk;have hF:=la (eY hT hR hk (OF:=OF));refine #[_,rfl,_,rfl,_,_,_,_,rfl,rfl,SqL.of S.at_,cL hx,_,_,_,_,rfl,rfl,SqT.of hb,rfl,S.tb,[.ref f,.int k],rfl,?_,λbs g c' H2 hg hT2 hC SB hV=>?_]
 .intro j i v h1 h2;rcases j with _|_|j
  .cases h1;cases h2;rfl
  .cases h1;cases h2;rfl
  .cases h1
 obtain ⟨pn,sp,hFV,hask⟩:=(AF.lift SB).ask;have hR2:R L H2:=AF.keep _ _ _ S.r λb o hb e=>hg _ _ (λz=>AF.nmp (z ▸ hb)) e;have S2:cP Av mp R ps OF br xs L H2:=S.kp (.gro hg) hT2 hR2 (AF.avl _ _ hR2);refine #[(ay ps OF k).length,g,_,_,λi=>decide (((ay ps OF k).getD i (0,0)).1<key),λL1 H1=>R (L++L1.map λi=>(k,i)) H1/\KpV Av H2 H1,rfl,hV,#[by rw[gR,di];exact hR2,λ_ _ _ h=>h],λi L1 H1 Q1 hi hLi hR1 hQ=>?_,λi j hij hj hb=>?_,λm L1 H' hm hb1 hb2 hL hR1=>?_]
 .refine #[rfl,hR1.2 _ _ (S2.na hC nofun) hC,?_];refine #[_,rfl,f,2,pn,sp,rfl,hFV,av _,_,rfl,_,rfl,?_];refine hask k i _ H1 _ hk hi (by have:=wB _ _ (av (ay ps OF k).length);rw[bB,af];lia) hR1.1 λH3 hR3 k3=>hQ _ #[?_,λb o n h=>k3 _ _ n (hR1.2 _ _ n h)];rw[aN,<-jF];exact hR3
 .refine aU ?_;have hb:=cE hb;by_cases e:i=j
  .subst e;exact hb
  .have:=fc.mp hF i j (by lia) hj (by lia);rw[aF,aD (by lia)]at hb ⊢;exact Int.lt_of_le_of_lt this hb
 .have e:=Dz hm hb1 hb2;have q2:=q H' _ (S2.kp hR1.2.a (S2.tbv hR1.2) hR1.1 (AF.avl _ _ hR1.1)) (KpA.trans (.gro hg) hR1.2.a) (by rw[af];exact hL);rw[e]at q2;exact q2
inductive tj (K:Frag)(vs:List V)(H:Hp)(Q:VK)(w_1:XK):Prop
 | c:∀(Av:List Addr) (br:Addr) (ps:List Nat) (OF:List (List Int)) (xs:List V) (k c m:Nat),vs=[.ref br,.int k,.int m,.int c]->H br=some (.lst xs)->Paired (BrAt Av H ps OF) (List.range (ps.length+1)) xs->bf ps->k<ps.length+1->par ps c=some k->m<=(ay ps OF k).length->(∀ H',Same H H'->Q (.int (stN (ay ps OF c) ((ay ps OF k).take m):Nat)) H')->tj K vs H Q w_1
def DJ (T:Txt K mg)(tO:DF K mg "start_in" pR mK):FC P w K mg base 1 "start_in" mK (tj K):=by
 refine tO.ok IV (λvs H Q E h=>?_) (λf cdv A outer s H vs Q E hr h=>?_)
 .obtain ⟨Av,br,ps,OF,xs,k,c,m,rfl,_⟩:=h;rfl
 obtain ⟨Av,br,ps,OF,xs,k,c,m,rfl,hbr,hB,hT,hk,hc,hm,q⟩:=h;obtain ⟨x,hx,b,o,j,ys,rfl,_,_,hb,ho,hj,hJ⟩:=iJ hB hk;obtain ⟨kvs,h1,h2,h3⟩:=DC hJ;have hcm:c∈bN ps k (ps.length+1):=cY.mpr #[(bM hT hc).2,hc];obtain ⟨sa,hv,hsa⟩:=h3 c hcm (DD _ _ _);refine #[_,(aw (aE (aB (bw (K:=K)) (gF (dS hr) (dC (Ih rfl) rfl T.Nm boot_dict (aa (aB (aR (K:=K)) (aB (bw (K:=K)) (pv 0) (pv 1) (λ_ _=>rfl)) ag (λ_ _=>rfl)) ae)) (pv 3) (λ_ _=>rfl)) (pv 2) (λ_ _=>rfl)))),?_];refine #[_,rfl,_,rfl,_,_,_,_,rfl,rfl,SqL.of hbr,cL hx,_,_,_,_,rfl,rfl,SqT.of hb,rfl,?_];refine #[j,ys,kvs,rfl,SqL.of hj,h1,?_,λd hd=>?_]
 .rw[h2];exact List.Pairwise.map (R:=λa b:Nat=>a≠b) _ (λa b (n:a≠b) z=>n (by have:=Sum.inl.inj z;lia)) (DD ps k _)
 have sd:=aJ hd (.dK kvs);refine #[_,rfl,d,.ref sa,rfl,?_,?_]
 .have:=DGet.k (k:=(.inl (c:Int))) (ah (H:=H) (a:=d) (o:=.dK kvs));rw[hv]at this;exact this
 refine #[_,rfl,_,_,_,_,rfl,rfl,SqL.of (sd _ _ hsa),cL (v:=nV (stN (ay ps OF c) ((ay ps OF k).take m))) ?_,q _ sd];rw[aQ];unfold sS;rw[aQ,dY (by lia)];rfl
inductive wK (P:Program)(w:World)(K:Frag)(mg:Str->Option Value)(base:Heap)(mp:Addr)(vs:List V)(H:Hp)(Q:VK)(w_1:XK):Prop
 | c:∀(br f:Addr) (xs:List V) (ps:List Nat) (OF:List (List Int)) (k st:Nat) (key:Int) (Av:List Addr) (fp:Addr->Prop) (R:List (Nat×Nat)->Hp->Prop) (L:List (Nat×Nat)),vs=[.ref br,.int k,.int st,.ref f]->AskF P w K mg base f Av mp fp R ps OF key->cP Av mp R ps OF br xs L H->bf ps->cA OF->k<ps.length+1->L.length<=8000->st<=aM (ay ps OF k) key->aM (ay ps OF k) key<=st+2->(∀(H':Hp) (L':List (Nat×Nat)),cP Av mp R ps OF br xs (L++L') H'->KpA Av mp H H'->L'.length<=2->Q (.int (aM (ay ps OF k) key:Nat)) H')->wK P w K mg base mp vs H Q w_1
def Lv (T:Txt K mg)(yA:DF K mg "next_place" pS rp):FC P w K mg base 3 "next_place" rp (wK P w K mg base mp):=by
 refine yA.ok qx (λvs H Q E h=>?_) (λf cdv A outer s H vs Q E hr h=>?_)
 .obtain ⟨br,f,xs,ps,OF,k,st,key,Av,fp,R,L,rfl,_⟩:=h;rfl
 obtain ⟨br,f,xs,ps,OF,k,st,key,Av,fp,R,L,rfl,AF,S,hT,hR,hk,hLn,hlo,hhi,q⟩:=h;refine #[_,(aK (aL (i:=4) qx.nd rfl (au rfl) (aT (z8 rfl) rfl T.xM boot_min (aa (aG cf (pv 2) (oD rfl T.Ex)) (aa (aB (aR (K:=K)) (aB (bw (K:=K)) (pv 0) (pv 1) (λ_ _=>rfl)) ag (λ_ _=>rfl)) ae))))
   (aK (aL (i:=5) qx.nd rfl (au rfl) (pv 2))
   (aK (uk PassesOwn.never (PW.pt (jR (aX eG (pv 5) (pv 4) (aS _)) (jQ (dM (vc (kr:=2) hr (pv 3) (aa (pv 1) (aa (pv 5) ae))))))) (aw (aL (i:=5) qx.nd rfl (au rfl) (aG cf (pv 5) ag))))
   (aw (aE (pv 5)))))),?_]
 obtain ⟨x,hx,b,o,j,ys,rfl,_,_,hb,ho,hj,hJ⟩:=iJ S.ba hk;have hF:=la (eY hT hR hk (OF:=OF));have hle:=iI (ay ps OF k) key;have hat:=λi h=>wz (key:=key) hF (i:=i) h;obtain ⟨pn,sp,hFV,hask⟩:=AF.ask;refine #[_,rfl,_,_,rfl,rfl,_,rfl,_,rfl,_,_,_,_,rfl,rfl,SqL.of S.at_,cL hx,_,_,_,_,rfl,rfl,SqT.of hb,rfl,_,_,rfl,?_];have eb:∃ m:Nat,(if (((ay ps OF k).length:Nat):Int)<(st:Int)+2 then (((ay ps OF k).length:Nat):Int) else (st:Int)+2)=(m:Int)/\m<=(ay ps OF k).length/\m<=st+2/\aM (ay ps OF k) key<=m:=by
  by_cases c:(((ay ps OF k).length:Nat):Int)<(st:Int)+2
  .exact #[_,ar c,av _,by lia,hle]
  .exact #[st+2,by rw[az c];rfl,by lia,av _,hhi]
 obtain ⟨m,em,hm1,hm2,hm3⟩:=eb;rw[em];refine #[_,rfl,?_];refine #[λn U H1=>∃(at_:Nat) (L1:List (Nat×Nat)),U=[some (.ref br),some (.int k),some (.int st),some (.ref f),some (.int m),some (.int at_)]/\st<=at_/\at_<=aM (ay ps OF k) key/\at_+n=m/\L1.length+st=at_/\cP Av mp R ps OF br xs (L++L1) H1/\KpA Av mp H H1,#[m-st,st,[],rfl,av _,hlo,by lia,by rw[iV,Nat.zero_add],by rw[di];exact S,λ_ _ _ _ h=>h],?_];rintro n U H1 ⟨at_,L1,rfl,h1,h2,h3,h4,S1,k1⟩;refine #[_,rfl,_,rfl,_,_,rfl,rfl,_,rfl,?_];refine ite2 (λc=>?_) (λc=>?_)
 .have c1:(at_:Int)<(m:Int):=cE c;refine #[_,rfl,f,2,pn,sp,rfl,hFV,av _,_,rfl,_,rfl,?_];refine hask k at_ _ H1 _ hk (by lia) (by rw[bB];lia) S1.r λH2 hR2 k2=>?_;have S2:=S1.kp k2.a (S1.tbv k2) hR2 (AF.avl _ _ hR2);rw[jF]at S2;have k02:KpA Av mp H H2:=k1.trans k2.a;have hL2:(L1++[(k,at_)]).length=L1.length+1:=by rw[bB,dj]
  have hge:(ay ps OF k).getD at_ (0,0)=(ay ps OF k)[at_]'(by lia):=by
   rw[aF,aD (by lia)];rfl
  refine #[_,rfl,?_];refine ite2 (λc2=>?_) (λc2=>?_)
  .have c3:=cE c2;rw[hge]at c3;have hlt:at_<aM (ay ps OF k) key:=oa λz=>(hat at_ (by lia)).2 z c3;refine #[λU' H'=>U'=[some (.ref br),some (.int k),some (.int st),some (.ref f),some (.int m),some (.int ((at_:Int)+1))]/\H'=H2,?_,?_]
   .rintro U' H' ⟨rfl,rfl⟩;exact #[n-1,by lia,at_+1,_,rfl,by lia,by lia,by lia,by lia,S2,k02]
   .exact #[_,rfl,_,_,rfl,rfl,rfl,rfl]
  .have hge2:aM (ay ps OF k) key<=at_:=iW λz=>c2 (aU (by rw[hge];exact (hat at_ (by lia)).1 z));have e:at_=aM (ay ps OF k) key:=by lia
   refine #[_,rfl,?_];rw[e];exact q _ _ S2 k02 (by lia)
 .have c1:¬ (at_:Int)<(m:Int):=lK (iZ.mpr c);have e:at_=aM (ay ps OF k) key:=by lia
  refine iteF ?_;refine #[_,rfl,?_];rw[e];exact q _ _ S1 k1 (by lia)
inductive wL (P:Program)(w:World)(K:Frag)(mg:Str->Option Value)(base:Heap)(mp:Addr)(vs:List V)(H:Hp)(Q:VK)(w_1:XK):Prop
 | c:∀(br wa f:Addr) (xs:List V) (ps:List Nat) (OF:List (List Int)) (wy:List Nat) (key:Int) (Av:List Addr) (fp:Addr->Prop) (R:List (Nat×Nat)->Hp->Prop) (L:List (Nat×Nat)),vs=[.ref br,.ref wa,.ref f]->AskF P w K mg base f Av mp fp R ps OF key->cP Av mp R ps OF br xs L H->bf ps->cA OF->ps.length<=40->cK H wa ps wy->wa∉Av->L.length<=1000->(∀ k,k<ps.length+1->(ay ps OF k).length<=1000)->(∀(D:Addr) (zs:List V) (H':Hp) (L':List (Nat×Nat)),cP Av mp R ps OF br xs (L++L') H'->KpA Av mp H H'->H D=none->H' D=some (.lst zs)->aI K H' (wy.map λk=>(((aM (ay ps OF k) key:Nat):Int),((ownB OF k key:Nat):Int))) zs->L'.length<=figN (ay ps OF (wy.getD 0 0)).length+2*(wy.length-1)->Q (.ref D) H')->wL P w K mg base mp vs H Q w_1
def Lw (T:Txt K mg)(yB:DF K mg "search" pT rq)(NI:FC P w K mg base 5 "first_place" rm (wJ P w K mg base mp))(yC:FC P w K mg base 1 "start_in" mK (tj K))(NJ:FC P w K mg base 3 "next_place" rp (wK P w K mg base mp)):FC P w K mg base 6 "search" rq (wL P w K mg base mp):=by
 refine yB.ok kh (λvs H Q E h=>?_) (λf cdv A outer s H vs Q E hr h=>?_)
 .obtain ⟨br,wa,f,xs,ps,OF,wy,key,Av,fp,R,L,rfl,_⟩:=h;rfl
 obtain ⟨br,wa,f,xs,ps,OF,wy,key,Av,fp,R,L,rfl,AF,S,hT,hR,few,W,nwa,hLn,hFn,q⟩:=h;have hwl:=W.len;have hpos:0 < wy.length:=lN.mpr W.ne;refine #[_,(aK (aL (i:=3) kh.nd rfl (au rfl) (ax NI hr (aa (pv 0) (aa (aB (bw (K:=K)) (pv 1) ag (λ_ _=>rfl)) (aa (pv 2) ae)))))
   (aK (aL (i:=4) kh.nd rfl (au rfl) (cy (aa (cX (aa (pv 3) (aa (aB (bw (K:=K)) (aB (aR (K:=K)) (aB (bw (K:=K)) (pv 0) (aB (bw (K:=K)) (pv 1) ag (λ_ _=>rfl)) (λ_ _=>rfl)) ag (λ_ _=>rfl)) (pv 3) (λ_ _=>rfl)) ae))) ae)))
   (aK (cO PassesOwn.never rfl (jX rfl T.lA (aa (pv 1) (aa (gE (j4 (K:=K)) (pv 1) (eI ag) lW) ae))) (i8 rfl (c7 (aP (i:=5) kh.nd rfl (au rfl)) (c7 (aP (i:=6) kh.nd rfl (au rfl)) fP))) (aK (aL (i:=3) kh.nd rfl (au rfl) (ax NJ hr (aa (pv 0) (aa (pv 6) (aa (ax yC hr (aa (pv 0) (aa (pv 5) (aa (pv 3) (aa (pv 6) ae))))) (aa (pv 2) ae))))))
   (aw (dB (d5 F.plainAttrs_list F.slot_list_append F.type_list_append eJ (pv 4) (aa (cX (aa (pv 3) (aa (aB (bw (K:=K)) (aB (aR (K:=K)) (aB (bw (K:=K)) (pv 0) (pv 6) (λ_ _=>rfl)) ag (λ_ _=>rfl)) (pv 3) (λ_ _=>rfl)) ae))) ae))))))
   (aw (aE (pv 4)))))),?_]
 have hk0:wy.getD 0 0<ps.length+1:=W.kn _ (wI hpos);have hw0:atI (wy.map nV) 0=some (nV (wy.getD 0 0)):=cL (j:=0) (sZ hpos);refine #[_,rfl,_,rfl,_,_,_,_,rfl,rfl,SqL.of W.at_,hw0,_,rfl,br,f,xs,ps,OF,wy.getD 0 0,key,Av,fp,R,L,rfl,AF,S,hT,hR,hk0,by lia,hFn _ hk0,λH1 L1 S1 k1 hL1=>?_];have W1:=S.lst k1 W.at_ nwa;obtain ⟨x0,hx0,b0,o0,j0,ys0,rfl,_,_,hb0,ho0,_,_⟩:=iJ S1.ba hk0;refine #[_,rfl,_,rfl,_,rfl,_,_,_,_,rfl,rfl,SqL.of W1,hw0,_,_,_,_,rfl,rfl,SqL.of S1.at_,cL hx0,_,_,_,_,rfl,rfl,SqT.of hb0,rfl,_,rfl,_,_,_,_,rfl,rfl,SqL.of ho0,wH hT hR hk0 key,(by show 2<=sizeLine;decide),λt ht=>#[(by show 1<=sizeLine;decide),λD hD=>?_]];have st:=aJ ht (.tup [.int ((aM (ay ps OF (wy.getD 0 0)) key:Nat):Int),.int ((ownB OF (wy.getD 0 0) key:Nat):Int)]);have sD:=aJ hD (.lst [.ref t]);have hD1:H1 D=none:=st.free hD;obtain ⟨hDn,nDA,nDm⟩:=S1.free k1 hD1;have nfD:¬ fp D:=λz=>AF.alloc _ _ _ S1.r z hD1;have s13:=st.trans sD;have tb3:=S1.tb.ext s13.ext;have hR3:=AF.keep _ _ _ S1.r λb o _ e=>s13 b o e;have S3:=S1.kp (.of s13) tb3 hR3 (AF.avl _ _ hR3);have k03:KpA Av mp H _:=k1.trans (.of s13);have h3D:upd (upd H1 t (.tup [.int ((aM (ay ps OF (wy.getD 0 0)) key:Nat):Int),.int ((ownB OF (wy.getD 0 0) key:Nat):Int)])) D (.lst [.ref t]) D=some (.lst [.ref t]):=ah;have h3t:=sD _ _ (ah (H:=H1) (a:=t) (o:=.tup [.int ((aM (ay ps OF (wy.getD 0 0)) key:Nat):Int),.int ((ownB OF (wy.getD 0 0) key:Nat):Int)]));generalize upd (upd H1 t (.tup [.int ((aM (ay ps OF (wy.getD 0 0)) key:Nat):Int),.int ((ownB OF (wy.getD 0 0) key:Nat):Int)])) D (.lst [.ref t])=H3 at S3 k03 h3D h3t ⊢;clear tb3 hR3 s13 sD hD st ht hb0 ho0 hx0;have W3:=S.lst k03 W.at_ nwa;refine #[_,rfl,_,rfl,1,rfl,wa,_,rfl,SqL.of W3,λy hy=>?_];rw[Ls];have sy:=aJ hy (.lst ((wy.drop 1).map nV));obtain ⟨hyn,nyA,nym⟩:=S3.free k03 hy;have nDy:D≠y:=aq h3D hy;have tb4:=S3.tb.ext sy.ext;have hR4:=AF.keep _ _ _ S3.r λb o _ e=>sy b o e;have S4:=S3.kp (.of sy) tb4 hR4 (AF.avl _ _ hR4);have k04:KpA Av mp H _:=k03.trans (.of sy);have h4y:upd H3 y (.lst ((wy.drop 1).map nV)) y=some (.lst ((wy.drop 1).map nV)):=ah;have h4D:=sy _ _ h3D;have h4t:=sy _ _ h3t;generalize upd H3 y (.lst ((wy.drop 1).map nV))=H4 at S4 k04 h4D h4t h4y ⊢;clear tb4 hR4 sy hy h3D h3t S3 k03 W3;refine #[wa,y,rfl,#[_,SqL.of (S.lst k04 W.at_ nwa)],#[_,SqL.of h4y],?_];have hdl:((wy.drop 1).map nV).length=wy.length-1:=by rw[af,eQ]
 refine HV (xs:=wy.map nV) (ys:=(wy.drop 1).map nV) (by rw[hdl,af];lia) (λi U H5=>∃(x5 x6:Option V) (zs:List V) (L2:List (Nat×Nat)),U=[some (.ref br),some (.ref wa),some (.ref f),some (.int ((aM (ay ps OF (wy.getD i 0)) key:Nat):Int)),some (.ref D),x5,x6]/\H5 D=some (.lst zs)/\aI K H5 ((wy.take (i+1)).map λk=>(((aM (ay ps OF k) key:Nat):Int),((ownB OF k key:Nat):Int))) zs/\cP Av mp R ps OF br xs (L++L2) H5/\KpA Av mp H H5/\L2.length<=figN (ay ps OF (wy.getD 0 0)).length+2*i/\H5 y=some (.lst ((wy.drop 1).map nV))) ?_ ?_ ?_ ?_
 .refine #[_,_,[.ref t],L1,rfl,h4D,?_,S4,k04,by lia,h4y];rw[DI _ hpos,nW];exact .cons #[t,_,_,rfl,h4t,rfl,rfl] .nil
 .rintro i U H5 _ ⟨x5,x6,zs,L2,rfl,h5,hA,S5,k05,hL2,h5y⟩;exact #[SqL.of (S.lst k05 W.at_ nwa),SqL.of h5y]
 .rintro i x x' U H5 p hx hx' ⟨x5,x6,zs,L2,rfl,h5,hA,S5,k05,hL2,h5y⟩ hp;have hi:i+1<wy.length:=by
   have:=(aY.mp hx').1;lia
  rw[sZ (by lia)]at hx;cases hx
  rw[List.map_drop,nX,lL 1 i,sZ hi]at hx';cases hx'
  have hpar:=W.ch i hi;have hki:wy.getD i 0<ps.length+1:=W.kn _ (wI (by lia));have hkj:wy.getD (i+1) 0<ps.length+1:=W.kn _ (wI hi);have NO:=DB hT hR few hki hpar (OF:=OF) key;refine #[p,_,rfl,SqT.of ah,rfl,_,_,rfl,_,_,rfl,rfl,?_];have s6:=aJ hp (.tup [nV (wy.getD i 0),nV (wy.getD (i+1) 0)]);have hR6:=AF.keep _ _ _ S5.r λb o _ e=>s6 b o e;have S6:=S5.kp (.of s6) (S5.tb.ext s6.ext) hR6 (AF.avl _ _ hR6);refine #[_,rfl,_,rfl,_,rfl,_,rfl,_,rfl,_,rfl,Av,br,ps,OF,xs,wy.getD i 0,wy.getD (i+1) 0,_,rfl,S6.at_,S6.ba,hT,hki,hpar,iI _ _,λH7 s7=>?_];have s57:=s6.trans s7;have hR7:=AF.keep _ _ _ S5.r λb o _ e=>s57 b o e;have S7:=S5.kp (.of s57) (S5.tb.ext s57.ext) hR7 (AF.avl _ _ hR7);refine #[_,rfl,br,f,xs,ps,OF,wy.getD (i+1) 0,_,key,Av,fp,R,_,rfl,AF,S7,hT,hR,hkj,(by have:=wB _ _ (av (ay ps OF (wy.getD 0 0)).length);have:=hFn _ hk0;rw[bB];lia),NO.lo,NO.hi,λH8 L3 S8 k8 hL3=>?_];have k58:KpA Av mp H5 H8:=(KpA.of s57).trans k8;have k08:=k05.trans k58;have h8:=k58 _ _ nDA nDm h5;have h8y:=k58 _ _ nyA nym h5y;obtain ⟨x1,hx1,b1,o1,j1,ys1,rfl,_,_,hb1,ho1,_,_⟩:=iJ S8.ba hkj;have hzl:=hA.length;rw[af,bt]at hzl;refine #[_,rfl,.inl #[rfl,_,SqL.of h8],_,rfl,_,rfl,_,rfl,_,_,_,_,rfl,rfl,SqL.of S8.at_,cL hx1,_,_,_,_,rfl,rfl,SqT.of hb1,rfl,_,rfl,_,_,_,_,rfl,rfl,SqL.of ho1,wH hT hR hkj key,(by show 2<=sizeLine;decide),λt2 ht2=>?_];have s9:=aJ ht2 (.tup [.int ((aM (ay ps OF (wy.getD (i+1) 0)) key:Nat):Int),.int ((ownB OF (wy.getD (i+1) 0) key:Nat):Int)]);have h9t:upd H8 t2 (.tup [.int ((aM (ay ps OF (wy.getD (i+1) 0)) key:Nat):Int),.int ((ownB OF (wy.getD (i+1) 0) key:Nat):Int)]) t2=_:=ah;have h9:=s9 _ _ h8;have h9y:=s9 _ _ h8y;have k09:=k08.trans (.of s9);have hR9:=AF.keep _ _ _ S8.r λb o _ e=>s9 b o e;have tb9:=S8.tb.ext s9.ext;have hA9:=DH (H':=upd H8 t2 (.tup [.int ((aM (ay ps OF (wy.getD (i+1) 0)) key:Nat):Int),.int ((ownB OF (wy.getD (i+1) 0) key:Nat):Int)])) (λb us e=>s9 _ _ (S5.tup k58 e)) hA;generalize upd H8 t2 (.tup [.int ((aM (ay ps OF (wy.getD (i+1) 0)) key:Nat):Int),.int ((ownB OF (wy.getD (i+1) 0) key:Nat):Int)])=H9 at h9t h9 h9y k09 hR9 tb9 hA9 ⊢;have k0D:KpA Av mp H (upd H9 D (.lst (zs++[.ref t2]))):=λb o n1 n2 e=>by
   rw[ak (aq e hDn)];exact k09 _ _ n1 n2 e
  have hRD:R (L++L2++L3) (upd H9 D (.lst (zs++[.ref t2]))):=AF.keep _ _ _ hR9 λb o hb e=>by
   have n:b≠D:=λz=>by
    rw[z]at hb;exact nfD hb
   rw[ak n];exact e
  refine #[_,_,_,rfl,rfl,h9,aW (by lia),_,_,_,L2++L3,rfl,ah,?_,?_,k0D,?_,?_]
  .rw[DI _ hi];exact aI.append (jq h9 hA9) (.cons #[t2,_,_,rfl,by rw[ak (λz=>by rw[z,h9]at h9t;cases h9t)];exact h9t,rfl,rfl] .nil)
  .rw[<-jF];exact S.kp k0D (wG tb9 h9) hRD (AF.avl _ _ hRD)
  .rw[bB];lia
  .rw[ak (bE nDy)];exact h9y
 .rintro U H5 ⟨x5,x6,zs,L2,rfl,h5,hA,S5,k05,hL2,h5y⟩;rw[hdl]at hA hL2;rw[bh (by lia)]at hA;refine #[_,rfl,?_];exact q D zs H5 L2 S5 k05 hDn h5 hA hL2
def Kp0 (H H':Hp):Prop:=∀ b o,(∀ tab,o≠.tbl tab)->H b=some o->H' b=some o
def tm {K:Frag}(k:Kp0 H H'):∀{es:List (Int×Int)} {ws:List V},aI K H es ws->aI K H' es ws
 | _,_,.nil=>.nil
 | _,_,.cons h t=>by
  refine .cons ?_ (tm k t);obtain ⟨a,x1,x2,rfl,hT,e1,e2⟩:=(show hasP K H _ _ from h);exact #[a,x1,x2,rfl,k _ _ nofun hT,e1,e2]
def DK {K:Frag}{js:List Nat}{qs:List Addr}(k:Kp0 H H')(h:bS K H ps OF js qs):bS K H' ps OF js qs:=eh (λj q ⟨ws,h1,h2⟩=>#[ws,k _ _ (λ_ z=>by cases z) h1,tm k h2]) h
def DL {js:List Nat}{xs:List V}(k:Kp0 H H')(h:Paired (BrAt [] H ps OF) js xs):Paired (BrAt [] H' ps OF) js xs:=eh (λj x ⟨b,o,j',ys,h1,h2,h3,h4,h5,h6,h7⟩=>
 #[b,o,j',ys,h1,h2,h3,k _ _ (λ_ z=>by cases z) h4,k _ _ (λ_ z=>by cases z) h5,k _ _ (λ_ z=>by cases z) h6,eh (λc y ⟨a,s,g1,g2,g3,g4⟩=>#[a,s,g1,g2,k _ _ (λ_ z=>by cases z) g3,k _ _ (λ_ z=>by cases z) g4]) h7]) h
def DM {U:L2.St}{H:Hp}{Q:Bool->Hp->Prop}(h:Q true H):tYes U H Q:=h
def Kp0.trans (a:Kp0 H H1)(b:Kp0 H1 H2):Kp0 H H2:=λc o n h=>b c o n (a c o n h)
def Kp0.of (a:Same H H1):Kp0 H H1:=λc o _ h=>a c o h
def Kp0.tup {H H1:Hp}(a:Kp0 H H1){b:Addr}{us:List V}(h:H b=some (.tup us)):H1 b=some (.tup us):=a _ _ nofun h
def Kp0.lst {H H1:Hp}(a:Kp0 H H1){b:Addr}{us:List V}(h:H b=some (.lst us)):H1 b=some (.lst us):=a _ _ nofun h
def DN (e:Kp0 H H'):∀{as:List Addr} {OF:List (List Int)},bA H as OF->bA H' as OF
 | _,_,.nil=>.nil
 | _,_,.cons h t=>.cons (e.tup h) (DN e t)
def m3 {st t:Addr}(e:Kp0 H H')(S:bR H st ps OF t rs as):bR H' st ps OF t rs as:=
 #[e.tup S.st,e.tup S.tr,e.tup S.rs,DN e S.at_,S.len,S.T,S.R,S.few,S.keys]
def m4 {w:List Nat}(e:Kp0 H H')(h:cK H wa ps w):cK H' wa ps w:=#[e.lst h.at_,h.len,h.ne,h.ch,h.kn]
def Lx (s:LS K L d H)(g:Kp0 H H'):LS K L d H':=by
 obtain ⟨ns,a,l,e,q⟩:=s.ex;refine #[ns,a,l,g _ _ nofun e,?_];rcases q with (q|⟨o,q⟩)|q
 .exact .inl (.inl (g _ _ nofun q))
 .exact .inl (.inr #[o,g _ _ nofun q])
 .exact .inr q
def tq {OF:List (List Int)}{k:Nat}(h:k<OF.length):aC OF k∈OF:=by
 unfold aC;rw[aF,aD h];exact cJ h
def cR (x:bp H Pt pos q):∃ tab,H Pt=some (.tbl tab):=by
 obtain ⟨tab,e,_⟩:=x.ex;exact #[tab,e]
def Ly (T:Txt K mg)(yD:DF K mg "_law_children" qe rK):FC P w K mg base 1 "_law_children" rK (kT K):=by
 refine yD.ok I0 (λvs H Q E h=>?_) (λf cdv A outer s H vs Q E hr h=>?_)
 .obtain ⟨t,ps,k,rfl,_⟩:=h;rfl
 obtain ⟨t,ps,k,rfl,ht,hz,q⟩:=h;refine #[_,(aw (aE (cg (N:=["_law_k","_law_tree_here","_law_knot"]) (own:=1) (cap:=[0,1]) rfl (fQ rfl T.dG (aa (aT (bJ (K:=K)) rfl T.bG bF (aa (pv 0) ae)) ae)) #[rfl,rfl,rfl,rfl,rfl,rfl] (λ_ _ _ _ _=>(aP (i:=0) (show List.Nodup (["_law_k","_law_tree_here","_law_knot"]:List Str) by decide +kernel) rfl (au rfl))) (λ_ _ _ _ _=>(jd (aX dr (aB (aR (K:=K)) (pv 1) (pv 0) (λ_ _=>rfl)) (pv 2) (aS _)))) (λ_ _ _ _ _=>(pv 0))))),?_];refine #[_,rfl,_,_,rfl,.inr (SqT.of ht),_,rfl,by lia,by rw[ck];lia,λD hD=>?_];have el:((((b8 ps).length:Nat):Int)).toNat=ps.length+1:=by rw[ck,eA]
 rw[el];refine ij (n:=ps.length+1) (λj U H3=>∃ x0:Option V,U=[x0,some (.ref t),some (.int k)]/\H3 D=some (.lst ((bN ps k j).map nV))/\But D H H3) ?_ ?_ ?_
 .exact #[_,rfl,ah,λb o n e=>by rw[ak n];exact e]
 .rintro j m U H3 hm hj ⟨x0,rfl,h3,k3⟩;rw[gV];have h3t:=k3 _ _ (aq ht hD) ht;have hlen:=iC ps k j;refine #[_,rfl,_,rfl,_,_,_,_,rfl,rfl,SqT.of h3t,iE hj,_,rfl,sI _ _ _,_,rfl,?_];refine ite2 (λc=>?_) (λc=>?_)
  .have c':par ps j=some k:=iF.mp (cE c);refine #[_,rfl,_,h3,aW (by rw[af];lia),m-1,by lia,by lia,_,rfl,?_,λb o n e=>by rw[ak n];exact k3 b o n e];rw[ah,iB,ar c',aN];rfl
  .have c':¬ par ps j=some k:=λz=>c (aU (iF.mpr z));refine #[m-1,by lia,by lia,_,rfl,?_,k3];rw[h3,iB,az c',di]
 .rintro U H3 ⟨x0,rfl,h3,k3⟩;exact q D H3 hD (λb o e=>k3 b o (aq e hD) e) h3
inductive tu (K:Frag)(vs:List V)(H:Hp)(Q:VK)(w_1:XK):Prop
 | c:∀(r:Addr) (as:List Addr) (OF:List (List Int)),vs=[.ref r]->H r=some (.tup (as.map V.ref))->bA H as OF->cw OF<=900->(∀(p:Addr) (H':Hp),Same H H'->H' p=some (.lst (OF.flatten.map V.int))->H p=none->Q (.ref p) H')->tu K vs H Q w_1
def wM (OF:List (List Int)):OF.flatten.length=cw OF:=by
 unfold cw;rw[List.length_flatten]
def Lz {OF:List (List Int)}{i:Nat}{row:List Int}(h:OF[i]?=some row):(OF.take (i+1)).flatten=(OF.take i).flatten++row:=by
 obtain ⟨hi,rfl⟩:=aY.mp h;rw[cx hi,jK];simp
def LA (OF:List (List Int))(i:Nat):(OF.take i).flatten.length<=cw OF:=by
 rw[<-wM]
 conv=>rhs;rw[<-gW i OF]
 rw[jK,bB];lia
def LB (T:Txt K mg)(yE:DF K mg "_law_every" pZ mO):FC P w K mg base 1 "_law_every" mO (tu K):=by
 refine yE.ok qz (λvs H Q E h=>?_) (λf cdv A outer s H vs Q E hr h=>?_)
 .obtain ⟨r,as,OF,rfl,_⟩:=h;rfl
 obtain ⟨r,as,OF,rfl,hr0,hA,hz,q⟩:=h;have hal:=hA.length;refine #[_,(aK (aL (i:=1) qz.nd rfl (au rfl) (cy ae))
   (aK (cO PassesOwn.never rfl (fm (pv 0)) (aP (i:=2) qz.nd rfl (au rfl)) (aw (aL (i:=1) qz.nd rfl (au rfl) (aG jU (pv 1) (dC (uT (K:=K)) rfl T.jz boot_list (aa (pv 2) ae))))))
   (aw (aE (pv 1))))),?_]
 refine #[(by show 0<=sizeLine;decide),λp hp=>?_];have sp:=aJ hp (.lst []);refine #[_,rfl,r,rfl,#[_,SqT.of (sp _ _ hr0)],?_];refine oq (xs:=as.map V.ref) (λi U H2=>∃(c:Addr) (x2:Option V),U=[some (.ref r),some (.ref c),x2]/\H2 c=some (.lst (((OF.take i).flatten).map V.int))/\Same H H2/\H c=none) ?_ ?_ ?_ ?_
 .exact #[p,_,rfl,ah,sp,hp]
 .rintro i U H2 _ ⟨c,x2,rfl,_,s2,_⟩;exact SqT.of (s2 _ _ hr0)
 .rintro i x U H2 hx ⟨c,x2,rfl,h2,s2,hc⟩;rw[aQ]at hx;obtain ⟨b,hb,rfl⟩:=cI.mp hx;obtain ⟨row,hrow,h1b⟩:=eO hA hb;have h2b:=s2 _ _ h1b;have e:=Lz hrow;have hz2:=LA OF (i+1);rw[e,bB]at hz2;refine #[_,rfl,_,rfl,b,_,rfl,.inr (SqT.of h2b),λl hl=>?_];have sl:=aJ hl (.lst (row.map V.int));refine #[c,l,_,_,rfl,rfl,sl _ _ h2,ah,eP (aW (by rw[af,af];lia)),λu hu=>?_];have su:=aJ hu (.lst ((OF.take i).flatten.map V.int++row.map V.int));refine #[u,_,rfl,?_,s2.trans (Same.trans sl su),s2.free (sl.free hu)];rw[ah,e,aN]
 .rintro U H2 ⟨c,x2,rfl,h2,s2,hc⟩;rw[af,hal,bh (av _)]at h2;refine #[_,rfl,?_];exact q c H2 s2 h2 hc
inductive wN (K:Frag)(vs:List V)(H:Hp)(Q:VK)(w_1:XK):Prop
 | c:∀(d L:Addr),vs=[.ref d]->LS K L d H->(∀(st:Addr) (ps:List Nat) (OF:List (List Int)) (t rs:Addr) (as:List Addr) (H':Hp),bR H' st ps OF t rs as->Keep d H H'->LS K L d H'->Q (.ref st) H')->wN K vs H Q w_1
def LC (T:Txt K mg)(yF:DF K mg "_law_stand" qh rM)(cn:FC P w K mg base 2 "_law_take" eW (fq K))(NK:FC P w K mg base 3 "_law_tree" rG (v5 K))(NL:FC P w K mg base 5 "_law_rows" rJ (wm K)):FC P w K mg base 6 "_law_stand" rM (wN K):=by
 refine yF.ok qC (λvs H Q E h=>?_) (λf cdv A outer s H vs Q E hr h=>?_)
 .obtain ⟨d,L,rfl,_⟩:=h;rfl
 obtain ⟨d,L,rfl,hs,q⟩:=h;have ndT:∀{H':Hp} {a:Addr} {o:List V},LS K L d H'->H' a=some (.tup o)->a≠d:=λ{H' a o} s e z=>by
  obtain ⟨_,_,_,e2,_⟩:=s.ex;rw[<-z,e]at e2;cases e2
 have ndL:∀{H':Hp} {a:Addr} {o:List V},LS K L d H'->H' a=some (.lst o)->a≠d:=λ{H' a o} s e z=>by
  obtain ⟨_,_,_,e2,_⟩:=s.ex;rw[<-z,e]at e2;cases e2
 refine #[_,(aK (oj (aB (bw (K:=K)) (cy (aa (cX (aa ag (aa ag ae))) (aa (cX (aa ag (aa ag ae))) (aa (cX (aa ag (aa ag ae))) (aa (cX (aa ag (aa ag ae))) ae))))) (ax cn hr (aa (pv 0) (aa ag ae))) (λ_ _=>rfl)) (i8 rfl (c7 (aP (i:=1) qC.nd rfl (au rfl)) (c7 (aP (i:=2) qC.nd rfl (au rfl)) fP))))
   (aK (aL (i:=3) qC.nd rfl (au rfl) (ax NK hr (aa (pv 0) (aa (pv 1) ae))))
   (aw (aE (cX (aa (pv 3) (aa (ax NL hr (aa (pv 0) (aa (aT (bJ (K:=K)) rfl T.bG bF (aa (pv 3) ae)) (aa (pv 2) ae)))) ae))))))),?_]
 refine #[(by show 2<=sizeLine;decide),λa1 ha1=>?_];have e1:=aJ ha1 (.tup [.int 8,.int 6]);have f1:upd H a1 (.tup [.int 8,.int 6]) a1=some (.tup [.int 8,.int 6]):=ah;generalize upd H a1 (.tup [.int 8,.int 6])=G1 at e1 f1 ⊢;refine #[(by show 2<=sizeLine;decide),λa2 ha2=>?_];have e2:=aJ ha2 (.tup [.int 8,.int 6]);have f2:upd G1 a2 (.tup [.int 8,.int 6]) a2=some (.tup [.int 8,.int 6]):=ah;generalize upd G1 a2 (.tup [.int 8,.int 6])=G2 at e2 f2 ⊢;refine #[(by show 2<=sizeLine;decide),λa3 ha3=>?_];have e3:=aJ ha3 (.tup [.int 3,.int 20]);have f3:upd G2 a3 (.tup [.int 3,.int 20]) a3=some (.tup [.int 3,.int 20]):=ah;generalize upd G2 a3 (.tup [.int 3,.int 20])=G3 at e3 f3 ⊢;refine #[(by show 2<=sizeLine;decide),λa4 ha4=>?_];have e4:=aJ ha4 (.tup [.int 16,.int 3]);have f4:upd G3 a4 (.tup [.int 16,.int 3]) a4=some (.tup [.int 16,.int 3]):=ah;generalize upd G3 a4 (.tup [.int 16,.int 3])=G4 at e4 f4 ⊢;refine #[(by show 4<=sizeLine;decide),λl hl=>?_];have e5:=aJ hl (.lst [.ref a1,.ref a2,.ref a3,.ref a4]);have f5:upd G4 l (.lst [.ref a1,.ref a2,.ref a3,.ref a4]) l=some (.lst [.ref a1,.ref a2,.ref a3,.ref a4]):=ah;generalize upd G4 l (.lst [.ref a1,.ref a2,.ref a3,.ref a4])=G5 at e5 f5 ⊢;have s0:Same H G5:=e1.trans (Same.trans e2 (Same.trans e3 (Same.trans e4 e5)));have hs5:=hs.same s0;refine #[_,rfl,d,L,4,rfl,by decide,hs5,λv H1 v0 v4 k1 s1=>?_];obtain ⟨x,m,n,hat,htup,hm0,hm1,hn1,hmn⟩:∃(x:Addr) (m n:Nat),atI [V.ref a1,V.ref a2,V.ref a3,V.ref a4] v=some (.ref x)/\H1 x=some (.tup [.int (m:Int),.int (n:Int)])/\0<m/\m<=24/\n<=30/\m*n<=60:=by
  have z:v=0\/v=1\/v=2\/v=3:=by lia
  have g1:=Same.trans e2 (Same.trans e3 (Same.trans e4 e5)) _ _ f1;have g2:=Same.trans e3 (Same.trans e4 e5) _ _ f2;have g3:=Same.trans e4 e5 _ _ f3;have g4:=e5 _ _ f4;rcases z with rfl|rfl|rfl|rfl
  .exact #[a1,8,6,rfl,k1 _ _ (ndT hs5 g1) g1,by decide,by decide,by decide,by decide]
  .exact #[a2,8,6,rfl,k1 _ _ (ndT hs5 g2) g2,by decide,by decide,by decide,by decide]
  .exact #[a3,3,20,rfl,k1 _ _ (ndT hs5 g3) g3,by decide,by decide,by decide,by decide]
  .exact #[a4,16,3,rfl,k1 _ _ (ndT hs5 g4) g4,by decide,by decide,by decide,by decide]
 have k01:Keep d H H1:=λb o nb e=>k1 _ _ nb (s0 _ _ e);refine #[_,_,_,_,rfl,rfl,SqL.of (k1 _ _ (ndL hs5 f5) f5),hat,?_];refine #[x,_,rfl,SqT.of htup,rfl,_,_,rfl,_,_,rfl,rfl,?_];clear hat htup f5 f4 f3 f2 f1 e1 e2 e3 e4 e5 k1 hs5 s0;refine #[_,rfl,_,rfl,d,L,m,rfl,by lia,s1,λt ps H2 ht hT hpl h2 k2 s2=>?_];refine #[_,rfl,_,rfl,_,rfl,_,_,rfl,.inr (SqT.of h2),_,rfl,d,L,(b8 ps).length,n,rfl,by rw[ck];lia,by lia,s2,λr as OF H3 hr3 hA hrl hR hf h3 k3 s3=>?_];rw[ck]at hrl;refine #[(by show 2<=sizeLine;decide),λst hst=>?_];have ss:=aJ hst (.tup [.ref t,.ref r]);have hk:=Dy hf;have hkk:OF.length*n<=m*n:=Nat.mul_le_mul_right n (by lia);exact q st ps OF t r as _ #[ah,ss _ _ (k3 _ _ (ndT s2 h2) h2),ss _ _ h3,hA.ext ss,hrl,hT,hR,by lia,by lia] (λb o nb e=>ss _ _ (k3 _ _ nb (k2 _ _ nb (k01 _ _ nb e)))) (s3.same ss)
def LD {us:List Nat}{c ch:Nat}(h:f6 ps (us++[c]))(hp:par ps ch=some c):f6 ps ((us++[c])++[ch]):=JT h λ_=>by
 rw[hp,bB,dj,jI,aF,gi (av _),lI];rfl
inductive wO (K:Frag)(vs:List V)(H:Hp)(Q:VK)(w_1:XK):Prop
 | c:∀(d L t:Addr) (ps:List Nat),vs=[.ref d,.ref t]->H t=some (.tup (b8 ps))->bf ps->ps.length<=40->LS K L d H->(∀(wa:Addr) (w:List Nat) (H':Hp),H wa=none->cK H' wa ps w->Keep d H H'->LS K L d H'->Q (.ref wa) H')->wO K vs H Q w_1
def LF (T:Txt K mg)(yG:DF K mg "_law_way" qg rL)(cn:FC P w K mg base 2 "_law_take" eW (fq K))(Ey:FC P w K mg base 1 "_law_children" rK (kT K)):FC P w K mg base 3 "_law_way" rL (wO K):=by
 refine yG.ok qB (λvs H Q E h=>?_) (λf cdv A outer s H vs Q E hr h=>?_)
 .obtain ⟨d,L,t,ps,rfl,_⟩:=h;rfl
 obtain ⟨d,L,t,ps,rfl,ht,hT,hl,hs,q⟩:=h;have ndT:∀{H':Hp} {a:Addr} {o:List V},LS K L d H'->H' a=some (.tup o)->a≠d:=λ{H' a o} s e z=>by
  obtain ⟨_,_,_,e2,_⟩:=s.ex;rw[<-z,e]at e2;cases e2
 have nd:∀{H':Hp} {a:Addr},LS K L d H'->H' a=none->a≠d:=λ{H' a} s e z=>by
  obtain ⟨_,_,_,e2,_⟩:=s.ex;rw[<-z,e]at e2;cases e2
 have free:∀{H':Hp} {a:Addr},Keep d H H'->LS K L d H'->H' a=none->H a=none:=λ{H' a} k s e=>by
  cases e2:H a with
  | none=>rfl
  | some o=>
   have:=k _ _ (nd s e) e2;rw[e]at this;cases this
 refine #[_,(aK (aL (i:=2) qB.nd rfl (au rfl) (cy (aa (ax cn hr (aa (pv 0) (aa (aT (bJ (K:=K)) rfl T.bG bF (aa (pv 1) ae)) ae))) ae)))
   (c8 (bu (aX dr (ax cn hr (aa (pv 0) (aa ag ae))) ag (aS _)) (aw (aL (i:=2) qB.nd rfl (au rfl) (cy (aa ag ae)))) bz)
   (aK (uk PassesOwn.never (PW.pt (jR (aX (dN (List Int) (huD hr)) (ax Ey hr (aa (pv 1) (aa (aB (bw (K:=K)) (pv 2) (gy gA ag) (λ_ _=>rfl)) ae))) (cy ae) (aS _)) (jQ (aX i9 (ax cn hr (aa (pv 0) (aa ag ae))) ag (aS _))))) (aK (aL (i:=3) qB.nd rfl (au rfl) (ax Ey hr (aa (pv 1) (aa (aB (bw (K:=K)) (pv 2) (gy gA ag) (λ_ _=>rfl)) ae))))
   (aw (dB (d5 F.plainAttrs_list F.slot_list_append F.type_list_append eJ (pv 2) (aa (aB (bw (K:=K)) (pv 3) (ax cn hr (aa (pv 0) (aa (aT (bJ (K:=K)) rfl T.bG bF (aa (pv 3) ae)) ae))) (λ_ _=>rfl)) ae))))))
   (aw (aE (pv 2)))))),?_]
 refine #[_,rfl,_,rfl,_,_,rfl,.inr (SqT.of ht),d,L,_,rfl,by rw[ck];lia,hs,λv H1 v0 v1 k1 s1=>?_];rw[ck]at v1;obtain ⟨k0,rfl⟩:=mU v0;refine #[(by show 1<=sizeLine;decide),λp hp=>?_];have sp:=aJ hp (.lst [nV k0]);have hpp:upd H1 p (.lst [nV k0]) p=some (.lst [nV k0]):=ah;have s1p:=s1.same sp;have k1p:Keep d H (upd H1 p (.lst [nV k0])):=λb o nb e=>sp _ _ (k1 _ _ nb e);have hp0:=free k1 s1 hp;generalize upd H1 p (.lst [nV k0])=H2 at hpp s1p k1p ⊢;refine #[λU' H'=>∃(p:Addr) (k0:Nat),U'=[some (.ref d),some (.ref t),some (.ref p),none]/\H' p=some (.lst [nV k0])/\k0<ps.length+1/\H p=none/\Keep d H H'/\LS K L d H',?_,?_]
 .refine #[_,rfl,d,L,2,rfl,by decide,s1p,λv H3 _ _ k3 s3=>#[rfl,_,rfl,?_]];have hpd:p≠d:=nd s1 hp;have k03:Keep d H H3:=λb o nb e=>k3 _ _ nb (k1p _ _ nb e);refine ite2 (λ_=>?_) (λ_=>?_)
  .refine #[(by show 1<=sizeLine;decide),λu hu=>?_];have su:=aJ hu (.lst [nV 0]);exact #[u,0,rfl,ah,by lia,free k03 s3 hu,λb o nb e=>su _ _ (k03 _ _ nb e),s3.same su]
  .exact #[p,k0,rfl,k3 _ _ hpd hpp,by lia,hp0,k03,s3]
 clear hpp s1p k1p hp0 sp hp k1 s1;rintro U' H3 ⟨p,k0,rfl,h3,hk0,hp,k3,s3⟩;have hpd:p≠d:=nd hs hp;have htp:t≠p:=aq ht hp;have htd:=ndT hs ht;refine Bm (λU HW=>∃(us:List Nat) (c:Nat) (x3:Option V),U=[some (.ref d),some (.ref t),some (.ref p),x3]/\HW p=some (.lst ((us++[c]).map nV))/\us.length<=c/\c<ps.length+1/\f6 ps (us++[c])/\(∀ x∈us++[c],x<ps.length+1)/\(∀ b o,b≠d->b≠p->H b=some o->HW b=some o)/\LS K L d HW)
  (λU HW=>∃(w:List Nat) (x3:Option V),U=[some (.ref d),some (.ref t),some (.ref p),x3]/\cK HW p ps w/\(∀ b o,b≠d->b≠p->H b=some o->HW b=some o)/\LS K L d HW)
  (λ_ H2=>match H2 p with|some (.lst xs)=>1000-xs.length|_=>0) ?_ ?_ ?_ ?_
 .refine #[[],k0,_,rfl,h3,cS _,hk0,λt ht=>?_,λx hx=>?_,λb o nb _ e=>k3 _ _ nb e,s3]
  .rw[List.nil_append,dj]at ht;lia
  .rw[a0.mp hx];exact hk0
 .rintro U HW ⟨us,c,x3,rfl,hw,hul,hc,hch,hkn,kw,sw⟩;have hwt:=kw _ _ htd htp ht;have done:∀{HX:Hp} {x3:Option V},(∀ b o,b≠d->HW b=some o->HX b=some o)->LS K L d HX->∃(w:List Nat) (x3':Option V),[some (V.ref d),some (.ref t),some (.ref p),x3]=[some (.ref d),some (.ref t),some (.ref p),x3']/\cK HX p ps w/\(∀ b o,b≠d->b≠p->H b=some o->HX b=some o)/\LS K L d HX:=λ{HX x3} k s=>
   #[us++[c],x3,rfl,#[k _ _ hpd hw,by rw[bB,dj];lia,by simp,hch,hkn],λb o n1 n2 e=>k _ _ n1 (kw _ _ n1 n2 e),s]
  refine #[_,rfl,_,rfl,_,rfl,_,_,_,_,rfl,rfl,SqL.of hw,DG,t,ps,c,rfl,hwt,by lia,λcl HX hcl sx hx=>?_];refine #[(by show 0<=sizeLine;decide),λe he=>?_];have se:=aJ he (.lst []);have sxe:=sx.trans se;have swe:=sw.same sxe;refine #[(bN ps c (ps.length+1)).map (λn:Nat=>(n:Int)),[],#[_,_,rfl,SqL.of (se _ _ hx),Kb],#[_,_,rfl,SqL.of ah,.nil],_,rfl,?_];generalize upd HX e (.lst [])=HE at sxe swe ⊢;refine ite2 (λcne=>?_) (λ_=>?_)
  .refine #[_,rfl,d,L,6,rfl,by decide,swe,λv H4 _ _ k4 s4=>?_];have k04:∀ b o,b≠d->HW b=some o->H4 b=some o:=λb o nb e=>k4 _ _ nb (sxe _ _ e);refine #[_,_,rfl,rfl,_,rfl,?_];refine ite2 (λ_=>?_) (λ_=>?_)
   .have h4:=k04 _ _ hpd hw;have h4t:=k04 _ _ htd hwt;refine #[_,rfl,_,rfl,_,rfl,_,_,_,_,rfl,rfl,SqL.of h4,DG,t,ps,c,rfl,h4t,by lia,λc2 H5 hc2 s5 h5=>?_];have hcne:bN ps c (ps.length+1)≠[]:=λz=>by
     rw[z]at cne;cases cne
    have hcmem:=λm=>cY (ps:=ps) (k:=c) (n:=ps.length+1) (j:=m);have hcl:=iC ps c (ps.length+1);generalize bN ps c (ps.length+1)=cs at hcne h5 hcmem hcl;have hpos:0<cs.length:=lN.mpr hcne;have h5p:=s5 _ _ h4;have s45:=s4.same s5;refine #[_,rfl,.inl #[rfl,_,SqL.of h5p],_,rfl,_,rfl,_,rfl,_,_,rfl,.inl (SqL.of h5),d,L,_,rfl,by rw[af];lia,s45,λv2 H6 v20 v21 k6 s6=>?_];rw[af]at v21;obtain ⟨j,rfl⟩:=mU v20;have hj:j<cs.length:=by lia
    have h6:=k6 _ _ hpd h5p;have hc2d:c2≠d:=nd s4 hc2;refine #[_,_,_,_,rfl,rfl,SqL.of (k6 _ _ hc2d h5),eL hj,?_];have hm:cs.getD j 0∈cs:=by
     rw[aF,aD hj];exact cJ hj
    generalize cs.getD j 0=ch at hm ⊢;obtain ⟨hchn,hchp⟩:=(hcmem ch).mp hm;have hlt:=(bM hT hchp).1;refine #[_,_,_,rfl,rfl,h6,aW (by rw[af,bB,dj];lia),?_];have k06:∀ b o,b≠d->HW b=some o->H6 b=some o:=λb o nb e=>k6 _ _ nb (s5 _ _ (k04 _ _ nb e));refine #[#[us++[c],ch,_,rfl,?_,?_,hchn,?_,?_,λb o n1 n2 e=>?_,?_],?_]
    .rw[ah,aN (l₂:=[ch])];rfl
    .rw[bB,dj];lia
    .exact LD hch hchp
    .intro x hx;rcases bO.mp hx with z|z
     .exact hkn x z
     .rw[a0.mp z];exact hchn
    .rw[ak n2];exact k06 _ _ n1 (kw _ _ n1 n2 e)
    .exact LS.put hs hp (λb o n1 n2 e=>k06 _ _ n1 (kw _ _ n1 n2 e)) s6
    .show (match upd H6 p _ p with|some (.lst xs)=>1000-xs.length|_=>0)<(match HW p with|some (.lst xs)=>1000-xs.length|_=>0)
     rw[ah,hw];show 1000-(((us++[c]).map nV)++[nV ch]).length<1000-((us++[c]).map nV).length;rw[bB,af,bB,dj,dj];lia
   .exact done k04 s4
  .refine iteF ?_;exact done (λb o _ e=>sxe _ _ e) swe
 .refine GY (λU H Q Q' m h=>?_) (λU H Q Q' m h=>?_)
  .obtain ⟨y1,e1,y2,e2,y3,e3,y4,y5,y6,y7,e4,e5,e6,e7,t,ps,k,e8,e9,e10,q⟩:=h;refine #[y1,e1,y2,e2,y3,e3,y4,y5,y6,y7,e4,e5,e6,e7,t,ps,k,e8,e9,e10,λp H' a1 a2 a3=>?_];obtain ⟨z1,z2⟩:=q p H' a1 a2 a3;refine #[z1,λe he=>?_];obtain ⟨as,bs,g1,g2,b,g3,q⟩:=z2 e he;exact #[as,bs,g1,g2,b,g3,m _ _ q]
  .obtain ⟨y1,e1,d,L,z,e2,e3,e4,q⟩:=h;refine #[y1,e1,d,L,z,e2,e3,e4,λv H' a1 a2 a3 a4=>?_];obtain ⟨i,j,g1,g2,b,g3,q⟩:=q v H' a1 a2 a3 a4;exact #[i,j,g1,g2,b,g3,m _ _ q]
 rintro U HW ⟨w,x3,rfl,W,kw,sw⟩;refine #[_,rfl,?_];exact q p w HW hp W (λb o nb e=>kw _ _ nb (aq e hp) e) sw
inductive wQ (K:Frag)(vs:List V)(H:Hp)(Q:VK)(w_1:XK):Prop
 | c:∀(d L st:Addr) (ps:List Nat) (OF:List (List Int)) (t rs:Addr) (as:List Addr),vs=[.ref d,.ref st]->bR H st ps OF t rs as->LS K L d H->(∀(key:Int) (H':Hp),Keep d H H'->LS K L d H'->Q (.int key) H')->wQ K vs H Q w_1
def LG (T:Txt K mg)(yH:DF K mg "_law_asked_key" qi rN)(yI:FC P w K mg base 1 "_law_every" mO (tu K))(cn:FC P w K mg base 2 "_law_take" eW (fq K))(ny:FC P w K mg base 3 "_law_key" kJ (kP K)):FC P w K mg base 4 "_law_asked_key" rN (wQ K):=by
 refine yH.ok vA (λvs H Q E h=>?_) (λf cdv A outer s H vs Q E hr h=>?_)
 .obtain ⟨d,L,st,ps,OF,t,rs,as,rfl,_⟩:=h;rfl
 obtain ⟨d,L,st,ps,OF,t,rs,as,rfl,S,hs,q⟩:=h;have ndT:∀{H':Hp} {a:Addr} {o:List V},LS K L d H'->H' a=some (.tup o)->a≠d:=λ{H' a o} s e z=>by
  obtain ⟨_,_,_,e2,_⟩:=s.ex;rw[<-z,e]at e2;cases e2
 refine #[_,(aK (aL (i:=2) vA.nd rfl (au rfl) (ax yI hr (aa (aB (aR (K:=K)) (pv 1) ag (λ_ _=>rfl)) ae)))
   (c8 (bu (PW.pt (fO (aX (uM (List Int) (huD hr)) (pv 2) (cy ae) (aS _)) (fN (aX dr (ax cn hr (aa (pv 0) (aa ag ae))) ag (aS _))))) (aw (aE (ax ny hr (aa (pv 0) ae)))) bz)
   (aK (aL (i:=3) vA.nd rfl (au rfl) (aG cF (aG cf (aB (bw (K:=K)) (pv 2) (ax cn hr (aa (pv 0) (aa (aT (bJ (K:=K)) rfl T.bG bF (aa (pv 2) ae)) ae))) (λ_ _=>rfl)) (ax cn hr (aa (pv 0) (aa ag ae)))) ag))
   (aw (aE (aT (lV rfl) rfl T.lz boot_max (aa (aG cF ag (aG fS ag ag)) (aa (aT (z8 rfl) rfl T.xM boot_min (aa (aG cF (aG fS ag ag) ag) (aa (pv 3) ae))) ae)))))))),?_]
 refine #[_,rfl,_,_,_,_,rfl,rfl,SqT.of S.st,rfl,rs,as,OF,rfl,S.rs,S.at_,by have:=S.keys;lia,λp H1 s1 h1 hp=>?_];have hs1:=hs.same s1;have hpd:p≠d:=λz=>by
  obtain ⟨_,_,_,e2,_⟩:=hs.ex;rw[<-z,hp]at e2;cases e2
 have hfl:=wM OF;have hkeys:=S.keys;generalize OF.flatten=fl at h1 hfl;refine #[λU' H'=>U'=[some (.ref d),some (.ref st),some (.ref p),none]/\H' p=some (.lst (fl.map V.int))/\fl≠[]/\Keep d H H'/\LS K L d H',?_,?_]
 .refine #[_,rfl,(by show 0<=sizeLine;decide),λe he=>?_];have se:=aJ he (.lst []);refine #[fl,[],#[_,_,rfl,SqL.of (se _ _ h1),aI.ints],#[_,_,rfl,SqL.of ah,.nil],_,rfl,?_];have h2:=se _ _ h1;have s2:=hs1.same se;have k2:Keep d H (upd H1 e (.lst [])):=λb o _ z=>se _ _ (s1 _ _ z);generalize upd H1 e (.lst [])=H2 at h2 s2 k2 ⊢;have ret:∀{H3:Hp},Keep d H H3->LS K L d H3->kP K [.ref d] H3 Q E0:=λ{H3} k s=>#[d,L,rfl,s,λv H' _ _ k' s'=>q v H' (λb o nb z=>k' _ _ nb (k _ _ nb z)) s'];refine ite2 (λ_=>?_) (λc=>?_)
  .refine iteT ?_;exact #[_,rfl,ret k2 s2]
  .have hne:fl≠[]:=λz=>c (aU z);refine #[_,rfl,d,L,4,rfl,by decide,s2,λv H3 _ _ k3 s3=>#[rfl,_,rfl,?_]];have k03:Keep d H H3:=λb o nb z=>k3 _ _ nb (k2 _ _ nb z);refine ite2 (λ_=>?_) (λ_=>?_)
   .exact #[_,rfl,ret k03 s3]
   .exact #[rfl,k3 _ _ hpd h2,hne,k03,s3]
 rintro U' H2 ⟨rfl,h2,hne,k2,s2⟩;have hpos:0<fl.length:=lN.mpr hne;refine #[_,rfl,_,rfl,_,rfl,_,_,rfl,.inl (SqL.of h2),d,L,_,rfl,by rw[af];lia,s2,λv H3 v0 v1 k3 s3=>?_];rw[af]at v1;obtain ⟨j,rfl⟩:=mU v0;have hat:atI (fl.map V.int) (j:Int)=some (.int (fl.getD j 0)):=cL (by rw[aQ,aD (show j<fl.length by lia),aF,aD (show j<fl.length by lia)];rfl);refine #[_,_,_,_,rfl,rfl,SqL.of (k3 _ _ hpd h2),hat,_,rfl,d,L,3,rfl,by decide,s3,λv2 H4 _ _ k4 s4=>?_];refine #[_,_,rfl,rfl,_,_,rfl,rfl,?_];refine #[_,_,rfl,rfl,#[by decide,by decide,by decide],_,_,rfl,rfl,_,_,rfl,rfl,#[by decide,by decide,by decide],_,_,rfl,rfl,_,rfl,_,_,rfl,_,_,rfl,?_];exact q _ _ (λb o nb e=>k4 _ _ nb (k3 _ _ nb (k2 _ _ nb e))) s4
abbrev DO:Str:=(envOfC ("search_for_key" : Str) (aH ka) 0 0 .none).qual ++ "<lambda>"
abbrev DP:Pos:=#[234,48,234,89]
structure TabS (mF mS:Addr)(H:Hp):Prop where
 f:bp H mF ju jt
 s:bp H mS DP DO
 n:mF≠mS
def TabS.ext (x:TabS mF mS H)(e:Ext H H'):TabS mF mS H':=#[x.f.ext e,x.s.ext e,x.n]
def LH {bs:Heap}{g c' pf:Addr}{key:Int}{qs:List Addr}{nm:List Str}{qn:Str}(hV:FV P w K mg bs 2 g nm (jg 2 (tOp (rI0 λi j=>.bl (decide (i<j))) (tOp (rIxT K) (tOp (rIxL K) (tOp (rIxL K) (tVar 3) (tVar 0)) (tVar 1)) (tC (.int 0))) (tVar 2)) [.int key,.ref pf] c' qn))(hC:ip H4 c' qn)(t4:bp H4 mF ju jt)(h4:H4 pf=some (.lst (qs.map V.ref)))(hF4:bS K H4 ps OF (List.range (ps.length+1)) qs):AskF P w K mg bs g [] mF (λb=>b≠mF/\H4 b≠none) (λ_ H'=>Gro mF H4 H') ps OF key:=by
 have nm1:∀{x:Addr} {o:HO},H4 x=some o->(∀ tab,o≠.tbl tab)->x≠mF:=λ{x o} e n z=>by
  obtain ⟨tab,e2⟩:=cR t4;rw[<-z,e]at e2;exact n _ (aV e2)
 refine #[λL Ha Hb hR hk b o n e=>hk b o #[n,by rw[e];exact λz=>nomatch z] (hR b o n e),λL Ha b hR hb=>?_,λL Ha hR a ha=>absurd ha dq,λz=>z.1 rfl,_,_,hV,λkn i L Ha Q hkn hi _ hR hQ=>#[rfl,hR _ _ (nm1 hC nofun) hC,?_]]
 .cases e:H4 b with
  | none=>exact absurd e hb.2
  | some o=>
   rw[hR b o hb.1 e];exact λz=>nomatch z
 .obtain ⟨qk,hqk,wk,hwk,hak⟩:=iJ hF4 hkn;have hge:(ay ps OF kn)[i]?=some ((ay ps OF kn).getD i (0,0)):=by
   rw[aF,aD hi];rfl
  obtain ⟨v,hv,bb,x1,x2,rfl,hb,e1,e2⟩:∃ v,wk[i]?=some v/\hasP K H4 ((ay ps OF kn).getD i (0,0)) v:=eO hak hge;have e1':x1=.int ((ay ps OF kn).getD i (0,0)).1:=e1;subst e1';have ha:=hR _ _ (nm1 h4 nofun) h4;have hwa:=hR _ _ (nm1 hwk nofun) hwk;have hba:=hR _ _ (nm1 hb nofun) hb;refine #[_,rfl,_,rfl,_,_,_,_,rfl,rfl,SqL.of ha,cL (v:=.ref qk) (by rw[aQ,hqk];rfl),_,rfl,_,_,_,_,rfl,rfl,SqL.of hwa,cL hv,_,_,_,_,rfl,rfl,SqT.of hba,rfl,_,rfl,_,_,rfl,rfl,?_];exact hQ _ hR λ_ _ _ h=>h
def Kp2 (mF mS:Addr)(H H':Hp):Prop:=∀ b o,b≠mF->b≠mS->H b=some o->H' b=some o
def Kp2.kp0 (k:Kp2 mF mS H H')(x:TabS mF mS H):Kp0 H H':=λb o n e=>k b o (λz=>by
 obtain ⟨tab,e2⟩:=cR x.f;rw[<-z,e]at e2;exact n _ (aV e2)) (λz=>by
 obtain ⟨tab,e2⟩:=cR x.s;rw[<-z,e]at e2;exact n _ (aV e2)) e
inductive wR (K:Frag)(mF mS:Addr)(vs:List V)(H:Hp)(Q:VK)(w_1:XK):Prop
 | c:∀(st t rs pf wa:Addr) (key:Int) (ps:List Nat) (OF:List (List Int)) (as qs:List Addr) (wy:List Nat),vs=[.ref t,.ref pf,.ref wa,.int key]->bR H st ps OF t rs as->H pf=some (.lst (qs.map V.ref))->bS K H ps OF (List.range (ps.length+1)) qs->cK H wa ps wy->TabS mF mS H->(∀(D:Addr) (zs:List V) (H':Hp),H D=none->Kp2 mF mS H H'->TabS mF mS H'->H' D=some (.lst zs)->aI K H' (wy.map λk=>(((aM (ay ps OF k) key:Nat):Int),((ownB OF k key:Nat):Int))) zs->Q (.ref D) H')->wR K mF mS vs H Q w_1
def LI (T:Txt K mg){mc mp:Addr}(tP:DFT K mg "search_for_key" ka rA mc mp)(hBM:BMAt mg base)(yJ:FC P w K mg base 2 "bridges_of" mJ (sV K))(NM:∀ b,Sub K mg base b->FC P w K mg b 6 "search" rq (wL P w K mg b mF)):FC P w K mg base 7 "search_for_key" rA (wR K mF mp):=by
 refine tP.ok IW (λvs H Q E h=>?_) (λf A outer s H vs Q E hr h=>?_)
 .obtain ⟨st,t,rs,pf,wa,key,ps,OF,as,qs,wy,rfl,_⟩:=h;rfl
 obtain ⟨st,t,rs,pf,wa,key,ps,OF,as,qs,wy,rfl,S,hpf,hF,W,TT,q⟩:=h;refine #[_,(aw (aE (HU (kf:=1) NM hr (ax yJ hr (aa (pv 0) (aa (pv 1) ae))) (pv 2) (oF (osc:=aH ka) (N:=["tree","fulls","way","key"]) (ps:=["knot","at"]) (caps:=["key","fulls"]) (cap:=[3,1]) #[rfl,rfl,rfl,by decide +kernel,by decide +kernel,by decide +kernel,by decide +kernel] (by decide +kernel) (by decide +kernel) rfl rfl rfl rfl (λ_ _ _ _ us hl=>match us,hl with|[_,_],_=>rfl) (λ_=>rfl)) rfl tP.hd hBM (λb _ _ _ _ _ _ _ S hr=>(d3 eG (aB (aR (K:=K)) (aB (bw (K:=K)) (aB (bw (K:=K)) (pv 3) (pv 0) (λ_ _=>rfl)) (pv 1) (λ_ _=>rfl)) ag (λ_ _=>rfl)) (pv 2) (aS _)))))),?_]
 refine #[_,rfl,_,rfl,st,ps,OF,t,rs,as,pf,qs,rfl,S,hpf,hF,λbr xs H3 hbr s3 h3 hB=>?_];have T3:=TT.ext s3.ext;refine #[_,rfl,T3.s,[.int key,.ref pf],rfl,?_,λbs g c' H4 hg hT4 hC SB hV=>?_]
 .intro j i v h1 h2;rcases j with _|_|j
  .cases h1;cases h2;rfl
  .cases h1;cases h2;rfl
  .cases h1
 have nmS:∀{x:Addr} {o:HO},H3 x=some o->(∀ tab,o≠.tbl tab)->x≠mp:=λ{x o} e n z=>by
  obtain ⟨tab,e2⟩:=cR T3.s;rw[<-z,e]at e2;exact n _ (aV e2)
 have k34:Kp0 H3 H4:=λb o n e=>hg _ _ (nmS e n) e;have t4:bp H4 mF ju jt:=T3.f.gro hg T3.n (cR T3.s);have nm1:∀{x:Addr} {o:HO},H4 x=some o->(∀ tab,o≠.tbl tab)->x≠mF:=λ{x o} e n z=>by
  obtain ⟨tab,e2⟩:=cR t4;rw[<-z,e]at e2;exact n _ (aV e2)
 have kp04:Kp0 H H4:=Kp0.trans (.of s3) k34;have h4:=kp04.lst hpf;have hF4:=DK kp04 hF;have AF:=LH hV hC t4 h4 hF4;have SE:cP [] mF (λ_ H'=>Gro mF H4 H') ps OF br xs [] H4:=#[Gro.refl _ _,λa ha=>absurd ha dq,k34.lst h3,dq,DL k34 hB,t4];refine #[br,wa,g,xs,ps,OF,wy,key,[],_,_,[],rfl,AF,SE,S.T,S.R,S.few,m4 kp04 W,dq,cS _,(λk hk=>by have:=kW S.T S.len (OF:=OF) hk;have:=S.keys;lia),λD zs H5 L' S5 k5 hDn h5 hA _=>?_];have k45:Gro mF H4 H5:=λb o n e=>k5 b o dq n e;have kp45:Kp0 H4 H5:=λb o n e=>k45 _ _ (nm1 e n) e;refine q D zs H5 ?_ (λb o n1 n2 e=>k45 _ _ n1 (hg _ _ n2 (s3 _ _ e))) #[S5.tb,hT4.gro k45 (bE TT.n) (cR t4),TT.n] h5 hA;cases e:H D with
 | none=>rfl
 | some o=>
  by_cases z:D=mp
  .obtain ⟨tab,e2⟩:=cR hT4;rw[z,e2]at hDn;cases hDn
  .have:=hg _ _ z (s3 _ _ e);rw[hDn]at this;cases this
def jv (H:Hp)(ps:List Nat)(OF:List (List Int))(key:Int)(k:Nat)(z:V):Prop:=∃ t,z=.ref t/\H t=some (.tup [.int (k:Nat),.int ((aM (ay ps OF k) key:Nat):Int),.int ((ownB OF k key:Nat):Int)])
inductive tw (K:Frag)(mF mS:Addr)(vs:List V)(H:Hp)(Q:VK)(w_1:XK):Prop
 | c:∀(st wa:Addr) (key:Int) (ps:List Nat) (OF:List (List Int)) (t rs:Addr) (as:List Addr) (wy:List Nat),vs=[.ref st,.ref wa,.int key]->bR H st ps OF t rs as->cK H wa ps wy->TabS mF mS H->(∀(D:Addr) (zs:List V) (H':Hp),H D=none->Kp2 mF mS H H'->TabS mF mS H'->H' D=some (.lst zs)->Paired (jv H' ps OF key) wy zs->Q (.ref D) H')->tw K mF mS vs H Q w_1
def LJ {K:Frag}{D D2:Addr}{zs:List V}{y0 y1:Option V}{Q:Hp->Prop}(W2:cK H2 wa ps wy)(h2:H2 D=some (.lst zs))(hA:aI K H2 (wy.map λk=>(((aM (ay ps OF k) key:Nat):Int),((ownB OF k key:Nat):Int))) zs)(hD2:H2 D2=none)(q:∀ us H3,Same H2 H3->H3 D2=some (.lst us)->Paired (jv H3 ps OF key) wy us->Q H3) :
  ∃ W:Nat->Nat->L2.St->Hp->Prop,(∃ m,W 0 m [y0,y1] (upd H2 D2 (.lst [])))/\∀ i m U H,W i m U H->((Itz K wa D).stop i H/\Q H)\/((Itz K wa D).go i H/\∀ x H',(Itz K wa D).yld i H x H'->gTup K 2 (oi (gX 0) (oi (gX 1) gNil)) x U H' λU2 H2=>tYes U2 H2 λb H3=>if b=true then tTup (ox (tVar 0) (ox (tOp (rIxT K) (tVar 1) (tC (.int 0))) (ox (tOp (rIxT K) (tVar 1) (tC (.int 1))) tNil))) U2 H3 λy H4=>∃ xs,H4 D2=some (.lst xs)/\xs.length<sizeLine/\∃ m',m'<m/\W (i+1) m' U2 (upd H4 D2 (.lst (xs++[y]))) else ∃ m',m'<m/\W (i+1) m' U2 H3):=by
 have hwl:=W2.len;have hzl:=hA.length;rw[af]at hzl;refine uW (xs:=wy.map nV) (ys:=zs) (by rw[af];exact hzl) (λi U H3=>∃(x0 x1:Option V) (us:List V),U=[x0,x1]/\H3 D2=some (.lst us)/\Paired (jv H3 ps OF key) (wy.take i) us/\But D2 H2 H3) ?_ ?_ ?_ ?_
 .exact #[_,_,[],rfl,ah,.nil,λb o n e=>by rw[ak n];exact e]
 .rintro i U H3 _ ⟨x0,x1,us,rfl,_,_,k3⟩;exact #[k3.sq (SqL.of W2.at_) hD2,k3.sq (SqL.of h2) hD2]
 .rintro i m x y U H3 r hx hy hm ⟨x0,x1,us,rfl,h3,hP,k3⟩ hr;have hi:=(aY.mp hx).1;rw[af]at hi hm;rw[sZ hi]at hx;obtain rfl:=aV hx;have s23:Same H2 H3:=λb o e=>k3 b o (aq e hD2) e;obtain ⟨e,he,hh⟩:=hA.get hy;rw[aQ,aD hi]at he;obtain rfl:=aV he;obtain ⟨a,y1,y2,rfl,ha,e1,e2⟩:=(show hasP K H2 _ y from hh);have e1':y1=.int ((aM (ay ps OF wy[i]) key:Nat):Int):=e1;have e2':y2=.int ((ownB OF wy[i] key:Nat):Int):=e2;subst e1' e2';have hul:=Paired.length hP;rw[bt]at hul;have sr:=aJ hr (.tup [nV (wy.getD i 0),.ref a]);refine #[r,_,rfl,SqT.of ah,rfl,_,_,rfl,_,_,rfl,rfl,?_];have h4a:=sr _ _ (s23 _ _ ha);refine DM (iteT ?_);refine #[_,rfl,_,rfl,_,_,_,_,rfl,rfl,SqT.of h4a,rfl,_,rfl,_,_,_,_,rfl,rfl,SqT.of h4a,rfl,(by show 3<=sizeLine;decide),λp hp=>?_];have eg:wy.getD i 0=wy[i]:=by rw[aF,aD hi];rfl
  have hpp:upd (upd H3 r (.tup [nV (wy.getD i 0),.ref a])) p (.tup [nV (wy.getD i 0),.int ((aM (ay ps OF wy[i]) key:Nat):Int),.int ((ownB OF wy[i] key:Nat):Int)]) p=some (.tup [nV (wy.getD i 0),.int ((aM (ay ps OF wy[i]) key:Nat):Int),.int ((ownB OF wy[i] key:Nat):Int)]):=ah;have s35:=sr.trans (aJ hp (.tup [nV (wy.getD i 0),.int ((aM (ay ps OF wy[i]) key:Nat):Int),.int ((ownB OF wy[i] key:Nat):Int)]));generalize upd (upd H3 r (.tup [nV (wy.getD i 0),.ref a])) p (.tup [nV (wy.getD i 0),.int ((aM (ay ps OF wy[i]) key:Nat):Int),.int ((ownB OF wy[i] key:Nat):Int)])=H5 at hpp s35 ⊢;have h5D:=s35 _ _ h3;have nD:∀{x:Addr} {us:List V},H5 x=some (.tup us)->x≠D2:=λ{x us} h z=>by
   rw[z,h5D]at h;cases h
  refine #[_,h5D,aW (by lia),m-1,by lia,by rw[af];lia,_,_,us++[.ref p],rfl,ah,?_,λb o n e=>by rw[ak n];exact s35 _ _ (k3 b o n e)];rw[cx hi];refine kZ (eh (λ_ _ zq0=>(by obtain ⟨t,e1,e2⟩:=zq0;exact #[t,e1,by rw[ak (nD (s35 _ _ e2))];exact s35 _ _ e2])) hP) #[p,rfl,?_];rw[ak (nD hpp),hpp,eg]
 rintro U H3 ⟨x0,x1,us,rfl,h3,hP,k3⟩;rw[af,bh (av _)]at hP;exact q us H3 (λb o e=>k3 b o (aq e hD2) e) h3 hP
def LK (T:Txt K mg)(yK:DF K mg "paper_of" pU mM)(jA:FC P w K mg base 4 "need_way" jk (lb K))(yL:FC P w K mg base 8 "full_rows" mG (sQ K))(NN:FC P w K mg base 7 "search_for_key" rA (wR K mF mS)):FC P w K mg base 9 "paper_of" mM (tw K mF mS):=by
 refine yK.ok Ck (λvs H Q E h=>?_) (λf cdv A outer s H vs Q E hr h=>?_)
 .obtain ⟨st,wa,key,ps,OF,t,rs,as,wy,rfl,_⟩:=h;rfl
 obtain ⟨st,wa,key,ps,OF,t,rs,as,wy,rfl,S,W,TT,q⟩:=h;refine #[_,(aK (dB (ax jA hr (aa (aB (aR (K:=K)) (pv 0) ag (λ_ _=>rfl)) (aa (pv 1) ae))))
   (aK (aL (i:=3) Ck.nd rfl (au rfl) (ax NN hr (aa (aB (aR (K:=K)) (pv 0) ag (λ_ _=>rfl)) (aa (ax yL hr (aa (pv 0) ae)) (aa (pv 1) (aa (pv 2) ae))))))
   (aw (aE (cg (N:=["knot","each"]) (own:=2) (cap:=[]) rfl (jX rfl T.lA (aa (pv 1) (aa (pv 3) ae))) #[rfl,rfl,rfl,rfl,rfl,rfl] (λ_ _ _ _ _=>(oE (K:=K) (n:=2) rfl (c7 (aP (i:=0) (show List.Nodup (["knot","each"]:List Str) by decide +kernel) rfl (au rfl)) (c7 (aP (i:=1) (show List.Nodup (["knot","each"]:List Str) by decide +kernel) rfl (au rfl)) fP)))) (λ_ _ _ _ _=>bW) (λ_ _ _ _ _=>(cX (aa (pv 0) (aa (aB (aR (K:=K)) (pv 1) ag (λ_ _=>rfl)) (aa (aB (aR (K:=K)) (pv 1) ag (λ_ _=>rfl)) ae)))))))))),?_]
 have hwl:=W.len;refine #[_,rfl,_,_,_,_,rfl,rfl,SqT.of S.st,rfl,_,rfl,t,wa,ps,wy,rfl,S.tr,by have:=S.few;lia,W,?_];refine #[_,rfl,_,_,_,_,rfl,rfl,SqT.of S.st,rfl,_,rfl,st,ps,OF,t,rs,as,rfl,S,λpf qs H1 hpf s1 h1 _ _ _ hF=>?_];refine #[_,rfl,_,rfl,st,t,rs,pf,wa,key,ps,OF,as,qs,wy,rfl,S.same s1,h1,hF,W.same s1,TT.ext s1.ext,λD zs H2 hDn k2 T2 h2 hA=>?_];have kp2':Kp2 mF mS H H2:=λb o n1 n2 e=>k2 b o n1 n2 (s1 _ _ e);have kp2:Kp0 H H2:=kp2'.kp0 TT;have W2:=m4 kp2 W;have hzl:=hA.length;rw[af]at hzl;refine #[_,rfl,_,rfl,wa,D,rfl,#[_,SqL.of W2.at_],#[_,SqL.of h2],λD2 hD2=>?_];refine LJ W2 h2 hA hD2 λus H3 s23 h3 hP=>?_;refine q D2 us H3 ?_ (λb o n1 n2 e=>s23 _ _ (kp2' b o n1 n2 e)) (T2.ext s23.ext) h3 hP;cases e:H D2 with
 | none=>rfl
 | some o=>
  have h:D2≠mF/\D2≠mS:=by
   constructor
   .intro z;obtain ⟨tab,e2⟩:=cR T2.f;rw[<-z,hD2]at e2;cases e2
   .intro z;obtain ⟨tab,e2⟩:=cR T2.s;rw[<-z,hD2]at e2;cases e2
  have:=kp2' _ _ h.1 h.2 e;rw[hD2]at this;cases this
def tD (n:Nat):(List.replicate n true).all id=true:=ff.mpr λ_ hb=>List.eq_of_mem_replicate hb
inductive wU (K:Frag)(vs:List V)(H:Hp)(Q:VK)(w_1:XK):Prop
 | c:∀(u:Addr) (a b c:Int),vs=[.ref u]->H u=some (.tup [.int a,.int b,.int c])->(∀ H',Same H H'->Q (.bl true) H')->wU K vs H Q w_1
def LL (T:Txt K mg)(yM:DF K mg "is_line" pV rB)(nA:FC P w K mg base 1 "is_whole" kz (mX K)):FC P w K mg base 2 "is_line" rB (wU K):=by
 refine yM.ok IX (λvs H Q E h=>?_) (λf cdv A outer s H vs Q E hr h=>?_)
 .obtain ⟨u,a,b,c,rfl,_⟩:=h;rfl
 obtain ⟨u,a,b,c,rfl,hu,q⟩:=h;refine #[_,(c8 (bu (PW.pt (fO (dZ (dM (aT (j3 (K:=K)) rfl T.ly boot_isinstance (aa (pv 0) (aa (jP (v:=.ty "tuple") rfl T.gg boot_tuple rfl) ae))))) (fN (aX hE (aT (bJ (K:=K)) rfl T.bG bF (aa (pv 0) ae)) ag (aS _))))) (aw (aE bV)) bz)
   (aw (aE (aT (l9 rfl) rfl T.nv boot_all (aa (cg (N:=["part"]) (own:=1) (cap:=[]) rfl (fm (pv 0)) #[rfl,rfl,rfl,rfl,rfl,rfl] (λ_ _ _ _ _=>(aP (i:=0) (show List.Nodup (["part"]:List Str) by decide +kernel) rfl (au rfl))) (λ_ _ _ _ _=>bW) (λ_ _ _ _ _=>(ax nA hr (aa (pv 0) ae)))) ae))))),?_]
 refine #[λU' H'=>U'=[some (.ref u)]/\H=H',?_,?_]
 .refine #[_,rfl,_,_,_,_,rfl,.tup hu,GW,_,rfl,?_];refine iteF ?_;refine #[_,rfl,_,_,rfl,.inr (SqT.of hu),rfl,_,rfl,?_];exact cU rfl #[rfl,rfl]
 rintro _ _ ⟨rfl,rfl⟩;refine #[_,rfl,u,rfl,#[_,SqT.of hu],λD hD=>?_];refine ik (xs:=[.int a,.int b,.int c]) (λi U H2=>∃ x0:Option V,U=[x0]/\H2 D=some (.lst ((List.replicate i true).map V.bl))/\But D H H2) ?_ ?_ ?_ ?_
 .exact #[_,rfl,ah,λb o n e=>by rw[ak n];exact e]
 .rintro i U H2 _ ⟨x0,rfl,_,k2⟩;exact SqT.of (k2 _ _ (aq hu hD) hu)
 .rintro i m v U H2 hv hm ⟨x0,rfl,h2,k2⟩;have hi:i<3:=(aY.mp hv).1;have hm3:i+m=3:=hm;obtain ⟨n,rfl⟩:∃ n,v=.int n:=by
   rcases i with _|_|_|i
   .cases hv;exact #[_,rfl]
   .cases hv;exact #[_,rfl]
   .cases hv;exact #[_,rfl]
   .omega
  refine bZ ?_;refine #[_,rfl,_,true,rfl,.int n,_,h2,aW (by rw[af,eF];lia),m-1,by lia,(by show i+1+(m-1)=3;lia),_,rfl,?_,λb o n e=>by rw[ak n];exact k2 b o n e];rw[ah,i4,aN];rfl
 .rintro U H2 ⟨x0,rfl,h2,k2⟩;exact #[D,List.replicate 3 true,rfl,SqL.of h2,q H2 λb o e=>k2 b o (aq e hD) e]
inductive wV (K:Frag)(vs:List V)(H:Hp)(Q:VK)(w_1:XK):Prop
 | c:∀(q:Addr) (key:Int) (ws:List V) (es:List En),vs=[.ref q,nV (aM es key),.int key]->H q=some (.lst ws)->aI K H es ws->Rise es->es.length<=2000->Q (.bl true) H->wV K vs H Q w_1
def LM (T:Txt K mg)(yN:DF K mg "is_place_in" pW rC):FC P w K mg base 1 "is_place_in" rC (wV K):=by
 refine yN.ok IY (λvs H Q E h=>?_) (λf cdv A outer s H vs Q E hr h=>?_)
 .obtain ⟨q,key,ws,es,rfl,_⟩:=h;rfl
 obtain ⟨q,key,ws,es,rfl,hq,hw,hr',hz,Q0⟩:=h;refine #[_,(c8 (bu (dZ (Fj lT lT ag (pv 1) (aT (bJ (K:=K)) rfl T.bG bF (aa (pv 0) ae)))) (aw (aE bV)) bz)
   (c8 (bu (PW.pt (jR (aX i9 (pv 1) ag (aS _)) (jQ (aX lU (aB (aR (K:=K)) (aB (bw (K:=K)) (pv 0) (aG cF (pv 1) ag) (λ_ _=>rfl)) ag (λ_ _=>rfl)) (pv 2) (aS _))))) (aw (aE bV)) bz)
   (aw (aE (zL (d3 dr (pv 1) (aT (bJ (K:=K)) rfl T.bG bF (aa (pv 0) ae)) (aS _)) (jS (d3 lU (aB (aR (K:=K)) (aB (bw (K:=K)) (pv 0) (pv 1) (λ_ _=>rfl)) ag (λ_ _=>rfl)) (pv 2) (aS _)))))))),?_]
 have wl:=hw.length;have hle:=iI es key;have hget:∀ i,i<es.length->∃ b x y,ws[i]?=some (.ref b)/\H b=some (.tup [.int x,y])/\(x<key↔i<aM es key):=λi hi=>by
  obtain ⟨v,hv⟩:∃ v,ws[i]?=some v:=#[_,aD (by lia)];obtain ⟨e,he,b,y1,y2,rfl,hb,f1,f2⟩:=hw.get hv;have e1:y1=.int e.1:=f1;subst e1;refine #[b,e.1,y2,hv,hb,?_];obtain ⟨hi',rfl⟩:=aY.mp he;obtain ⟨z1,z2⟩:=mV (key:=key) (la hr');constructor
  .intro h;refine oa λc=>z2 es[i] ?_ h;rw[List.mem_drop_iff_getElem];exact #[i-aM es key,by lia,by congr 1;lia]
  .intro h;refine z1 es[i] ?_;rw[ua];exact #[i,by lia,rfl]
 refine #[λU' H'=>U'=[some (.ref q),some (nV (aM es key)),some (.int key)]/\H=H',?_,?_]
 .refine #[_,rfl,_,_,rfl,rfl,_,rfl,?_];rw[aU (show (0:Int)<=((aM es key:Nat):Int) by lia)];refine iteT ?_;refine #[_,rfl,_,_,rfl,.inl (SqL.of hq),_,_,rfl,rfl,_,rfl,?_];rw[<-wl,aU (show ((aM es key:Nat):Int)<=((es.length:Nat):Int) by lia)];exact iteF #[rfl,rfl]
 rintro _ _ ⟨rfl,rfl⟩;refine #[λU' H'=>U'=[some (.ref q),some (nV (aM es key)),some (.int key)]/\H=H',?_,?_]
 .refine #[_,rfl,_,_,rfl,rfl,_,rfl,?_];refine ite2 (λc=>?_) (λc=>iteF #[rfl,rfl]);have c':(0:Int)<((aM es key:Nat):Int):=cE c;obtain ⟨b,x,y,hb1,hb3,hb4⟩:=hget (aM es key-1) (by lia);have hat:atI ws (((aM es key:Nat):Int)-1)=some (.ref b):=by
   rw[show ((aM es key:Nat):Int)-1=((aM es key-1:Nat):Int) by lia];exact cL hb1
  refine #[_,rfl,_,rfl,_,_,rfl,rfl,_,_,_,_,rfl,rfl,SqL.of hq,hat,_,_,_,_,rfl,rfl,SqT.of hb3,rfl,_,rfl,_,_,rfl,rfl,_,rfl,?_];rw[bH (show ¬ key<=x by lia)];exact iteF #[rfl,rfl]
 rintro _ _ ⟨rfl,rfl⟩;refine #[_,rfl,_,rfl,_,_,rfl,.inl (SqL.of hq),rfl,_,rfl,?_];rw[<-wl];by_cases c:aM es key=es.length
 .rw[aU (show V.int ((aM es key:Nat):Int)=V.int (es.length:Int) by rw[c])];exact iteT Q0
 .rw[bH (λz=>c (by have:=V.int.inj z;lia))];refine iteF ?_;obtain ⟨b,x,y,hb1,hb3,hb4⟩:=hget (aM es key) (by lia);refine #[_,rfl,_,rfl,_,_,_,_,rfl,rfl,SqL.of hq,cL hb1,_,_,_,_,rfl,rfl,SqT.of hb3,rfl,_,rfl,_,_,rfl,rfl,?_];show Q (.bl (decide (key<=x))) H;rw[aU (show key<=x by lia)];exact Q0
inductive wW (K:Frag)(vs:List V)(H:Hp)(Q:VK)(w_1:XK):Prop
 | c:∀(br u v:Addr) (ps:List Nat) (OF:List (List Int)) (xs:List V) (k c:Nat) (key:Int),vs=[.ref br,.ref u,.ref v]->H br=some (.lst xs)->Paired (BrAt [] H ps OF) (List.range (ps.length+1)) xs->bf ps->cA OF->ps.length<=40->k<ps.length+1->par ps c=some k->jv H ps OF key k (.ref u)->jv H ps OF key c (.ref v)->(∀ H',Same H H'->Q (.bl true) H')->wW K vs H Q w_1
def LN (T:Txt K mg)(yO:DF K mg "is_near_start" pX rD)(yC:FC P w K mg base 1 "start_in" mK (tj K)):FC P w K mg base 2 "is_near_start" rD (wW K):=by
 refine yO.ok Cm (λvs H Q E h=>?_) (λf cdv A outer s H vs Q E hr h=>?_)
 .obtain ⟨br,u,v,ps,OF,xs,k,c,key,rfl,_⟩:=h;rfl
 obtain ⟨br,u,v,ps,OF,xs,k,c,key,rfl,hbr,hB,hT,hR,few,hk,hc,⟨u',e1,hu⟩,⟨v',e2,hv⟩,q⟩:=h;cases e1
 cases e2
 refine #[_,(aK (aL (i:=3) Cm.nd rfl (au rfl) (ax yC hr (aa (pv 0) (aa (aB (aR (K:=K)) (pv 1) ag (λ_ _=>rfl)) (aa (aB (aR (K:=K)) (pv 1) ag (λ_ _=>rfl)) (aa (aB (aR (K:=K)) (pv 2) ag (λ_ _=>rfl)) ae))))))
   (aw (aE (z7 lT lT (pv 3) (aB (aR (K:=K)) (pv 2) ag (λ_ _=>rfl)) (aG cf (pv 3) (oD rfl T.Ex)))))),?_]
 refine #[_,rfl,_,rfl,_,_,_,_,rfl,rfl,SqT.of hu,rfl,_,rfl,_,_,_,_,rfl,rfl,SqT.of hu,rfl,_,rfl,_,_,_,_,rfl,rfl,SqT.of hv,rfl,[],br,ps,OF,xs,k,c,aM (ay ps OF k) key,rfl,hbr,hB,hT,hk,hc,iI _ _,λH1 s1=>?_];refine #[_,rfl,_,rfl,_,_,_,_,rfl,rfl,SqT.of (s1 _ _ hv),rfl,_,_,rfl,rfl,_,rfl,?_];have NO:=DB hT hR few hk hc (OF:=OF) key;have n1:=NO.lo;have n2:=NO.hi;rw[aU (show ((stN (ay ps OF c) ((ay ps OF k).take (aM (ay ps OF k) key)):Nat):Int)<=((aM (ay ps OF c) key:Nat):Int) by lia)];refine iteT ?_;refine #[_,rfl,_,_,rfl,rfl,_,_,rfl,rfl,?_];show Q (.bl (decide _)) H1;rw[aU (show ((aM (ay ps OF c) key:Nat):Int)<=((stN (ay ps OF c) ((ay ps OF k).take (aM (ay ps OF k) key)):Nat):Int)+2 by lia)];exact q _ s1
inductive tE (K:Frag)(vs:List V)(H:Hp)(Q:VK)(w_1:XK):Prop
 | c:∀(st wa pp:Addr) (key:Int) (ps:List Nat) (OF:List (List Int)) (t rs:Addr) (as:List Addr) (wy:List Nat) (zs:List V),vs=[.ref st,.ref wa,.int key,.ref pp]->bR H st ps OF t rs as->cK H wa ps wy->H pp=some (.lst zs)->Paired (jv H ps OF key) wy zs->(∀ H',Same H H'->Q (.bl true) H')->tE K vs H Q w_1
def LO (T:Txt K mg)(yP:DF K mg "lets_by" pY mN)(jA:FC P w K mg base 4 "need_way" jk (lb K))(NP:FC P w K mg base 2 "is_line" rB (wU K))(yL:FC P w K mg base 8 "full_rows" mG (sQ K))(yJ:FC P w K mg base 2 "bridges_of" mJ (sV K))(NQ:FC P w K mg base 1 "is_place_in" rC (wV K))(NR:FC P w K mg base 2 "is_near_start" rD (wW K)):FC P w K mg base 9 "lets_by" mN (tE K):=by
 refine yP.ok qy (λvs H Q E h=>?_) (λf cdv A outer s H vs Q E hr h=>?_)
 .obtain ⟨st,wa,pp,key,ps,OF,t,rs,as,wy,zs,rfl,_⟩:=h;rfl
 obtain ⟨st,wa,pp,key,ps,OF,t,rs,as,wy,zs,rfl,S,W,hpp,hP,q⟩:=h;refine #[_,(cz (dB (ax jA hr (aa (aB (aR (K:=K)) (pv 0) ag (λ_ _=>rfl)) (aa (pv 1) ae))))
   (c5 (bu (PW.pt (fO (dZ (dM (aT (j3 (K:=K)) rfl T.ly boot_isinstance (aa (pv 3) (aa (jP (v:=.ty "list") rfl T.jz boot_list rfl) ae))))) (fN (dZ (dM (aT (l9 rfl) rfl T.nv boot_all (aa (cg (N:=["thing"]) (own:=1) (cap:=[]) rfl (cQ (pv 3)) #[rfl,rfl,rfl,rfl,rfl,rfl] (λ_ _ _ _ _=>(aP (i:=0) (show List.Nodup (["thing"]:List Str) by decide +kernel) rfl (au rfl))) (λ_ _ _ _ _=>bW) (λ_ _ _ _ _=>(ax NP hr (aa (pv 0) ae)))) ae))))))) (aw (aE bV)) bz)
   (c5 (bu (aX (dN (List Int) (huD hr)) (cg (N:=["line"]) (own:=1) (cap:=[]) rfl (cQ (pv 3)) #[rfl,rfl,rfl,rfl,rfl,rfl] (λ_ _ _ _ _=>(aP (i:=0) (show List.Nodup (["line"]:List Str) by decide +kernel) rfl (au rfl))) (λ_ _ _ _ _=>bW) (λ_ _ _ _ _=>(aB (aR (K:=K)) (pv 0) ag (λ_ _=>rfl)))) (pv 1) (aS _)) (aw (aE bV)) bz)
   (cz (aL (i:=4) qy.nd rfl (au rfl) (ax yL hr (aa (pv 0) ae)))
   (cz (aL (i:=5) qy.nd rfl (eE rfl) (ax yJ hr (aa (aB (aR (K:=K)) (pv 0) ag (λ_ _=>rfl)) (aa (pv 4) ae))))
   (cz (cO PassesOwn.never rfl (cQ (pv 3)) (aP (i:=6) qy.nd rfl (au rfl)) (aw (bu (PW.pt (fO (dZ (dM (ax NQ hr (aa (aB (bw (K:=K)) (pv 4) (aB (aR (K:=K)) (pv 6) ag (λ_ _=>rfl)) (λ_ _=>rfl)) (aa (aB (aR (K:=K)) (pv 6) ag (λ_ _=>rfl)) (aa (pv 2) ae)))))) (fN (aX hE (aB (aR (K:=K)) (pv 6) ag (λ_ _=>rfl)) (aB (bw (K:=K)) (aB (aR (K:=K)) (aB (bw (K:=K)) (pv 5) (aB (aR (K:=K)) (pv 6) ag (λ_ _=>rfl)) (λ_ _=>rfl)) ag (λ_ _=>rfl)) (aB (aR (K:=K)) (pv 6) ag (λ_ _=>rfl)) (λ_ _=>rfl)) (aS _))))) (aw (aE bV)) bz)))
   (aw (aE (aT (l9 rfl) rfl T.nv boot_all (aa (cg (N:=["line","below","bridges"]) (own:=2) (cap:=[5]) rfl (jX rfl T.lA (aa (pv 3) (aa (gE (j4 (K:=K)) (pv 3) (eI ag) lW) ae))) #[rfl,rfl,rfl,rfl,rfl,rfl] (λ_ _ _ _ _=>(oE (K:=K) (n:=2) rfl (c7 (aP (i:=0) (show List.Nodup (["line","below","bridges"]:List Str) by decide +kernel) rfl (au rfl)) (c7 (aP (i:=1) (show List.Nodup (["line","below","bridges"]:List Str) by decide +kernel) rfl (au rfl)) fP)))) (λ_ _ _ _ _=>bW) (λ_ _ _ _ _=>(ax NR hr (aa (pv 2) (aa (pv 0) (aa (pv 1) ae)))))) ae)))))))))),?_]
 intro N1 n1;have few:=S.few;have wl:=W.len;have zl:=hP.length;refine #[_,rfl,_,_,_,_,rfl,rfl,SqT.of S.st,rfl,_,rfl,t,wa,ps,wy,rfl,S.tr,by lia,W,n1 _ _ ?_];have trip:∀(i:Nat) (v:V),zs[i]?=some v->i<wy.length/\jv H ps OF key (wy.getD i 0) v:=λi v hv=>by
  obtain ⟨k,hk,ht⟩:=Dx hP hv;refine #[(aY.mp hk).1,?_];rw[aF,hk];exact ht
 refine #[λU' H'=>U'=[some (.ref st),some (.ref wa),some (.int key),some (.ref pp),none,none,none]/\Same H H',?_,?_]
 .intro N2 n2;refine #[_,rfl,_,_,_,_,rfl,.lst hpp,uD,_,rfl,iteF ?_];refine #[_,rfl,pp,rfl,#[_,SqL.of hpp],λD hD=>?_];refine c9 (xs:=zs) (λi U H2=>∃ x0:Option V,U=[x0]/\H2 D=some (.lst ((List.replicate i true).map V.bl))/\But D H H2) ?_ ?_ ?_ ?_
  .exact #[_,rfl,ah,λb o n e=>by rw[ak n];exact e]
  .rintro i U H2 _ ⟨x0,rfl,_,k2⟩;exact SqL.of (k2 _ _ (aq hpp hD) hpp)
  .rintro i m v U H2 hv hm ⟨x0,rfl,h2,k2⟩;obtain ⟨hi,u,rfl,hu⟩:=trip i v hv;refine bZ ?_;refine #[_,rfl,u,_,_,_,rfl,k2 _ _ (aq hu hD) hu,λH3 s3=>?_];refine #[_,s3 _ _ h2,aW (by rw[af,eF];lia),m-1,by lia,by lia,_,rfl,?_,λb o n e=>by rw[ak n];exact s3 _ _ (k2 b o n e)];rw[ah,i4,aN];rfl
  .rintro U H2 ⟨x0,rfl,h2,k2⟩;refine #[D,List.replicate zs.length true,rfl,SqL.of h2,_,rfl,?_];rw[tD];exact iteF (n2 _ _ #[rfl,λb o e=>k2 b o (aq e hD) e])
 rintro _ H0 ⟨rfl,s0⟩;refine #[λU' H'=>U'=[some (.ref st),some (.ref wa),some (.int key),some (.ref pp),none,none,none]/\Same H H',?_,?_]
 .intro N2 n2;refine #[_,rfl,pp,rfl,#[_,SqL.of (s0 _ _ hpp)],λD hD=>?_];refine c9 (xs:=zs) (λi U H2=>∃ x0:Option V,U=[x0]/\H2 D=some (.lst ((wy.take i).map nV))/\But D H0 H2) ?_ ?_ ?_ ?_
  .exact #[_,rfl,ah,λb o n e=>by rw[ak n];exact e]
  .rintro i U H2 _ ⟨x0,rfl,_,k2⟩;exact k2.sq (SqL.of (s0 _ _ hpp)) hD
  .rintro i m v U H2 hv hm ⟨x0,rfl,h2,k2⟩;obtain ⟨hi,u,rfl,hu⟩:=trip i v hv;have hu0:=s0 _ _ hu;refine bZ ?_;refine #[_,rfl,_,_,_,_,rfl,rfl,SqT.of (k2 _ _ (aq hu0 hD) hu0),rfl,?_];refine #[_,h2,aW (by rw[af,bt];lia),m-1,by lia,by lia,_,rfl,?_,λb o n e=>by rw[ak n];exact k2 b o n e];rw[ah,iK hi,aN];rfl
  .rintro U H2 ⟨x0,rfl,h2,k2⟩;have s2:Same H H2:=s0.trans λb o e=>k2 b o (aq e hD) e;rw[<-zl,bh (av _)]at h2;have hn:aI K H2 (wy.map λn:Nat=>(n:Int)) (wy.map nV):=by
    have:=aI.ints (K:=K) (H:=H2) (ns:=wy.map λn:Nat=>(n:Int));rwa[bT]at this
   refine #[_,rfl,_,_,#[D,_,rfl,SqL.of h2,hn],#[_,_,rfl,SqL.of (s2 _ _ W.at_),hn],_,rfl,?_];exact cU rfl (n2 _ _ #[rfl,s2])
 rintro _ H1 ⟨rfl,s1⟩;clear s0;intro N3 n3;refine #[_,rfl,st,ps,OF,t,rs,as,rfl,S.same s1,λpf qf H2 hpf s2 h2f nd hqf np F=>n3 _ _ ?_];have s02:=s1.trans s2;intro N4 n4;refine #[_,rfl,_,_,_,_,rfl,rfl,SqT.of (s02 _ _ S.st),rfl,_,rfl,st,ps,OF,t,rs,as,pf,qf,rfl,S.same s02,h2f,F,λbr xs H3 hbr s3 h3b hB=>n4 _ _ ?_];have s03:=s02.trans s3;have F3:=DK (.of s3) F;have h3f:=s3 _ _ h2f;have hpp3:=s03 _ _ hpp;intro N5 n5;refine #[_,rfl,pp,rfl,#[_,SqL.of hpp3],?_];refine lS (xs:=zs) (λi U H'=>∃ x6:Option V,U=[some (.ref st),some (.ref wa),some (.int key),some (.ref pp),some (.ref pf),some (.ref br),x6]/\H3=H') ?_ ?_ ?_ ?_
 .exact #[_,rfl,rfl]
 .rintro i U H' _ ⟨x6,rfl,rfl⟩;exact SqL.of hpp3
 .rintro i v U H' hv ⟨x6,rfl,rfl⟩;refine CU λN B R hN hB' hR=>?_;obtain ⟨hi,u,rfl,hu⟩:=trip i v hv;have hu3:=s03 _ _ hu;have hkn:=W.kn _ (iL hi);generalize wy.getD i 0=k at hkn hu3;obtain ⟨qk,hqk,wk,hwk,hak⟩:=iJ F3 hkn;obtain ⟨xb,hxb,bb,ob,jb,yb,rfl,_,_,hbb,hob,_,_⟩:=iJ hB hkn;have hfl:=kW S.T S.len (OF:=OF) hkn;have hke:=S.keys;refine #[_,rfl,_,rfl,_,_,_,_,rfl,rfl,SqT.of hu3,rfl,_,_,_,_,rfl,rfl,SqL.of h3f,iH hqk,_,rfl,_,_,_,_,rfl,rfl,SqT.of hu3,rfl,_,rfl,qk,key,wk,_,rfl,hwk,hak,eY S.T S.R hkn,by lia,_,rfl,?_];refine iteF ?_;refine #[_,rfl,_,_,_,_,rfl,rfl,SqT.of hu3,rfl,_,rfl,_,rfl,_,_,_,_,rfl,rfl,SqT.of hu3,rfl,_,_,_,_,rfl,rfl,SqL.of h3b,cL hxb,_,_,_,_,rfl,rfl,SqT.of hbb,rfl,_,rfl,_,_,_,_,rfl,rfl,SqT.of hu3,rfl,_,_,_,_,rfl,rfl,SqL.of hob,wH S.T S.R hkn key,rfl,_,rfl,?_];exact cU rfl (hN _ _ #[_,rfl,rfl])
 .rintro U H' ⟨x6,rfl,rfl⟩;refine n5 _ _ ?_;refine #[_,rfl,_,rfl,1,rfl,pp,_,rfl,SqL.of hpp3,λp hp=>?_];rw[show (1:Int)=((1:Nat):Int) from rfl,mZ];have g4:=aJ hp (.lst (zs.drop 1));have w4:upd H3 p (.lst (zs.drop 1)) p=some (.lst (zs.drop 1)):=ah;generalize upd H3 p (.lst (zs.drop 1))=H4 at g4 w4 ⊢;have hpp4:=g4 _ _ hpp3;refine #[pp,p,rfl,#[_,SqL.of hpp4],#[_,SqL.of w4],λD hD=>?_];have hdl:(zs.drop 1).length=zs.length-1:=eQ;refine HY (xs:=zs) (ys:=zs.drop 1) (by lia) (λi U H5=>∃ x0 x1:Option V,U=[x0,x1,some (.ref br)]/\H5 D=some (.lst ((List.replicate i true).map V.bl))/\But D H4 H5) ?_ ?_ ?_ ?_
  .exact #[_,_,rfl,ah,λb o n e=>by rw[ak n];exact e]
  .rintro i U H5 _ ⟨x0,x1,rfl,_,k5⟩;exact #[SqL.of (k5 _ _ (aq hpp4 hD) hpp4),SqL.of (k5 _ _ (aq w4 hD) w4)]
  .rintro i m x y U H5 r hx hy hm ⟨x0,x1,rfl,h5,k5⟩ hr0;rw[nX]at hy;obtain ⟨hi,u,rfl,hu⟩:=trip i x hx;obtain ⟨hi1,v,rfl,hv⟩:=trip (1+i) y hy;have gr:=aJ hr0 (.tup [V.ref u,V.ref v]);have wr:upd H5 r (.tup [V.ref u,V.ref v]) r=some (.tup [V.ref u,V.ref v]):=ah;generalize upd H5 r (.tup [V.ref u,V.ref v])=H6 at gr wr ⊢;have s36:Same H3 H6:=g4.trans (Same.trans (λb o e=>k5 b o (aq e hD) e) gr);have s06:=s03.trans s36;refine #[r,_,rfl,SqT.of wr,rfl,_,_,rfl,_,_,rfl,rfl,?_];refine DM (iteT ?_);have hpar:par ps (wy.getD (1+i) 0)=some (wy.getD i 0):=by rw[lL];exact W.ch i (by lia)
   refine #[_,rfl,_,rfl,_,rfl,br,u,v,ps,OF,xs,wy.getD i 0,wy.getD (1+i) 0,key,rfl,s36 _ _ h3b,DL (.of s36) hB,S.T,S.R,few,W.kn _ (iL hi),hpar,#[u,rfl,s06 _ _ hu],#[v,rfl,s06 _ _ hv],λH7 s7=>?_];refine #[_,s7 _ _ (gr _ _ h5),aW (by rw[af,eF];lia),m-1,by lia,by lia,_,_,rfl,?_,λb o n e=>by rw[ak n];exact s7 _ _ (gr _ _ (k5 b o n e))];rw[ah,i4,aN];rfl
  .rintro U H5 ⟨x0,x1,rfl,h5,k5⟩;refine #[D,List.replicate (zs.drop 1).length true,rfl,SqL.of h5,?_];rw[tD];exact q H5 (s03.trans (g4.trans λb o e=>k5 b o (aq e hD) e))
def bx (row:List Int)(key:Int):Nat:=(row.filter λx=>decide (x<key)).length
def LP {row:List Int}{key:Int}{m:Nat}(hm:m<=row.length)(h1:∀ i,i<m->decide (row.getD i 0<key)=true)(h2:∀ i,m<=i->i<row.length->decide (row.getD i 0<key)=false):bx row key=m:=by
 unfold bx
 conv=>lhs;rw[<-gW m row]
 rw[eB,bB];have e1:(row.take m).filter (λx=>decide (x<key))=row.take m:=by
  rw[lJ];intro x hx;obtain ⟨i,hi,rfl⟩:=fL hx;rw[bt]at hi;have:=h1 i (by lia);rw[aF,aD (by lia)]at this;rw[List.getElem_take];exact this
 have e2:(row.drop m).filter (λx=>decide (x<key))=[]:=by
  rw[gw];intro x hx;obtain ⟨i,hi,rfl⟩:=fL hx;rw[eQ]at hi;have:=h2 (m+i) (by lia) (by lia);rw[aF,aD (by lia)]at this;rw[List.getElem_drop];intro z;rw[show decide (row[m+i]<key)=false from this]at z;cases z
 rw[e1,e2,bt,iV];lia
abbrev lamQ:Str:=(envOfC ("place" : Str) (aH j7) 0 0 .none).qual ++ "<lambda>"
abbrev dW:Pos:=#[34,36,34,60]
inductive tF (K:Frag)(mp:Addr)(vs:List V)(H:Hp)(Q:VK)(w_1:XK):Prop
 | c:∀(r:Addr) (row:List Int) (key:Int),vs=[.ref r,.int key]->H r=some (.tup (row.map V.int))->row.Pairwise (· < ·)->bp H mp dW lamQ->(∀ H':Hp,Gro mp H H'->bp H' mp dW lamQ->Q (.int (bx row key:Nat)) H')->tF K mp vs H Q w_1
def LQ (T:Txt K mg){mc mp:Addr}(tQ:DFT K mg "place" j7 mv mc mp)(hBM:BMAt mg base)(nB:∀ base,FC P w K mg base 4 "how_many_below" kC (mW P w K mg base)):FC P w K mg base 5 "place" mv (tF K mp):=by
 refine tQ.ok Iw (λvs H Q E h=>?_) (λf A outer s H vs Q E hr h=>?_)
 .obtain ⟨r,row,key,rfl,_⟩:=h;rfl
 obtain ⟨r,row,key,rfl,h0,hup,hT,q⟩:=h;refine #[_,(aw (aE (BQ (kf:=0) nB hr (aT (bJ (K:=K)) rfl T.bG bF (aa (pv 0) ae)) (oF (osc:=aH j7) (N:=["row","key"]) (ps:=["at"]) (caps:=["key","row"]) (cap:=[1,0]) #[rfl,rfl,rfl,by decide +kernel,by decide +kernel,by decide +kernel,by decide +kernel] (by decide +kernel) (by decide +kernel) rfl rfl rfl rfl (λ_ _ _ _ us hl=>match us,hl with|[_],_=>rfl) (λ_=>rfl)) rfl tQ.hd hBM (λ_ _ _ _ _ _ _ _ _=>(d3 eG (aB (aR (K:=K)) (pv 2) (pv 0) (λ_ _=>rfl)) (pv 1) (aS _)))))),?_]
 refine #[_,rfl,_,_,rfl,.inr (SqT.of h0),hT,[.int key,.ref r],rfl,?_,λbase f c' H2 hg hT2 hC hV=>?_]
 .intro j i v h1 h2;rcases j with _|_|j
  .cases h1;cases h2;rfl
  .cases h1;cases h2;rfl
  .cases h1
 have nmp:r≠mp:=λz=>by
  obtain ⟨tab,e,_⟩:=hT.ex;rw[<-z,h0]at e;cases e
 have h2r:=hg _ _ nmp h0;rw[af];refine #[row.length,f,_,_,λi=>decide (row.getD i 0<key),λ_ H'=>H'=H2,rfl,FV.mono hV (by decide),rfl,λi L1 H1 Q1 hi _ hR hQ=>?_,λi j hij hj hb=>?_,λm L1 H' hm hb1 hb2 _ hR=>?_]
 .subst hR;refine #[rfl,hC,?_];have hat:atI (row.map V.int) ((i:Nat):Int)=some (.int (row.getD i 0)):=cL (by rw[aQ,aD hi,aF,aD hi];rfl);refine #[_,rfl,_,rfl,_,_,_,_,rfl,rfl,SqT.of h2r,hat,_,rfl,_,_,rfl,rfl,?_];exact hQ _ rfl
 .refine aU ?_;have hb:=cE hb;by_cases e:i=j
  .subst e;exact hb
  .have:=fc.mp hup i j (by lia) hj (by lia);rw[aF,aD (by lia)]at hb ⊢;exact Int.lt_trans this hb
 .subst hR;have e:=LP hm hb1 hb2;have q2:=q _ hg hT2;rw[e]at q2;exact q2
inductive m5 (K:Frag)(vs:List V)(H:Hp)(Q:VK)(w_1:XK):Prop
 | c:∀(st wa:Addr) (ps:List Nat) (OF:List (List Int)) (t rs:Addr) (as:List Addr) (w:List Nat),vs=[.ref st,.ref wa]->bR H st ps OF t rs as->cK H wa ps w->(∀(p:Addr) (bs:List Addr) (H':Hp),H p=none->Same H H'->H' p=some (.lst (bs.map V.ref))->bA H' bs (w.map (aC OF))->Q (.ref p) H')->m5 K vs H Q w_1
def LR (T:Txt K mg)(yQ:DF K mg "rows_on" pE kG)(jA:FC P w K mg base 4 "need_way" jk (lb K)):FC P w K mg base 5 "rows_on" kG (m5 K):=by
 refine yQ.ok IP (λvs H Q E h=>?_) (λf cdv A outer s H vs Q E hr h=>?_)
 .obtain ⟨st,wa,ps,OF,t,rs,as,w,rfl,_⟩:=h;rfl
 obtain ⟨st,wa,ps,OF,t,rs,as,w,rfl,S,W,q⟩:=h;have hwl:=W.len;refine #[_,(aK (dB (ax jA hr (aa (aB (aR (K:=K)) (pv 0) ag (λ_ _=>rfl)) (aa (pv 1) ae))))
   (aw (aE (cg (N:=["knot","stand"]) (own:=1) (cap:=[0]) rfl (cQ (pv 1)) #[rfl,rfl,rfl,rfl,rfl,rfl] (λ_ _ _ _ _=>(aP (i:=0) (show List.Nodup (["knot","stand"]:List Str) by decide +kernel) rfl (au rfl))) (λ_ _ _ _ _=>bW) (λ_ _ _ _ _=>(aB (aR (K:=K)) (aB (aR (K:=K)) (pv 1) ag (λ_ _=>rfl)) (pv 0) (λ_ _=>rfl))))))),?_]
 refine #[_,rfl,_,_,_,_,rfl,rfl,SqT.of S.st,rfl,_,rfl,t,wa,ps,w,rfl,S.tr,by have:=S.few;lia,W,?_];refine #[_,rfl,wa,rfl,#[_,SqL.of W.at_],λD hD=>?_];refine c9 (xs:=w.map nV) (λi U H2=>∃(bs:List Addr) (x0:Option V),U=[x0,some (.ref st)]/\H2 D=some (.lst (bs.map V.ref))/\bA H2 bs ((w.take i).map (aC OF))/\But D H H2) ?_ ?_ ?_ ?_
 .exact #[[],_,rfl,ah,.nil,λb o n e=>by rw[ak n];exact e]
 .rintro i U H2 _ ⟨bs,x0,rfl,_,_,k2⟩;exact k2.sq (SqL.of W.at_) hD
 .rintro i m x U H2 hx hm ⟨bs,x0,rfl,h2,hB,k2⟩;obtain ⟨hi,rfl⟩:=eN hx;have hbl:=hB.length;rw[af,bt]at hbl;have s2:Same H H2:=λb o e=>k2 b o (aq e hD) e;have S2:=S.same s2;have hk:=W.kn _ (iL hi);rw[iK hi,aN];generalize w.getD i 0=k at hk ⊢;obtain ⟨b,hb1,hb2⟩:=S2.at_.get (k:=k) (by rw[S.len];exact hk);rw[af]at hm;refine bZ ?_;refine #[_,rfl,_,_,_,_,rfl,rfl,SqT.of S2.st,rfl,_,rfl,_,_,_,_,rfl,rfl,SqT.of S2.rs,iH hb1,_,h2,aW (by rw[af];lia),m-1,by lia,by rw[af];lia,bs++[b],_,rfl,?_,?_,λb o n e=>by rw[ak n];exact k2 b o n e]
  .rw[ah,aN];rfl
  .have kD:∀ b o,b≠D->H2 b=some o->upd H2 D (.lst (bs.map V.ref++[.ref b])) b=some o:=λb o n e=>by rw[ak n];exact e
   have nT:∀{x:Addr} {o:List V},H2 x=some (.tup o)->x≠D:=λ{x o} e z=>by
    rw[z,h2]at e;cases e
   refine bA.snoc (bA.keep (p:=D) (d:=D) (λa row e=>nT e) (λc o n e=>by rw[ak n];exact e) hB) ?_;rw[ak (nT hb2)];exact hb2
 .rintro U H2 ⟨bs,x0,rfl,h2,hB,k2⟩;rw[af,bh (av _)]at hB;exact q D bs H2 hD (λb o e=>k2 b o (aq e hD) e) h2 hB
inductive lg (K:Frag)(mp:Addr)(vs:List V)(H:Hp)(Q:VK)(w_1:XK):Prop
 | c:∀(st wa:Addr) (ps:List Nat) (OF:List (List Int)) (t rs:Addr) (as:List Addr) (w:List Nat) (key:Int),vs=[.ref st,.ref wa,.int key]->bR H st ps OF t rs as->cK H wa ps w->bp H mp dW lamQ->(∀(p:Addr) (H':Hp),H p=none->Gro mp H H'->bp H' mp dW lamQ->H' p=some (.lst ((w.map λk=>bx (aC OF k) key).map nV))->Q (.ref p) H')->lg K mp vs H Q w_1
def LU (T:Txt K mg)(yR:DF K mg "places" pG jl)(nC:FC P w K mg base 5 "rows_on" kG (m5 K))(tR:FC P w K mg base 5 "place" mv (tF K mp)):FC P w K mg base 6 "places" jl (lg K mp):=by
 refine yR.ok IR (λvs H Q E h=>?_) (λf cdv A outer s H vs Q E hr h=>?_)
 .obtain ⟨st,wa,ps,OF,t,rs,as,w,key,rfl,_⟩:=h;rfl
 obtain ⟨st,wa,ps,OF,t,rs,as,w,key,rfl,S,W,hT,q⟩:=h;have hwl:=W.len;refine #[_,(aw (aE (cg (N:=["row","key"]) (own:=1) (cap:=[2]) rfl (cQ (ax nC hr (aa (pv 0) (aa (pv 1) ae)))) #[rfl,rfl,rfl,rfl,rfl,rfl] (λ_ _ _ _ _=>(aP (i:=0) (show List.Nodup (["row","key"]:List Str) by decide +kernel) rfl (au rfl))) (λ_ _ _ _ _=>bW) (λ_ _ _ _ _=>(ax tR hr (aa (pv 0) (aa (pv 1) ae))))))),?_];refine #[_,rfl,_,rfl,st,wa,ps,OF,t,rs,as,w,rfl,S,W,λp bs H1 hp s1 h1 hB=>?_];have hbl:=hB.length;rw[af]at hbl;have hT1:=hT.ext s1.ext;have nmp:∀{H':Hp} {x:Addr} {o:HO},bp H' mp dW lamQ->H' x=some o->(∀ tab,o≠.tbl tab)->x≠mp:=λ{H' x o} hT e n z=>by
  obtain ⟨tab,e2,_⟩:=hT.ex;rw[<-z,e]at e2;exact n _ (aV e2)
 refine #[p,rfl,#[_,SqL.of h1],λD hD=>?_];have hDm:D≠mp:=λz=>by
  obtain ⟨tab,e2,_⟩:=hT1.ex;rw[<-z,hD]at e2;cases e2
 refine c9 (xs:=bs.map V.ref) (λi U H2=>∃ x0:Option V,U=[x0,some (.int key)]/\H2 D=some (.lst (((w.take i).map λk=>bx (aC OF k) key).map nV))/\(∀ b o,b≠D->b≠mp->H1 b=some o->H2 b=some o)/\bp H2 mp dW lamQ) ?_ ?_ ?_ ?_
 .refine #[_,rfl,ah,λb o n _ e=>by rw[ak n];exact e,hT1.ext (aJ hD _).ext]
 .rintro i U H2 _ ⟨x0,rfl,_,k2,_⟩;exact SqL.of (k2 _ _ (aq h1 hD) (nmp hT1 h1 nofun) h1)
 .rintro i m x U H2 hx hm ⟨x0,rfl,h2,k2,hT2⟩;rw[aQ]at hx;obtain ⟨b,hb,rfl⟩:=cI.mp hx;obtain ⟨row,hrow,h1b⟩:=eO hB hb;have hi:i<w.length:=by
   have:=(aY.mp hb).1;lia
  rw[aQ]at hrow;obtain ⟨k,hk,rfl⟩:=cI.mp hrow;have hke:w.getD i 0=k:=by rw[aF,hk];rfl
  rw[iK hi,aN,hke];have h2b:=k2 _ _ (aq h1b hD) (nmp hT1 h1b nofun) h1b;rw[af]at hm;refine bZ ?_;refine #[_,rfl,_,rfl,b,aC OF k,key,rfl,h2b,S.R.at_up k,hT2,λH3 hg3 hT3=>?_];have h3:=hg3 _ _ hDm h2;refine #[_,h3,aW (by rw[af,af,bt];lia),m-1,by lia,by rw[af];lia,_,rfl,?_,λb o n n2 e=>by rw[ak n];exact hg3 _ _ n2 (k2 b o n n2 e),wG hT3 h3];rw[ah,aN];rfl
 .rintro U H2 ⟨x0,rfl,h2,k2,hT2⟩;rw[af,hbl,bh (av _)]at h2;exact q D H2 (s1.free hD) (λb o n e=>k2 b o (aq (s1 _ _ e) hD) n (s1 _ _ e)) hT2 h2
abbrev iM:Str:=(envOfC ("place_in" : Str) (aH j8) 0 0 .none).qual ++ "<lambda>"
abbrev iN:Pos:=#[36,40,36,71]
inductive m6 (K:Frag)(mp:Addr)(vs:List V)(H:Hp)(Q:VK)(w_1:XK):Prop
 | c:∀(r:Addr) (ws:List V) (es:List (Int×Int)) (key:Int),vs=[.ref r,.int key]->H r=some (.lst ws)->aI K H es ws->es.Pairwise (λa b=>a.1<=b.1)->bp H mp iN iM->(∀ H':Hp,Gro mp H H'->bp H' mp iN iM->Q (.int (aM es key:Nat)) H')->m6 K mp vs H Q w_1
def LV (T:Txt K mg){mc mp:Addr}(tS:DFT K mg "place_in" j8 kF mc mp)(hBM:BMAt mg base)(nB:∀ base,FC P w K mg base 4 "how_many_below" kC (mW P w K mg base)):FC P w K mg base 5 "place_in" kF (m6 K mp):=by
 refine tS.ok Iy (λvs H Q E h=>?_) (λf A outer s H vs Q E hr h=>?_)
 .obtain ⟨r,ws,es,key,rfl,_⟩:=h;rfl
 obtain ⟨r,ws,es,key,rfl,h0,hw,hup,hT,q⟩:=h;refine #[_,(aw (aE (BQ (kf:=0) nB hr (aT (bJ (K:=K)) rfl T.bG bF (aa (pv 0) ae)) (oF (osc:=aH j8) (N:=["entries","key"]) (ps:=["at"]) (caps:=["key","entries"]) (cap:=[1,0]) #[rfl,rfl,rfl,by decide +kernel,by decide +kernel,by decide +kernel,by decide +kernel] (by decide +kernel) (by decide +kernel) rfl rfl rfl rfl (λ_ _ _ _ us hl=>match us,hl with|[_],_=>rfl) (λ_=>rfl)) rfl tS.hd hBM (λ_ _ _ _ _ _ _ _ _=>(d3 eG (aB (aR (K:=K)) (aB (bw (K:=K)) (pv 2) (pv 0) (λ_ _=>rfl)) ag (λ_ _=>rfl)) (pv 1) (aS _)))))),?_]
 refine #[_,rfl,_,_,rfl,.inl (SqL.of h0),hT,[.int key,.ref r],rfl,?_,λbase f c' H2 hg hT2 hC hV=>?_]
 .intro j i v h1 h2;rcases j with _|_|j
  .cases h1;cases h2;rfl
  .cases h1;cases h2;rfl
  .cases h1
 have nmp:∀{x:Addr} {o:HO},H x=some o->(∀ tab,o≠.tbl tab)->x≠mp:=λ{x o} e n z=>by
  obtain ⟨tab,e2,_⟩:=hT.ex;rw[<-z,e]at e2;exact n _ (aV e2)
 have h2r:=hg _ _ (nmp h0 (λ_ z=>by cases z)) h0
 have hwl:=hw.length;rw[<-hwl];refine #[es.length,f,_,_,λi=>decide ((es.getD i (0,0)).1<key),λ_ H'=>H'=H2,rfl,FV.mono hV (by decide),rfl,λi L1 H1 Q1 hi _ hR hQ=>?_,λi j hij hj hb=>?_,λm L1 H' hm hb1 hb2 _ hR=>?_]
 .subst hR;refine #[rfl,hC,?_];obtain ⟨v,hv,b,x1,x2,rfl,hb,e1,e2⟩:∃ v,ws[i]?=some v/\hasP K H (es.getD i (0,0)) v:=by
   have hge:es[i]?=some (es.getD i (0,0)):=by
    rw[aF,aD hi];rfl
   exact eO hw hge
  have hb2:=hg _ _ (nmp hb (λ_ z=>by cases z)) hb
  have e1':x1=.int (es.getD i (0,0)).1:=e1;subst e1';refine #[_,rfl,_,rfl,_,_,_,_,rfl,rfl,SqL.of h2r,cL hv,_,_,_,_,rfl,rfl,SqT.of hb2,rfl,_,rfl,_,_,rfl,rfl,?_];exact hQ _ rfl
 .refine aU ?_;have hb:=cE hb;by_cases e:i=j
  .subst e;exact hb
  .have:=fc.mp hup i j (by lia) hj (by lia);rw[aF,aD (by lia)]at hb ⊢;exact Int.lt_of_le_of_lt this hb
 .subst hR;have e:=Dz hm hb1 hb2;have q2:=q _ hg hT2;rw[e]at q2;exact q2
def onE (OF:List (List Int))(w:List Nat):List (Int×Int):=(w.map (ownE OF)).flatten
def DQ {w:List Nat}(T:bf ps)(h:f6 ps w):w.Pairwise (· < ·):=by
 have key:∀ d i,i+d+1<w.length->w.getD i 0<w.getD (i+d+1) 0:=by
  intro d
  induction d with
  | zero=>intro i hi;exact (bM T (h i hi)).1
  | succ d ih=>
   intro i hi;have a:=ih i (by lia);have b:=(bM T (h (i+d+1) (by lia))).1;have e:i+(d+1)+1=i+d+1+1:=by lia
   rw[e];lia
 rw[fc];intro i j hi hj hij;have:=key (j-i-1) i (by lia);rw[show i+(j-i-1)+1=j by lia,aF,aF,aD hi,aD hj]at this;exact this
def wX (f:Nat->Nat):∀(n:Nat) (w:List Nat),w.Pairwise (· < ·)->(∀ x∈w,x<n)->(w.map f).sum<=((List.range n).map f).sum
 | 0,w,_,h=>by
  cases w with
  | nil=>exact av _
  | cons x w=>exact absurd (h x bL) (iY _)
 | n+1,w,hp,h=>by
  rcases List.eq_nil_or_concat w with rfl|⟨w',x,rfl⟩
  .exact cS _
  .rw[List.concat_eq_append]at *;obtain ⟨h1,_,h3⟩:=ud.mp hp;have hx:=h x (dQ _ bL);rw[eS,aN (l₁:=List.range n),List.sum_append];by_cases c:x=n
   .subst c;have:=wX f x w' h1 λa ha=>h3 a ha x bL;rw[aN,List.sum_append];show _+(f x+0)<=_+(f x+0);lia
   .have:=wX f n (w'++[x]) hp λa ha=>by
     rcases bO.mp ha with z|z
     .have:=h3 a z x bL;lia
     .rw[a0.mp z];lia
    lia
def lh (OF:List (List Int)):OF=(List.range OF.length).map (aC OF):=by
 apply List.ext_getElem
 .simp
 .intro i h1 h2;rw[List.getElem_map,ug];unfold aC;rw[aF,aD h1];rfl
def DR {OF:List (List Int)}{w:List Nat}(hp:w.Pairwise (· < ·))(h:∀ x∈w,x<OF.length):(onE OF w).length<=cw OF:=by
 have e1:(onE OF w).length=(w.map λk=>(aC OF k).length).sum:=by
  unfold onE;rw[List.length_flatten,bT];congr 1;refine dJ λk _=>?_;show (ownE OF k).length=_;unfold ownE;rw[af]
 have e2:cw OF=((List.range OF.length).map λk=>(aC OF k).length).sum:=by
  unfold cw
  conv=>lhs;rw[lh OF]
  rw[bT];rfl
 rw[e1,e2];exact wX _ _ w hp h
def LW {α:Type}[Rep α]{K:Frag}{as:List α}{ws:List V}(h:aI K H as ws):∀{n:Nat},aI K H (as.drop n) (ws.drop n):=by
 induction h with
 | nil=>intro n;rw[List.drop_nil,List.drop_nil];exact .nil
 | cons a t ih=>
  intro n;cases n with
  | zero=>exact .cons a t
  | succ n=>exact ih
def LX {α:Type}[Rep α]{K:Frag}{as:List α}{ws:List V}(h:aI K H as ws):∀{n:Nat},aI K H (as.take n) (ws.take n):=by
 induction h with
 | nil=>intro n;rw[List.take_nil,List.take_nil];exact .nil
 | cons a t ih=>
  intro n;cases n with
  | zero=>exact .nil
  | succ n=>exact .cons a ih
def wY {K:Frag}{H H':Hp}(e:∀ b o,H b=some (.tup o)->H' b=some (.tup o)){es:List (Int×Int)}{ws:List V}(h:aI K H es ws):aI K H' es ws:=by
 induction h with
 | nil=>exact .nil
 | cons a _ ih=>
  obtain ⟨b,x1,x2,rfl,q,e1,e2⟩:=(show hasP K H _ _ from a);exact .cons #[b,x1,x2,rfl,e _ _ q,e1,e2] ih
inductive m7 (K:Frag)(vs:List V)(H:Hp)(Q:VK)(w_1:XK):Prop
 | c:∀(st wa:Addr) (ps:List Nat) (OF:List (List Int)) (t rs:Addr) (as:List Addr) (w:List Nat),vs=[.ref st,.ref wa]->bR H st ps OF t rs as->cK H wa ps w->(∀(p:Addr) (ws:List V) (H':Hp),H p=none->Same H H'->H' p=some (.lst ws)->aI K H' (bc (onE OF w)) ws->Q (.ref p) H')->m7 K vs H Q w_1
def LY (T:Txt K mg)(yS:DF K mg "entries_on" pF kH)(jA:FC P w K mg base 4 "need_way" jk (lb K))(yk:FC P w K mg base 1 "own_entries" mD (sO K))(yl:FC P w K mg base 1 "joined_up" mw (sH K)):FC P w K mg base 5 "entries_on" kH (m7 K):=by
 refine yS.ok IQ (λvs H Q E h=>?_) (λf cdv A outer s H vs Q E hr h=>?_)
 .obtain ⟨st,wa,ps,OF,t,rs,as,w,rfl,_⟩:=h;rfl
 obtain ⟨st,wa,ps,OF,t,rs,as,w,rfl,S,W,q⟩:=h;have hwl:=W.len;refine #[_,(aK (dB (ax jA hr (aa (aB (aR (K:=K)) (pv 0) ag (λ_ _=>rfl)) (aa (pv 1) ae))))
   (aw (aE (ax yl hr (aa (cg (N:=["knot","stand"]) (own:=1) (cap:=[0]) rfl (cQ (pv 1)) #[rfl,rfl,rfl,rfl,rfl,rfl] (λ_ _ _ _ _=>(aP (i:=0) (show List.Nodup (["knot","stand"]:List Str) by decide +kernel) rfl (au rfl))) (λ_ _ _ _ _=>bW) (λ_ _ _ _ _=>(ax yk hr (aa (pv 1) (aa (pv 0) ae))))) ae))))),?_]
 refine #[_,rfl,_,_,_,_,rfl,rfl,SqT.of S.st,rfl,_,rfl,t,wa,ps,w,rfl,S.tr,by have:=S.few;lia,W,?_];refine #[_,rfl,wa,rfl,#[_,SqL.of W.at_],λD hD=>?_];refine c9 (xs:=w.map nV) (λi U H2=>∃(gs:List Addr) (x0:Option V),U=[x0,some (.ref st)]/\H2 D=some (.lst (gs.map V.ref))/\Own K H2 gs ((w.take i).map (ownE OF))/\D∉gs/\But D H H2) ?_ ?_ ?_ ?_
 .exact #[[],_,rfl,ah,.nil,nofun,λb o n e=>by rw[ak n];exact e]
 .rintro i U H2 _ ⟨gs,x0,rfl,_,_,_,k2⟩;exact k2.sq (SqL.of W.at_) hD
 .rintro i m x U H2 hx hm ⟨gs,x0,rfl,h2,hO,hg,k2⟩;obtain ⟨hi,rfl⟩:=eN hx;have hgl:=hO.length;rw[af,bt]at hgl;have S2:=S.same λb o e=>k2 b o (aq e hD) e;have hk:=W.kn _ (iL hi);rw[iK hi,aN];generalize w.getD i 0=k at hk ⊢;rw[af]at hm;refine bZ ?_;refine #[_,rfl,_,rfl,st,ps,OF,t,rs,as,k,rfl,S2,hk,λD3 us H5 hD3 s5 h5 hw5=>?_];have h5D:=s5 _ _ h2;have n3:D≠D3:=aq h2 hD3;refine #[_,h5D,aW (by rw[af];lia),m-1,by lia,by rw[af];lia,gs++[D3],_,rfl,?_,?_,?_,λx o n e=>by rw[ak n];exact s5 _ _ (k2 x o n e)]
  .rw[ah,aN];rfl
  .refine Own.other h5D (Own.append (hO.ext s5.ext) (.cons #[us,h5,hw5] .nil)) ?_;intro z;rcases bO.mp z with z|z
   .exact hg z
   .exact n3 (a0.mp z)
  .intro z;rcases bO.mp z with z|z
   .exact hg z
   .exact n3 (a0.mp z)
 rintro U H2 ⟨gs,x0,rfl,h2,hO,hg,k2⟩;rw[af,bh (av _)]at hO;have s2:Same H H2:=λb o e=>k2 b o (aq e hD) e;exact #[D,gs,w.map (ownE OF),rfl,h2,hO,cD (DR (DQ S.T W.ch) λk hk=>by rw[S.len];exact W.kn k hk) S.keys,λp ws H3 hp s3 h3 hw3=>q p ws H3 (s2.free hp) (s2.trans s3) h3 hw3]
def dA (OF:List (List Int))(w:List Nat)(key:Int):List (Int×Int):=(onE OF w).filter λe=>decide (key<=e.1)
def LZ {es:List (Int×Int)}(h:es.Pairwise (λa b=>a.1<=b.1)):es.drop (aM es key)=es.filter λe=>decide (key<=e.1):=by
 unfold aM
 induction es with
 | nil=>rfl
 | cons e es ih=>
  obtain ⟨h1,h2⟩:=jM.mp h;by_cases c:e.1<key
  .rw[dI (by exact aU c),dH,uf,ih h2,dR (by simp;lia)]
  .have z:es.filter (λe=>decide (e.1<key))=[]:=by
    rw[gw];intro x hx;have:=h1 x hx;simp;lia
   have z2:es.filter (λe=>decide (key<=e.1))=es:=by
    rw[lJ];intro x hx;have:=h1 x hx;exact aU (by lia)
   rw[dR (by simp;lia),z,iV,lO,dI (by exact aU (by lia)),z2]
def m8 (es:List (Int×Int)):(bc es).Pairwise (λa b=>a.1<=b.1):=by
 refine List.Pairwise.imp ?_ (jf es);intro a b h;have h':pLt b a=false:=h;rw[l7]at h';lia
def DS {w:List Nat}:(bc (onE OF w)).drop (aM (bc (onE OF w)) key)=bc (dA OF w key):=by
 rw[LZ (m8 _)];exact oC ((fW _).filter _) ((jf _).filter _)
inductive wZ (K:Frag)(mp:Addr)(vs:List V)(H:Hp)(Q:VK)(w_1:XK):Prop
 | c:∀(st wa:Addr) (ps:List Nat) (OF:List (List Int)) (t rs:Addr) (as:List Addr) (w:List Nat) (key:Int) (many:Nat),vs=[.ref st,.ref wa,.int key,.int many]->bR H st ps OF t rs as->cK H wa ps w->bp H mp iN iM->(∀(p:Addr) (ws:List V) (H':Hp),H p=none->Gro mp H H'->bp H' mp iN iM->H' p=some (.lst ws)->aI K H' ((bc (dA OF w key)).take many) ws->Q (.ref p) H')->wZ K mp vs H Q w_1
def L0 (T:Txt K mg)(yT:DF K mg "joined_from" pN rh)(nE:FC P w K mg base 5 "entries_on" kH (m7 K))(nF:FC P w K mg base 5 "place_in" kF (m6 K mp)):FC P w K mg base 6 "joined_from" rh (wZ K mp):=by
 refine yT.ok vw (λvs H Q E h=>?_) (λf cdv A outer s H vs Q E hr h=>?_)
 .obtain ⟨st,wa,ps,OF,t,rs,as,w,key,many,rfl,_⟩:=h;rfl
 obtain ⟨st,wa,ps,OF,t,rs,as,w,key,many,rfl,S,W,hT,q⟩:=h;refine #[_,(aK (aL (i:=4) vw.nd rfl (au rfl) (ax nE hr (aa (pv 0) (aa (pv 1) ae))))
   (aK (aL (i:=5) vw.nd rfl (au rfl) (ax nF hr (aa (pv 4) (aa (pv 2) ae))))
   (aw (aE (gE (j4 (K:=K)) (pv 4) (eI (pv 5)) (eI (aG cf (pv 5) (aT (lV rfl) rfl T.lz boot_max (aa (pv 3) (aa ag ae)))))))))),?_]
 refine #[_,rfl,_,rfl,st,wa,ps,OF,t,rs,as,w,rfl,S,W,λp ws H1 hp s1 h1 hw1=>?_];refine #[_,rfl,_,rfl,p,ws,_,key,rfl,h1,hw1,m8 _,hT.ext s1.ext,λH2 g2 hT2=>?_];have nmp:∀{x:Addr} {o:HO},H1 x=some o->(∀ tab,o≠.tbl tab)->x≠mp:=λ{x o} e n z=>by
  obtain ⟨tab,e2,_⟩:=(hT.ext s1.ext).ex;rw[<-z,e]at e2;exact n _ (aV e2)
 have h2:=g2 _ _ (nmp h1 (λ_ z=>by cases z)) h1
 have hw2:aI K H2 (bc (onE OF w)) ws:=wY (λ_ _ e=>g2 _ _ (nmp e (λ_ z=>by cases z)) e) hw1
 have hmx:(if (0:Int)>(many:Int) then (0:Int) else (many:Int))=(many:Int):=az (by lia)
 refine #[_,rfl,_,rfl,_,rfl,_,rfl,_,rfl,_,_,rfl,_,_,rfl,rfl,_,rfl,p,ws,rfl,SqL.of h2,λc hc=>?_];have ec:cutV ws (some ((aM (bc (onE OF w)) key:Nat):Int)) (some (((aM (bc (onE OF w)) key:Nat):Int)+(if (0:Int)>(many:Int) then (0:Int) else (many:Int))))=(ws.drop (aM (bc (onE OF w)) key)).take many:=by
  rw[hmx,<-Int.natCast_add,sF];congr 1;lia
 show Q (.ref c) (upd H2 c (.lst (cutV ws (some ((aM (bc (onE OF w)) key:Nat):Int)) (some (((aM (bc (onE OF w)) key:Nat):Int)+(if (0:Int)>(many:Int) then (0:Int) else (many:Int)))))))
 rw[ec];have sc:=aJ hc (.lst ((ws.drop (aM (bc (onE OF w)) key)).take many));have hc1:H c=none:=by
  cases e:H c with
  | none=>rfl
  | some o=>
   by_cases z:c=mp
   .obtain ⟨tab,e2,_⟩:=hT2.ex;rw[<-z,hc]at e2;cases e2
   .have:=g2 _ _ z (s1 _ _ e);rw[hc]at this;cases this
 refine q c _ _ hc1 (λb o n e=>sc _ _ (g2 _ _ n (s1 _ _ e))) (hT2.ext sc.ext) ah ?_;rw[<-DS];exact aI.mono sc.ext (LX (LW hw2))
def L4 (xs:List Int):(xs.map V.int).all fo=true:=by
 induction xs with
 | nil=>rfl
 | cons a l ih=>exact (gj _ _).mpr #[rfl,ih]
def L5 (n:Int)(xs:List Int):inV (.int n) (xs.map V.int)=decide (n∈xs):=by
 unfold inV
 induction xs with
 | nil=>rfl
 | cons x xs ih=>
  rw[bK,fI,ih];show (x==n||decide (n∈xs))=decide (n∈x::xs);by_cases h:x=n
  .subst h;simp
  .have h2:¬ n=x:=λz=>h z.symm;simp[h,h2]
inductive lj (K:Frag)(vs:List V)(H:Hp)(Q:VK)(w_1:XK):Prop
 | c:∀(st wa:Addr) (ps:List Nat) (OF:List (List Int)) (t rs:Addr) (as:List Addr) (w:List Nat) (key:Int),vs=[.ref st,.ref wa,.int key]->bR H st ps OF t rs as->cK H wa ps w->(∀(p:Addr) (H':Hp),H p=none->Same H H'->H' p=some (.lst ((w.filter λk=>decide (key∈aC OF k)).map nV))->Q (.ref p) H')->lj K vs H Q w_1
def L6 (T:Txt K mg)(yU:DF K mg "who_has" pH jm)(nC:FC P w K mg base 5 "rows_on" kG (m5 K)):FC P w K mg base 6 "who_has" jm (lj K):=by
 refine yU.ok Ci (λvs H Q E h=>?_) (λf cdv A outer s H vs Q E hr h=>?_)
 .obtain ⟨st,wa,ps,OF,t,rs,as,w,key,rfl,_⟩:=h;rfl
 obtain ⟨st,wa,ps,OF,t,rs,as,w,key,rfl,S,W,q⟩:=h;have hwl:=W.len;refine #[_,(aK (aL (i:=3) Ci.nd rfl (au rfl) (ax nC hr (aa (pv 0) (aa (pv 1) ae))))
   (aw (aE (cg (N:=["knot","row","key"]) (own:=2) (cap:=[2]) rfl (jX rfl T.lA (aa (pv 1) (aa (pv 3) ae))) #[rfl,rfl,rfl,rfl,rfl,rfl] (λ_ _ _ _ _=>(oE (K:=K) (n:=2) rfl (c7 (aP (i:=0) (show List.Nodup (["knot","row","key"]:List Str) by decide +kernel) rfl (au rfl)) (c7 (aP (i:=1) (show List.Nodup (["knot","row","key"]:List Str) by decide +kernel) rfl (au rfl)) fP)))) (λ_ _ _ _ _=>(jd (aX (uV (K:=K)) (pv 2) (pv 1) (by with_unfolding_all rfl)))) (λ_ _ _ _ _=>(pv 0)))))),?_]
 refine #[_,rfl,_,rfl,st,wa,ps,OF,t,rs,as,w,rfl,S,W,λp bs H1 hp s1 h1 hB=>?_];have hbl:=hB.length;rw[af]at hbl;have h1w:=s1 _ _ W.at_;refine #[_,rfl,_,rfl,wa,p,rfl,#[_,SqL.of h1w],#[_,SqL.of h1],λD hD=>?_];refine uW (xs:=w.map nV) (ys:=bs.map V.ref) (by rw[af,af,hbl]) (λi U H2=>∃ x0 x1:Option V,U=[x0,x1,some (.int key)]/\H2 D=some (.lst (((w.take i).filter λk=>decide (key∈aC OF k)).map nV))/\But D H1 H2) ?_ ?_ ?_ ?_
 .exact #[_,_,rfl,ah,λb o n e=>by rw[ak n];exact e]
 .rintro i U H2 _ ⟨x0,x1,rfl,_,k2⟩;exact #[k2.sq (SqL.of h1w) hD,k2.sq (SqL.of h1) hD]
 .rintro i m x y U H2 r' hx hy hm ⟨x0,x1,rfl,h2,k2⟩ hr';obtain ⟨hi,rfl⟩:=eN hx;rw[aQ]at hy;obtain ⟨b,hb,rfl⟩:=cI.mp hy;obtain ⟨row,hrow,h1b⟩:=eO hB hb;rw[aQ]at hrow;obtain ⟨k,hk,rfl⟩:=cI.mp hrow;have hke:w.getD i 0=k:=by rw[aF,hk];rfl
  rw[iK hi,eB,hke];rw[af]at hm;refine #[r',_,rfl,SqT.of ah,rfl,_,_,rfl,_,_,rfl,rfl,?_];have s2:=aJ hr' (.tup [nV k,.ref b]);have h3:=s2 _ _ h2;have k3:But D H1 (upd H2 r' (.tup [nV k,.ref b])):=λc o n e=>s2 _ _ (k2 c o n e);generalize upd H2 r' (.tup [nV k,.ref b])=H3 at h3 k3 ⊢;have h3b:=k3 _ _ (aq h1b hD) h1b;have hfl:=fg (λk=>decide (key∈aC OF k)) (w.take i);rw[bt]at hfl;refine #[_,rfl,_,rfl,b,_,rfl,.inr (SqT.of h3b),rfl,L4 _,_,rfl,?_];show if inV (.int key) ((aC OF k).map V.int)=true then _ else _
  rw[L5];refine ite2 (λc=>?_) (λc=>?_)
  .refine #[_,rfl,_,h3,aW (by rw[af];lia),m-1,by lia,by rw[af];lia,_,_,rfl,?_,λb o n e=>by rw[ak n];exact k3 b o n e];have ef:[k].filter (λk=>decide (key∈aC OF k))=[k]:=dI (p:=λk=>decide (key∈aC OF k)) c;rw[ah,aN,ef];rfl
  .refine #[m-1,by lia,by rw[af];lia,_,_,rfl,?_,k3];have ef:[k].filter (λk=>decide (key∈aC OF k))=[]:=dR (p:=λk=>decide (key∈aC OF k)) c;rw[h3,ef,di]
 .rintro U H2 ⟨x0,x1,rfl,h2,k2⟩;rw[af,bh (av _)]at h2;exact q D H2 (s1.free hD) (s1.trans λb o e=>k2 b o (aq e hD) e) h2
def L7 (l:List Nat):V:=match l with
 | []=>.non
 | k::_=>nV k
inductive w6 (K:Frag)(vs:List V)(H:Hp)(Q:VK)(w_1:XK):Prop
 | c:∀(st wa:Addr) (ps:List Nat) (OF:List (List Int)) (t rs:Addr) (as:List Addr) (w:List Nat) (key:Int),vs=[.ref st,.ref wa,.int key]->bR H st ps OF t rs as->cK H wa ps w->(∀ H':Hp,Same H H'->Q (L7 (w.filter λk=>decide (key∈aC OF k))) H')->w6 K vs H Q w_1
def L8 (T:Txt K mg)(yV:DF K mg "first_with" pI q9)(gh:FC P w K mg base 6 "who_has" jm (lj K)):FC P w K mg base 7 "first_with" q9 (w6 K):=by
 refine yV.ok Cj (λvs H Q E h=>?_) (λf cdv A outer s H vs Q E hr h=>?_)
 .obtain ⟨st,wa,ps,OF,t,rs,as,w,key,rfl,_⟩:=h;rfl
 obtain ⟨st,wa,ps,OF,t,rs,as,w,key,rfl,S,W,q⟩:=h;refine #[_,(aK (aL (i:=3) Cj.nd rfl (au rfl) (ax gh hr (aa (pv 0) (aa (pv 1) (aa (pv 2) ae)))))
   (aw (aE (lQ (aX i9 (aT (bJ (K:=K)) rfl T.bG bF (aa (pv 3) ae)) ag (aS _)) (aB (bw (K:=K)) (pv 3) ag (λ_ _=>rfl)) eU)))),?_]
 refine #[_,rfl,_,rfl,_,rfl,st,wa,ps,OF,t,rs,as,w,key,rfl,S,W,λp H1 hp s1 h1=>?_];generalize (w.filter λk=>decide (key∈aC OF k))=l at h1 q;refine #[_,rfl,_,_,rfl,.inl (SqL.of h1),_,_,rfl,rfl,_,rfl,?_];cases l with
 | nil=>
  refine uE (by decide) ?_;exact q _ s1
 | cons k l=>
  refine AS (by rw[af,dH];lia) ?_;have hat0:atI ((k::l).map nV) 0=some (nV k):=by
   have:=cL (xs:=(k::l).map nV) (j:=0) (v:=nV k) rfl;exact this
  refine #[_,rfl,_,_,_,_,rfl,rfl,SqL.of h1,hat0,?_];exact q _ s1
def betL (row:List Int)(lo hi:Int):List Int:=row.filter λx=>decide (lo<=x/\x<hi)
def xa {row:List Int}{key:Int}(h:∀ x∈row,key<=x):bx row key=0:=by
 unfold bx;rw[gw.mpr λx hx=>by have:=h x hx;simp;lia];rfl
def xc {lo:Int}:∀{row:List Int},row.Pairwise (· < ·)->(row.drop (bx row lo)).take (bx row hi-bx row lo)=betL row lo hi
 | [],_=>rfl
 | x::t,h=>by
  obtain ⟨h1,h2⟩:=jM.mp h;have ih:=xc (lo:=lo) (hi:=hi) h2;have b1:∀ key,bx (x::t) key=(if x<key then 1 else 0)+bx t key:=λkey=>by
   unfold bx;by_cases c:x<key
   .rw[dI (by exact aU c),ar c,dH];lia
   .rw[dR (by simp;lia),az c];lia
  have f1:betL (x::t) lo hi=(if lo<=x/\x<hi then [x] else [])++betL t lo hi:=by
   unfold betL;by_cases c:lo<=x/\x<hi
   .rw[dI (by exact aU c),ar c];rfl
   .rw[dR (by simpa using c),az c];rfl
  rw[f1,b1,b1];by_cases c1:x<lo
  .by_cases c2:x<hi
   .rw[ar c1,ar c2,az (show ¬ (lo<=x/\x<hi) by lia),lL 1 (bx t lo),uf,List.nil_append,<-ih];congr 1;lia
   .have z:bx t hi=0:=xa λy hy=>by have:=h1 y hy;lia
    have z2:betL t lo hi=[]:=by
     unfold betL;rw[gw];intro y hy;have:=h1 y hy;simp;lia
    rw[az c2,z,z2,az (show ¬ (lo<=x/\x<hi) by lia)];simp
  .have za:bx t lo=0:=xa λy hy=>by have:=h1 y hy;lia
   rw[za,lO]at ih;rw[az c1,za,lO];by_cases c2:x<hi
   .rw[ar c2,ar #[by lia,c2],<-ih,lM,lM,lL 1,ue];rfl
   .have z:bx t hi=0:=xa λy hy=>by have:=h1 y hy;lia
    rw[z]at ih;rw[az c2,z,az (by lia),<-ih];rfl
inductive spKB (K:Frag)(mp:Addr)(vs:List V)(H:Hp)(Q:VK)(w_1:XK):Prop
 | c:∀(r:Addr) (row:List Int) (lo hi:Int),vs=[.ref r,.int lo,.int hi]->H r=some (.tup (row.map V.int))->row.Pairwise (· < ·)->bp H mp dW lamQ->(∀(p:Addr) (H':Hp),H p=none->Gro mp H H'->bp H' mp dW lamQ->H' p=some (.lst ((betL row lo hi).map V.int))->Q (.ref p) H')->spKB K mp vs H Q w_1
def DT (xs:List V)(a b:Nat):HT.sIx xs.length 0 (some (a:Int))=min a xs.length/\HT.sIx xs.length xs.length (some (b:Int))=min b xs.length:=#[fT,fT]
def L9 (T:Txt K mg)(yW:DF K mg "keys_between" pJ rf)(tR:FC P w K mg base 5 "place" mv (tF K mp)):FC P w K mg base 6 "keys_between" rf (spKB K mp):=by
 refine yW.ok IS (λvs H Q E h=>?_) (λf cdv A outer s H vs Q E hr h=>?_)
 .obtain ⟨r,row,lo,hi,rfl,_⟩:=h;rfl
 obtain ⟨r,row,lo,hi,rfl,h0,hup,hT,q⟩:=h;have nmp:∀{H':Hp} {x:Addr} {o:HO},bp H' mp dW lamQ->H' x=some o->(∀ tab,o≠.tbl tab)->x≠mp:=λ{H' x o} hT e n z=>by
  obtain ⟨tab,e2,_⟩:=hT.ex;rw[<-z,e]at e2;exact n _ (aV e2)
 have free:∀{H':Hp} {c:Addr},Gro mp H H'->bp H' mp dW lamQ->H' c=none->H c=none:=λ{H' c} g hT' hc=>by
  cases e:H c with
  | none=>rfl
  | some o=>
   by_cases z:c=mp
   .obtain ⟨tab,e2,_⟩:=hT'.ex;rw[<-z,hc]at e2;cases e2
   .have:=g _ _ z e;rw[hc]at this;cases this
 refine #[_,(aw (aE (dC (uT (K:=K)) rfl T.jz boot_list (aa (gE (uX (K:=K)) (pv 0) (eI (ax tR hr (aa (pv 0) (aa (pv 1) ae)))) (eI (ax tR hr (aa (pv 0) (aa (pv 2) ae))))) ae)))),?_];refine #[_,rfl,_,rfl,_,rfl,r,row,lo,rfl,h0,hup,hT,λH1 g1 hT1=>?_];have h1:=g1 _ _ (nmp hT h0 (λ_ z=>by cases z)) h0
 refine #[_,rfl,_,rfl,_,rfl,r,row,hi,rfl,h1,hup,hT1,λH2 g2 hT2=>?_];have h2:=g2 _ _ (nmp hT1 h1 (λ_ z=>by cases z)) h1
 have g02:=g1.trans g2;have hcut:cutV (row.map V.int) (some ((bx row lo:Nat):Int)) (some ((bx row hi:Nat):Int))=(betL row lo hi).map V.int:=by
  rw[sF,<-List.map_drop,<-nU,xc hup]
 refine #[_,rfl,r,_,rfl,SqT.of h2,λz=>?_,λ_ p hp=>?_]
 .have e:(betL row lo hi).map V.int=row.map V.int:=by
   have z1:min (bx row lo) (row.map V.int).length=0:=by
    have:=z.1;rw[(DT (row.map V.int) (bx row lo) (bx row hi)).1]at this;exact this
   have z2:min (bx row hi) (row.map V.int).length=(row.map V.int).length:=by
    have:=z.2;rw[(DT (row.map V.int) (bx row lo) (bx row hi)).2]at this;exact this
   rw[af]at z1 z2;have hl:bx row lo<=row.length:=fg _ _;rw[<-xc hup,show bx row lo=0 by lia,lO,lM,bh (by lia)]
  refine #[r,_,rfl,.inr (SqT.of h2),λl hl=>?_];have sl:=aJ hl (.lst (row.map V.int));refine q l _ (free g02 hT2 hl) (λb o n e=>sl _ _ (g02 _ _ n e)) (hT2.ext sl.ext) ?_;rw[ah,e]
 .rw[hcut];have sp:=aJ hp (.tup ((betL row lo hi).map V.int));refine #[p,_,rfl,.inr (SqT.of ah),λl hl=>?_];have sl:=aJ hl (.lst ((betL row lo hi).map V.int));have s2l:=Same.trans sp sl;exact q l _ (free g02 hT2 (sp.free hl)) (λb o n e=>s2l _ _ (g02 _ _ n e)) (hT2.ext s2l.ext) ah
def xf :∀{ks:List Addr} {rs:List (List Int)},D∉ks->Paired (λa (r:List Int)=>H a=some (.lst (r.map V.int))) ks rs->Paired (λa (r:List Int)=>upd H D o a=some (.lst (r.map V.int))) ks rs
 | _,_,_,.nil=>.nil
 | k::_,_,hn,.cons h t=>.cons (by rw[ak (λz:k=D=>hn (by rw[z];exact bL))];exact h) (xf (λz=>hn (cp _ z)) t)
def jw {K:Frag}:∀{ks:List Addr} {rs:List (List Int)},Paired (λa (r:List Int)=>H a=some (.lst (r.map V.int))) ks rs->aI K H rs (ks.map V.ref)
 | _,_,.nil=>.nil
 | _,_,.cons h t=>.cons #[_,_,rfl,SqL.of h,aI.ints] (jw t)
inductive m9 (K:Frag)(mp:Addr)(vs:List V)(H:Hp)(Q:VK)(w_1:XK):Prop
 | c:∀(st wa:Addr) (ps:List Nat) (OF:List (List Int)) (t rs:Addr) (as:List Addr) (w:List Nat) (lo hi:Int),vs=[.ref st,.ref wa,.int lo,.int hi]->bR H st ps OF t rs as->cK H wa ps w->bp H mp dW lamQ->(∀(p:Addr) (ks:List Addr) (H':Hp),H p=none->(∀ k∈ks,H k=none)->p∉ks->Gro mp H H'->bp H' mp dW lamQ->H' p=some (.lst (ks.map V.ref))->Paired (λa (r:List Int)=>H' a=some (.lst (r.map V.int))) ks (w.map λk=>betL (aC OF k) lo hi)->Q (.ref p) H')->m9 K mp vs H Q w_1
def Ma (T:Txt K mg)(yX:DF K mg "stretch" pK kI)(nC:FC P w K mg base 5 "rows_on" kG (m5 K))(NS:FC P w K mg base 6 "keys_between" rf (spKB K mp)):FC P w K mg base 7 "stretch" kI (m9 K mp):=by
 refine yX.ok IT (λvs H Q E h=>?_) (λf cdv A outer s H vs Q E hr h=>?_)
 .obtain ⟨st,wa,ps,OF,t,rs,as,w,lo,hi,rfl,_⟩:=h;rfl
 obtain ⟨st,wa,ps,OF,t,rs,as,w,lo,hi,rfl,S,W,hT,q⟩:=h;have hwl:=W.len;refine #[_,(aw (aE (cg (N:=["row","low","high"]) (own:=1) (cap:=[2,3]) rfl (cQ (ax nC hr (aa (pv 0) (aa (pv 1) ae)))) #[rfl,rfl,rfl,rfl,rfl,rfl] (λ_ _ _ _ _=>(aP (i:=0) (show List.Nodup (["row","low","high"]:List Str) by decide +kernel) rfl (au rfl))) (λ_ _ _ _ _=>bW) (λ_ _ _ _ _=>(ax NS hr (aa (pv 0) (aa (pv 1) (aa (pv 2) ae)))))))),?_];refine #[_,rfl,_,rfl,st,wa,ps,OF,t,rs,as,w,rfl,S,W,λp bs H1 hp s1 h1 hB=>?_];have hbl:=hB.length;rw[af]at hbl;have hT1:=hT.ext s1.ext;have nmp:∀{H':Hp} {x:Addr} {o:HO},bp H' mp dW lamQ->H' x=some o->(∀ tab,o≠.tbl tab)->x≠mp:=λ{H' x o} hT e n z=>by
  obtain ⟨tab,e2,_⟩:=hT.ex;rw[<-z,e]at e2;exact n _ (aV e2)
 refine #[p,rfl,#[_,SqL.of h1],λD hD=>?_];have hDm:D≠mp:=λz=>by
  obtain ⟨tab,e2,_⟩:=hT1.ex;rw[<-z,hD]at e2;cases e2
 refine c9 (xs:=bs.map V.ref) (λi U H2=>∃(ks:List Addr) (x0:Option V),U=[x0,some (.int lo),some (.int hi)]/\H2 D=some (.lst (ks.map V.ref))/\Paired (λa (r:List Int)=>H2 a=some (.lst (r.map V.int))) ks ((w.take i).map λk=>betL (aC OF k) lo hi)/\D∉ks/\(∀ k∈ks,H k=none)/\(∀ b o,b≠D->b≠mp->H1 b=some o->H2 b=some o)/\bp H2 mp dW lamQ) ?_ ?_ ?_ ?_
 .exact #[[],_,rfl,ah,.nil,nofun,(λk hk=>nomatch hk),λb o n _ e=>by rw[ak n];exact e,hT1.ext (aJ hD _).ext]
 .rintro i U H2 _ ⟨ks,x0,rfl,_,_,_,_,k2,_⟩;exact SqL.of (k2 _ _ (aq h1 hD) (nmp hT1 h1 (λ_ z=>by cases z)) h1)
 .rintro i m x U H2 hx hm ⟨ks,x0,rfl,h2,hK,hDk,hfr,k2,hT2⟩;rw[aQ]at hx;obtain ⟨b,hb,rfl⟩:=cI.mp hx;obtain ⟨row,hrow,h1b⟩:=eO hB hb;have hi':i<w.length:=by
   have:=(aY.mp hb).1;lia
  rw[aQ]at hrow;obtain ⟨k,hk,rfl⟩:=cI.mp hrow;have hke:w.getD i 0=k:=by rw[aF,hk];rfl
  rw[iK hi',aN,hke];have h2b:=k2 _ _ (aq h1b hD) (nmp hT1 h1b (λ_ z=>by cases z)) h1b
  have hkl:=Paired.length hK;rw[af,bt]at hkl;rw[af]at hm;refine bZ ?_;refine #[_,rfl,_,rfl,_,rfl,b,aC OF k,lo,hi,rfl,h2b,S.R.at_up k,hT2,λc H3 hc g3 hT3 h3c=>?_];have h3:=g3 _ _ hDm h2;have nc:c≠D:=bE (aq h2 hc);refine #[_,h3,aW (by rw[af];lia),m-1,by lia,by rw[af];lia,ks++[c],_,rfl,?_,?_,?_,?_,λb o n n2 e=>by rw[ak n];exact g3 _ _ n2 (k2 b o n n2 e),wG hT3 h3]
  .rw[ah,aN];rfl
  .exact kZ (xf hDk (eh (λ_ _ e=>g3 _ _ (nmp hT2 e (λ_ z=>by cases z)) e) hK)) (by rw[ak nc];exact h3c)
  .intro z;rcases bO.mp z with z|z
   .exact hDk z
   .exact nc (a0.mp z).symm
  .intro k hk;rcases bO.mp hk with z|z
   .exact hfr k z
   .rw[a0.mp z];cases e:H c with
    | none=>rfl
    | some o=>
     by_cases zz:c=mp
     .obtain ⟨tab,e2,_⟩:=hT2.ex;rw[<-zz,hc]at e2;cases e2
     .have:=k2 _ _ nc zz (s1 _ _ e);rw[hc]at this;cases this
 .rintro U H2 ⟨ks,x0,rfl,h2,hK,hDk,hfr,k2,hT2⟩;rw[af,hbl,bh (av _)]at hK;exact q D ks H2 (s1.free hD) hfr hDk (λb o n e=>k2 b o (aq (s1 _ _ e) hD) n (s1 _ _ e)) hT2 h2 hK
def DU (o:Option (Int×Int))(e:Int×Int):Option (Int×Int):=match o with
 | none=>some e
 | some m=>if HT.lexLt [e.1,e.2] [m.1,m.2]=true then some e else some m
def gO (es:List (Int×Int)):Option (Int×Int):=es.foldl DU none
def Mb (es:List (Int×Int))(e:Int×Int):gO (es++[e])=DU (gO es) e:=by
 unfold gO;rw[List.foldl_append];rfl
def DV (o:Option (Int×Int))(e:Int×Int):Option (Int×Int):=match o with
 | none=>some e
 | some m=>if HT.lexGt [e.1,e.2] [m.1,m.2]=true then some e else some m
def gP (es:List (Int×Int)):Option (Int×Int):=es.foldl DV none
def Mc (es:List (Int×Int))(e:Int×Int):gP (es++[e])=DV (gP es) e:=by
 unfold gP;rw[List.foldl_append];rfl
abbrev ltE (x m:Int×Int):Prop:=x.1<m.1\/(x.1=m.1/\x.2<m.2)
def DW (e m:Int×Int):(HT.lexLt [e.1,e.2] [m.1,m.2]=true)↔ltE e m:=by
 rw[HT.lexLt_cons,HT.lexLt_cons,HT.lexLt_nil_nil];unfold ltE;by_cases a:e.1=m.1
 .rw[ar a];by_cases b:e.2=m.2
  .rw[ar b];constructor
   .intro z;cases z
   .intro z;lia
  .rw[az b,decide_eq_true_iff];lia
 .rw[az a,decide_eq_true_iff];lia
def DX (e m:Int×Int):(HT.lexGt [e.1,e.2] [m.1,m.2]=true)↔ltE m e:=by
 rw[HT.lexGt_cons,HT.lexGt_cons,HT.lexGt_nil_nil];unfold ltE;by_cases a:e.1=m.1
 .rw[ar a];by_cases b:e.2=m.2
  .rw[ar b];constructor
   .intro z;cases z
   .intro z;lia
  .rw[az b,decide_eq_true_iff];lia
 .rw[az a,decide_eq_true_iff];lia
def DY {a:Int×Int}(h1:¬ ltE a b)(h2:¬ ltE b a):a=b:=by
 unfold ltE at h1 h2;exact Prod.ext (by lia) (by lia)
def DZ (es:List (Int×Int)):∀ i,i<=es.length->(gO (es.take i)=none/\i=0)\/∃ m,gO (es.take i)=some m/\m∈es.take i/\∀ x∈es.take i,¬ ltE x m:=by
 intro i
 induction i with
 | zero=>intro _;exact .inl #[rfl,rfl]
 | succ i ih=>
  intro hi;refine .inr ?_;rw[cx (by lia),Mb];generalize es[i]=e;rcases ih (by lia) with ⟨h,h0⟩|⟨m,h,hm,hx⟩
  .subst h0;rw[h];refine #[e,rfl,by simp,λx hx=>?_];have:x=e:=by simpa using hx
   subst this;unfold ltE;lia
  .rw[h];show ∃ m',(if HT.lexLt [e.1,e.2] [m.1,m.2]=true then some e else some m)=some m'/\_
   by_cases c:HT.lexLt [e.1,e.2] [m.1,m.2]=true
   .rw[ar c];have c':=(DW e m).mp c;refine #[e,rfl,by simp,λx hx'=>?_];rcases bO.mp hx' with z|z
    .have:=hx x z;unfold ltE at this c' ⊢;lia
    .rw[a0.mp z];unfold ltE;lia
   .rw[az c];have c':¬ ltE e m:=λz=>c ((DW e m).mpr z);refine #[m,rfl,fG _ hm,λx hx'=>?_];rcases bO.mp hx' with z|z
    .exact hx x z
    .rw[a0.mp z];exact c'
def D0 (es:List (Int×Int)):∀ i,i<=es.length->(gP (es.take i)=none/\i=0)\/∃ m,gP (es.take i)=some m/\m∈es.take i/\∀ x∈es.take i,¬ ltE m x:=by
 intro i
 induction i with
 | zero=>intro _;exact .inl #[rfl,rfl]
 | succ i ih=>
  intro hi;refine .inr ?_;rw[cx (by lia),Mc];generalize es[i]=e;rcases ih (by lia) with ⟨h,h0⟩|⟨m,h,hm,hx⟩
  .subst h0;rw[h];refine #[e,rfl,by simp,λx hx=>?_];have:x=e:=by simpa using hx
   subst this;unfold ltE;lia
  .rw[h];show ∃ m',(if HT.lexGt [e.1,e.2] [m.1,m.2]=true then some e else some m)=some m'/\_
   by_cases c:HT.lexGt [e.1,e.2] [m.1,m.2]=true
   .rw[ar c];have c':=(DX e m).mp c;refine #[e,rfl,by simp,λx hx'=>?_];rcases bO.mp hx' with z|z
    .have:=hx x z;unfold ltE at this c' ⊢;lia
    .rw[a0.mp z];unfold ltE;lia
   .rw[az c];have c':¬ ltE m e:=λz=>c ((DX e m).mpr z);refine #[m,rfl,fG _ hm,λx hx'=>?_];rcases bO.mp hx' with z|z
    .exact hx x z
    .rw[a0.mp z];exact c'
def D1 {es:List (Int×Int)}:(bc es).Pairwise λa b=>¬ ltE b a:=by
 refine List.Pairwise.imp ?_ (jf es);intro a b h;have h':pLt b a=false:=h;rw[l7]at h';exact h'
def D4 (es:List (Int×Int)):gO es=(bc es).head?:=by
 have h:=DZ es es.length (av _);rw[bh (av _)]at h;have hs:=D1 (es:=es);have hm:=λx=>jZ (as:=es) (a:=x);have hl:=je es;rcases h with ⟨h,h0⟩|⟨m,h,hme,hx⟩
 .rw[h,jG (show (bc es).length=0 by lia)];rfl
 .rw[h];generalize bc es=L at hs hm hl ⊢;cases L with
  | nil=>exact absurd ((hm m).mpr hme) (by simp)
  | cons a L=>
   obtain ⟨h1,_⟩:=jM.mp hs;show some m=some a;congr 1;refine DY ?_ ?_
   .rcases bq.mp ((hm m).mpr hme) with z|z
    .rw[z];unfold ltE;lia
    .exact h1 m z
   .exact hx a ((hm a).mp bL)
def Md (es:List (Int×Int)):gP es=(bc es).getLast?:=by
 have h:=D0 es es.length (av _);rw[bh (av _)]at h;have hs:=D1 (es:=es);have hm:=λx=>jZ (as:=es) (a:=x);have hl:=je es;rcases h with ⟨h,h0⟩|⟨m,h,hme,hx⟩
 .rw[h,jG (show (bc es).length=0 by lia)];rfl
 .rw[h];generalize bc es=L at hs hm hl ⊢;rcases List.eq_nil_or_concat L with z|⟨L',a,z⟩
  .subst z;exact absurd ((hm m).mpr hme) (by simp)
  .subst z;simp only[List.concat_eq_append]at hs hm ⊢;rw[show (L'++[a]).getLast?=some a by simp];show some m=some a;congr 1;refine DY ?_ ?_
   .exact hx a ((hm a).mp (by simp))
   .rcases bO.mp ((hm m).mpr hme) with z|z
    .exact (ud.mp hs).2.2 m z a (a0.mpr rfl)
    .rw[a0.mp z];unfold ltE;lia
def Me {es:List (Int×Int)}(h:es.Pairwise (λa b=>a.1<=b.1)):es.take (aM es key)=es.filter λe=>decide (e.1<key):=by
 unfold aM
 induction es with
 | nil=>rfl
 | cons e es ih=>
  obtain ⟨h1,h2⟩:=jM.mp h;by_cases c:e.1<key
  .rw[dI (by exact aU c),dH,ue,ih h2]
  .have z:es.filter (λe=>decide (e.1<key))=[]:=by
    rw[gw];intro x hx;have:=h1 x hx;simp;lia
   rw[dR (by simp;lia),z];rfl
def ll (OF:List (List Int))(w:List Nat)(key:Int):List (Int×Int):=(onE OF w).filter λe=>decide (e.1<key)
def Mf {w:List Nat}:(bc (onE OF w)).take (aM (bc (onE OF w)) key)=bc (ll OF w key):=by
 rw[Me (m8 _)];exact oC ((fW _).filter _) ((jf _).filter _)
inductive lp (K:Frag)(mp:Addr)(F:List (List Int)->List Nat->Int->Option (Int×Int))(vs:List V)(H:Hp)(Q:VK)(w_1:XK):Prop
 | c:∀(st wa:Addr) (ps:List Nat) (OF:List (List Int)) (t rs:Addr) (as:List Addr) (w:List Nat) (key:Int),vs=[.ref st,.ref wa,.int key]->bR H st ps OF t rs as->cK H wa ps w->bp H mp iN iM->(∀(v:V) (H':Hp),Gro mp H H'->bp H' mp iN iM->me K H' (F OF w key) v->Q v H')->lp K mp F vs H Q w_1
def gf (OF:List (List Int))(w:List Nat)(key:Int):Option (Int×Int):=gO (dA OF w key)
def iO (OF:List (List Int))(w:List Nat)(key:Int):Option (Int×Int):=gP (ll OF w key)
def Mg (T:Txt K mg)(yY:DF K mg "above" pL mI)(nE:FC P w K mg base 5 "entries_on" kH (m7 K))(nF:FC P w K mg base 5 "place_in" kF (m6 K mp)):FC P w K mg base 6 "above" mI (lp K mp gf):=by
 refine yY.ok vt (λvs H Q E h=>?_) (λf cdv A outer s H vs Q E hr h=>?_)
 .obtain ⟨st,wa,ps,OF,t,rs,as,w,key,rfl,_⟩:=h;rfl
 obtain ⟨st,wa,ps,OF,t,rs,as,w,key,rfl,S,W,hT,q⟩:=h;refine #[_,(aK (aL (i:=3) vt.nd rfl (au rfl) (ax nE hr (aa (pv 0) (aa (pv 1) ae))))
   (aK (aL (i:=4) vt.nd rfl (au rfl) (ax nF hr (aa (pv 3) (aa (pv 2) ae))))
   (aw (aE (lQ (aX eG (pv 4) (aT (bJ (K:=K)) rfl T.bG bF (aa (pv 3) ae)) (aS _)) (aB (bw (K:=K)) (pv 3) (pv 4) (λ_ _=>rfl)) eU))))),?_]
 refine #[_,rfl,_,rfl,st,wa,ps,OF,t,rs,as,w,rfl,S,W,λp ws H1 hp s1 h1 hw1=>?_];refine #[_,rfl,_,rfl,p,ws,_,key,rfl,h1,hw1,m8 _,hT.ext s1.ext,λH2 g2 hT2=>?_];have nmp:∀{x:Addr} {o:HO},H1 x=some o->(∀ tab,o≠.tbl tab)->x≠mp:=λ{x o} e n z=>by
  obtain ⟨tab,e2,_⟩:=(hT.ext s1.ext).ex;rw[<-z,e]at e2;exact n _ (aV e2)
 have h2:=g2 _ _ (nmp h1 (λ_ z=>by cases z)) h1
 have hw2:aI K H2 (bc (onE OF w)) ws:=wY (λ_ _ e=>g2 _ _ (nmp e (λ_ z=>by cases z)) e) hw1
 have g02:Gro mp H H2:=λb o n e=>g2 _ _ n (s1 _ _ e);have hF:gf OF w key=(bc (onE OF w))[aM (bc (onE OF w)) key]?:=by
  unfold gf;rw[D4,<-DS,List.head?_drop]
 have q2:=λv hv=>q v H2 g02 hT2 hv;rw[hF]at q2;have hwl:=hw2.length;generalize bc (onE OF w)=L at hw2 hwl q2 ⊢;generalize aM L key=at_ at q2 ⊢;refine #[_,rfl,_,rfl,_,_,rfl,.inl (SqL.of h2),_,_,rfl,rfl,_,rfl,?_];refine ite2 (λc=>?_) (λc=>?_)
 .have c':(at_:Int)<((ws.length:Nat):Int):=cE c;have hi:at_<L.length:=by lia
  obtain ⟨v,hv1,hv2⟩:∃ v,ws[at_]?=some v/\hasP K H2 L[at_] v:=eO hw2 (aD hi);refine #[_,rfl,_,rfl,_,_,_,_,rfl,rfl,SqL.of h2,cL hv1,?_];refine q2 v ?_;rw[aD hi];exact hv2
 .have c':¬ (at_:Int)<((ws.length:Nat):Int):=lK (iZ.mpr c);refine q2 .non ?_;rw[dk (by lia)];rfl
def Mh (T:Txt K mg)(yZ:DF K mg "below" pM rg)(nE:FC P w K mg base 5 "entries_on" kH (m7 K))(nF:FC P w K mg base 5 "place_in" kF (m6 K mp)):FC P w K mg base 6 "below" rg (lp K mp iO):=by
 refine yZ.ok vv (λvs H Q E h=>?_) (λf cdv A outer s H vs Q E hr h=>?_)
 .obtain ⟨st,wa,ps,OF,t,rs,as,w,key,rfl,_⟩:=h;rfl
 obtain ⟨st,wa,ps,OF,t,rs,as,w,key,rfl,S,W,hT,q⟩:=h;refine #[_,(aK (aL (i:=3) vv.nd rfl (au rfl) (ax nE hr (aa (pv 0) (aa (pv 1) ae))))
   (aK (aL (i:=4) vv.nd rfl (au rfl) (ax nF hr (aa (pv 3) (aa (pv 2) ae))))
   (aw (aE (lQ (aX i9 (pv 4) ag (aS _)) (aB (bw (K:=K)) (pv 3) (aG cF (pv 4) ag) (λ_ _=>rfl)) eU))))),?_]
 refine #[_,rfl,_,rfl,st,wa,ps,OF,t,rs,as,w,rfl,S,W,λp ws H1 hp s1 h1 hw1=>?_];refine #[_,rfl,_,rfl,p,ws,_,key,rfl,h1,hw1,m8 _,hT.ext s1.ext,λH2 g2 hT2=>?_];have nmp:∀{x:Addr} {o:HO},H1 x=some o->(∀ tab,o≠.tbl tab)->x≠mp:=λ{x o} e n z=>by
  obtain ⟨tab,e2,_⟩:=(hT.ext s1.ext).ex;rw[<-z,e]at e2;exact n _ (aV e2)
 have h2:=g2 _ _ (nmp h1 (λ_ z=>by cases z)) h1
 have hw2:aI K H2 (bc (onE OF w)) ws:=wY (λ_ _ e=>g2 _ _ (nmp e (λ_ z=>by cases z)) e) hw1
 have g02:Gro mp H H2:=λb o n e=>g2 _ _ n (s1 _ _ e);have hF:iO OF w key=((bc (onE OF w)).take (aM (bc (onE OF w)) key)).getLast?:=by
  unfold iO;rw[Md,<-Mf]
 have q2:=λv hv=>q v H2 g02 hT2 hv;rw[hF]at q2;have hwl:=hw2.length;have hle:aM (bc (onE OF w)) key<=(bc (onE OF w)).length:=fg _ _;generalize bc (onE OF w)=L at hw2 hwl q2 hle ⊢;generalize aM L key=at_ at q2 hle ⊢;refine #[_,rfl,_,_,rfl,rfl,_,rfl,?_];refine ite2 (λc=>?_) (λc=>?_)
 .have c':(0:Int)<(at_:Int):=cE c;have hi:at_-1<L.length:=by lia
  obtain ⟨v,hv1,hv2⟩:∃ v,ws[at_-1]?=some v/\hasP K H2 L[at_-1] v:=eO hw2 (aD hi);have hat:atI ws ((at_:Int)-1)=some v:=by
   rw[show (at_:Int)-1=((at_-1:Nat):Int) by lia];exact cL hv1
  refine #[_,rfl,_,rfl,_,_,rfl,rfl,_,_,_,_,rfl,rfl,SqL.of h2,hat,?_];refine q2 v ?_;rw[List.getLast?_eq_getElem?,bt,gU hle,lH,ar (by lia),aD hi];exact hv2
 .have c':¬ (0:Int)<(at_:Int):=lK (iZ.mpr c);refine q2 .non ?_;rw[show at_=0 by lia];rfl
def fE (k:Int):Prop:=(if k<0 then -k else k)<10^60
instance (k:Int):Decidable (fE k):=by unfold fE;exact inferInstance
def D5 {zs:List V}{k:Nat}{x:V}(h:k<zs.length):zs.set k x=zs.take k++[x]++zs.drop (k+1):=by
 rw[List.set_eq_take_append_cons_drop,ar h,jF];rfl
inductive xg (K:Frag)(vs:List V)(H:Hp)(Q:VK)(w_1:XK):Prop
 | c:∀(st t rs:Addr) (zs:List V) (k:Nat) (x:V),vs=[.ref st,.int k,x]->H st=some (.tup [.ref t,.ref rs])->H rs=some (.tup zs)->k<zs.length->zs.length<=60->(∀(st' rs':Addr) (H':Hp),Same H H'->H' st'=some (.tup [.ref t,.ref rs'])->H' rs'=some (.tup (zs.set k x))->Q (.ref st') H')->xg K vs H Q w_1
def Mi (T:Txt K mg)(y8:DF K mg "with_row" o9 qQ):FC P w K mg base 1 "with_row" qQ (xg K):=by
 refine y8.ok Cd (λvs H Q E h=>?_) (λf cdv A outer s H vs Q E hr h=>?_)
 .obtain ⟨st,t,rs,zs,k,x,rfl,_⟩:=h;rfl
 obtain ⟨st,t,rs,zs,k,x,rfl,hst,hrs,hk,hz,q⟩:=h;refine #[_,(aK (aL (i:=3) Cd.nd rfl (au rfl) (aB (aR (K:=K)) (pv 0) ag (λ_ _=>rfl)))
   (aw (aE (cX (aa (aB (aR (K:=K)) (pv 0) ag (λ_ _=>rfl)) (aa (aG Ao (aG Hf (gE (uX (K:=K)) (pv 3) lW (eI (pv 1))) (cX (aa (pv 2) ae))) (gE (uX (K:=K)) (pv 3) (eI (aG cf (pv 1) ag)) lW)) ae)))))),?_]
 refine #[_,rfl,_,_,_,_,rfl,rfl,SqT.of hst,rfl,?_];refine #[_,rfl,_,_,_,_,rfl,rfl,SqT.of hst,rfl,?_];refine #[_,rfl,_,rfl,_,rfl,rs,zs,rfl,SqT.of hrs,(λz=>?_),λ_ p hp=>?_]
 .have:=z.2;rw[fT]at this;lia
 rw[Lp];have g1:=aJ hp (.tup (zs.take k));have w1:upd H p (.tup (zs.take k)) p=some (.tup (zs.take k)):=ah;generalize upd H p (.tup (zs.take k))=H1 at g1 w1 ⊢;refine #[_,rfl,(by show 1<=sizeLine;decide),λm hm=>?_];have g2:=aJ hm (.tup [x]);have w2:upd H1 m (.tup [x]) m=some (.tup [x]):=ah;have w12:=g2 _ _ w1;generalize upd H1 m (.tup [x])=H2 at g2 w2 w12 ⊢;have hl1:(zs.take k).length=k:=by rw[bt];lia
 have rest:∀(u:Addr) (H3:Hp),Same H2 H3->H3 u=some (.tup (zs.take k++[x]))->∀{Q':VK},(∀(v:Addr) (H':Hp),Same H3 H'->H' v=some (.tup (zs.set k x))->Q' (.ref v) H')->∀(p2:Addr) (H4:Hp),Same H3 H4->H4 p2=some (.tup (zs.drop (k+1)))->ur K (.ref u) (.ref p2) H4 Q':=λu H3 _ hu Q' q' p2 H4 s4 hp2=>by
  refine #[u,p2,_,_,rfl,rfl,SqT.of (s4 _ _ hu),SqT.of hp2,by simp,?_,λz=>?_,λz v hv=>?_]
  .refine eP (aW ?_);rw[bB,hl1,eQ,dj];lia
  .refine q' u H4 s4 ?_;rw[D5 hk,z,di];exact s4 _ _ hu
  .refine q' v _ (s4.trans (aJ hv _)) ?_;rw[ah,D5 hk]
 have fin:∀(u:Addr) (H3:Hp),Same H2 H3->H3 u=some (.tup (zs.take k++[x]))->∀(v:Addr) (H':Hp),Same H3 H'->H' v=some (.tup (zs.set k x))->∀ p,H' p=none->Q (.ref p) (upd H' p (.tup [.ref t,.ref v])):=λu H3 s3 _ v H' s' hv p hp=>by
  have gp:=aJ hp (.tup [.ref t,.ref v]);exact q p v _ (g1.trans (g2.trans (s3.trans (s'.trans gp)))) ah (gp _ _ hv)
 have e1k:(k:Int)+1=((k+1:Nat):Int):=by lia
 refine #[p,m,_,_,rfl,rfl,SqT.of w12,SqT.of w2,by simp,eP (aW (by rw[hl1];show k+1<=1000;lia)),λz=>?_,λz u hu=>?_]
 .have e0:zs.take k++[x]=[x]:=by rw[z];rfl
  refine #[_,rfl,_,rfl,_,_,rfl,rfl,_,rfl,rs,zs,rfl,SqT.of (g2 _ _ (g1 _ _ hrs)),(λz=>?_),λ_ p2 hp2=>?_]
  .have:=z.1;rw[e1k,fT]at this;lia
  rw[e1k,mZ];exact rest m H2 (λ_ _ e=>e) (by rw[e0];exact w2) (λv H' s' hv=>#[(by show 2<=sizeLine;decide),fin m H2 (λ_ _ e=>e) (by rw[e0];exact w2) v H' s' hv]) p2 _ (aJ hp2 _) ah
 .have gu:=aJ hu (.tup (zs.take k++[x]));have wu:upd H2 u (.tup (zs.take k++[x])) u=some (.tup (zs.take k++[x])):=ah;generalize upd H2 u (.tup (zs.take k++[x]))=H3 at gu wu ⊢;refine #[_,rfl,_,rfl,_,_,rfl,rfl,_,rfl,rs,zs,rfl,SqT.of (gu _ _ (g2 _ _ (g1 _ _ hrs))),(λz=>?_),λ_ p2 hp2=>?_]
  .have:=z.1;rw[e1k,fT]at this;lia
  rw[e1k,mZ];exact rest u H3 gu wu (λv H' s' hv=>#[(by show 2<=sizeLine;decide),fin u H3 gu wu v H' s' hv]) p2 _ (aJ hp2 _) ah
def Mj (i:Int){K:Frag}:mY K H (.int i) (decide (fE i)):=.int i _ (by unfold fE;rfl)
inductive xh (K:Frag)(vs:List V)(H:Hp)(Q:VK)(w_1:XK):Prop
 | c:∀(st t rs:Addr) (zs:List V) (k m:Nat) (x y:V),vs=[.ref st,.int k,.int m]->H st=some (.tup [.ref t,.ref rs])->H rs=some (.tup zs)->zs[k]?=some x->zs[m]?=some y->zs.length<=60->(∀(st' rs':Addr) (H':Hp),Same H H'->H' st'=some (.tup [.ref t,.ref rs'])->H' rs'=some (.tup ((zs.set k y).set m x))->Q (.ref st') H')->xh K vs H Q w_1
def Mk (T:Txt K mg)(y9:DF K mg "exchanged" pq qT)(Ez:FC P w K mg base 1 "with_row" qQ (xg K)):FC P w K mg base 2 "exchanged" qT (xh K):=by
 refine y9.ok Cg (λvs H Q E h=>?_) (λf cdv A outer s H vs Q E hr h=>?_)
 .obtain ⟨st,t,rs,zs,k,m,x,y,rfl,_⟩:=h;rfl
 obtain ⟨st,t,rs,zs,k,m,x,y,rfl,hst,hrs,hx,hy,hz,q⟩:=h;have hk:=(aY.mp hx).1;have hm:=(aY.mp hy).1;refine #[_,(aK (aL (i:=3) Cg.nd rfl (au rfl) (aB (aR (K:=K)) (pv 0) ag (λ_ _=>rfl)))
   (aw (aE (ax Ez hr (aa (ax Ez hr (aa (pv 0) (aa (pv 1) (aa (aB (aR (K:=K)) (pv 3) (pv 2) (λ_ _=>rfl)) ae)))) (aa (pv 2) (aa (aB (aR (K:=K)) (pv 3) (pv 1) (λ_ _=>rfl)) ae))))))),?_]
 refine #[_,rfl,_,_,_,_,rfl,rfl,SqT.of hst,rfl,?_];refine #[_,rfl,_,rfl,_,rfl,_,rfl,_,_,_,_,rfl,rfl,SqT.of hrs,cL hy,?_];refine #[st,t,rs,zs,k,y,rfl,hst,hrs,hk,hz,λst' rs' H' s' h1 h2=>?_];refine #[_,rfl,_,rfl,_,rfl,_,_,_,_,rfl,rfl,SqT.of (s' _ _ hrs),cL hx,?_];exact #[st',t,rs',zs.set k y,m,x,rfl,h1,h2,by rw[gk];exact hm,by rw[gk];exact hz,λst2 rs2 H2 s2 w1 w2=>q st2 rs2 H2 (s'.trans s2) w1 w2]
inductive xi (K:Frag)(vs:List V)(H:Hp)(Q:VK)(w_1:XK):Prop
 | c:∀(i:Int),vs=[.int i]->fE i->Q .non H->xi K vs H Q w_1
def Ml (T:Txt K mg)(zb:DF K mg "need_key" oN qE)(NT:FC P w K mg base 2 "is_key" qD (wD K)):FC P w K mg base 3 "need_key" qE (xi K):=by
 refine zb.ok Iv (λvs H Q E h=>?_) (λf cdv A outer s H vs Q E hr h=>?_)
 .obtain ⟨i,rfl,_⟩:=h;rfl
 obtain ⟨i,rfl,c,q0⟩:=h;refine #[_,(aw (bu (dZ (dM (ax NT hr (aa (pv 0) ae)))) (aw uh) bz)),?_];refine #[_,rfl,_,_,rfl,Mj i,_,rfl,?_];rw[aU c];refine iteF ?_;exact q0
inductive xj (K:Frag)(vs:List V)(H:Hp)(Q:VK)(w_1:XK):Prop
 | c:∀(r:Addr) (row:List Int) (b:Int),vs=[.ref r,.int b]->H r=some (.tup (row.map V.int))->row.length<=900->(∀ k∈row,fE (k+b))->(∀(p:Addr) (H':Hp),Same H H'->H' p=some (.tup ((row.map (· + b)).map V.int))->Q (.ref p) H')->xj K vs H Q w_1
def Mm (T:Txt K mg)(zc:DF K mg "raised_row" pw qU)(NU:FC P w K mg base 3 "need_key" qE (xi K)):FC P w K mg base 4 "raised_row" qU (xj K):=by
 refine zc.ok vq (λvs H Q E h=>?_) (λf cdv A outer s H vs Q E hr h=>?_)
 .obtain ⟨r,row,b,rfl,_⟩:=h;rfl
 obtain ⟨r,row,b,rfl,hr0,hz,hfit,q0⟩:=h;refine #[_,(aK (aL (i:=2) vq.nd rfl (au rfl) (dC (gH (K:=K)) rfl T.gg boot_tuple (aa (cg (N:=["key","by"]) (own:=1) (cap:=[1]) rfl (fm (pv 0)) #[rfl,rfl,rfl,rfl,rfl,rfl] (λ_ _ _ _ _=>(aP (i:=0) (show List.Nodup (["key","by"]:List Str) by decide +kernel) rfl (au rfl))) (λ_ _ _ _ _=>bW) (λ_ _ _ _ _=>(aG cf (pv 0) (pv 1)))) ae)))
   (aK (cO PassesOwn.never rfl (fm (pv 2)) (aP (i:=3) vq.nd rfl (au rfl)) (aw (dB (ax NU hr (aa (pv 3) ae)))))
   (aw (aE (pv 2))))),?_]
 refine #[_,rfl,r,rfl,#[_,SqT.of hr0],λD hD=>?_];refine ik (xs:=row.map V.int) (λi U H2=>∃(x0:Option V),U=[x0,some (.int b)]/\H2 D=some (.lst (((row.take i).map (· + b)).map V.int))/\But D H H2) ?_ ?_ ?_ ?_
 .exact #[_,rfl,ah,λb o n e=>by rw[ak n];exact e]
 .rintro i U H2 _ ⟨x0,rfl,_,k2⟩;exact SqT.of (k2 _ _ (aq hr0 hD) hr0)
 .rintro i m x U H2 hx hm ⟨x0,rfl,h2,k2⟩;rw[aQ]at hx;obtain ⟨k,hk,rfl⟩:=cI.mp hx;have hi:=(aY.mp hk).1;rw[af]at hm;refine bZ ?_;refine #[_,rfl,_,rfl,_,_,rfl,rfl,_,h2,aW (by rw[af,af,bt];lia),m-1,by lia,by rw[af];lia,_,rfl,?_,λb o n e=>by rw[ak n];exact k2 b o n e];rw[ah,cx hi,(aY.mp hk).2,aN,aN];rfl
 rintro U H2 ⟨x0,rfl,h2,k2⟩;rw[af,bh (av _)]at h2;have s2:Same H H2:=λb o e=>k2 b o (aq e hD) e;refine #[D,_,rfl,.inl #[SqL.of h2,λp hp=>?_]];have g3:=aJ hp (.tup ((row.map (· + b)).map V.int));have w3:upd H2 p (.tup ((row.map (· + b)).map V.int)) p=some (.tup ((row.map (· + b)).map V.int)):=ah;generalize upd H2 p (.tup ((row.map (· + b)).map V.int))=H3 at g3 w3 ⊢;have s3:=s2.trans g3;refine #[_,rfl,p,rfl,#[_,SqT.of w3],?_];refine oq (xs:=(row.map (· + b)).map V.int) (λi U H4=>∃ x3:Option V,U=[some (.ref r),some (.int b),some (.ref p),x3]/\H3=H4) ?_ ?_ ?_ ?_
 .exact #[_,rfl,rfl]
 .rintro i U H4 _ ⟨x3,rfl,rfl⟩;exact SqT.of w3
 .rintro i x U H4 hx ⟨x3,rfl,rfl⟩;rw[aQ,aQ]at hx;obtain ⟨k',hk',rfl⟩:=cI.mp hx;obtain ⟨k,hk,rfl⟩:=cI.mp hk';exact #[_,rfl,_,rfl,hfit k (cW hk),_,rfl,rfl]
 rintro U H4 ⟨x3,rfl,rfl⟩;exact #[_,rfl,q0 p H3 s3 w3]
def D7 {OF:List (List Int)}{f:List Int->List Int}{i:Nat}{row:List Int}(h:OF[i]?=some row):(OF.take (i+1)).map f=(OF.take i).map f++[f row]:=by
 obtain ⟨hi,rfl⟩:=aY.mp h;rw[cx hi,aN];rfl
inductive xk (K:Frag)(vs:List V)(H:Hp)(Q:VK)(w_1:XK):Prop
 | c:∀(st t rs:Addr) (as:List Addr) (OF:List (List Int)) (b:Int),vs=[.ref st,.int b]->H st=some (.tup [.ref t,.ref rs])->H rs=some (.tup (as.map V.ref))->bA H as OF->OF.length<=60->(∀ r∈OF,r.length<=900)->(∀ r∈OF,∀ k∈r,fE (k+b))->(∀(st' rs':Addr) (bs:List Addr) (H':Hp),Same H H'->H' st'=some (.tup [.ref t,.ref rs'])->H' rs'=some (.tup (bs.map V.ref))->bA H' bs (OF.map λr=>r.map (· + b))->Q (.ref st') H')->xk K vs H Q w_1
def Mn (T:Txt K mg)(zd:DF K mg "raised" px qV)(NV:FC P w K mg base 4 "raised_row" qU (xj K)):FC P w K mg base 5 "raised" qV (xk K):=by
 refine zd.ok II (λvs H Q E h=>?_) (λf cdv A outer s H vs Q E hr h=>?_)
 .obtain ⟨st,t,rs,as,OF,b,rfl,_⟩:=h;rfl
 obtain ⟨st,t,rs,as,OF,b,rfl,hst,hrs,hA,hz,h9,hfit,q0⟩:=h;have hal:=hA.length;refine #[_,(aw (aE (cX (aa (aB (aR (K:=K)) (pv 0) ag (λ_ _=>rfl)) (aa (dC (gH (K:=K)) rfl T.gg boot_tuple (aa (cg (N:=["row","by"]) (own:=1) (cap:=[1]) rfl (fm (aB (aR (K:=K)) (pv 0) ag (λ_ _=>rfl))) #[rfl,rfl,rfl,rfl,rfl,rfl] (λ_ _ _ _ _=>(aP (i:=0) (show List.Nodup (["row","by"]:List Str) by decide +kernel) rfl (au rfl))) (λ_ _ _ _ _=>bW) (λ_ _ _ _ _=>(ax NV hr (aa (pv 0) (aa (pv 1) ae))))) ae)) ae))))),?_];refine #[_,rfl,_,_,_,_,rfl,rfl,SqT.of hst,rfl,?_];refine #[_,rfl,_,_,_,_,rfl,rfl,SqT.of hst,rfl,rs,rfl,#[_,SqT.of hrs],λD hD=>?_];refine ik (xs:=as.map V.ref) (λi U H2=>∃(bs:List Addr) (x0:Option V),U=[x0,some (.int b)]/\H2 D=some (.lst (bs.map V.ref))/\bA H2 bs ((OF.take i).map λr=>r.map (· + b))/\But D H H2) ?_ ?_ ?_ ?_
 .exact #[[],_,rfl,ah,.nil,λb o n e=>by rw[ak n];exact e]
 .rintro i U H2 _ ⟨bs,x0,rfl,_,_,k2⟩;exact SqT.of (k2 _ _ (aq hrs hD) hrs)
 .rintro i m x U H2 hx hm ⟨bs,x0,rfl,h2,hB,k2⟩;rw[aQ]at hx;obtain ⟨r,hr1,rfl⟩:=cI.mp hx;obtain ⟨row,hrow,hr2⟩:=eO hA hr1;have hi:=(aY.mp hrow).1;have hbl:=hB.length;rw[af,bt]at hbl;rw[af]at hm;have s02:Same H H2:=λb o e=>k2 b o (aq e hD) e;have hm9:=h9 row (cW hrow);refine bZ ?_;refine #[_,rfl,_,rfl,r,row,b,rfl,s02 _ _ hr2,hm9,hfit row (cW hrow),λp H3 s3 h3=>?_]
  .have h3D:=s3 _ _ h2;have ncD:∀{x:Addr} {o:List V},H3 x=some (.tup o)->x≠D:=λ{x o} e z=>by
    rw[z,h3D]at e;cases e
   have kD:∀ b o,b≠D->H3 b=some o->upd H3 D (.lst (bs.map V.ref++[.ref p])) b=some o:=λb o n e=>by rw[ak n];exact e
   refine #[_,h3D,aW (by rw[af];lia),m-1,by lia,by rw[af];lia,bs++[p],_,rfl,?_,?_,λb o n e=>kD _ _ n (s3 _ _ (k2 b o n e))]
   .rw[ah,aN];rfl
   .rw[D7 hrow];exact bA.snoc (bA.keep (p:=D) (d:=D) (λa row e=>ncD e) kD (hB.ext s3)) (kD _ _ (ncD h3) h3)
 rintro U H2 ⟨bs,x0,rfl,h2,hB,k2⟩;rw[af,bh (by lia)]at hB;have s2:Same H H2:=λb o e=>k2 b o (aq e hD) e;refine #[D,_,rfl,.inl #[SqL.of h2,λr2 hr2=>?_]];have s3:=aJ hr2 (.tup (bs.map V.ref));have h3:upd H2 r2 (.tup (bs.map V.ref)) r2=some (.tup (bs.map V.ref)):=ah;have B3:=hB.ext s3;have s13:=s2.trans s3;generalize upd H2 r2 (.tup (bs.map V.ref))=H3 at s3 h3 s13 B3 ⊢;refine #[(by show 2<=sizeLine;decide),λst' hst'=>?_];have ss:=aJ hst' (.tup [.ref t,.ref r2]);exact q0 st' r2 bs _ (s13.trans ss) ah (ss _ _ h3) (B3.ext ss)
inductive xl (K:Frag)(vs:List V)(H:Hp)(Q:VK)(w_1:XK):Prop
 | c:∀(r:Addr) (row:List Int),vs=[.ref r]->H r=some (.tup (row.map V.int))->row.length<=900->(∀(p:Addr) (H':Hp),Same H H'->H' p=some (.tup ((row.reverse.map (- ·)).map V.int))->Q (.ref p) H')->xl K vs H Q w_1
def Mo (T:Txt K mg)(ze:DF K mg "row_about" pz qW):FC P w K mg base 1 "row_about" qW (xl K):=by
 refine ze.ok IJ (λvs H Q E h=>?_) (λf cdv A outer s H vs Q E hr h=>?_)
 .obtain ⟨r,row,rfl,_⟩:=h;rfl
 obtain ⟨r,row,rfl,hr0,hz,q⟩:=h;refine #[_,(aw (aE (dC (gH (K:=K)) rfl T.gg boot_tuple (aa (cg (N:=["key"]) (own:=1) (cap:=[]) rfl (Hv rfl T.Ew (aa (pv 0) ae)) #[rfl,rfl,rfl,rfl,rfl,rfl] (λ_ _ _ _ _=>(aP (i:=0) (show List.Nodup (["key"]:List Str) by decide +kernel) rfl (au rfl))) (λ_ _ _ _ _=>bW) (λ_ _ _ _ _=>(gy gA (pv 0)))) ae)))),?_];refine #[_,rfl,r,_,rfl,SqT.of hr0,λD hD=>?_];refine Hw (xs:=row.map V.int) (λi U H2=>∃(x0:Option V),U=[x0]/\H2 D=some (.lst (((row.reverse.take i).map (- ·)).map V.int))/\But D H H2) ?_ ?_ ?_ ?_
 .exact #[_,rfl,ah,λb o n e=>by rw[ak n];exact e]
 .rintro i U H2 _ ⟨x0,rfl,_,k2⟩;exact SqT.of (k2 _ _ (aq hr0 hD) hr0)
 .rintro i m x U H2 hx hm ⟨x0,rfl,h2,k2⟩;rw[<-List.map_reverse,aQ]at hx;obtain ⟨k,hk,rfl⟩:=cI.mp hx;have hi:=(aY.mp hk).1;have hil:=hi;rw[fh]at hil;rw[af]at hm;refine bZ ?_;refine #[_,rfl,_,rfl,_,h2,aW (by rw[af,af,bt,fh];lia),m-1,by lia,by rw[af];lia,_,rfl,?_,λb o n e=>by rw[ak n];exact k2 b o n e];rw[ah,cx hi,(aY.mp hk).2,aN,aN];rfl
 rintro U H2 ⟨x0,rfl,h2,k2⟩;rw[af,bh (by rw[fh];exact av _)]at h2;have s2:Same H H2:=λb o e=>k2 b o (aq e hD) e;refine #[D,_,rfl,.inl #[SqL.of h2,λp hp=>?_]];exact q p _ (s2.trans (aJ hp _)) ah
inductive xm (K:Frag)(vs:List V)(H:Hp)(Q:VK)(w_1:XK):Prop
 | c:∀(st t rs:Addr) (as:List Addr) (OF:List (List Int)),vs=[.ref st]->H st=some (.tup [.ref t,.ref rs])->H rs=some (.tup (as.map V.ref))->bA H as OF->OF.length<=60->(∀ r∈OF,r.length<=900)->(∀(st' rs':Addr) (bs:List Addr) (H':Hp),Same H H'->H' st'=some (.tup [.ref t,.ref rs'])->H' rs'=some (.tup (bs.map V.ref))->bA H' bs (OF.map λr=>r.reverse.map (- ·))->Q (.ref st') H')->xm K vs H Q w_1
def Mp (T:Txt K mg)(zg:DF K mg "turned_about" pA qX)(NW:FC P w K mg base 1 "row_about" qW (xl K)):FC P w K mg base 2 "turned_about" qX (xm K):=by
 refine zg.ok IK (λvs H Q E h=>?_) (λf cdv A outer s H vs Q E hr h=>?_)
 .obtain ⟨st,t,rs,as,OF,rfl,_⟩:=h;rfl
 obtain ⟨st,t,rs,as,OF,rfl,hst,hrs,hA,hz,h9,q⟩:=h;have hal:=hA.length;refine #[_,(aw (aE (cX (aa (aB (aR (K:=K)) (pv 0) ag (λ_ _=>rfl)) (aa (dC (gH (K:=K)) rfl T.gg boot_tuple (aa (cg (N:=["row"]) (own:=1) (cap:=[]) rfl (fm (aB (aR (K:=K)) (pv 0) ag (λ_ _=>rfl))) #[rfl,rfl,rfl,rfl,rfl,rfl] (λ_ _ _ _ _=>(aP (i:=0) (show List.Nodup (["row"]:List Str) by decide +kernel) rfl (au rfl))) (λ_ _ _ _ _=>bW) (λ_ _ _ _ _=>(ax NW hr (aa (pv 0) ae)))) ae)) ae))))),?_];refine #[_,rfl,_,_,_,_,rfl,rfl,SqT.of hst,rfl,?_];refine #[_,rfl,_,_,_,_,rfl,rfl,SqT.of hst,rfl,rs,rfl,#[_,SqT.of hrs],λD hD=>?_];refine ik (xs:=as.map V.ref) (λi U H2=>∃(bs:List Addr) (x0:Option V),U=[x0]/\H2 D=some (.lst (bs.map V.ref))/\bA H2 bs ((OF.take i).map λr=>r.reverse.map (- ·))/\But D H H2) ?_ ?_ ?_ ?_
 .exact #[[],_,rfl,ah,.nil,(λb o n e=>by rw[ak n];exact e)]
 .rintro i U H2 _ ⟨bs,x0,rfl,_,_,k2⟩;exact SqT.of (k2 _ _ (aq hrs hD) hrs)
 .rintro i m x U H2 hx hm ⟨bs,x0,rfl,h2,hB,k2⟩;rw[aQ]at hx;obtain ⟨r,hr1,rfl⟩:=cI.mp hx;obtain ⟨row,hrow,hr2⟩:=eO hA hr1;have hi:=(aY.mp hrow).1;have hbl:=hB.length;rw[af,bt]at hbl;rw[af]at hm;have s02:Same H H2:=λb o e=>k2 b o (aq e hD) e;have hm9:=h9 row (cW hrow);refine bZ ?_;refine #[_,rfl,r,row,rfl,s02 _ _ hr2,hm9,λp H3 s3 h3=>?_];have h3D:=s3 _ _ h2;have ncD:∀{x:Addr} {o:List V},H3 x=some (.tup o)->x≠D:=λ{x o} e z=>by
   rw[z,h3D]at e;cases e
  have kD:∀ b o,b≠D->H3 b=some o->upd H3 D (.lst (bs.map V.ref++[.ref p])) b=some o:=λb o n e=>by rw[ak n];exact e
  refine #[_,h3D,aW (by rw[af];lia),m-1,by lia,by rw[af];lia,bs++[p],_,rfl,?_,?_,λb o n e=>kD _ _ n (s3 _ _ (k2 b o n e))]
  .rw[ah,aN];rfl
  .rw[D7 hrow];exact bA.snoc (bA.keep (p:=D) (d:=D) (λa row e=>ncD e) kD (hB.ext s3)) (kD _ _ (ncD h3) h3)
 rintro U H2 ⟨bs,x0,rfl,h2,hB,k2⟩;rw[af,bh (by lia)]at hB;have s2:Same H H2:=λb o e=>k2 b o (aq e hD) e;refine #[D,_,rfl,.inl #[SqL.of h2,λr2 hr2=>?_]];have s3:=aJ hr2 (.tup (bs.map V.ref));have h3:upd H2 r2 (.tup (bs.map V.ref)) r2=some (.tup (bs.map V.ref)):=ah;have B3:=hB.ext s3;have s13:=s2.trans s3;generalize upd H2 r2 (.tup (bs.map V.ref))=H3 at s3 h3 s13 B3 ⊢;refine #[(by show 2<=sizeLine;decide),λst' hst'=>?_];have ss:=aJ hst' (.tup [.ref t,.ref r2]);exact q st' r2 bs _ (s13.trans ss) ah (ss _ _ h3) (B3.ext ss)
def tG {α:Type}[BEq α][LawfulBEq α]:∀{l m:List α},l.Nodup->(∀ x∈l,x∈m)->l.length<=m.length
 | [],_,_,_=>cS _
 | a::l,m,h,hs=>by
  obtain ⟨h1,h2⟩:=c6.mp h;have ha:=hs a bL;have hp:=uc ha;have:=tG (l:=l) (m:=m.erase a) h2 λx hx=>(List.mem_erase_of_ne (λz:x=a=>h1 (by rw[<-z];exact hx))).mpr (hs x (cp _ hx));rw[List.length_erase_of_mem ha]at this;rw[dH];lia
def D8 {l:List Nat}{n:Nat}(h:l.Nodup)(hn:l.length=n)(hl:∀ x∈l,x<n){k:Nat}(hk:k<n):k∈l:=by
 refine Classical.byContradiction λc=>?_;have h1:=tG (l:=k::l) (m:=List.range n) (c6.mpr #[c,h]) λx hx=>by
  rcases bq.mp hx with rfl|hx
  .exact cC.mpr hk
  .exact cC.mpr (hl x hx)
 rw[bY,dH]at h1;lia
def nodup_range {l:List Nat}{n:Nat}(h:l.Nodup)(hn:l.length=n)(hl:∀ x∈l,x<n):l.Perm (List.range n):=
 (ub h jL).mpr λk=>#[λhk=>cC.mpr (hl k hk),λhk=>D8 h hn hl (cC.mp hk)]
structure bC (ps o:List Nat):Prop where
 perm:o.Perm (List.range (ps.length+1))
 zero:o[0]?=some 0
 up:∀ k p,par ps k=some p->k<ps.length+1->o.getD p 0<o.getD k 0
section
variable {ps o:List Nat}
def bC.len (h:bC ps o):o.length=ps.length+1:=by rw[h.perm.length_eq,bY]
def bC.nodup (h:bC ps o):o.Nodup:=h.perm.nodup_iff.mpr jL
def bC.mem (h:bC ps o){j:Nat}:j∈o↔j<ps.length+1:=h.perm.mem_iff.trans cC
def bC.getD_lt (h:bC ps o){k:Nat}(hk:k<ps.length+1):o.getD k 0<ps.length+1:=by
 have:=h.len;rw[aF,aD (by lia)];exact h.mem.mp (cJ _)
def bC.idx_lt (h:bC ps o){j:Nat}(hj:j<ps.length+1):o.idxOf j<ps.length+1:=by
 have:=gn.mpr (h.mem.mpr hj);rw[h.len]at this;exact this
def bC.get_idx (h:bC ps o){j:Nat}(hj:j<ps.length+1):o.getD (o.idxOf j) 0=j:=by
 have:=gn.mpr (h.mem.mpr hj);rw[aF,aD this];exact nR this
def bC.idx_get (h:bC ps o){k:Nat}(hk:k<ps.length+1):o.idxOf (o.getD k 0)=k:=by
 have hl:=h.len;have e:=h.get_idx (h.getD_lt hk);have h1:=h.idx_lt (h.getD_lt hk);generalize o.idxOf (o.getD k 0)=m at e h1;rw[aF,aD (show m<o.length by lia),aF,aD (show k<o.length by lia)]at e;exact (List.getElem_inj h.nodup).mp e
def bC.get0 (h:bC ps o):o.getD 0 0=0:=by rw[aF,h.zero];rfl
def bC.idx0 (h:bC ps o):o.idxOf 0=0:=by
 have:=h.idx_get (k:=0) (by lia);rw[h.get0]at this;exact this
def bC.idx_pos (h:bC ps o){j:Nat}(hj:j<ps.length+1)(h1:1<=j):1<=o.idxOf j:=by
 refine i0 λz=>?_;have:=h.get_idx hj;rw[z,h.get0]at this;lia
def bC.get_pos (h:bC ps o){k:Nat}(hk:k<ps.length+1)(h1:1<=k):1<=o.getD k 0:=by
 refine i0 λz=>?_;have:=h.idx_get hk;rw[z,h.idx0]at this;lia
end
def parN (ps:List Nat)(k:Nat):Nat:=(par ps k).getD 0
def b9 (ps o:List Nat):List Nat:=(List.range ps.length).map λj=>o.getD (parN ps (o.idxOf (j+1))) 0
def bQ (OF:List (List Int))(o:List Nat):List (List Int):=(List.range OF.length).map λj=>aC OF (o.idxOf j)
def eZ (ps o:List Nat):(b9 ps o).length=ps.length:=by
 unfold b9;rw[af,bY]
def Mq {k:Nat}:par ps (k+1)=ps[k]?:=rfl
def xn (h:bC ps o){k p:Nat}(hk:k<ps.length+1)(hp:par ps k=some p):par (b9 ps o) (o.getD k 0)=some (o.getD p 0):=by
 have k1:1<=k:=by
  refine i0 λz=>?_;subst z;cases hp
 have h1:=h.get_pos hk k1;have h2:=h.getD_lt hk;obtain ⟨j,e⟩:∃ j,o.getD k 0=j+1:=#[o.getD k 0-1,by lia];have e2:=h.idx_get hk;rw[e]at e2 h2 ⊢;rw[Mq];unfold b9;rw[aQ,dY (by lia)];show some (o.getD (parN ps (o.idxOf (j+1))) 0)=_;rw[e2];unfold parN;rw[hp];rfl
def D9 {w:List Nat}{f:Nat->Nat}{t:Nat}(h:t<w.length):(w.map f).getD t 0=f (w.getD t 0):=by
 rw[aF,aF,aQ,aD h];rfl
def Mr {w:List Nat}(h:bC ps o)(hw:f6 ps w)(hlt:∀ x∈w,x<ps.length+1):f6 (b9 ps o) (w.map λk=>o.getD k 0):=λt ht=>by
 rw[af]at ht;rw[D9 ht,D9 (by lia)];refine xn h (hlt _ ?_) (hw t ht);rw[aF,aD ht];exact cJ _
def xo (k:Nat):∀ o:List Nat,(o.map λk:Nat=>(k:Int)).idxOf (k:Int)=o.idxOf k
 | []=>rfl
 | x::o=>by
  rw[bK,List.idxOf_cons,List.idxOf_cons,xo k o];by_cases c:x=k
  .subst c;simp
  .have:((x:Int)==(k:Int))=false:=by
    rw[tU];lia
   rw[this,show (x==k)=false from beq_eq_false_iff_ne.mpr c]
structure lq (ps done free:List Nat):Prop where
 nd:done.Nodup
 lt:∀ x∈done,x<ps.length+1
 head:done[0]?=some 0
 up:∀ k p,k∈done->par ps k=some p->p∈done/\done.idxOf p<done.idxOf k
 fnd:free.Nodup
 fmem:∀ m,m∈free↔m<ps.length+1/\m∉done/\∃ p,par ps m=some p/\p∈done
def Ms (ps:List Nat)(T:bf ps):lq ps [0] (bN ps 0 (ps.length+1)) where
 nd:=by simp
 lt:=λx hx=>by
  rw[a0.mp hx];lia
 head:=rfl
 up:=λk p hk hp=>by
  rw[a0.mp hk]at hp;cases hp
 fnd:=(si ps 0 _).imp λ{x y} (h:x<y)=>bX h
 fmem:=λm=>by
  rw[cY];constructor
  .rintro ⟨h1,h2⟩;have:=(bM T h2).1;exact #[h1,λz=>by rw[a0.mp z]at this;lia,0,h2,a0.mpr rfl]
  .rintro ⟨h1,_,p,hp,hm⟩;rw[a0.mp hm]at hp;exact #[h1,hp]
def Ea {l:List Nat}(h:l.Nodup){j k m:Nat}(hj:l[j]?=some k):m∈l.eraseIdx j↔m∈l/\m≠k:=by
 induction l generalizing j with
 | nil=>cases hj
 | cons a l ih=>
  obtain ⟨h1,h2⟩:=c6.mp h;cases j with
  | zero=>
   cases hj
   rw[List.eraseIdx_cons_zero,bq];exact #[λz=>#[.inr z,λe=>h1 (e ▸ z)],λz=>z.1.elim (λe=>absurd e z.2) id]
  | succ j=>
   rw[lE]at hj;rw[List.eraseIdx_cons_succ,bq,bq,ih h2 hj];constructor
   .rintro (rfl|⟨z,n⟩)
    .exact #[.inl rfl,λe=>h1 (e ▸ cW hj)]
    .exact #[.inr z,n]
   .rintro ⟨rfl|z,n⟩
    .exact .inl rfl
    .exact .inr #[z,n]
def Mt {free:List Nat}(T:bf ps)(D:lq ps done free){j k:Nat}(hj:free[j]?=some k):lq ps (done++[k]) (free.eraseIdx j++bN ps k (ps.length+1)):=by
 obtain ⟨hk1,hk2,q,hq1,hq2⟩:=(D.fmem k).mp (cW hj);have hne:done≠[]:=λz=>by
  have:=D.head;rw[z]at this;cases this
 have ix:∀{x:Nat},x∈done->(done++[k]).idxOf x=done.idxOf x:=λ{x} h=>by rw[og,ar h]
 have ixk:(done++[k]).idxOf k=done.length:=by rw[og,az hk2];simp
 refine #[?_,?_,?_,?_,?_,?_]
 .rw[fK];exact #[D.nd,by simp,λa ha b hb=>by rw[a0.mp hb];exact λz=>hk2 (z ▸ ha)]
 .intro x hx;rcases bO.mp hx with h|h
  .exact D.lt x h
  .rw[a0.mp h];exact hk1
 .rw[iT (lN.mpr hne)];exact D.head
 .intro x p hx hp;rcases bO.mp hx with h|h
  .obtain ⟨g1,g2⟩:=D.up x p h hp;exact #[fG _ g1,by rw[ix g1,ix h];exact g2]
  .rw[a0.mp h]at hp ⊢;rw[hq1]at hp;cases hp
   refine #[fG _ hq2,?_];rw[ix hq2,ixk];exact gn.mpr hq2
 .rw[fK];refine #[D.fnd.sublist (List.eraseIdx_sublist _ _),(si ps k _).imp λ{x y} (h:x<y)=>bX h,λa ha b hb e=>?_];subst e;obtain ⟨_,_,p,hp,hpd⟩:=(D.fmem a).mp ((Ea D.fnd hj).mp ha).1;rw[(cY.mp hb).2]at hp;cases hp
  exact hk2 hpd
 .intro m;rw[bO,Ea D.fnd hj,D.fmem,cY];constructor
  .rintro (⟨⟨g1,g2,p,g3,g4⟩,g5⟩|⟨g1,g2⟩)
   .exact #[g1,λz=>(bO.mp z).elim g2 λz=>g5 (a0.mp z),p,g3,fG _ g4]
   .refine #[g1,λz=>?_,k,g2,dQ _ (a0.mpr rfl)];rcases bO.mp z with z|z
    .exact hk2 (D.up m k z g2).1
    .have:=(bM T g2).1;rw[a0.mp z]at this;lia
  .rintro ⟨g1,g2,p,g3,g4⟩;rcases bO.mp g4 with g4|g4
   .exact .inl #[#[g1,λz=>g2 (fG _ z),p,g3,g4],λz=>g2 (dQ _ (a0.mpr z))]
   .rw[a0.mp g4]at g3;exact .inr #[g1,g3]
def Mu {free:List Nat}(T:bf ps)(D:lq ps done free)(h:done.length<ps.length+1):0<free.length:=by
 have main:∀ n k,k<n->k<ps.length+1->k∉done->∃ m,m∈free:=by
  intro n
  induction n with
  | zero=>exact λk hk=>absurd hk (iY _)
  | succ n ih=>
   intro k hk hk1 hk2;have k0:1<=k:=i0 λz=>hk2 (by rw[z];exact cW D.head);obtain ⟨p,hp⟩:=iz k0 hk1;have hpl:=(bM T hp).1;by_cases c:p∈done
   .exact #[k,(D.fmem k).mpr #[hk1,hk2,p,hp,c]]
   .exact ih p (by lia) (by lia) c
 obtain ⟨k,hk1,hk2⟩:∃ k,k<ps.length+1/\k∉done:=by
  refine Classical.byContradiction λc=>?_;have:=tG (l:=List.range (ps.length+1)) (m:=done) jL λx hx=>Classical.byContradiction λz=>c #[x,cC.mp hx,z];rw[bY]at this;lia
 obtain ⟨m,hm⟩:=main (k+1) k (by lia) hk1 hk2;exact uc hm
def ordL (n:Nat)(done:List Nat):List Nat:=(List.range n).map λk=>if k∈done then done.idxOf k else 0
def lr (n:Nat)(done:List Nat):(ordL n done).length=n:=by
 unfold ordL;rw[af,bY]
def ng {n k:Nat}(h:k<n):(ordL n done)[k]?=some (if k∈done then done.idxOf k else 0):=by
 unfold ordL;rw[aQ,dY h];rfl
def Mv {n k:Nat}{done:List Nat}(h:k∉done)(hk:k<n):(ordL n done).set k done.length=ordL n (done++[k]):=by
 refine fe λm=>?_;rw[nY,lr];by_cases hm:m<n
 .rw[ng hm,ng hm];by_cases c:k=m
  .subst c;rw[ar rfl,ar hk,ar (dQ _ (a0.mpr rfl)),og,az h];simp
  .rw[az c];by_cases cm:m∈done
   .rw[ar cm,ar (fG _ cm),og,ar cm]
   .rw[az cm,az λz=>(bO.mp z).elim cm λz=>c (a0.mp z).symm]
 .rw[az (by lia),dk (by rw[lr];lia),dk (by rw[lr];lia)]
def Mw (n:Nat):ordL n [0]=List.replicate n 0:=by
 refine fe λm=>?_;by_cases hm:m<n
 .rw[ng hm,tV,ar hm];by_cases c:m=0
  .subst c;simp
  .rw[az λz=>c (a0.mp z)]
 .rw[dk (by rw[lr];lia),dk (by rw[eF];lia)]
def Mx {free:List Nat}(T:bf ps)(D:lq ps done free)(h:done.length=ps.length+1):bC ps (ordL (ps.length+1) done):=by
 have hm:∀{k},k<ps.length+1->k∈done:=λ{k} hk=>D8 D.nd h D.lt hk;have hget:∀{k},k<ps.length+1->(ordL (ps.length+1) done).getD k 0=done.idxOf k:=λ{k} hk=>by
  rw[aF,ng hk,ar (hm hk)];rfl
 have hil:∀{k},k<ps.length+1->done.idxOf k<ps.length+1:=λ{k} hk=>by
  have:=gn.mpr (hm hk);lia
 refine #[nodup_range ?_ (lr _ _) ?_,?_,?_]
 .unfold ordL;refine fJ.mpr (List.Pairwise.imp_of_mem (λ{x y} hx hy (hxy:x<y) e=>?_) n8);have mx:=hm (cC.mp hx);have my:=hm (cC.mp hy);rw[ar mx,ar my]at e;have e1:=nR (gn.mpr mx);have e2:=nR (gn.mpr my);have e3:done[done.idxOf x]'(gn.mpr mx)=done[done.idxOf y]'(gn.mpr my):=(List.getElem_inj D.nd).mpr e;rw[e1,e2]at e3;lia
 .intro x hx;obtain ⟨k,hk,rfl⟩:=bI.mp hx;rw[ar (hm (cC.mp hk))];exact hil (cC.mp hk)
 .rw[ng (by lia),ar (hm (by lia))];have:=D.head;cases done with
  | nil=>cases this
  | cons a l=>
   cases this
   simp
 .intro k p hp hk;have:=(bM T hp).1;rw[hget hk,hget (by lia)];exact (D.up k p (hm hk) hp).2
inductive xp (K:Frag)(vs:List V)(H:Hp)(Q:VK)(w_1:XK):Prop
 | c:∀(t a:Addr) (ps o:List Nat),vs=[.ref t,.ref a]->H t=some (.tup (b8 ps))->bf ps->ps.length<=40->H a=some (.lst (o.map nV))->bC ps o->(∀ H',Same H H'->Q (.bl true) H')->xp K vs H Q w_1
def Mz (T:Txt K mg)(zh:DF K mg "is_order" pB qY)(yy:FC P w K mg base 2 "is_one_of_first" mB (sY K)):FC P w K mg base 3 "is_order" qY (xp K):=by
 refine zh.ok IL (λvs H Q E h=>?_) (λf cdv A outer s H vs Q E hr h=>?_)
 .obtain ⟨t,a,ps,o,rfl,_⟩:=h;rfl
 obtain ⟨t,a,ps,o,rfl,ht,hT,hz,ha,hI,q⟩:=h;refine #[_,(c8 (bu (PW.pt (fO (dZ (dM (aT (j3 (K:=K)) rfl T.ly boot_isinstance (aa (pv 1) (aa (jP (v:=.ty "list") rfl T.jz boot_list rfl) ae))))) (fN (aX hE (aT (bJ (K:=K)) rfl T.bG bF (aa (pv 1) ae)) (aT (bJ (K:=K)) rfl T.bG bF (aa (pv 0) ae)) (aS _))))) (aw (aE bV)) bz)
   (c8 (bu (dZ (dM (aT (l9 rfl) rfl T.nv boot_all (aa (cg (N:=["knot","tree"]) (own:=1) (cap:=[0]) rfl (cQ (pv 1)) #[rfl,rfl,rfl,rfl,rfl,rfl] (λ_ _ _ _ _=>(aP (i:=0) (show List.Nodup (["knot","tree"]:List Str) by decide +kernel) rfl (au rfl))) (λ_ _ _ _ _=>bW) (λ_ _ _ _ _=>(ax yy hr (aa (aT (bJ (K:=K)) rfl T.bG bF (aa (pv 1) ae)) (aa (pv 0) ae))))) ae)))) (aw (aE bV)) bz)
   (c8 (bu (PW.pt (fO (aX hE (aB (bw (K:=K)) (pv 1) ag (λ_ _=>rfl)) ag (aS _)) (fN (aX eG (aT GV rfl T.bG bF (aa (dC (GU rfl) rfl T.Nn boot_set (aa (pv 1) ae)) ae)) (aT (bJ (K:=K)) rfl T.bG bF (aa (pv 1) ae)) (aS _))))) (aw (aE bV)) bz)
   (aw (aE (aT (l9 rfl) rfl T.nv boot_all (aa (cg (N:=["knot","thing","tree"]) (own:=1) (cap:=[1,0]) rfl (gY rfl T.dG (aa ag (aa (aT (bJ (K:=K)) rfl T.bG bF (aa (pv 0) ae)) ae))) #[rfl,rfl,rfl,rfl,rfl,rfl] (λ_ _ _ _ _=>(aP (i:=0) (show List.Nodup (["knot","thing","tree"]:List Str) by decide +kernel) rfl (au rfl))) (λ_ _ _ _ _=>bW) (λ_ _ _ _ _=>(d3 eG (aB (bw (K:=K)) (pv 1) (aB (aR (K:=K)) (pv 2) (pv 0) (λ_ _=>rfl)) (λ_ _=>rfl)) (aB (bw (K:=K)) (pv 1) (pv 0) (λ_ _=>rfl)) (aS _)))) ae))))))),?_]
 have hlen:=hI.len;refine #[λU' H'=>U'=[some (.ref t),some (.ref a)]/\H=H',?_,?_]
 .refine #[_,rfl,_,_,_,_,rfl,.lst ha,uD,_,rfl,?_];refine iteF ?_;refine #[_,rfl,_,_,rfl,.inl (SqL.of ha),?_];refine #[_,rfl,_,_,rfl,.inr (SqT.of ht),rfl,_,rfl,?_];exact cU (by rw[ck,af,hlen]) #[rfl,rfl]
 rintro U' H' ⟨rfl,rfl⟩;refine #[λU' H'=>U'=[some (.ref t),some (.ref a)]/\Same H H',?_,?_]
 .refine #[_,rfl,a,rfl,#[_,SqL.of ha],λD hD=>?_];refine c9 (xs:=o.map nV) (λi U H2=>∃ x0:Option V,U=[x0,some (.ref t)]/\H2 D=some (.lst ((List.replicate i true).map V.bl))/\But D H H2) ?_ ?_ ?_ ?_
  .exact #[_,rfl,ah,λb o n e=>by rw[ak n];exact e]
  .rintro i U H2 _ ⟨x0,rfl,_,k2⟩;exact SqL.of (k2 _ _ (aq ha hD) ha)
  .rintro i m x U H2 hx hm ⟨x0,rfl,h2,k2⟩;obtain ⟨hi,rfl⟩:=eN hx;rw[af]at hm;have hk:=hI.mem.mp (show o.getD i 0∈o from iL hi);refine bZ ?_;refine #[_,rfl,_,_,rfl,.inr (SqT.of (k2 _ _ (aq ht hD) ht)),_,rfl,_,_,rfl,by lia,by rw[ck];lia,?_];refine #[_,h2,aW (by rw[af,eF];lia),m-1,by lia,by rw[af];lia,_,rfl,?_,λb o n e=>by rw[ak n];exact k2 b o n e];rw[ah,i4,aN];rfl
  rintro U H2 ⟨x0,rfl,h2,k2⟩;refine #[D,_,rfl,SqL.of h2,_,rfl,?_];rw[tD];exact iteF #[rfl,λb o e=>k2 b o (aq e hD) e]
 rintro U' H1 ⟨rfl,s1⟩;have ha1:=s1 _ _ ha;have ht1:=s1 _ _ ht;refine #[λU' H'=>U'=[some (.ref t),some (.ref a)]/\Same H1 H',?_,?_]
 .refine #[_,rfl,_,_,_,_,rfl,rfl,SqL.of ha1,eL (i:=0) (by lia),rfl,_,rfl,?_];rw[hI.get0];refine cU rfl ?_;have em:(o.map nV)=((o.map λk:Nat=>(k:Int)).map V.int):=by rw[bT];rfl
  refine #[_,rfl,a,_,rfl,SqL.of (em ▸ ha1),by rw[af];lia,λl hl=>?_];have hml:(metI (o.map λk:Nat=>(k:Int))).length=o.length:=by
   rw[GT,af];exact fJ.mpr (List.Pairwise.imp (λ{x y} h z=>h (by lia)) hI.nodup)
  refine #[l,_,_,rfl,ah,by lia,_,rfl,_,_,rfl,.inl (SqL.of (aJ hl _ _ _ ha1)),_,_,rfl,rfl,_,rfl,?_];exact uE (by rw[af];lia) #[rfl,aJ hl _]
 rintro U' H2 ⟨rfl,s2⟩;have ha2:=s2 _ _ ha1;have ht2:=s2 _ _ ht1;refine #[_,rfl,_,_,rfl,.inr (SqT.of ht2),1,_,rfl,#[by lia,by lia,by rw[ck];lia,by rw[ck];lia],λD hD=>?_];have en:((((b8 ps).length:Nat):Int)-1).toNat=ps.length:=by rw[ck];lia
 rw[en];refine ij (n:=ps.length) (λi U H3=>∃ x0:Option V,U=[x0,some (.ref a),some (.ref t)]/\H3 D=some (.lst ((List.replicate i true).map V.bl))/\But D H2 H3) ?_ ?_ ?_
 .exact #[_,rfl,ah,λb o n e=>by rw[ak n];exact e]
 .rintro i m U H3 hm hi ⟨x0,rfl,h3,k3⟩;have e1:(1:Int)+(i:Int)=((i+1:Nat):Int):=by lia
  rw[e1];have s23:Same H2 H3:=λb o e=>k3 b o (aq e hD) e;have ha3:=s23 _ _ ha2;have ht3:=s23 _ _ ht2;obtain ⟨p,hp⟩:=iz (ps:=ps) (k:=i+1) (by lia) (by lia);have hpl:=bM hT hp;have hatT:=iE (ps:=ps) (k:=i+1) (by lia);rw[kS hp]at hatT;refine bZ ?_;refine #[_,rfl,_,rfl,_,rfl,_,_,_,_,rfl,rfl,SqT.of ht3,hatT,_,_,_,_,rfl,rfl,SqL.of ha3,eL (by lia),?_];refine #[_,rfl,_,rfl,_,_,_,_,rfl,rfl,SqL.of ha3,eL (by lia),_,_,rfl,rfl,?_];refine #[_,h3,aW (by rw[af,eF];lia),m-1,by lia,by lia,_,rfl,?_,λb o n e=>by rw[ak n];exact k3 b o n e];have hu:=hI.up _ _ hp (by lia);rw[ah,i4,aN,aU (show ((o.getD p 0:Nat):Int)<((o.getD (i+1) 0:Nat):Int) by lia)];rfl
 rintro U H3 ⟨x0,rfl,h3,k3⟩;refine #[D,_,rfl,SqL.of h3,?_];rw[tD];exact q _ (s1.trans (s2.trans λb o e=>k3 b o (aq e hD) e))
inductive tH (K:Frag)(vs:List V)(H:Hp)(Q:VK)(w_1:XK):Prop
 | c:∀(a b:Addr) (w o:List Nat),vs=[.ref a,.ref b]->H a=some (.lst (w.map nV))->H b=some (.lst (o.map nV))->w.length<=900->(∀ k∈w,k<o.length)->(∀(p:Addr) (H':Hp),H p=none->Same H H'->H' p=some (.lst ((w.map λk=>o.getD k 0).map nV))->Q (.ref p) H')->tH K vs H Q w_1
def MA (T:Txt K mg)(zi:DF K mg "named_way" pD mH):FC P w K mg base 1 "named_way" mH (tH K):=by
 refine zi.ok IM (λvs H Q E h=>?_) (λf cdv A outer s H vs Q E hr h=>?_)
 .obtain ⟨a,b,w,o,rfl,_⟩:=h;rfl
 obtain ⟨a,b,w,o,rfl,ha,hb,hz,hlt,q⟩:=h;refine #[_,(aw (aE (cg (N:=["knot","order"]) (own:=1) (cap:=[1]) rfl (cQ (pv 0)) #[rfl,rfl,rfl,rfl,rfl,rfl] (λ_ _ _ _ _=>(aP (i:=0) (show List.Nodup (["knot","order"]:List Str) by decide +kernel) rfl (au rfl))) (λ_ _ _ _ _=>bW) (λ_ _ _ _ _=>(aB (bw (K:=K)) (pv 1) (pv 0) (λ_ _=>rfl)))))),?_];refine #[_,rfl,a,rfl,#[_,SqL.of ha],λD hD=>?_];refine c9 (xs:=w.map nV) (λi U H2=>∃ x0:Option V,U=[x0,some (.ref b)]/\H2 D=some (.lst (((w.take i).map λk=>o.getD k 0).map nV))/\But D H H2) ?_ ?_ ?_ ?_
 .exact #[_,rfl,ah,λb o n e=>by rw[ak n];exact e]
 .rintro i U H2 _ ⟨x0,rfl,_,k2⟩;exact SqL.of (k2 _ _ (aq ha hD) ha)
 .rintro i m x U H2 hx hm ⟨x0,rfl,h2,k2⟩;rw[aQ]at hx;obtain ⟨k,hk,rfl⟩:=cI.mp hx;have hi:=(aY.mp hk).1;rw[af]at hm;have hkl:=hlt k (cW hk);refine bZ ?_;refine #[_,rfl,_,rfl,_,_,_,_,rfl,rfl,SqL.of (k2 _ _ (aq hb hD) hb),eL hkl,?_];refine #[_,h2,aW (by rw[af,af,bt];lia),m-1,by lia,by rw[af];lia,_,rfl,?_,λb o n e=>by rw[ak n];exact k2 b o n e];rw[ah,cx hi,(aY.mp hk).2,aN,aN];rfl
 rintro U H2 ⟨x0,rfl,h2,k2⟩;rw[af,bh (av _)]at h2;exact q D H2 hD (λb o e=>k2 b o (aq e hD) e) h2
def Eb (h:bA H as OF)(d:Addr):∀{ks:List Nat},(∀ k∈ks,k<OF.length)->bA H (ks.map λk=>as.getD k d) (ks.map λk=>aC OF k)
 | [],_=>.nil
 | k::ks,hk=>by
  obtain ⟨a,h1,h2⟩:=h.get (hk k bL);refine .cons ?_ (Eb h d λx hx=>hk x (cp _ hx));show H (as.getD k d)=_;rw[aF,h1];exact h2
inductive xq (K:Frag)(vs:List V)(H:Hp)(Q:VK)(w_1:XK):Prop
 | c:∀(st t rs a:Addr) (as:List Addr) (ps o:List Nat) (OF:List (List Int)),vs=[.ref st,.ref a]->bR H st ps OF t rs as->H a=some (.lst (o.map nV))->bC ps o->(∀(u t' rs':Addr) (as':List Addr) (H':Hp),Same H H'->H' u=some (.tup [.ref t',.ref rs'])->H' t'=some (.tup (b8 (b9 ps o)))->H' rs'=some (.tup (as'.map V.ref))->bA H' as' (bQ OF o)->Q (.ref u) H')->xq K vs H Q w_1
def MB (T:Txt K mg)(zj:DF K mg "named" pC qZ)(NX:FC P w K mg base 3 "is_order" qY (xp K))(zk:FC P w K mg base 1 "named_way" mH (tH K)):FC P w K mg base 4 "named" qZ (xq K):=by
 refine zj.ok qw (λvs H Q E h=>?_) (λf cdv A outer s H vs Q E hr h=>?_)
 .obtain ⟨st,t,rs,a,as,ps,o,OF,rfl,_⟩:=h;rfl
 obtain ⟨st,t,rs,a,as,ps,o,OF,rfl,S,ha,hI,q⟩:=h;refine #[_,(aK (aL (i:=2) qw.nd rfl (eE rfl) (aB (aR (K:=K)) (pv 0) ag (λ_ _=>rfl)))
   (c8 (bu (dZ (dM (ax NX hr (aa (pv 2) (aa (pv 1) ae))))) (aw uh) bz)
   (aK (gG (i:=3) (N:=["knot","order"]) (own:=1) (cap:=[1]) qw.nd rfl rfl rfl (fQ rfl T.dG (aa (aT (bJ (K:=K)) rfl T.bG bF (aa (pv 2) ae)) ae)) #[rfl,rfl,rfl,rfl,rfl,rfl] (λ_ _ _ _ _=>(aP (i:=0) (show List.Nodup (["knot","order"]:List Str) by decide +kernel) rfl (au rfl))) (λ_ _ _ _ _=>bW) (λ_ _ _ _ _=>(BJ (K:=K) F.plainAttrs_list F.slot_list_index F.type_list_index BI (pv 1) (aa (pv 0) ae))))
   (aK (aL (i:=4) qw.nd rfl (au rfl) (aG jU (cy (aa eU ae)) (ax zk hr (aa (cg (N:=["knot","tree"]) (own:=1) (cap:=[2]) rfl (cQ (gE (j4 (K:=K)) (pv 3) (eI ag) lW)) #[rfl,rfl,rfl,rfl,rfl,rfl] (λ_ _ _ _ _=>(aP (i:=0) (show List.Nodup (["knot","tree"]:List Str) by decide +kernel) rfl (au rfl))) (λ_ _ _ _ _=>bW) (λ_ _ _ _ _=>(aB (aR (K:=K)) (pv 1) (pv 0) (λ_ _=>rfl)))) (aa (pv 1) ae)))))
   (aw (aE (cX (aa (dC (gH (K:=K)) rfl T.gg boot_tuple (aa (pv 4) ae)) (aa (dC (gH (K:=K)) rfl T.gg boot_tuple (aa (cg (N:=["knot","stand"]) (own:=1) (cap:=[0]) rfl (cQ (pv 3)) #[rfl,rfl,rfl,rfl,rfl,rfl] (λ_ _ _ _ _=>(aP (i:=0) (show List.Nodup (["knot","stand"]:List Str) by decide +kernel) rfl (au rfl))) (λ_ _ _ _ _=>bW) (λ_ _ _ _ _=>(aB (aR (K:=K)) (aB (aR (K:=K)) (pv 1) ag (λ_ _=>rfl)) (pv 0) (λ_ _=>rfl)))) ae)) ae))))))))),?_]
 refine #[_,rfl,_,_,_,_,rfl,rfl,SqT.of S.st,rfl,?_];have hol:=hI.len;have hfew:=S.few;have hrl:=S.len;have em:(o.map nV)=((o.map λk:Nat=>(k:Int)).map V.int):=by rw[bT];rfl
 refine #[λU' H'=>U'=[some (.ref st),some (.ref a),some (.ref t),none,none]/\Same H H',?_,?_]
 .exact #[_,rfl,_,rfl,t,a,ps,o,rfl,S.tr,S.T,S.few,ha,hI,λH' s'=>#[_,rfl,iteF #[rfl,s']]]
 rintro U' H1 ⟨rfl,s1⟩;have S1:=S.same s1;have ha1:=s1 _ _ ha;refine #[_,rfl,_,_,rfl,.inr (SqT.of S1.tr),_,rfl,by lia,by rw[ck];lia,λD hD=>?_];have el:(((b8 ps).length:Nat):Int).toNat=ps.length+1:=by rw[ck,eA]
 rw[el];refine ij (n:=ps.length+1) (λi U H3=>∃ x0:Option V,U=[x0,some (.ref a)]/\H3 D=some (.lst (((List.range i).map λj=>o.idxOf j).map nV))/\But D H1 H3) ?_ ?_ ?_
 .exact #[_,rfl,ah,λb o n e=>by rw[ak n];exact e]
 .rintro i m U H3 hm hi ⟨x0,rfl,h3,k3⟩;rw[gV];have ha3:=k3 _ _ (aq ha1 hD) ha1;refine bZ ?_;refine #[_,rfl,.inl #[rfl,_,SqL.of ha3],_,rfl,a,o.map (λk:Nat=>(k:Int)),(i:Int),rfl,rfl,em ▸ ha3,by rw[af];lia,bI.mpr #[i,hI.mem.mpr hi,rfl],?_];rw[xo];refine #[_,h3,aW (by rw[af,af,bY];lia),m-1,by lia,by lia,_,rfl,?_,λb o n e=>by rw[ak n];exact k3 b o n e];rw[ah,eS,aN,aN];rfl
 rintro U H3 ⟨x0,rfl,h3,k3⟩;have s13:Same H1 H3:=λb o e=>k3 b o (aq e hD) e;have S3:=S1.same s13;have ha3:=s13 _ _ ha1;clear k3 hD;refine #[(by show 1<=sizeLine;decide),λl0 hl0=>?_];have g4:=aJ hl0 (.lst [V.non]);have w4:upd H3 l0 (.lst [V.non]) l0=some (.lst [V.non]):=ah;generalize upd H3 l0 (.lst [V.non])=H4 at g4 w4 ⊢;refine #[_,rfl,1,rfl,D,_,rfl,SqL.of (g4 _ _ h3),λp hp=>?_];rw[show (1:Int)=((1:Nat):Int) from rfl,mZ];have ed:(((List.range (ps.length+1)).map λj=>o.idxOf j).map nV).drop 1=((List.range ps.length).map λj=>o.idxOf (j+1)).map nV:=by
  rw[List.range_succ_eq_map,bK,bK,List.drop_one,List.tail_cons,bT,bT,bT];rfl
 rw[ed];have g5:=aJ hp (.lst (((List.range ps.length).map λj=>o.idxOf (j+1)).map nV));have w5:upd H4 p (.lst (((List.range ps.length).map λj=>o.idxOf (j+1)).map nV)) p=some (.lst (((List.range ps.length).map λj=>o.idxOf (j+1)).map nV)):=ah;generalize upd H4 p (.lst (((List.range ps.length).map λj=>o.idxOf (j+1)).map nV))=H5 at g5 w5 ⊢;have s35:=g4.trans g5;have S5:=S3.same s35;refine #[p,rfl,#[_,SqL.of w5],λD2 hD2=>?_];refine c9 (xs:=((List.range ps.length).map λj=>o.idxOf (j+1)).map nV) (λi U H6=>∃ x0:Option V,U=[x0,some (.ref t)]/\H6 D2=some (.lst (((List.range i).map λj=>parN ps (o.idxOf (j+1))).map nV))/\But D2 H5 H6) ?_ ?_ ?_ ?_
 .exact #[_,rfl,ah,λb o n e=>by rw[ak n];exact e]
 .rintro i U H6 _ ⟨x0,rfl,_,k6⟩;exact SqL.of (k6 _ _ (aq w5 hD2) w5)
 .rintro i m x U H6 hx hm ⟨x0,rfl,h6,k6⟩;rw[aQ,aQ]at hx;obtain ⟨y,hy,rfl⟩:=cI.mp hx;obtain ⟨j,hj,rfl⟩:=cI.mp hy;obtain ⟨hil,rfl⟩:=aY.mp hj;rw[bY]at hil;rw[ug];rw[af,af,bY]at hm;have hk:=hI.idx_lt (j:=i+1) (by lia);obtain ⟨q',hq⟩:=iz (ps:=ps) (hI.idx_pos (j:=i+1) (by lia) (by lia)) hk;have hatT:=iE (ps:=ps) hk;rw[kS hq]at hatT;have ep:parN ps (o.idxOf (i+1))=q':=by unfold parN;rw[hq];rfl
  refine bZ ?_;refine #[_,rfl,_,rfl,_,_,_,_,rfl,rfl,SqT.of (k6 _ _ (aq S5.tr hD2) S5.tr),hatT,?_];refine #[_,h6,aW (by rw[af,af,bY];lia),m-1,by lia,by rw[af,af,bY];lia,_,rfl,?_,λb o n e=>by rw[ak n];exact k6 b o n e];rw[ah,eS,aN,aN];simp only[bK,gR];rw[ep]
 rintro U H6 ⟨x0,rfl,h6,k6⟩;rw[af,af,bY]at h6;have s56:Same H5 H6:=λb o e=>k6 b o (aq e hD2) e;have s36:=s35.trans s56;refine #[_,rfl,D2,a,_,o,rfl,h6,s36 _ _ ha3,by rw[af,bY];lia,λk hk=>?_,λu H7 hu s67 hu7=>?_]
 .obtain ⟨j,hj,rfl⟩:=bI.mp hk;have hj:=cC.mp hj;have hk:=hI.idx_lt (j:=j+1) (by lia);obtain ⟨q',hq⟩:=iz (ps:=ps) (hI.idx_pos (j:=j+1) (by lia) (by lia)) hk;have:=(bM S.T hq).1;unfold parN;rw[hq];show q'<o.length;lia
 have en:((List.range ps.length).map λj=>parN ps (o.idxOf (j+1))).map (λk=>o.getD k 0)=b9 ps o:=by rw[bT];rfl
 rw[en]at hu7;have s37:=s36.trans s67;refine #[l0,u,_,_,rfl,rfl,s67 _ _ (s56 _ _ (g5 _ _ w4)),hu7,eP (aW (by rw[af,eZ];show 1+ps.length<=1000;lia)),λc hc=>?_];have g8:=aJ hc (.lst (b8 (b9 ps o)));have w8:upd H7 c (.lst ([V.non]++(b9 ps o).map nV)) c=some (.lst (b8 (b9 ps o))):=ah;have g8:Same H7 (upd H7 c (.lst ([V.non]++(b9 ps o).map nV))):=g8;generalize upd H7 c (.lst ([V.non]++(b9 ps o).map nV))=H8 at g8 w8 ⊢;have s38:=s37.trans g8;refine #[_,rfl,c,_,rfl,.inl #[SqL.of w8,λtn htn=>?_]];have g9:=aJ htn (.tup (b8 (b9 ps o)));have w9:upd H8 tn (.tup (b8 (b9 ps o))) tn=some (.tup (b8 (b9 ps o))):=ah;generalize upd H8 tn (.tup (b8 (b9 ps o)))=H9 at g9 w9 ⊢;have s39:=s38.trans g9;have S9:=S3.same s39;have h9:=s39 _ _ h3;refine #[_,rfl,D,rfl,#[_,SqL.of h9],λD3 hD3=>?_];refine c9 (xs:=((List.range (ps.length+1)).map λj=>o.idxOf j).map nV) (λi U HA=>∃ x0:Option V,U=[x0,some (.ref st)]/\HA D3=some (.lst ((((List.range i).map λj=>o.idxOf j).map λk=>as.getD k t).map V.ref))/\But D3 H9 HA) ?_ ?_ ?_ ?_
 .exact #[_,rfl,ah,λb o n e=>by rw[ak n];exact e]
 .rintro i U HA _ ⟨x0,rfl,_,kA⟩;exact SqL.of (kA _ _ (aq h9 hD3) h9)
 .rintro i m x U HA hx hm ⟨x0,rfl,hA,kA⟩;rw[aQ,aQ]at hx;obtain ⟨y,hy,rfl⟩:=cI.mp hx;obtain ⟨j,hj,rfl⟩:=cI.mp hy;obtain ⟨hil,rfl⟩:=aY.mp hj;rw[bY]at hil;rw[ug];rw[af,af,bY]at hm;have hk:=hI.idx_lt (j:=i) (by lia);obtain ⟨r,hr1,hr2⟩:=S9.at_.get (k:=o.idxOf i) (by lia);have s9A:Same H9 HA:=λb o e=>kA b o (aq e hD3) e;refine bZ ?_;refine #[_,rfl,_,_,_,_,rfl,rfl,SqT.of (s9A _ _ S9.st),rfl,_,rfl,_,_,_,_,rfl,rfl,SqT.of (s9A _ _ S9.rs),iH hr1,?_];refine #[_,hA,aW (by rw[af,af,af,bY];lia),m-1,by lia,by rw[af,af,bY];lia,_,rfl,?_,λb o n e=>by rw[ak n];exact kA b o n e];rw[ah,eS,aN,aN,aN];simp only[bK,gR];rw[aF,hr1];rfl
 rintro U HA ⟨x0,rfl,hA,kA⟩;rw[af,af,bY]at hA;have s9A:Same H9 HA:=λb o e=>kA b o (aq e hD3) e;refine #[D3,_,rfl,.inl #[SqL.of hA,λr2 hr2=>?_]];have gB:=aJ hr2 (.tup ((((List.range (ps.length+1)).map λj=>o.idxOf j).map λk=>as.getD k t).map V.ref));refine #[(by show 2<=sizeLine;decide),λu2 hu2=>?_];have gC:=aJ hu2 (.tup [.ref tn,.ref r2]);have s9C:=s9A.trans (gB.trans gC);refine q u2 tn r2 _ _ (s1.trans (s13.trans (s39.trans s9C))) ah (s9C _ _ w9) (gC _ _ ah) ?_;have:=Eb (S9.at_.ext s9C) t (ks:=(List.range (ps.length+1)).map λj=>o.idxOf j) (λk hk=>by
  obtain ⟨j,hj,rfl⟩:=bI.mp hk;have:=hI.idx_lt (cC.mp hj);lia)
 have er:((List.range (ps.length+1)).map λj=>o.idxOf j).map (λk=>aC OF k)=bQ OF o:=by
  unfold bQ;rw[hrl,bT];rfl
 rw[er]at this;exact this
def Ec (f:Nat->V):∀(l:List Nat) (i:Nat),(l.map f).eraseIdx i=(l.eraseIdx i).map f
 | [],_=>rfl
 | _::_,0=>rfl
 | a::l,i+1=>congrArg (f a :: ·) (Ec f l i)
def sqIx {j n:Nat}(h:j<n):seqIndex? (j:Int) n=some j:=by
 unfold seqIndex?;have h1:¬ ((j:Int)<0):=by lia
 have h2:(decide (0<=(j:Int))&&decide ((j:Int)<(n:Int)))=true:=by
  rw[aU (by lia),aU (by lia)];rfl
 simp only[az h1,h2,if_true,eA]
def MC {j n:Nat}(h:j<n):ixN n (j:Int)=some j:=by
 unfold ixN;rw[ar (by lia),ar (by lia),eA]
inductive xt (K:Frag)(vs:List V)(H:Hp)(Q:VK)(w_1:XK):Prop
 | c:∀(d L t:Addr) (ps:List Nat),vs=[.ref d,.ref t]->H t=some (.tup (b8 ps))->bf ps->ps.length<=40->LS K L d H->(∀(p:Addr) (o:List Nat) (H':Hp),H p=none->H' p=some (.lst (o.map nV))->bC ps o->Keep d H H'->LS K L d H'->Q (.ref p) H')->xt K vs H Q w_1
def MD (T:Txt K mg)(zm:DF K mg "_law_order" qj rO)(cn:FC P w K mg base 2 "_law_take" eW (fq K)):FC P w K mg base 3 "_law_order" rO (xt K):=by
 refine zm.ok ko (λvs H Q E h=>?_) (λf cdv A outer s H vs Q E hr h=>?_)
 .obtain ⟨d,L,t,ps,rfl,_⟩:=h;rfl
 obtain ⟨d,L,t,ps,rfl,ht,hT,hz,hs,q⟩:=h;refine #[_,(aK (gG (i:=2) (N:=["_law_knot"]) (own:=1) (cap:=[]) ko.nd rfl rfl rfl (fm (pv 1)) #[rfl,rfl,rfl,rfl,rfl,rfl] (λ_ _ _ _ _=>(aP (i:=0) (show List.Nodup (["_law_knot"]:List Str) by decide +kernel) rfl (au rfl))) (λ_ _ _ _ _=>bW) (λ_ _ _ _ _=>ag))
   (aK (gG (i:=3) (N:=["_law_knot","_law_tree_here"]) (own:=1) (cap:=[1]) ko.nd rfl rfl rfl (gY rfl T.dG (aa ag (aa (aT (bJ (K:=K)) rfl T.bG bF (aa (pv 1) ae)) ae))) #[rfl,rfl,rfl,rfl,rfl,rfl] (λ_ _ _ _ _=>(aP (i:=0) (show List.Nodup (["_law_knot","_law_tree_here"]:List Str) by decide +kernel) rfl (au rfl))) (λ_ _ _ _ _=>(jd (aX dr (aB (aR (K:=K)) (pv 1) (pv 0) (λ_ _=>rfl)) ag (aS _)))) (λ_ _ _ _ _=>(pv 0)))
   (aK (cO PassesOwn.never rfl (gY rfl T.dG (aa ag (aa (aT (bJ (K:=K)) rfl T.bG bF (aa (pv 1) ae)) ae))) (aP (i:=4) ko.nd rfl (au rfl)) (aK (aL (i:=5) ko.nd rfl (eE rfl) (d5 F.plainAttrs_list F.slot_list_pop F.type_list_pop FQ (pv 3) (aa (ax cn hr (aa (pv 0) (aa (aT (bJ (K:=K)) rfl T.bG bF (aa (pv 3) ae)) ae))) ae)))
   (aK (oj (pv 4) (ui (pv 2) (pv 5) uu))
   (aw (aL (i:=3) ko.nd rfl (au rfl) (aG jU (pv 3) (cg (N:=["_law_other","_law_tree_here","_law_knot"]) (own:=1) (cap:=[1,5]) rfl (gY rfl T.dG (aa ag (aa (aT (bJ (K:=K)) rfl T.bG bF (aa (pv 1) ae)) ae))) #[rfl,rfl,rfl,rfl,rfl,rfl] (λ_ _ _ _ _=>(aP (i:=0) (show List.Nodup (["_law_other","_law_tree_here","_law_knot"]:List Str) by decide +kernel) rfl (au rfl))) (λ_ _ _ _ _=>(jd (aX dr (aB (aR (K:=K)) (pv 1) (pv 0) (λ_ _=>rfl)) (pv 2) (aS _)))) (λ_ _ _ _ _=>(pv 0)))))))))
   (aw (aE (pv 2)))))),?_]
 refine #[_,rfl,t,rfl,#[_,SqT.of ht],λD hD=>?_];refine ik (xs:=b8 ps) (λi U H2=>∃ x0:Option V,U=[x0]/\H2 D=some (.lst ((List.replicate i 0).map nV))/\But D H H2) ?_ ?_ ?_ ?_
 .exact #[_,rfl,ah,λb o n e=>by rw[ak n];exact e]
 .rintro i U H2 _ ⟨x0,rfl,_,k2⟩;exact SqT.of (k2 _ _ (aq ht hD) ht)
 .rintro i m x U H2 hx hm ⟨x0,rfl,h2,k2⟩;rw[ck]at hm;have hi:=(aY.mp hx).1;rw[ck]at hi;refine bZ ?_;refine #[_,h2,aW (by rw[af,eF];lia),m-1,by lia,by rw[ck];lia,_,rfl,?_,λb o n e=>by rw[ak n];exact k2 b o n e];rw[ah,i4,aN];rfl
 rintro U H2 ⟨x0,rfl,h2,k2⟩;rw[ck,<-Mw]at h2;have s02:Same H H2:=λb o e=>k2 b o (aq e hD) e;have ht2:=s02 _ _ ht;have hnd:∀{H':Hp} {p:Addr},LS K L d H'->H' p=none->p≠d:=λ{H' p} s e z=>by
  obtain ⟨_,_,_,e2,_⟩:=s.ex;rw[<-z,e]at e2;cases e2
 have hDd:D≠d:=hnd hs hD;have htd:t≠d:=λz=>by
  obtain ⟨_,_,_,e2,_⟩:=hs.ex;rw[<-z,ht]at e2;cases e2
 have en:((((b8 ps).length:Nat):Int)-1).toNat=ps.length:=by rw[ck];lia
 have ch1:∀ k,bN ps k 1=[]:=λk=>rfl;refine #[_,rfl,_,_,rfl,.inr (SqT.of ht2),1,_,rfl,#[by lia,by lia,by rw[ck];lia,by rw[ck];lia],λD2 hD2=>?_];rw[en];refine ij (n:=ps.length) (λi U H3=>∃ x0:Option V,U=[x0,some (.ref t)]/\H3 D2=some (.lst ((bN ps 0 (i+1)).map nV))/\But D2 H2 H3) ?_ ?_ ?_
 .exact #[_,rfl,ah,λb o n e=>by rw[ak n];exact e]
 .rintro i m U H3 hm hi ⟨x0,rfl,h3,k3⟩;have e1:(1:Int)+(i:Int)=((i+1:Nat):Int):=by lia
  rw[e1];have h3t:=k3 _ _ (aq ht2 hD2) ht2;have hlen:=iC ps 0 (i+1);refine #[_,rfl,_,rfl,_,_,_,_,rfl,rfl,SqT.of h3t,iE (by lia),sI _ _ _,_,rfl,?_];refine ite2 (λc=>?_) (λc=>?_)
  .have c':par ps (i+1)=some 0:=iF.mp (cE c);refine #[_,rfl,_,h3,aW (by rw[af];lia),m-1,by lia,by lia,_,rfl,?_,λb o n e=>by rw[ak n];exact k3 b o n e];rw[ah,iB (n:=i+1),ar c',aN];rfl
  .have c':¬ par ps (i+1)=some 0:=λz=>c (aU (iF.mpr z));refine #[m-1,by lia,by lia,_,rfl,?_,k3];rw[iB (n:=i+1),az c',di];exact h3
 rintro U H3 ⟨x0,rfl,h3,k3⟩;have s23:Same H2 H3:=λb o e=>k3 b o (aq e hD2) e;have s03:=s02.trans s23;have hD20:H D2=none:=s02.free hD2;refine #[_,rfl,_,_,rfl,.inr (SqT.of (s23 _ _ ht2)),1,_,rfl,#[by lia,by lia,by rw[ck];lia,by rw[ck];lia],?_];rw[en];refine fR (n:=ps.length) (λi U B=>∃(done free:List Nat) (fr:Addr) (x4 x5:Option V),U=[some (.ref d),some (.ref t),some (.ref D),some (.ref fr),x4,x5]/\B D=some (.lst ((ordL (ps.length+1) done).map nV))/\B fr=some (.lst (free.map nV))/\lq ps done free/\done.length=i+1/\fr≠D/\H fr=none/\Keep d H B/\LS K L d B) ?_ ?_ ?_
 .refine #[[0],_,D2,_,_,rfl,s23 _ _ h2,h3,Ms ps hT,rfl,(λz=>?_),hD20,λb o _ e=>s03 _ _ e,hs.same s03];rw[z]at hD2;rw[hD2]at h2;cases h2
 .rintro i U B hi ⟨done,free,fr,x4,x5,rfl,hBD,hBf,hd,hdl,hne,hf0,kB,cB⟩;have e1:(1:Int)+(i:Int)=((i+1:Nat):Int):=by lia
  rw[e1];have hfp:=Mu hT hd (by lia);have hfl:free.length<=ps.length+1:=by
   have:=tG (m:=List.range (ps.length+1)) hd.fnd λx hx=>cC.mpr ((hd.fmem x).mp hx).1;rw[bY]at this;exact this
  have hfd:fr≠d:=hnd hs hf0;refine #[_,rfl,.inl #[rfl,_,SqL.of hBf],_,rfl,_,rfl,_,_,rfl,.inl (SqL.of hBf),d,L,_,rfl,by rw[af];lia,cB,λv B1 v0 v1 k1 c1=>?_];rw[af]at v1;obtain ⟨j,rfl⟩:=mU v0;have hj:j<free.length:=by lia
  have hj1:(free.map nV)[j]?=some (nV free[j]):=by rw[aQ,aD hj];rfl
  have hfj:free[j]?=some free[j]:=aD hj;generalize free[j]=k at hj1 hfj;obtain ⟨hk1,hk2,_⟩:=(hd.fmem k).mp (cW hfj);refine #[fr,_,(j:Int),j,_,rfl,rfl,k1 _ _ hfd hBf,by lia,by lia,?_,hj1,?_]
  .rw[af];exact sqIx hj
  have kB1:Keep d H (upd B1 fr (.lst ((free.map nV).eraseIdx j))):=λb o n e=>by
   rw[ak (aq e hf0)];exact k1 _ _ n (kB _ _ n e)
  have cB1:LS K L d (upd B1 fr (.lst ((free.map nV).eraseIdx j))):=LS.put hs hf0 (λb o n _ e=>k1 _ _ n (kB _ _ n e)) c1;have hB1D:upd B1 fr (.lst ((free.map nV).eraseIdx j)) D=some (.lst ((ordL (ps.length+1) done).map nV)):=by
   rw[ak (bE hne)];exact k1 _ _ hDd hBD
  have hB1f:upd B1 fr (.lst ((free.map nV).eraseIdx j)) fr=some (.lst ((free.eraseIdx j).map nV)):=by rw[ah,Ec]
  generalize upd B1 fr (.lst ((free.map nV).eraseIdx j))=B2 at kB1 cB1 hB1D hB1f ⊢;have hil:i+1=done.length:=hdl.symm;have hB1t:=kB1 _ _ htd ht;refine #[_,rfl,_,rfl,_,rfl,D,_,_,k,rfl,rfl,hB1D,MC (by rw[af,lr];exact hk1),?_];have eset:((ordL (ps.length+1) done).map nV).set k (V.int ((i+1:Nat):Int))=(ordL (ps.length+1) (done++[k])).map nV:=by
   rw[<-Mv hk2 hk1,i3,hil]
  rw[eset];have kB2:Keep d H (upd B2 D (.lst ((ordL (ps.length+1) (done++[k])).map nV))):=λb o n e=>by
   rw[ak (aq e hD)];exact kB1 _ _ n e
  have cB2:LS K L d (upd B2 D (.lst ((ordL (ps.length+1) (done++[k])).map nV))):=LS.put hs hD (λb o n _ e=>kB1 _ _ n e) cB1;have hB2D:upd B2 D (.lst ((ordL (ps.length+1) (done++[k])).map nV)) D=some (.lst ((ordL (ps.length+1) (done++[k])).map nV)):=ah;have hB2f:upd B2 D (.lst ((ordL (ps.length+1) (done++[k])).map nV)) fr=some (.lst ((free.eraseIdx j).map nV)):=by
   rw[ak hne];exact hB1f
  generalize upd B2 D (.lst ((ordL (ps.length+1) (done++[k])).map nV))=B3 at kB2 cB2 hB2D hB2f ⊢;have hB3t:=kB2 _ _ htd ht;refine #[_,rfl,_,rfl,_,_,rfl,.inr (SqT.of hB3t),1,_,rfl,#[by lia,by lia,by rw[ck];lia,by rw[ck];lia],λD3 hD3=>?_];rw[en];refine ij (n:=ps.length) (λi U H3=>∃ x0:Option V,U=[x0,some (.ref t),some (.int k)]/\H3 D3=some (.lst ((bN ps k (i+1)).map nV))/\But D3 B3 H3) ?_ ?_ ?_
  .exact #[_,rfl,ah,λb o n e=>by rw[ak n];exact e]
  .rintro i m U H3 hm hi ⟨x0,rfl,h3,k3⟩;have e1:(1:Int)+(i:Int)=((i+1:Nat):Int):=by lia
   rw[e1];have h3t:=k3 _ _ (aq hB3t hD3) hB3t;have hlen:=iC ps k (i+1);refine #[_,rfl,_,rfl,_,_,_,_,rfl,rfl,SqT.of h3t,iE (by lia),_,rfl,sI _ _ _,_,rfl,?_];refine ite2 (λc=>?_) (λc=>?_)
   .have c':par ps (i+1)=some k:=iF.mp (cE c);refine #[_,rfl,_,h3,aW (by rw[af];lia),m-1,by lia,by lia,_,rfl,?_,λb o n e=>by rw[ak n];exact k3 b o n e];rw[ah,iB (n:=i+1),ar c',aN];rfl
   .have c':¬ par ps (i+1)=some k:=λz=>c (aU (iF.mpr z));refine #[m-1,by lia,by lia,_,rfl,?_,k3];rw[iB (n:=i+1),az c',di];exact h3
  rintro U B4 ⟨x0,rfl,h4,k4⟩;have s34:Same B3 B4:=λb o e=>k4 b o (aq e hD3) e;have hcl:=iC ps k (ps.length+1);have hel:(free.eraseIdx j).length<=free.length:=(List.eraseIdx_sublist _ _).length_le;refine #[fr,D3,_,_,rfl,rfl,s34 _ _ hB2f,h4,eP (aW (by rw[af,af];lia)),λc hc=>?_];rw[<-aN];have g5:=aJ hc (.lst ((free.eraseIdx j++bN ps k (ps.length+1)).map nV));have s35:=s34.trans g5;refine #[done++[k],_,c,_,_,rfl,s35 _ _ hB2D,ah,Mt hT hd hfj,by rw[bB,dj,hdl],?_,?_,λb o n e=>s35 _ _ (kB2 _ _ n e),cB2.same s35]
  .exact λz=>aq (s34 _ _ hB2D) hc z.symm
  .have h3c:=s34.free hc;cases e:H c with
   | none=>rfl
   | some o=>
    have:=kB2 c o (hnd cB2 h3c) e;rw[h3c]at this;cases this
 .rintro U B ⟨done,free,fr,x4,x5,rfl,hBD,hBf,hd,hdl,hne,hf0,kB,cB⟩;refine #[_,rfl,?_];exact q D _ B hD hBD (Mx hT hd hdl) kB cB
def ez (H:Hp)(q:Addr)(n:Nat):Prop:=∃ xs,(H q=some (.lst xs)\/H q=some (.tup xs))/\xs.length=n
def ez.same (e:Same H H'){n:Nat}(h:ez H q n):ez H' q n:=by
 obtain ⟨xs,h|h,hl⟩:=h
 .exact #[xs,.inl (e _ _ h),hl]
 .exact #[xs,.inr (e _ _ h),hl]
def ME (l:List Nat):(l.map λn:Nat=>(n:Int)).sum=((l.sum:Nat):Int):=by
 induction l with
 | nil=>rfl
 | cons a l ih=>
  rw[bK,cZ,ih,cZ,Int.natCast_add]
inductive xu (K:Frag)(vs:List V)(H:Hp)(Q:VK)(w_1:XK):Prop
 | c:∀(a:Addr) (qs:List Addr) (ls:List Nat),vs=[.ref a]->(H a=some (.lst (qs.map V.ref))\/H a=some (.tup (qs.map V.ref)))->Paired (ez H) qs ls->ls.length<=900->(∀ H',Same H H'->Q (.int ((ls.sum:Nat):Int)) H')->xu K vs H Q w_1
def MF (T:Txt K mg)(zo:DF K mg "long_together" o8 qP):FC P w K mg base 1 "long_together" qP (xu K):=by
 refine zo.ok IF (λvs H Q E h=>?_) (λf cdv A outer s H vs Q E hr h=>?_)
 .obtain ⟨a,qs,ls,rfl,_⟩:=h;rfl
 obtain ⟨a,qs,ls,rfl,ha,hP,hz,q⟩:=h;have hl:=Paired.length hP;refine #[_,(aw (aE (aT (GX rfl) rfl T.Np boot_sum (aa (cg (N:=["each"]) (own:=1) (cap:=[]) rfl (G9 (pv 0)) #[rfl,rfl,rfl,rfl,rfl,rfl] (λ_ _ _ _ _=>(aP (i:=0) (show List.Nodup (["each"]:List Str) by decide +kernel) rfl (au rfl))) (λ_ _ _ _ _=>bW) (λ_ _ _ _ _=>(aT (bJ (K:=K)) rfl T.bG bF (aa (pv 0) ae)))) ae)))),?_];have step:∀{D:Addr} (hD:H D=none) {i m:Nat} {x:V} {U:L2.St} {H2:Hp} {fin:Nat->L2.St->Hp->Prop},(qs.map V.ref)[i]?=some x->i+m=(qs.map V.ref).length->(∀ b o,b≠D->H b=some o->H2 b=some o)->H2 D=some (.lst ((ls.take i).map nV))->∃ xs,(SqL K H2 (match x with|.ref q=>q|_=>0) xs\/SqT K H2 (match x with|.ref q=>q|_=>0) xs)/\(∃ q,x=.ref q)/\ls.take (i+1)=ls.take i++[xs.length]/\i<ls.length:=by
  intro D hD i m x U H2 fin hx hm k2 h2;rw[aQ]at hx;obtain ⟨qq,hq,rfl⟩:=cI.mp hx;obtain ⟨n,hn,hL⟩:∃ n,ls[i]?=some n/\ez H qq n:=by
   have:∀{qs:List Addr} {ls:List Nat} {i:Nat},Paired (ez H) qs ls->qs[i]?=some qq->∃ n,ls[i]?=some n/\ez H qq n:=by
    intro qs ls i r
    induction r generalizing i with
    | nil=>intro h;simp at h
    | cons a _ ih=>
     intro h;cases i with
     | zero=>
      have e:=aV (show some _=some qq from h);subst e;exact #[_,rfl,a]
     | succ i=>
      obtain ⟨n,h1,h2⟩:=ih (i:=i) (by simpa using h);exact #[n,by simpa using h1,h2]
   exact this hP hq
  have hi:=(aY.mp hn).1;obtain ⟨xs,hxs,hxl⟩:=hL;refine #[xs,?_,#[qq,rfl],?_,hi]
  .rcases hxs with hxs|hxs
   .exact .inl (SqL.of (k2 _ _ (aq hxs hD) hxs))
   .exact .inr (SqT.of (k2 _ _ (aq hxs hD) hxs))
  .rw[cx hi,(aY.mp hn).2,hxl]
 have end_:∀{D:Addr} {H2:Hp},H D=none->H2 D=some (.lst (ls.map nV))->But D H H2->(λxs H Q=>∃(p:Addr) (ns:List Int),xs=[V.ref p]/\SqL K H p (ns.map V.int)/\Q (.int ns.sum) H) [V.ref D] H2 Q:=λ{D H2} hD h2 k2=>by
  refine #[D,ls.map λn:Nat=>(n:Int),rfl,?_,?_]
  .rw[bT];exact SqL.of h2
  .rw[ME];exact q H2 (λb o e=>k2 b o (aq e hD) e)
 rcases ha with ha|ha
 .refine #[_,rfl,a,rfl,.inl #[#[_,SqL.of ha],λD hD=>?_]];refine c9 (xs:=qs.map V.ref) (λi U H2=>∃ x0:Option V,U=[x0]/\H2 D=some (.lst ((ls.take i).map nV))/\But D H H2) ?_ ?_ ?_ ?_
  .exact #[_,rfl,ah,λb o n e=>by rw[ak n];exact e]
  .rintro i U H2 _ ⟨x0,rfl,_,k2⟩;exact k2.sq (SqL.of ha) hD
  .rintro i m x U H2 hx hm ⟨x0,rfl,h2,k2⟩;obtain ⟨xs,hS,⟨qq,rfl⟩,htk,hi⟩:=step hD (U:=[x0]) (fin:=λ_ _ _=>True) hx hm k2 h2;rw[af]at hm;refine bZ ?_;refine #[_,rfl,qq,xs,rfl,hS,_,h2,aW (by rw[af,bt];lia),m-1,by lia,by rw[af];lia,_,rfl,?_,λb o n e=>by rw[ak n];exact k2 b o n e];rw[ah,htk,aN];rfl
  .rintro U H2 ⟨x0,rfl,h2,k2⟩;rw[af,bh (by lia)]at h2;exact end_ hD h2 k2
 .refine #[_,rfl,a,rfl,.inr #[#[_,SqT.of ha],λD hD=>?_]];refine ik (xs:=qs.map V.ref) (λi U H2=>∃ x0:Option V,U=[x0]/\H2 D=some (.lst ((ls.take i).map nV))/\But D H H2) ?_ ?_ ?_ ?_
  .exact #[_,rfl,ah,λb o n e=>by rw[ak n];exact e]
  .rintro i U H2 _ ⟨x0,rfl,_,k2⟩;exact SqT.of (k2 _ _ (aq ha hD) ha)
  .rintro i m x U H2 hx hm ⟨x0,rfl,h2,k2⟩;obtain ⟨xs,hS,⟨qq,rfl⟩,htk,hi⟩:=step hD (U:=[x0]) (fin:=λ_ _ _=>True) hx hm k2 h2;rw[af]at hm;refine bZ ?_;refine #[_,rfl,qq,xs,rfl,hS,_,h2,aW (by rw[af,bt];lia),m-1,by lia,by rw[af];lia,_,rfl,?_,λb o n e=>by rw[ak n];exact k2 b o n e];rw[ah,htk,aN];rfl
  .rintro U H2 ⟨x0,rfl,h2,k2⟩;rw[af,bh (by lia)]at h2;exact end_ hD h2 k2
def xv:∀{js:List Nat} {qs:List Addr},js.length=qs.length->(cG js qs).map (λkv=>kV kv.1)=js.map nV
 | [],[],_=>rfl
 | [],_::_,h=>by cases h
 | _::_,[],h=>by cases h
 | j::js,q::qs,h=>by
  show V.int (j:Int)::(cG js qs).map (λkv=>kV kv.1)=nV j::js.map nV;rw[xv (Nat.succ.inj h)]
inductive spWB (K:Frag)(vs:List V)(H:Hp)(Q:VK)(w_1:XK):Prop
 | c:∀(st:Addr) (ps:List Nat) (OF:List (List Int)) (t rs:Addr) (as:List Addr) (k:Nat),vs=[.ref st,.int k]->bR H st ps OF t rs as->k<ps.length+1->(∀(p:Addr) (H':Hp),H p=none->Same H H'->H' p=some (.tup [.int ((wtR ps OF k:Nat):Int),.int ((wtF ps OF k:Nat):Int)])->Q (.ref p) H')->spWB K vs H Q w_1
def MG (T:Txt K mg)(zp:DF K mg "weight_beneath" pk qS)(yn:FC P w K mg base 7 "full_rows_beneath" mE (sP K))(EA:FC P w K mg base 1 "long_together" qP (xu K)):FC P w K mg base 8 "weight_beneath" qS (spWB K):=by
 refine zp.ok Cf (λvs H Q E h=>?_) (λf cdv A outer s H vs Q E hr h=>?_)
 .obtain ⟨st,ps,OF,t,rs,as,k,rfl,_⟩:=h;rfl
 obtain ⟨st,ps,OF,t,rs,as,k,rfl,S,hk,q⟩:=h;refine #[_,(aK (aL (i:=2) Cf.nd rfl (eE rfl) (ax yn hr (aa (pv 0) (aa (pv 1) ae))))
   (aw (aE (cX (aa (ax EA hr (aa (cg (N:=["at","stand"]) (own:=1) (cap:=[0]) rfl (Bs (pv 2)) #[rfl,rfl,rfl,rfl,rfl,rfl] (λ_ _ _ _ _=>(aP (i:=0) (show List.Nodup (["at","stand"]:List Str) by decide +kernel) rfl (au rfl))) (λ_ _ _ _ _=>bW) (λ_ _ _ _ _=>(aB (aR (K:=K)) (aB (aR (K:=K)) (pv 1) ag (λ_ _=>rfl)) (pv 0) (λ_ _=>rfl)))) ae)) (aa (ax EA hr (aa (cg (N:=["at","fulls"]) (own:=1) (cap:=[2]) rfl (Bs (pv 2)) #[rfl,rfl,rfl,rfl,rfl,rfl] (λ_ _ _ _ _=>(aP (i:=0) (show List.Nodup (["at","fulls"]:List Str) by decide +kernel) rfl (au rfl))) (λ_ _ _ _ _=>bW) (λ_ _ _ _ _=>(gF (dS hr) (pv 1) (pv 0) (λ_ _=>rfl)))) ae)) ae)))))),?_]
 refine #[_,rfl,_,rfl,st,ps,OF,t,rs,as,k,rfl,S,hk,λD qs H1 hD s1 h1 hqn hqf hF=>?_];have hnd:(benL ps k (ps.length+1)).reverse.Nodup:=wb (List.Pairwise.imp (λ{a b} (q:a<b)=>bX q) (sg ps k _));have hjn:∀ j∈(benL ps k (ps.length+1)).reverse,j<ps.length+1:=λj hj=>(f9.mp (gT.mp hj)).1;have hw1:((benL ps k (ps.length+1)).reverse.map λj=>(aC OF j).length).sum=wtR ps OF k:=v9 ((List.reverse_perm _).map _);have hw2:((benL ps k (ps.length+1)).reverse.map λj=>(ay ps OF j).length).sum=wtF ps OF k:=v9 ((List.reverse_perm _).map _);have hjl:(benL ps k (ps.length+1)).reverse.length<=ps.length+1:=by rw[fh];exact vN _ _ _
 generalize (benL ps k (ps.length+1)).reverse=js at h1 hF hnd hjn hw1 hw2 hjl;have hql:=hF.length;have hkl:=wg hql;have hfew:=S.few;refine #[_,rfl,D,cG js qs,rfl,.inl #[h1,λo L hL=>?_]];have hD2:upd H1 D (.frz o (.dK (cG js qs))) D=some (.frz o (.dK (cG js qs))):=ah;have s2:Same H (upd H1 D (.frz o (.dK (cG js qs)))):=λb u e=>by
  rw[ak (aq e hD)];exact s1 _ _ e
 have F2:bS K (upd H1 D (.frz o (.dK (cG js qs)))) ps OF js qs:=hF.ext λb u e n=>by
  rw[ak (λz=>by
   rw[z,h1]at e;cases e
   exact n _ rfl)]
  exact e
 generalize upd H1 D (.frz o (.dK (cG js qs)))=H2 at hL hD2 s2 F2 ⊢;have S2:=S.same s2;have hal:=S2.at_.length;refine Bt (o:=o) (kvs:=cG js qs) (λi U H3=>∃(bs:List Addr) (x0:Option V),U=[x0,some (.ref st)]/\H3 L=some (.lst (bs.map V.ref))/\Paired (ez H2) bs ((js.take i).map λj=>(aC OF j).length)/\But L H2 H3) ?_ ?_ ?_ ?_
 .exact #[[],_,rfl,ah,.nil,λb o n e=>by rw[ak n];exact e]
 .rintro i U H3 _ ⟨bs,x0,rfl,_,_,k3⟩;exact k3 _ _ (aq hD2 hL) hD2
 .rintro i m x U H3 hx hm ⟨bs,x0,rfl,h3,hP,k3⟩;rw[xv hql]at hx;obtain ⟨hi,rfl⟩:=eN hx;have hpl:=Paired.length hP;rw[af,bt]at hpl;have htk:js.take (i+1)=js.take i++[js.getD i 0]:=by
   rw[cx hi,aF,aD hi];rfl
  have hjm:js.getD i 0∈js:=by
   rw[aF,aD hi];exact cJ hi
  generalize js.getD i 0=j at htk hjm ⊢;obtain ⟨b,hb1,hb2⟩:=S2.at_.get (k:=j) (by rw[S.len];exact hjn j hjm);have s23:Same H2 H3:=λb o e=>k3 b o (aq e hL) e;have S3:=S2.same s23;refine bZ ?_;refine #[_,rfl,_,_,_,_,rfl,rfl,SqT.of S3.st,rfl,_,rfl,_,_,_,_,rfl,rfl,SqT.of S3.rs,iH hb1,_,h3,aW (by rw[af];lia),m-1,by lia,by lia,bs++[b],_,rfl,?_,?_,λb o n e=>by rw[ak n];exact k3 b o n e]
  .rw[ah,aN];rfl
  .rw[htk,aN];have:∀{l:List Addr} {m:List Nat},Paired (ez H2) l m->Paired (ez H2) (l++[b]) (m++[(aC OF j).length]):=by
    intro l m r
    induction r with
    | nil=>exact .cons #[_,.inr hb2,by rw[af]] .nil
    | cons a _ ih=>exact .cons a ih
   exact this hP
 rintro U H3 ⟨bs,x0,rfl,h3,hP,k3⟩;rw[hkl,bh (av _)]at hP;have s23:Same H2 H3:=λb o e=>k3 b o (aq e hL) e;have lift:∀{H H':Hp} (e:Same H H') {l:List Addr} {m:List Nat},Paired (ez H) l m->Paired (ez H') l m:=by
  intro H H' e l m r
  induction r with
  | nil=>exact .nil
  | cons a _ ih=>exact .cons (ez.same e a) ih
 refine #[L,bs,_,rfl,.inl h3,lift s23 hP,by rw[af];lia,λH4 s4=>?_];rw[hw1];have s24:=s23.trans s4;have h4D:=s24 _ _ hD2;refine #[_,rfl,D,cG js qs,rfl,.inr #[o,h4D,λL2 hL2=>?_]];have F4:=F2.same s24;refine Bt (o:=o) (kvs:=cG js qs) (λi U H5=>∃(x0:Option V),U=[x0,some (.ref D)]/\H5 L2=some (.lst ((qs.take i).map V.ref))/\But L2 H4 H5) ?_ ?_ ?_ ?_
 .exact #[_,rfl,ah,λb o n e=>by rw[ak n];exact e]
 .rintro i U H5 _ ⟨x0,rfl,_,k5⟩;exact k5 _ _ (aq h4D hL2) h4D
 .rintro i m x U H5 hx hm ⟨x0,rfl,h5,k5⟩;rw[xv hql]at hx;obtain ⟨hi,rfl⟩:=eN hx;have hj:js[i]?=some (js.getD i 0):=by
   rw[aF,aD hi];rfl
  obtain ⟨qq,hq1,_⟩:=F4.get hj;have hi2:=(aY.mp hq1).1;have hv:=sN hnd hj hq1;have h5D:=k5 _ _ (aq h4D hL2) h4D;have hdg:DGet H5 D (.int ((js.getD i 0:Nat):Int)) (some (.ref qq)):=.inl #[_,kN (js.getD i 0),.inr #[o,h5D],rfl,hv.symm];refine bZ ?_;refine #[_,rfl,_,rfl,D,_,rfl,hdg,_,h5,aW (by rw[af,bt];lia),m-1,by lia,by lia,_,rfl,?_,λb o n e=>by rw[ak n];exact k5 b o n e];rw[ah,cx hi2,(aY.mp hq1).2,aN];rfl
 rintro U H5 ⟨x0,rfl,h5,k5⟩;rw[hkl,bh (by lia)]at h5;have s45:Same H4 H5:=λb o e=>k5 b o (aq e hL2) e;have P5:Paired (ez H5) qs (js.map λj=>(ay ps OF j).length):=by
  have:∀{js:List Nat} {qs:List Addr},bS K H5 ps OF js qs->Paired (ez H5) qs (js.map λj=>(ay ps OF j).length):=by
   intro js qs r
   induction r with
   | nil=>exact .nil
   | cons a _ ih=>
    obtain ⟨ws,a1,a2⟩:=a;exact .cons #[ws,.inl a1,a2.length.symm] ih
  exact this (F4.same s45)
 refine #[L2,qs,_,rfl,.inl h5,P5,by rw[af];lia,λH6 s6=>?_];rw[hw2];refine #[(by show 2<=sizeLine;decide),λp hp=>?_];have s06:Same H H6:=s2.trans (s24.trans (s45.trans s6));exact q p _ (s06.free hp) (s06.trans (aJ hp _)) ah
section
variable {ps o w:List Nat}{OF:List (List Int)}{key lo hi b:Int}
def MH (h:bC ps o)(hl:OF.length=ps.length+1){j:Nat}(hj:j<ps.length+1):aC (bQ OF o) j=aC OF (o.idxOf j):=by
 show ((List.range OF.length).map λj=>aC OF (o.idxOf j)).getD j []=_;rw[aF,aQ,dY (by lia)];rfl
def nh (h:bC ps o)(hl:OF.length=ps.length+1){k:Nat}(hk:k<ps.length+1):aC (bQ OF o) (o.getD k 0)=aC OF k:=by rw[MH h hl (h.getD_lt hk),h.idx_get hk]
def Ed:(bQ OF o).length=OF.length:=by
 unfold bQ;rw[af,bY]
def Ee {i:Nat}(hi:i<ps.length):(b9 ps o)[i]?=some (o.getD (parN ps (o.idxOf (i+1))) 0):=by
 unfold b9;rw[aQ,dY hi];rfl
def Ef (h:bC ps o):bf (b9 ps o):=λi hi=>by
 rw[eZ]at hi;have hk:=h.idx_lt (j:=i+1) (by lia);obtain ⟨p,hp⟩:=iz (ps:=ps) (h.idx_pos (j:=i+1) (by lia) (by lia)) hk;have hu:=h.up _ _ hp hk;rw[h.get_idx (by lia)]at hu;rw[(aY.mp (Ee hi)).2];unfold parN;rw[hp];show o.getD p 0<=i;lia
def Eg (h:bC ps o)(hl:OF.length=ps.length+1){r:List Int}(hr:r∈bQ OF o):r∈OF:=by
 obtain ⟨j,hj,rfl⟩:=bI.mp hr;exact tq (by rw[hl];exact h.idx_lt (by rw[<-hl];exact cC.mp hj))
def MI (h:bC ps o)(hl:OF.length=ps.length+1)(R:cA OF):cA (bQ OF o):=#[λr hr=>R.up r (Eg h hl hr),λr hr=>R.key r (Eg h hl hr)]
abbrev iP (ps o:List Nat):List Nat:=(List.range (ps.length+1)).map λj=>o.idxOf j
def tI {j:Nat}(hj:j<ps.length+1):(iP ps o).getD j 0=o.idxOf j:=by
 rw[aF,aQ,dY hj];rfl
def xw (T:bf ps)(h:bC ps o):bC (b9 ps o) (iP ps o):=by
 refine #[?_,?_,λk p hp hk=>?_]
 .rw[eZ];refine nodup_range (fJ.mpr (List.Pairwise.imp_of_mem (λ{a b} ha hb hne z=>hne ?_) jL)) (by rw[af,bY]) λx hx=>?_
  .obtain ⟨j,hj,rfl⟩:=bI.mp hx;exact h.idx_lt (cC.mp hj)
  .rw[<-h.get_idx (cC.mp ha),<-h.get_idx (cC.mp hb),z]
 .rw[aQ,dY (by lia)];show some (o.idxOf 0)=_;rw[h.idx0]
 .rw[eZ]at hk;have hp':=bM (Ef h) hp;rw[tI (by lia),tI hk];obtain ⟨q,hq⟩:=iz (ps:=ps) (h.idx_pos hk (by lia)) (h.idx_lt hk);have:=xn h (h.idx_lt hk) hq;rw[h.get_idx hk,hp]at this;have hql:=bM T hq;rw[aV this,h.idx_get (by lia)];exact hql.1
def Eh (T:bf ps)(h:bC ps o){k:Nat}(hk:k<ps.length+1):(iP ps o).idxOf k=o.getD k 0:=by
 have hg:=h.getD_lt hk;have:=(xw T h).idx_get (k:=o.getD k 0) (by rw[eZ];exact hg);rw[tI hg,h.idx_get hk]at this;exact this
def MJ (T:bf ps)(h:bC ps o):b9 (b9 ps o) (iP ps o)=ps:=by
 refine List.ext_getElem (by rw[eZ,eZ]) λi h1 h2=>?_;have hp:par ps (i+1)=some ps[i]:=aD h2;have hpl:=bM T hp;rw[(aY.mp (Ee (by rw[eZ];exact h2))).2,Eh T h (by lia)];unfold parN;rw[xn h (by lia) hp];show (iP ps o).getD (o.getD ps[i] 0) 0=_;rw[tI (h.getD_lt (by lia)),h.idx_get (by lia)]
def MK (T:bf ps)(h:bC ps o)(hl:OF.length=ps.length+1):bQ (bQ OF o) (iP ps o)=OF:=by
 conv=>rhs;rw[lh OF]
 show (List.range (bQ OF o).length).map (λj=>aC (bQ OF o) ((iP ps o).idxOf j))=_;rw[Ed];refine dJ λj hj=>?_;have hj:=cC.mp hj;rw[Eh T h (by lia)];exact nh h hl (by lia)
def ML (T:bf ps)(h:bC ps o)(hl:OF.length=ps.length+1):cw (bQ OF o)=cw OF:=by
 conv=>rhs;rw[lh OF]
 unfold cw bQ;rw[bT,bT];have p:=(xw T h).perm;rw[eZ]at p;have:=(p.map λk=>(aC OF k).length).sum_nat;rw[bT,<-hl]at this;exact this
def ren (o:List Nat)(e:Int×Int):Int×Int:=(e.1,((o.getD e.2.toNat 0:Nat):Int))
def MM (h:bC ps o)(hl:OF.length=ps.length+1)(hk:∀ x∈w,x<ps.length+1):onE (bQ OF o) (w.map λk=>o.getD k 0)=(onE OF w).map (ren o):=by
 unfold onE;rw[List.map_flatten,bT,bT];congr 1;refine dJ λk hkw=>?_;show ownE (bQ OF o) (o.getD k 0)=(ownE OF k).map (ren o);unfold ownE;rw[nh h hl (hk k hkw),bT];rfl
def Ei (h:bC ps o)(hl:OF.length=ps.length+1)(hk:∀ x∈w,x<ps.length+1):dA (bQ OF o) (w.map λk=>o.getD k 0) key=(dA OF w key).map (ren o):=by
 unfold dA;rw[MM h hl hk,jN];rfl
def MN (h:bC ps o)(hl:OF.length=ps.length+1)(hk:∀ x∈w,x<ps.length+1):bc ((bc (dA OF w key)).map (ren o))=bc (dA (bQ OF o) (w.map λk=>o.getD k 0) key):=by
 rw[Ei h hl hk];exact GR ((fW _).map _)
def MO :bx (row.map (· + b)) (key+b)=bx row key:=by
 unfold bx;rw[jN,af];congr 1;exact jO λx _=>decide_eq_decide.mpr (show x+b<key+b↔x<key by lia)
def MP {row:List Int}:key+b∈row.map (· + b)↔key∈row:=by
 rw[bI];exact #[λ⟨x,hx,e⟩=>by rwa[show key=x by lia],λh=>#[key,h,rfl]]
def MQ :betL (row.map (· + b)) (lo+b) (hi+b)=(betL row lo hi).map (· + b):=by
 unfold betL;rw[jN];congr 1;exact jO λx _=>decide_eq_decide.mpr (show (lo+b<=x+b/\x+b<hi+b)↔(lo<=x/\x<hi) by lia)
def xy {f:List Int->List Int}(hf:f []=[])(k:Nat):aC (OF.map f) k=f (aC OF k):=by
 unfold aC;rw[aF,aF,aQ];cases OF[k]? with
 | none=>exact hf.symm
 | some r=>rfl
def neg (row:List Int):List Int:=row.reverse.map (- ·)
def xA {x:Int}:x∈neg row↔-x∈row:=by
 unfold neg;rw[bI];exact #[λ⟨y,hy,e⟩=>by rw[<-e,Int.neg_neg];exact gT.mp hy,λh=>#[-x,gT.mpr h,Int.neg_neg x]]
def MR {row:List Int}(h:row.Pairwise (· < ·)):bx (neg row) (0-key)+bx row key+(if key∈row then 1 else 0)=row.length:=by
 have e:bx (neg row) (0-key)=(row.filter λx=>decide (key<x)).length:=by
  unfold bx neg;rw[jN,af,List.filter_reverse,fh];congr 1;exact jO λx _=>decide_eq_decide.mpr (show -x<0-key↔key<x by lia)
 rw[e];unfold bx;clear e
 induction row with
 | nil=>rfl
 | cons x row ih=>
  obtain ⟨h1,h2⟩:=jM.mp h;have ih:=ih h2;rw[dH,<-ih];rcases Int.lt_trichotomy x key with c|c|c
  .rw[dR (by simp;lia),dI (by simp;lia),dH];have:(key∈x::row)↔key∈row:=#[λz=>(bq.mp z).resolve_left (by lia),cp _];simp only[this];lia
  .subst c;have:x∉row:=λz=>absurd (h1 x z) (by lia);rw[dR (by simp),dR (by simp),ar bL,az this]
  .rw[dI (by simp;lia),dR (by simp;lia),dH];have:(key∈x::row)↔key∈row:=#[λz=>(bq.mp z).resolve_left (by lia),cp _];simp only[this];lia
def MS (es:List (Int×Int)):(gO es=none/\es=[])\/∃ m,gO es=some m/\m∈es/\∀ x∈es,m.1<=x.1:=by
 rcases DZ es es.length (av _) with h|⟨m,h1,h2,h3⟩
 .rw[lF]at h;exact .inl #[h.1,List.length_eq_zero_iff.mp h.2]
 .rw[lF]at h1 h2 h3;refine .inr #[m,h1,h2,λx hx=>?_];have:=h3 x hx;unfold ltE at this;lia
def Ej (es:List (Int×Int)):(gP es=none/\es=[])\/∃ m,gP es=some m/\m∈es/\∀ x∈es,x.1<=m.1:=by
 rcases D0 es es.length (av _) with h|⟨m,h1,h2,h3⟩
 .rw[lF]at h;exact .inl #[h.1,List.length_eq_zero_iff.mp h.2]
 .rw[lF]at h1 h2 h3;refine .inr #[m,h1,h2,λx hx=>?_];have:=h3 x hx;unfold ltE at this;lia
def xB {e:Int×Int}:e∈onE OF w↔∃ k∈w,e.1∈aC OF k/\e.2=(k:Int):=by
 unfold onE;rw[jJ];constructor
 .rintro ⟨l,hl,he⟩;obtain ⟨k,hk,rfl⟩:=bI.mp hl;obtain ⟨x,hx,rfl⟩:=bI.mp he;exact #[k,hk,hx,rfl]
 .rintro ⟨k,hk,h1,h2⟩;exact #[_,List.mem_map_of_mem hk,bI.mpr #[e.1,h1,by rw[<-h2]]]
def Ek {x y:Int}:(x,y)∈onE (OF.map neg) w↔(-x,y)∈onE OF w:=by
 rw[xB,xB];refine exists_congr λk=>and_congr_right λ_=>and_congr_left λ_=>?_;show x∈aC (OF.map neg) k↔_;rw[xy rfl,xA]
def MT:(gf OF w key=none/\iO (OF.map neg) w (0-key+1)=none)\/∃ e f,gf OF w key=some e/\iO (OF.map neg) w (0-key+1)=some f/\e.1=0-f.1:=by
 unfold gf iO;have t1:∀{x y:Int},(x,y)∈dA OF w key->(-x,y)∈ll (OF.map neg) w (0-key+1):=λ{x y} h=>by
  obtain ⟨a,b⟩:=dh.mp h;have b:key<=x:=cE b;exact dh.mpr #[Ek.mpr (by rw[Int.neg_neg];exact a),aU (show -x<0-key+1 by lia)]
 have t2:∀{x y:Int},(x,y)∈ll (OF.map neg) w (0-key+1)->(-x,y)∈dA OF w key:=λ{x y} h=>by
  obtain ⟨a,b⟩:=dh.mp h;have b:x<0-key+1:=cE b;exact dh.mpr #[Ek.mp a,aU (show key<=-x by lia)]
 rcases MS (dA OF w key) with ⟨a,a2⟩|⟨e,a,a2,a3⟩
 .rcases Ej (ll (OF.map neg) w (0-key+1)) with ⟨c,_⟩|⟨⟨x,y⟩,_,c2,_⟩
  .exact .inl #[a,c]
  .have:=t2 c2;rw[a2]at this;cases this
 .rcases Ej (ll (OF.map neg) w (0-key+1)) with ⟨c,c2⟩|⟨f,c,c2,c3⟩
  .have:=t1 (x:=e.1) (y:=e.2) a2;rw[c2]at this;cases this
  .refine .inr #[e,f,a,c,?_];have h1:-e.1<=f.1:=c3 _ (t1 (x:=e.1) (y:=e.2) a2);have h2:e.1<=-f.1:=a3 _ (t2 (x:=f.1) (y:=f.2) c2);lia
end
structure Tab4 (m0 mF mS mL:Addr)(H:Hp):Prop where
 p:bp H m0 dW lamQ
 f:bp H mF ju jt
 s:bp H mS DP DO
 a:bp H mL iN iM
 n:[m0,mF,mS,mL].Nodup
def K4 (m0 mF mS mL:Addr)(H H':Hp):Prop:=∀ b o,b∉[m0,mF,mS,mL]->H b=some o->H' b=some o
section
variable {m0 mF mS mL:Addr}{H H1 H':Hp}
def K4.trans (a:K4 m0 mF mS mL H H1)(b:K4 m0 mF mS mL H1 H'):K4 m0 mF mS mL H H':=λc o n h=>b c o n (a c o n h)
def K4.of (a:Same H H'):K4 m0 mF mS mL H H':=λc o _ h=>a c o h
def El (x:bp H m pos q)(k:Kp0 H H')(e:∀ o,H m=some o->H' m=some o):bp H' m pos q:=by
 obtain ⟨tab,h1,h2,h3⟩:=x.ex;refine #[tab,e _ h1,h2,?_];rcases h3 with h3|⟨c,h3,h4⟩
 .exact .inl h3
 .exact .inr #[c,h3,k _ _ nofun h4]
def Tab4.nt (x:Tab4 m0 mF mS mL H){b:Addr}{o:HO}(h:H b=some o)(n:∀ tab,o≠.tbl tab):b∉[m0,mF,mS,mL]:=λz=>by
 simp only[bq,dq,or_false]at z;have:∃ tab,H b=some (.tbl tab):=by
  rcases z with rfl|rfl|rfl|rfl
  .exact cR x.p
  .exact cR x.f
  .exact cR x.s
  .exact cR x.a
 obtain ⟨tab,e⟩:=this;rw[h]at e;exact n _ (aV e)
def Tab4.free (x:Tab4 m0 mF mS mL H){b:Addr}(h:H b=none):b∉[m0,mF,mS,mL]:=λz=>by
 simp only[bq,dq,or_false]at z;have:∃ tab,H b=some (.tbl tab):=by
  rcases z with rfl|rfl|rfl|rfl
  .exact cR x.p
  .exact cR x.f
  .exact cR x.s
  .exact cR x.a
 obtain ⟨tab,e⟩:=this;rw[h]at e;cases e
def Tab4.k0 (x:Tab4 m0 mF mS mL H)(k:K4 m0 mF mS mL H H'):Kp0 H H':=λb o n e=>k b o (x.nt e n) e
def Tab4.same (x:Tab4 m0 mF mS mL H)(e:Same H H'):Tab4 m0 mF mS mL H':=#[x.p.ext e.ext,x.f.ext e.ext,x.s.ext e.ext,x.a.ext e.ext,x.n]
def Tab4.ts (x:Tab4 m0 mF mS mL H):TabS mF mS H:=#[x.f,x.s,λz=>by
 have:=x.n;simp[z]at this]
def Tab4.gS (x:Tab4 m0 mF mS mL H)(k:Kp2 mF mS H H')(t:TabS mF mS H'):Tab4 m0 mF mS mL H'/\K4 m0 mF mS mL H H':=by
 have n:=x.n;simp only[c6,bq,dq,or_false,not_or]at n;have k0:=k.kp0 x.ts;exact #[#[El x.p k0 λo e=>k _ _ n.1.1 n.1.2.1 e,t.f,t.s,El x.a k0 λo e=>k _ _ (bE n.2.1.2) (bE n.2.2.1) e,x.n],λb o nb e=>k b o (λz=>nb (by simp[z])) (λz=>nb (by simp[z])) e]
def Tab4.g0 (x:Tab4 m0 mF mS mL H)(g:Gro m0 H H')(t:bp H' m0 dW lamQ):Tab4 m0 mF mS mL H'/\K4 m0 mF mS mL H H':=by
 have n:=x.n;simp only[c6,bq,dq,or_false,not_or]at n;exact #[#[t,x.f.gro g (bE n.1.1) (cR x.p),x.s.gro g (bE n.1.2.1) (cR x.p),x.a.gro g (bE n.1.2.2) (cR x.p),x.n],λb o nb e=>g b o (λz=>nb (by simp[z])) e]
def Tab4.gL (x:Tab4 m0 mF mS mL H)(g:Gro mL H H')(a:bp H' mL iN iM):Tab4 m0 mF mS mL H'/\K4 m0 mF mS mL H H':=by
 have n:=x.n;simp only[c6,bq,dq,or_false,not_or]at n;exact #[#[x.p.gro g n.1.2.2 (cR x.a),x.f.gro g n.2.1.2 (cR x.a),x.s.gro g n.2.2.1 (cR x.a),a,x.n],λb o nb e=>g b o (λz=>nb (by simp[z])) e]
end
def Tab4.ext (x:Tab4 m0 mF mS mL H)(e:Ext H H'):Tab4 m0 mF mS mL H':=#[x.p.ext e,x.f.ext e,x.s.ext e,x.a.ext e,x.n]
structure ANow (K:Frag)(m0 mF mS mL L d:Addr)(H:Hp)(st wa:Addr)(ps:List Nat)(OF:List (List Int))(t rs:Addr)(as:List Addr)(w:List Nat):Prop where
 S:bR H st ps OF t rs as
 W:cK H wa ps w
 ls:LS K L d H
 T:Tab4 m0 mF mS mL H
section
variable {K:Frag}{m0 mF mS mL L d:Addr}{H H':Hp}{st wa:Addr}{ps:List Nat}{OF:List (List Int)}{t rs:Addr}{as:List Addr}{w:List Nat}
def ANow.k4 (h:ANow K m0 mF mS mL L d H st wa ps OF t rs as w)(k:K4 m0 mF mS mL H H')(T':Tab4 m0 mF mS mL H'):ANow K m0 mF mS mL L d H' st wa ps OF t rs as w:=
 have k0:=h.T.k0 k
 #[m3 k0 h.S,m4 k0 h.W,Lx h.ls k0,T']
def ANow.same (h:ANow K m0 mF mS mL L d H st wa ps OF t rs as w)(s:Same H H'):ANow K m0 mF mS mL L d H' st wa ps OF t rs as w:=h.k4 (.of s) (h.T.same s)
def iQ {b:Addr}{us:List V}(s:LS K L d H)(k:Keep d H H')(e:H b=some (.tup us)):H' b=some (.tup us):=s.ext k _ _ e nofun
def ANow.take (h:ANow K m0 mF mS mL L d H st wa ps OF t rs as w)(k:Keep d H H')(s:LS K L d H'):ANow K m0 mF mS mL L d H' st wa ps OF t rs as w:=
 have e:=h.ls.ext k
 #[#[iQ h.ls k h.S.st,iQ h.ls k h.S.tr,iQ h.ls k h.S.rs,pImp (λ_ _ q=>iQ h.ls k q) h.S.at_,h.S.len,h.S.T,h.S.R,h.S.few,h.S.keys],#[e _ _ h.W.at_ nofun,h.W.len,h.W.ne,h.W.ch,h.W.kn],s,h.T.ext e]
end
def optL (ps:List Nat):List (Option Int):=none::ps.map λ(p:Nat)=>some (Int.ofNat p)
def MU {K:Frag}(ps:List Nat):aI K H (optL ps) (b8 ps):=by
 refine .cons rfl ?_
 induction ps with
 | nil=>exact .nil
 | cons p ps ih=>exact .cons rfl ih
def Em {K:Frag}:∀{as:List Addr} {OF:List (List Int)},bA H as OF->aI K H (OF.map Tup.mk) (as.map V.ref)
 | _,_,.nil=>.nil
 | _,_,.cons h t=>.cons #[_,_,rfl,SqT.of h,aI.ints] (Em t)
def Eo (ps:List Nat)(OF:List (List Int)):Tup (Option Int)×Tup (Tup Int):=(#[optL ps],#[OF.map Tup.mk])
def ni {K:Frag}{H:Hp}{st t rs:Addr}{as:List Addr}(h1:H st=some (.tup [.ref t,.ref rs]))(h2:H t=some (.tup (b8 ps)))(h3:H rs=some (.tup (as.map V.ref)))(h4:bA H as OF):Rep.has K H (Eo ps OF) (.ref st):=
 #[st,_,_,rfl,h1,#[_,_,rfl,SqT.of h2,MU ps],#[_,_,rfl,SqT.of h3,Em h4]]
def tJ {K:Frag}{st t:Addr}(S:bR H st ps OF t rs as):Rep.has K H (Eo ps OF) (.ref st):=ni S.st S.tr S.rs S.at_
inductive xC (K:Frag)(vs:List V)(H:Hp)(Q:VK)(w_1:XK):Prop
 | c:∀(a b:Addr) (o:List Nat) (x:Int) (k:Nat),vs=[.ref a,.ref b]->H a=some (.lst (o.map nV))->H b=some (.tup [.int x,nV k])->k<o.length->(∀ p,H p=none->Q (.ref p) (upd H p (.tup [.int x,nV (o.getD k 0)])))->xC K vs H Q w_1
def MV (T:Txt K mg)(zq:DF K mg "_law_entry" ql rP):FC P w K mg base 1 "_law_entry" rP (xC K):=by
 refine zq.ok Ja (λvs H Q E h=>?_) (λf cdv A outer s H vs Q E hr h=>?_)
 .obtain ⟨a,b,o,x,k,rfl,_⟩:=h;rfl
 obtain ⟨a,b,o,x,k,rfl,ha,hb,hk,q⟩:=h;refine #[_,(c8 (bu (aX Fh (pv 1) eU (aS _)) (aw (aE eU)) bz)
   (aw (aE (cX (aa (aB (aR (K:=K)) (pv 1) ag (λ_ _=>rfl)) (aa (aB (bw (K:=K)) (pv 0) (aB (aR (K:=K)) (pv 1) ag (λ_ _=>rfl)) (λ_ _=>rfl)) ae)))))),?_]
 refine #[λU' H'=>U'=[some (.ref a),some (.ref b)]/\H=H',#[_,rfl,rfl,_,rfl,iteF #[rfl,rfl]],?_];rintro _ _ ⟨rfl,rfl⟩;exact #[_,rfl,_,_,_,_,rfl,rfl,SqT.of hb,rfl,_,rfl,_,rfl,_,_,_,_,rfl,rfl,SqT.of hb,rfl,_,_,_,_,rfl,rfl,SqL.of ha,eL hk,(by show 2<=sizeLine;decide),q]
structure MNow (K:Frag)(m0 mF mS mL L d:Addr)(H:Hp)(st wa:Addr)(ps:List Nat)(OF:List (List Int))(t rs:Addr)(as:List Addr)(w:List Nat)(ao:Addr)(o:List Nat)(u t' rs':Addr)(as':List Addr)(am:Addr):Prop where
 N:ANow K m0 mF mS mL L d H st wa ps OF t rs as w
 ho:H ao=some (.lst (o.map nV))
 S:bR H u (b9 ps o) (bQ OF o) t' rs' as'
 W:cK H am (b9 ps o) (w.map λk=>o.getD k 0)
section
variable {K:Frag}{m0 mF mS mL L d:Addr}{H H':Hp}{st wa:Addr}{ps:List Nat}{OF:List (List Int)}{t rs:Addr}{as:List Addr}{w:List Nat}{ao:Addr}{o:List Nat}{u t' rs':Addr}{as':List Addr}{am:Addr}
def MNow.k4 (h:MNow K m0 mF mS mL L d H st wa ps OF t rs as w ao o u t' rs' as' am)(k:K4 m0 mF mS mL H H')(T':Tab4 m0 mF mS mL H'):MNow K m0 mF mS mL L d H' st wa ps OF t rs as w ao o u t' rs' as' am:=
 have k0:=h.N.T.k0 k
 #[h.N.k4 k T',k0.lst h.ho,m3 k0 h.S,m4 k0 h.W]
def MNow.same (h:MNow K m0 mF mS mL L d H st wa ps OF t rs as w ao o u t' rs' as' am)(s:Same H H'):MNow K m0 mF mS mL L d H' st wa ps OF t rs as w ao o u t' rs' as' am:=h.k4 (.of s) (h.N.T.same s)
end
def eD {K:Frag}{xs:List Nat}:aI K H (xs.map λn:Nat=>(n:Int)) (xs.map nV):=by
 have:=aI.ints (K:=K) (H:=H) (ns:=xs.map λn:Nat=>(n:Int));rwa[bT]at this
def xD (k:Kp0 H H'){ks:List Addr}{rs:List (List Int)}(h:Paired (λa (r:List Int)=>H a=some (.lst (r.map V.int))) ks rs):Paired (λa (r:List Int)=>H' a=some (.lst (r.map V.int))) ks rs:=pImp (λ_ _ e=>k.lst e) h
def nj {K:Frag}(k:Kp0 H H'){e:Option (Int×Int)}(h:me K H e v):me K H' e v:=by
 cases e with
 | none=>exact h
 | some e=>
  obtain ⟨b,x1,x2,rfl,q,e1,e2⟩:=(show hasP K H e v from h);exact #[b,x1,x2,rfl,k.tup q,e1,e2]
section
variable {ps o w:List Nat}{OF:List (List Int)}{key lo hi:Int}
def MW (h:bC ps o)(hl:OF.length=ps.length+1)(hk:∀ x∈w,x<ps.length+1):(w.map λk=>o.getD k 0).map (λk=>bx (aC (bQ OF o) k) key)=w.map λk=>bx (aC OF k) key:=by
 rw[bT];exact dJ λk hkw=>by show bx (aC _ (o.getD k 0)) key=_;rw[nh h hl (hk k hkw)]
def MX (h:bC ps o)(hl:OF.length=ps.length+1)(hk:∀ x∈w,x<ps.length+1):(w.map λk=>o.getD k 0).map (λk=>betL (aC (bQ OF o) k) lo hi)=w.map λk=>betL (aC OF k) lo hi:=by
 rw[bT];exact dJ λk hkw=>by show betL (aC _ (o.getD k 0)) lo hi=_;rw[nh h hl (hk k hkw)]
def Ep (h:bC ps o)(hl:OF.length=ps.length+1)(hk:∀ x∈w,x<ps.length+1):(w.map λk=>o.getD k 0).filter (λk=>decide (key∈aC (bQ OF o) k))=(w.filter λk=>decide (key∈aC OF k)).map λk=>o.getD k 0:=by
 rw[jN];congr 1;exact jO λk hkw=>by show decide (key∈aC _ (o.getD k 0))=_;rw[nh h hl (hk k hkw)]
end
def MY {es:List (Int×Int)}{ws:List V}(h:aI K H es ws):∃ v,(ws++[.non])[0]?=some v/\me K H es.head? v:=by
 cases h with
 | nil=>exact #[.non,rfl,rfl]
 | cons a t=>exact #[_,rfl,a]
inductive nq (K:Frag)(m0 mF mS mL:Addr)(vs:List V)(H:Hp)(Q:VK)(w_1:XK):Prop
 | c:∀(L d st wa:Addr) (key high:Int) (ps:List Nat) (OF:List (List Int)) (t rs:Addr) (as:List Addr) (w:List Nat),vs=[.ref d,.ref st,.ref wa,.int key,.int high]->ANow K m0 mF mS mL L d H st wa ps OF t rs as w->(∀ H',ANow K m0 mF mS mL L d H' st wa ps OF t rs as w->Q (.bl true) H')->nq K m0 mF mS mL vs H Q w_1
def MZ (T:Txt K mg)(zr:DF K mg "_law_named_alike" qm rQ)(NY:FC P w K mg base 3 "_law_order" rO (xt K))(EB:FC P w K mg base 4 "named" qZ (xq K))(zk:FC P w K mg base 1 "named_way" mH (tH K))(fF:FC P w K mg base 6 "places" jl (lg K m0))(iR:FC P w K mg base 7 "stretch" kI (m9 K m0))(gh:FC P w K mg base 6 "who_has" jm (lj K))(EC:FC P w K mg base 6 "joined_from" rh (wZ K mL))(NZ:FC P w K mg base 1 "_law_entry" rP (xC K))(zt:FC P w K mg base 6 "above" mI (lp K mL gf))(ED:FC P w K mg base 7 "first_with" q9 (w6 K))(zu:FC P w K mg base 9 "paper_of" mM (tw K mF mS))(zv:FC P w K mg base 9 "lets_by" mN (tE K)):FC P w K mg base 10 "_law_named_alike" rQ (nq K m0 mF mS mL):=by
 refine zr.ok ji (λvs H Q E h=>?_) (λf cdv A outer s H vs Q E hr h=>?_)
 .obtain ⟨L,d,st,wa,key,high,ps,OF,t,rs,as,w,rfl,_⟩:=h;rfl
 obtain ⟨L,d,st,wa,key,high,ps,OF,t,rs,as,w,rfl,N,q⟩:=h;have hps:=N.S.few;refine #[_,(cz (aL (i:=5) ji.nd rfl (eE rfl) (ax NY hr (aa (pv 0) (aa (aB (aR (K:=K)) (pv 1) ag (λ_ _=>rfl)) ae))))
   (cz (aL (i:=6) ji.nd rfl (au rfl) (ax EB hr (aa (pv 1) (aa (pv 5) ae))))
   (cz (aL (i:=7) ji.nd rfl (au rfl) (ax zk hr (aa (pv 2) (aa (pv 5) ae))))
   (c5 (bu (aX (dN (List Int) (huD hr)) (ax fF hr (aa (pv 6) (aa (pv 7) (aa (pv 3) ae)))) (ax fF hr (aa (pv 1) (aa (pv 2) (aa (pv 3) ae)))) (aS _)) (aw (aE bV)) bz)
   (c5 (bu (aX (dN (List (List Int)) (huD hr)) (ax iR hr (aa (pv 6) (aa (pv 7) (aa (pv 3) (aa (pv 4) ae))))) (ax iR hr (aa (pv 1) (aa (pv 2) (aa (pv 3) (aa (pv 4) ae))))) (aS _)) (aw (aE bV)) bz)
   (c5 (bu (aX (dN (List Int) (huD hr)) (ax gh hr (aa (pv 6) (aa (pv 7) (aa (pv 3) ae)))) (cg (N:=["_law_knot","_law_order_here"]) (own:=1) (cap:=[5]) rfl (cQ (ax gh hr (aa (pv 1) (aa (pv 2) (aa (pv 3) ae))))) #[rfl,rfl,rfl,rfl,rfl,rfl] (λ_ _ _ _ _=>(aP (i:=0) (show List.Nodup (["_law_knot","_law_order_here"]:List Str) by decide +kernel) rfl (au rfl))) (λ_ _ _ _ _=>bW) (λ_ _ _ _ _=>(aB (bw (K:=K)) (pv 1) (pv 0) (λ_ _=>rfl)))) (aS _)) (aw (aE bV)) bz)
   (cz (aL (i:=8) ji.nd rfl (au rfl) (aT (vk (Int×Int)) rfl T.xN boot_sorted (aa (cg (N:=["_law_entry_here","_law_order_here"]) (own:=1) (cap:=[5]) rfl (cQ (ax EC hr (aa (pv 1) (aa (pv 2) (aa (pv 3) (aa ag ae)))))) #[rfl,rfl,rfl,rfl,rfl,rfl] (λ_ _ _ _ _=>(aP (i:=0) (show List.Nodup (["_law_entry_here","_law_order_here"]:List Str) by decide +kernel) rfl (au rfl))) (λ_ _ _ _ _=>bW) (λ_ _ _ _ _=>(ax NZ hr (aa (pv 1) (aa (pv 0) ae))))) ae)))
   (c5 (bu (aX (dN (List (Int×Int)) (huD hr)) (ax EC hr (aa (pv 6) (aa (pv 7) (aa (pv 3) (aa ag ae))))) (pv 8) (aS _)) (aw (aE bV)) bz)
   (c5 (bu (aX (dN (Option (Int×Int)) (huD hr)) (ax zt hr (aa (pv 6) (aa (pv 7) (aa (pv 3) ae)))) (aB (bw (K:=K)) (aG jU (pv 8) (cy (aa eU ae))) ag (λ_ _=>rfl)) (aS _)) (aw (aE bV)) bz)
   (cz (aL (i:=9) ji.nd rfl (au rfl) (ax ED hr (aa (pv 1) (aa (pv 2) (aa (pv 3) ae)))))
   (c5 (bu (PW.pt (jR (aX Fi (pv 9) eU (aS _)) (jQ (aX hE (ax ED hr (aa (pv 6) (aa (pv 7) (aa (pv 3) ae)))) (aB (bw (K:=K)) (pv 5) (pv 9) (λ_ _=>rfl)) (aS _))))) (aw (aE bV)) bz)
   (cz (gG (i:=10) (N:=["_law_knot","_law_order_here"]) (own:=1) (cap:=[5]) ji.nd rfl rfl rfl (fQ rfl T.dG (aa (aT (bJ (K:=K)) rfl T.bG bF (aa (pv 5) ae)) ae)) #[rfl,rfl,rfl,rfl,rfl,rfl] (λ_ _ _ _ _=>(aP (i:=0) (show List.Nodup (["_law_knot","_law_order_here"]:List Str) by decide +kernel) rfl (au rfl))) (λ_ _ _ _ _=>bW) (λ_ _ _ _ _=>(BJ (K:=K) F.plainAttrs_list F.slot_list_index F.type_list_index BI (pv 1) (aa (pv 0) ae))))
   (c5 (bu (aX (dN (Tup (Option Int)×Tup (Tup Int)) (huD hr)) (ax EB hr (aa (pv 6) (aa (pv 10) ae))) (pv 1) (aS _)) (aw (aE bV)) bz)
   (aw (aE (ax zv hr (aa (pv 6) (aa (pv 7) (aa (pv 3) (aa (ax zu hr (aa (pv 6) (aa (pv 7) (aa (pv 3) ae)))) ae)))))))))))))))))))),?_]
 intro N1 n1;refine #[_,rfl,_,rfl,_,_,_,_,rfl,rfl,SqT.of N.S.st,rfl,d,L,t,ps,rfl,N.S.tr,N.S.T,N.S.few,N.ls,λao o H1 _ h1 hI k1 s1=>n1 _ _ ?_];have A1:=N.take k1 s1;have hol:=hI.len;have hl:=N.S.len;have hT:=N.S.T;have hkn:=N.W.kn;have hwl:=N.W.len;have hkeys:=N.S.keys;intro N2 n2;refine #[_,rfl,_,rfl,st,t,rs,ao,as,ps,o,OF,rfl,A1.S,h1,hI,λu t' rs' as' H2 s2 hu ht hrs hR=>n2 _ _ ?_];have A2:=A1.same s2;have kn':=ML hT hI hl;have S2:bR H2 u (b9 ps o) (bQ OF o) t' rs' as':=#[hu,ht,hrs,hR,by rw[Ed,eZ];exact hl,Ef hI,MI hI hl N.S.R,by rw[eZ];exact N.S.few,by lia];have h2:=s2 _ _ h1;clear N hu ht hrs hR n1 N1 n2 N2 A1 h1 k1 s1;intro N3 n3;refine #[_,rfl,_,rfl,wa,ao,w,o,rfl,A2.W.at_,h2,A2.W.len,λk hk=>by rw[hol];exact hkn k hk,λam H3 _ s3 h3=>n3 _ _ ?_];have M3:MNow K m0 mF mS mL L d H3 st wa ps OF t rs as w ao o u t' rs' as' am:=#[A2.same s3,s3 _ _ h2,S2.same s3,#[h3,by rw[af];exact hwl,λz=>A2.W.ne (List.map_eq_nil_iff.mp z),Mr hI A2.W.ch hkn,λx hx=>by
  obtain ⟨k,hk,rfl⟩:=bI.mp hx;rw[eZ];exact hI.getD_lt (hkn k hk)]]
 clear A2 h2 S2 h3 s3 s2 n3 N3;refine #[λU' H'=>U'=[some (.ref d),some (.ref st),some (.ref wa),some (.int key),some (.int high),some (.ref ao),some (.ref u),some (.ref am),none,none,none]/\MNow K m0 mF mS mL L d H' st wa ps OF t rs as w ao o u t' rs' as' am,?_,?_]
 .intro N4 n4;refine #[_,rfl,_,rfl,_,rfl,u,am,b9 ps o,bQ OF o,t',rs',as',_,key,rfl,M3.S,M3.W,M3.N.T.p,λp1 H4 _ g4 t4 h4=>?_];obtain ⟨T4,k4⟩:=M3.N.T.g0 g4 t4;have M4:=M3.k4 k4 T4;refine #[_,rfl,_,rfl,_,rfl,st,wa,ps,OF,t,rs,as,w,key,rfl,M4.N.S,M4.N.W,M4.N.T.p,λp2 H5 _ g5 t5 h5=>?_];obtain ⟨T5,k5⟩:=M4.N.T.g0 g5 t5;rw[MW hI hl hkn]at h4;exact #[_,_,#[p1,_,rfl,SqL.of ((M4.N.T.k0 k5).lst h4),eD],#[p2,_,rfl,SqL.of h5,eD],_,rfl,cU rfl (n4 _ _ #[rfl,M4.k4 k5 T5])]
 clear M3 H3;rintro _ H3 ⟨rfl,M3⟩;refine #[λU' H'=>U'=[some (.ref d),some (.ref st),some (.ref wa),some (.int key),some (.int high),some (.ref ao),some (.ref u),some (.ref am),none,none,none]/\MNow K m0 mF mS mL L d H' st wa ps OF t rs as w ao o u t' rs' as' am,?_,?_]
 .intro N4 n4;refine #[_,rfl,_,rfl,_,rfl,_,rfl,u,am,b9 ps o,bQ OF o,t',rs',as',_,key,high,rfl,M3.S,M3.W,M3.N.T.p,λp1 ks1 H4 _ _ _ g4 t4 h4 P4=>?_];obtain ⟨T4,k4⟩:=M3.N.T.g0 g4 t4;have M4:=M3.k4 k4 T4;refine #[_,rfl,_,rfl,_,rfl,_,rfl,st,wa,ps,OF,t,rs,as,w,key,high,rfl,M4.N.S,M4.N.W,M4.N.T.p,λp2 ks2 H5 _ _ _ g5 t5 h5 P5=>?_];obtain ⟨T5,k5⟩:=M4.N.T.g0 g5 t5;have k0:=M4.N.T.k0 k5;rw[MX hI hl hkn]at P4;exact #[_,_,#[p1,_,rfl,SqL.of (k0.lst h4),jw (xD k0 P4)],#[p2,_,rfl,SqL.of h5,jw P5],_,rfl,cU rfl (n4 _ _ #[rfl,M4.k4 k5 T5])]
 clear M3 H3;rintro _ H3 ⟨rfl,M3⟩;refine #[λU' H'=>U'=[some (.ref d),some (.ref st),some (.ref wa),some (.int key),some (.int high),some (.ref ao),some (.ref u),some (.ref am),none,none,none]/\MNow K m0 mF mS mL L d H' st wa ps OF t rs as w ao o u t' rs' as' am,?_,?_]
 .intro N4 n4;refine #[_,rfl,_,rfl,_,rfl,u,am,b9 ps o,bQ OF o,t',rs',as',_,key,rfl,M3.S,M3.W,λp1 H4 _ s4 h4=>?_];have M4:=M3.same s4;rw[Ep hI hl hkn]at h4;refine #[_,rfl,_,rfl,_,rfl,st,wa,ps,OF,t,rs,as,w,key,rfl,M4.N.S,M4.N.W,λp2 H5 _ s5 h5=>#[p2,rfl,#[_,SqL.of h5],λD hD=>?_]];have M5:=M4.same s5;have hfw:∀ k∈w.filter λk=>decide (key∈aC OF k),k<o.length:=λk hk=>by rw[hol];exact hkn k (dh.mp hk).1
  have hfl:=fg (λk=>decide (key∈aC OF k)) w;generalize (w.filter λk=>decide (key∈aC OF k))=wf at h4 h5 hfw hfl;refine c9 (xs:=wf.map nV) (λi U H6=>∃ x0:Option V,U=[x0,some (.ref ao)]/\H6 D=some (.lst (((wf.take i).map λk=>o.getD k 0).map nV))/\But D H5 H6) ?_ ?_ ?_ ?_
  .exact #[_,rfl,ah,λb o n e=>by rw[ak n];exact e]
  .rintro i U H6 _ ⟨x0,rfl,_,k6⟩;exact SqL.of (k6 _ _ (aq h5 hD) h5)
  .rintro i m x U H6 hx hm ⟨x0,rfl,h6,k6⟩;obtain ⟨hi,rfl⟩:=eN hx;rw[af]at hm;refine bZ ?_;refine #[_,rfl,_,rfl,_,_,_,_,rfl,rfl,SqL.of (k6 _ _ (aq M5.ho hD) M5.ho),eL (hfw _ (iL hi)),_,h6,aW (by rw[af,af,bt];lia),m-1,by lia,by rw[af];lia,_,rfl,?_,λb o n e=>by rw[ak n];exact k6 b o n e];rw[ah,iK hi,aN,aN];rfl
  rintro U H6 ⟨x0,rfl,h6,k6⟩;rw[af,bh (av _)]at h6;have s6:Same H5 H6:=λb o e=>k6 b o (aq e hD) e;exact #[_,_,#[p1,_,rfl,SqL.of (s6 _ _ (s5 _ _ h4)),eD],#[D,_,rfl,SqL.of h6,eD],_,rfl,cU rfl (n4 _ _ #[rfl,M5.same s6])]
 clear M3 H3;rintro _ H3 ⟨rfl,M3⟩;intro N4 n4;refine #[_,rfl,_,rfl,_,rfl,st,wa,ps,OF,t,rs,as,w,key,400,rfl,M3.N.S,M3.N.W,M3.N.T.a,λp1 ws1 H4 _ g4 t4 h4 hA4=>#[p1,rfl,#[_,SqL.of h4],λD hD=>?_]];obtain ⟨T4,k4⟩:=M3.N.T.gL g4 t4;have M4:=M3.k4 k4 T4;have lf:(dA OF w key).length<=63:=cD (fg _ _) (cD (DR (DQ hT M3.N.W.ch) λk hk=>by rw[hl];exact hkn k hk) hkeys);have ls:=je (dA OF w key);rw[bh (by lia)]at hA4;have hwl4:=hA4.length;have hmem:∀ e∈bc (dA OF w key),∃ k:Nat,k<o.length/\e.2=(k:Int):=λe he=>by
  obtain ⟨k,hk,_,e2⟩:=xB.mp (dh.mp (jZ.mp he)).1;exact #[k,by rw[hol];exact hkn k hk,e2]
 refine c9 (xs:=ws1) (λi U H5=>∃(x0:Option V) (us:List V),U=[x0,some (.ref ao)]/\H5 D=some (.lst us)/\aI K H5 (((bc (dA OF w key)).take i).map (ren o)) us/\But D H4 H5) ?_ ?_ ?_ ?_
 .exact #[_,[],rfl,ah,.nil,λb o n e=>by rw[ak n];exact e]
 .rintro i U H5 _ ⟨x0,us,rfl,_,_,k5⟩;exact SqL.of (k5 _ _ (aq h4 hD) h4)
 .rintro i m x U H5 hx hm ⟨x0,us,rfl,h5,hA5,k5⟩;have hi:=(aY.mp hx).1;obtain ⟨e,he,hh⟩:=hA4.get hx;obtain ⟨b,y1,y2,rfl,hb,e1,e2⟩:=(show hasP K H4 e x from hh);have e1':y1=.int e.1:=e1;have e2':y2=.int e.2:=e2;subst e1' e2';obtain ⟨hie,ee⟩:=aY.mp he;obtain ⟨k,hk,ek⟩:=hmem e (by rw[<-ee];exact cJ hie);have hb5:=k5 _ _ (aq hb hD) hb;rw[ek]at hb5;have hul:=hA5.length;rw[af,bt]at hul;refine bZ ?_;refine #[_,rfl,_,rfl,ao,b,o,e.1,k,rfl,k5 _ _ (aq M4.ho hD) M4.ho,hb5,hk,λq hq=>?_];have sq:=aJ hq (.tup [.int e.1,nV (o.getD k 0)]);have h5':=sq _ _ h5;refine #[us,h5',aW (by lia),m-1,by lia,by lia,_,us++[.ref q],rfl,ah,?_,λb o n e=>by rw[ak n];exact sq _ _ (k5 b o n e)];rw[cx hie,ee,aN];refine jq h5' ((hA5.mono sq.ext).append (.one #[q,_,_,rfl,ah,rfl,?_]));show nV (o.getD k 0)=V.int ((o.getD e.2.toNat 0:Nat):Int);rw[ek];rfl
 rintro U H5 ⟨x0,us,rfl,h5,hA5,k5⟩;have s5:Same H4 H5:=λb o e=>k5 b o (aq e hD) e;have M5:=M4.same s5;rw[<-hwl4,bh (av _)]at hA5;refine #[D,us,(bc (dA OF w key)).map (ren o),rfl,SqL.of h5,hA5,by rw[af];lia,λdu wd hdu hwd=>n4 _ _ ?_];rw[MN hI hl hkn]at hwd;have sd:=aJ hdu (.lst wd);have M6:=M5.same sd;have hD6:upd H5 du (.lst wd) du=some (.lst wd):=ah;have hA6:=hwd.mono sd.ext;generalize upd H5 du (.lst wd)=H6 at M6 hD6 hA6 ⊢;clear M3 M4 M5 hA4 h4 hA5 h5 k5 s5 sd hwd hdu hmem g4 t4 T4 k4 hD n4 N4;have lf2:(bc (dA (bQ OF o) (w.map λk=>o.getD k 0) key)).length<=63:=by rw[je,Ei hI hl hkn,af];exact lf
 refine #[λU' H'=>U'=[some (.ref d),some (.ref st),some (.ref wa),some (.int key),some (.int high),some (.ref ao),some (.ref u),some (.ref am),some (.ref du),none,none]/\MNow K m0 mF mS mL L d H' st wa ps OF t rs as w ao o u t' rs' as' am/\H' du=some (.lst wd)/\aI K H' (bc (dA (bQ OF o) (w.map λk=>o.getD k 0) key)) wd,?_,?_]
 .intro N4 n4;refine #[_,rfl,_,rfl,_,rfl,u,am,b9 ps o,bQ OF o,t',rs',as',_,key,400,rfl,M6.S,M6.W,M6.N.T.a,λp1 ws1 H7 _ g7 t7 h7 hA7=>?_];obtain ⟨T7,k7⟩:=M6.N.T.gL g7 t7;have k0:=M6.N.T.k0 k7;rw[bh (by lia)]at hA7;have hd7:=k0.lst hD6;have hA8:=tm k0 hA6;exact #[_,rfl,_,_,#[p1,_,rfl,SqL.of h7,hA7],#[du,_,rfl,SqL.of hd7,hA8],_,rfl,cU rfl (n4 _ _ #[rfl,M6.k4 k7 T7,hd7,hA8])]
 clear M6 hD6 hA6 H6;rintro _ H6 ⟨rfl,M6,hD6,hA6⟩;refine #[λU' H'=>U'=[some (.ref d),some (.ref st),some (.ref wa),some (.int key),some (.int high),some (.ref ao),some (.ref u),some (.ref am),some (.ref du),none,none]/\MNow K m0 mF mS mL L d H' st wa ps OF t rs as w ao o u t' rs' as' am,?_,?_]
 .intro N4 n4;refine #[_,rfl,_,rfl,_,rfl,u,am,b9 ps o,bQ OF o,t',rs',as',_,key,rfl,M6.S,M6.W,M6.N.T.a,λv H7 g7 t7 hv=>?_];obtain ⟨T7,k7⟩:=M6.N.T.gL g7 t7;have k0:=M6.N.T.k0 k7;have M7:=M6.k4 k7 T7;have hd7:=k0.lst hD6;have hA7:=tm k0 hA6;have hwl7:=hA7.length;refine #[_,rfl,(by show 1<=sizeLine;decide),λl0 hl0=>?_];have s0:=aJ hl0 (.lst [.non]);refine #[du,l0,wd,_,rfl,rfl,s0 _ _ hd7,ah,eP (aW (by show wd.length+1<=1000;lia)),λc hc=>?_];have s1:=aJ hc (.lst (wd++[.non]));have s01:=s0.trans s1;obtain ⟨x,hx,hxo⟩:=MY hA7;have ea:gf (bQ OF o) (w.map λk=>o.getD k 0) key=(bc (dA (bQ OF o) (w.map λk=>o.getD k 0) key)).head?:=D4 _;rw[ea]at hv;exact #[_,_,_,_,rfl,rfl,SqL.of ah,cL (j:=0) hx,_,_,nj (.of s01) hv,nj (.of s01) hxo,_,rfl,cU rfl (n4 _ _ #[rfl,M7.same s01])]
 clear M6 hD6 hA6 H6 lf2 hwl4;rintro _ H6 ⟨rfl,M6⟩;intro N4 n4;refine #[_,rfl,_,rfl,_,rfl,st,wa,ps,OF,t,rs,as,w,key,rfl,M6.N.S,M6.N.W,λH7 s7=>n4 _ _ ?_];have M7:=M6.same s7;clear M6 n4 N4 s7;refine #[λU' H'=>∃ x9:Option V,U'=[some (.ref d),some (.ref st),some (.ref wa),some (.int key),some (.int high),some (.ref ao),some (.ref u),some (.ref am),some (.ref du),x9,none]/\MNow K m0 mF mS mL L d H' st wa ps OF t rs as w ao o u t' rs' as' am,?_,?_]
 .intro N4 n4;have hfw:∀ k∈w.filter λk=>decide (key∈aC OF k),k<o.length:=λk hk=>by rw[hol];exact hkn k (dh.mp hk).1
  have ew:=Ep (key:=key) hI hl hkn;generalize (w.filter λk=>decide (key∈aC OF k))=wf at hfw ew ⊢;cases wf with
  | nil=>exact #[_,rfl,rfl,_,rfl,iteF (n4 _ _ #[_,rfl,M7])]
  | cons k wf=>
   refine #[_,rfl,rfl,_,rfl,iteT ?_];refine #[_,rfl,_,rfl,_,rfl,u,am,b9 ps o,bQ OF o,t',rs',as',_,key,rfl,M7.S,M7.W,λH8 s8=>?_];have M8:=M7.same s8;rw[ew];exact #[_,rfl,_,rfl,_,_,_,_,rfl,rfl,SqL.of M8.ho,eL (hfw k bL),rfl,_,rfl,cU rfl (n4 _ _ #[_,rfl,M8])]
 clear M7 H7;rintro _ H7 ⟨x9,rfl,M7⟩;intro N4 n4;refine #[_,rfl,_,_,rfl,.inl (SqL.of M7.ho),_,rfl,by rw[af];lia,by rw[af];lia,λD hD=>?_];rw[af,eA];have em:(o.map nV)=((o.map λk:Nat=>(k:Int)).map V.int):=by rw[bT];rfl
 refine ij (n:=o.length) (λi U H8=>∃ x0:Option V,U=[x0,some (.ref ao)]/\H8 D=some (.lst (((List.range i).map λj=>o.idxOf j).map nV))/\But D H7 H8) ?_ ?_ ?_
 .exact #[_,rfl,ah,λb o n e=>by rw[ak n];exact e]
 .rintro i m U H8 hm hi ⟨x0,rfl,h8,k8⟩;rw[gV];have ha8:=k8 _ _ (aq M7.ho hD) M7.ho;refine bZ ?_;refine #[_,rfl,.inl #[rfl,_,SqL.of ha8],_,rfl,ao,o.map (λk:Nat=>(k:Int)),(i:Int),rfl,rfl,em ▸ ha8,by rw[af];lia,bI.mpr #[i,hI.mem.mpr (by lia),rfl],?_];rw[xo];refine #[_,h8,aW (by rw[af,af,bY];lia),m-1,by lia,by lia,_,rfl,?_,λb o n e=>by rw[ak n];exact k8 b o n e];rw[ah,eS,aN,aN];rfl
 rintro U H8 ⟨x0,rfl,h8,k8⟩;refine n4 _ _ ?_;have M8:=M7.same (λb o e=>k8 b o (aq e hD) e);rw[hol]at h8;clear M7 k8 n4 N4 hD;refine #[λU' H'=>U'=[some (.ref d),some (.ref st),some (.ref wa),some (.int key),some (.int high),some (.ref ao),some (.ref u),some (.ref am),some (.ref du),x9,some (.ref D)]/\MNow K m0 mF mS mL L d H' st wa ps OF t rs as w ao o u t' rs' as' am,?_,?_]
 .intro N4 n4;refine #[_,rfl,_,rfl,u,t',rs',D,as',b9 ps o,iP ps o,bQ OF o,rfl,M8.S,h8,xw hT hI,λu2 t2 rs2 as2 H9 s9 hu ht hrs hR=>?_];rw[MJ hT hI]at ht;rw[MK hT hI hl]at hR;have M9:=M8.same s9;exact #[_,rfl,_,_,ni hu ht hrs hR,tJ M9.N.S,_,rfl,cU rfl (n4 _ _ #[rfl,M9])]
 clear M8 h8 H8;rintro _ H8 ⟨rfl,M8⟩;refine #[_,rfl,_,rfl,_,rfl,_,rfl,_,rfl,_,rfl,u,am,key,b9 ps o,bQ OF o,t',rs',as',_,rfl,M8.S,M8.W,M8.N.T.ts,λpp zs H9 _ k9 t9 h9 hP9=>?_];obtain ⟨T9,k9'⟩:=M8.N.T.gS k9 t9;have M9:=M8.k4 k9' T9;exact #[u,am,pp,key,b9 ps o,bQ OF o,t',rs',as',_,zs,rfl,M9.S,M9.W,h9,hP9,λHA sA=>q _ (M9.same sA).N]
def M0 {K:Frag}(hl:PE X l tl)(h:X.K=K:=by rfl):PI X tg l (zP K tl):=by
 subst h;exact cQ hl
structure FNow (K:Frag)(m0 mF mS mL L d:Addr)(H:Hp)(st wa:Addr)(ps:List Nat)(OF:List (List Int))(t rs:Addr)(as:List Addr)(w:List Nat)(u:Addr)(rows2:List (List Int))(rs2:Addr)(as2:List Addr):Prop where
 N:ANow K m0 mF mS mL L d H st wa ps OF t rs as w
 S:bR H u ps rows2 t rs2 as2
section
variable {K:Frag}{m0 mF mS mL L d:Addr}{H H':Hp}{st wa:Addr}{ps:List Nat}{OF:List (List Int)}{t rs:Addr}{as:List Addr}{w:List Nat}{u:Addr}{rows2:List (List Int)}{rs2:Addr}{as2:List Addr}{b:Int}
def FNow.k4 (h:FNow K m0 mF mS mL L d H st wa ps OF t rs as w u rows2 rs2 as2)(k:K4 m0 mF mS mL H H')(T':Tab4 m0 mF mS mL H'):FNow K m0 mF mS mL L d H' st wa ps OF t rs as w u rows2 rs2 as2:=#[h.N.k4 k T',m3 (h.N.T.k0 k) h.S]
def FNow.same (h:FNow K m0 mF mS mL L d H st wa ps OF t rs as w u rows2 rs2 as2)(s:Same H H'):FNow K m0 mF mS mL L d H' st wa ps OF t rs as w u rows2 rs2 as2:=h.k4 (.of s) (h.N.T.same s)
def Er {f:List Int->List Int}(hf:∀ r,(f r).length=r.length):cw (OF.map f)=cw OF:=by
 unfold cw;rw[bT];exact congrArg List.sum (dJ λr _=>hf r)
def tK :fE x↔-(10^60)<x/\x<10^60:=by
 unfold fE;split<;>lia
def Na:(OF.map λr=>r.map (· + b)).map (λr=>r.map (· + (0-b)))=OF:=by
 rw[bT]
 conv=>rhs;rw[<-jE OF]
 refine dJ λr _=>?_;show (r.map (· + b)).map (· + (0-b))=r;rw[bT]
 conv=>rhs;rw[<-jE r]
 exact dJ λx _=>by show x+b+(0-b)=x;lia
def FNow.raise (h:ANow K m0 mF mS mL L d H st wa ps OF t rs as w)(s:Same H H')(h1:H' u=some (.tup [.ref t,.ref rs2]))(h2:H' rs2=some (.tup (as2.map V.ref)))(h3:bA H' as2 (OF.map λr=>r.map (· + b)))(hf:∀ r∈OF,∀ k∈r,fE (k+b)):FNow K m0 mF mS mL L d H' st wa ps OF t rs as w u (OF.map λr=>r.map (· + b)) rs2 as2:=by
 refine #[h.same s,h1,s _ _ h.S.tr,h2,h3,by rw[af];exact h.S.len,h.S.T,#[λr hr=>?_,λr hr x hx=>?_],h.S.few,by rw[Er λr=>af _];exact h.S.keys]
 .obtain ⟨q,hq,rfl⟩:=bI.mp hr;exact fJ.mpr ((h.S.R.up q hq).imp λ{a b} z=>by lia)
 .obtain ⟨q,hq,rfl⟩:=bI.mp hr;obtain ⟨y,hy,rfl⟩:=bI.mp hx;exact tK.mp (hf q hq y hy)
end
def nr {n:Nat}(h:cw OF<=n):∀ r∈OF,r.length<=n:=λr hr=>cD (Lh hr) h
def Nb (T:Txt K mg)(zw:DF K mg "_law_raised_alike" qo rR)(yI:FC P w K mg base 1 "_law_every" mO (tu K))(ny:FC P w K mg base 3 "_law_key" kJ (kP K))(EE:FC P w K mg base 5 "raised" qV (xk K))(fF:FC P w K mg base 6 "places" jl (lg K m0))(iR:FC P w K mg base 7 "stretch" kI (m9 K m0))(gh:FC P w K mg base 6 "who_has" jm (lj K)):FC P w K mg base 10 "_law_raised_alike" rR (nq K m0 mF mS mL):=by
 refine zw.ok kq (λvs H Q E h=>?_) (λf cdv A outer s H vs Q E hr h=>?_)
 .obtain ⟨L,d,st,wa,key,high,ps,OF,t,rs,as,w,rfl,_⟩:=h;rfl
 obtain ⟨L,d,st,wa,key,high,ps,OF,t,rs,as,w,rfl,N,q⟩:=h;have hps:=N.S.few;refine #[_,(cz (aL (i:=5) kq.nd rfl (au rfl) (aG jU (cg (N:=["_law_one"]) (own:=1) (cap:=[]) rfl (cQ (ax yI hr (aa (aB (aR (K:=K)) (pv 1) ag (λ_ _=>rfl)) ae))) #[rfl,rfl,rfl,rfl,rfl,rfl] (λ_ _ _ _ _=>(aP (i:=0) (show List.Nodup (["_law_one"]:List Str) by decide +kernel) rfl (au rfl))) (λ_ _ _ _ _=>bW) (λ_ _ _ _ _=>(aT ja rfl T.jy boot_abs (aa (pv 0) ae)))) (cy (aa (aT ja rfl T.jy boot_abs (aa (pv 3) ae)) (aa (aT ja rfl T.jy boot_abs (aa (pv 4) ae)) ae)))))
   (cz (aL (i:=6) kq.nd rfl (eE rfl) (ax ny hr (aa (pv 0) ae)))
   (c5 (bu (aX lU (aG cf (aT (Hx rfl) rfl T.lz boot_max (aa (pv 5) ae)) (aT ja rfl T.jy boot_abs (aa (pv 6) ae))) (aG fS ag ag) (aS _)) (aw (aL (i:=6) kq.nd rfl (eE rfl) ag)) bz)
   (cz (aL (i:=7) kq.nd rfl (au rfl) (ax EE hr (aa (pv 1) (aa (pv 6) ae))))
   (c5 (bu (aX (dN (List Int) (huD hr)) (ax fF hr (aa (pv 7) (aa (pv 2) (aa (aG cf (pv 3) (pv 6)) ae)))) (ax fF hr (aa (pv 1) (aa (pv 2) (aa (pv 3) ae)))) (aS _)) (aw (aE bV)) bz)
   (c5 (bu (aX (dN (Tup (Option Int)×Tup (Tup Int)) (huD hr)) (ax EE hr (aa (pv 7) (aa (aG cF ag (pv 6)) ae))) (pv 1) (aS _)) (aw (aE bV)) bz)
   (c5 (bu (aX (dN (List Int) (huD hr)) (ax gh hr (aa (pv 7) (aa (pv 2) (aa (aG cf (pv 3) (pv 6)) ae)))) (ax gh hr (aa (pv 1) (aa (pv 2) (aa (pv 3) ae)))) (aS _)) (aw (aE bV)) bz)
   (cz (gG (i:=8) (N:=["_law_keys","_law_by"]) (own:=1) (cap:=[6]) kq.nd rfl rfl rfl (cQ (ax iR hr (aa (pv 1) (aa (pv 2) (aa (pv 3) (aa (pv 4) ae)))))) #[rfl,rfl,rfl,rfl,rfl,rfl] (λ_ _ _ _ _=>(aP (i:=0) (show List.Nodup (["_law_keys","_law_by"]:List Str) by decide +kernel) rfl (au rfl))) (λ_ _ _ _ _=>bW) (λ_ _ _ _ _=>(cg (N:=["_law_one","_law_by"]) (own:=1) (cap:=[1]) rfl (M0 (K:=K) (pv 0)) #[rfl,rfl,rfl,rfl,rfl,rfl] (λ_ _ _ _ _=>(aP (i:=0) (show List.Nodup (["_law_one","_law_by"]:List Str) by decide +kernel) rfl (au rfl))) (λ_ _ _ _ _=>bW) (λ_ _ _ _ _=>(aG cf (pv 0) (pv 1))))))
   (aw (aE (d3 (uM (List (List Int)) (huD hr)) (ax iR hr (aa (pv 7) (aa (pv 2) (aa (aG cf (pv 3) (pv 6)) (aa (aG cf (pv 4) (pv 6)) ae))))) (pv 8) (aS _)))))))))))),?_]
 have hkeys:=N.S.keys;have hwl:=N.W.len;have hl:=N.S.len;have SR:=N.S.R;intro N1 n1;refine #[_,rfl,_,_,_,_,rfl,rfl,SqT.of N.S.st,rfl,rs,as,OF,rfl,N.S.rs,N.S.at_,by lia,λp1 H1 s1 h1 _=>#[p1,rfl,#[_,SqL.of h1],λD hD=>?_]];have N1:=N.same s1;have hfl:=wM OF;refine c9 (xs:=OF.flatten.map V.int) (λi U H2=>∃ x0:Option V,U=[x0]/\H2 D=some (.lst (((OF.flatten.take i).map λx=>if x<0 then -x else x).map V.int))/\But D H1 H2) ?_ ?_ ?_ ?_
 .exact #[_,rfl,ah,λb o n e=>by rw[ak n];exact e]
 .rintro i U H2 _ ⟨x0,rfl,_,k2⟩;exact SqL.of (k2 _ _ (aq h1 hD) h1)
 .rintro i m x U H2 hx hm ⟨x0,rfl,h2,k2⟩;rw[aQ]at hx;obtain ⟨y,hy,rfl⟩:=cI.mp hx;obtain ⟨hi,rfl⟩:=aY.mp hy;rw[af]at hm;refine bZ ?_;refine #[_,rfl,_,rfl,_,h2,aW (by rw[af,af,bt];lia),m-1,by lia,by rw[af];lia,_,rfl,?_,λb o n e=>by rw[ak n];exact k2 b o n e];rw[ah,cx hi,aN,aN];rfl
 rintro U H2 ⟨x0,rfl,h2,k2⟩;rw[af,bh (av _)]at h2;have N2:=N1.same (λb o e=>k2 b o (aq e hD) e);refine #[_,rfl,_,rfl,_,rfl,_,rfl,(by show 2<=sizeLine;decide),λl hl'=>?_];have sl:=aJ hl' (.lst [V.int (if key<0 then -key else key),V.int (if high<0 then -high else high)])
 refine #[D,l,_,_,rfl,rfl,sl _ _ h2,ah,eP (aW (by rw[af,af];show _+2<=_;lia)),λev hev=>n1 _ _ ?_];have se:=aJ hev (.lst ((OF.flatten.map λx=>if x<0 then -x else x).map V.int++[V.int (if key<0 then -key else key),V.int (if high<0 then -high else high)]))
 have N3:=N2.same (sl.trans se);obtain ⟨es,hes⟩:∃ es:List Int,es=(OF.flatten.map λx=>if x<0 then -x else x)++[if key<0 then -key else key,if high<0 then -high else high]:=#[_,rfl]
 have h3:upd (upd H2 l (.lst [V.int (if key<0 then -key else key),V.int (if high<0 then -high else high)])) ev (.lst ((OF.flatten.map λx=>if x<0 then -x else x).map V.int++[V.int (if key<0 then -key else key),V.int (if high<0 then -high else high)])) ev=some (.lst (es.map V.int)):=by rw[ah,hes,aN];rfl
 generalize upd (upd H2 l (.lst [V.int (if key<0 then -key else key),V.int (if high<0 then -high else high)])) ev (.lst ((OF.flatten.map λx=>if x<0 then -x else x).map V.int++[V.int (if key<0 then -key else key),V.int (if high<0 then -high else high)]))=H3 at N3 h3 ⊢
 have hes0:0<es.length:=by rw[hes,bB];exact cH (by decide:0<2) (Nat.le_add_left _ _)
 clear N N1 N2 n1 h1 h2 k2 s1 hD sl se hl' hev;intro N5 n5;refine #[_,rfl,d,L,rfl,N3.ls,λby0 H4 b0 b1 k4 s4=>n5 _ _ ?_];have N4:=N3.take k4 s4;have h4:H4 ev=some (.lst (es.map V.int)):=N3.ls.ext k4 _ _ h3 nofun;clear N3 h3 n5 k4 s4;refine #[λU' H'=>∃ b:Int,U'=[some (.ref d),some (.ref st),some (.ref wa),some (.int key),some (.int high),some (.ref ev),some (.int b),none,none]/\H4=H'/\∀ r∈OF,∀ k∈r,fE (k+b),?_,?_]
 .intro N6 n6;refine #[_,rfl,ev,es,rfl,SqL.of h4,hes0,λM _ hM=>?_];refine #[_,rfl,_,rfl,_,_,rfl,rfl,_,_,rfl,rfl,#[by decide,by decide,by decide],_,_,rfl,rfl,_,rfl,?_];refine ite2 (λc=>n6 _ _ #[0,rfl,rfl,λr hr k hk=>?_]) (λc=>n6 _ _ #[by0,rfl,rfl,λr hr k hk=>?_])
  .have:=SR.key r hr k hk;exact tK.mpr (by lia)
  .have h1:(if k<0 then -k else k)<=M:=hM _ (by rw[hes];exact fG _ (bI.mpr #[k,jJ.mpr #[r,hr,hk],rfl]))
   have c':¬ (10^60:Int)<=M+(if by0<0 then -by0 else by0):=λz=>c (aU z)
   refine tK.mpr ?_;split at h1<;>split at c'<;>lia
 rintro _ _ ⟨b,rfl,rfl,hb⟩;clear h4 hes hes0 es;intro N6 n6;refine #[_,rfl,_,rfl,st,t,rs,as,OF,b,rfl,N4.S.st,N4.S.rs,N4.S.at_,by lia,λr hr=>cD (nr hkeys r hr) (by lia),hb,λu rs2 as2 H5 s5 h1 h2 h3=>n6 _ _ ?_];have F5:=FNow.raise N4 s5 h1 h2 h3 hb;clear N4 n6 h1 h2 h3 s5;have e1:∀ k,aC (OF.map λr=>r.map (· + b)) k=(aC OF k).map (· + b):=λk=>xy (f:=λr=>r.map (· + b)) rfl k;refine #[λU' H'=>U'=[some (.ref d),some (.ref st),some (.ref wa),some (.int key),some (.int high),some (.ref ev),some (.int b),some (.ref u),none]/\FNow K m0 mF mS mL L d H' st wa ps OF t rs as w u (OF.map λr=>r.map (· + b)) rs2 as2,?_,?_]
 .intro N7 n7;refine #[_,rfl,_,rfl,_,rfl,_,rfl,_,_,rfl,rfl,u,wa,ps,_,t,rs2,as2,w,key+b,rfl,F5.S,F5.N.W,F5.N.T.p,λp1 H6 _ g6 t6 h6=>?_];obtain ⟨T6,k6⟩:=F5.N.T.g0 g6 t6;have F6:=F5.k4 k6 T6;refine #[_,rfl,_,rfl,_,rfl,st,wa,ps,OF,t,rs,as,w,key,rfl,F6.N.S,F6.N.W,F6.N.T.p,λp2 H7 _ g7 t7 h7=>?_];obtain ⟨T7,k7⟩:=F6.N.T.g0 g7 t7;rw[show (w.map λk=>bx (aC (OF.map λr=>r.map (· + b)) k) (key+b))=w.map λk=>bx (aC OF k) key from dJ λk _=>by rw[e1,MO]]at h6;exact #[_,_,#[p1,_,rfl,SqL.of ((F6.N.T.k0 k7).lst h6),eD],#[p2,_,rfl,SqL.of h7,eD],_,rfl,cU rfl (n7 _ _ #[rfl,F6.k4 k7 T7])]
 clear F5 H5;rintro _ H5 ⟨rfl,F5⟩;refine #[λU' H'=>U'=[some (.ref d),some (.ref st),some (.ref wa),some (.int key),some (.int high),some (.ref ev),some (.int b),some (.ref u),none]/\FNow K m0 mF mS mL L d H' st wa ps OF t rs as w u (OF.map λr=>r.map (· + b)) rs2 as2,?_,?_]
 .intro N7 n7;have hk2:=F5.S.keys;refine #[_,rfl,_,rfl,_,_,rfl,rfl,u,t,rs2,as2,_,0-b,rfl,F5.S.st,F5.S.rs,F5.S.at_,by rw[af];lia,λr hr=>cD (nr hk2 r hr) (by lia),λr hr k hk=>?_,λu2 rs3 as3 H6 s6 h1 h2 h3=>?_]
  .obtain ⟨r',hr',rfl⟩:=bI.mp hr;obtain ⟨x,hx,rfl⟩:=bI.mp hk;rw[show x+b+(0-b)=x by lia];exact tK.mpr (SR.key r' hr' x hx)
  rw[Na]at h3;have F6:=F5.same s6;exact #[_,rfl,_,_,ni h1 (s6 _ _ F5.S.tr) h2 h3,tJ F6.N.S,_,rfl,cU rfl (n7 _ _ #[rfl,F6])]
 clear F5 H5;rintro _ H5 ⟨rfl,F5⟩;refine #[λU' H'=>U'=[some (.ref d),some (.ref st),some (.ref wa),some (.int key),some (.int high),some (.ref ev),some (.int b),some (.ref u),none]/\FNow K m0 mF mS mL L d H' st wa ps OF t rs as w u (OF.map λr=>r.map (· + b)) rs2 as2,?_,?_]
 .intro N7 n7;refine #[_,rfl,_,rfl,_,rfl,_,rfl,_,_,rfl,rfl,u,wa,ps,_,t,rs2,as2,w,key+b,rfl,F5.S,F5.N.W,λp1 H6 _ s6 h6=>?_];have F6:=F5.same s6;refine #[_,rfl,_,rfl,_,rfl,st,wa,ps,OF,t,rs,as,w,key,rfl,F6.N.S,F6.N.W,λp2 H7 _ s7 h7=>?_];rw[show (w.filter λk=>decide (key+b∈aC (OF.map λr=>r.map (· + b)) k))=w.filter λk=>decide (key∈aC OF k) from jO λk _=>by rw[e1];exact decide_eq_decide.mpr MP]at h6;exact #[_,_,#[p1,_,rfl,SqL.of (s7 _ _ h6),eD],#[p2,_,rfl,SqL.of h7,eD],_,rfl,cU rfl (n7 _ _ #[rfl,F6.same s7])]
 clear F5 H5;rintro _ H5 ⟨rfl,F5⟩;intro N7 n7;refine #[_,rfl,_,rfl,_,rfl,_,rfl,st,wa,ps,OF,t,rs,as,w,key,high,rfl,F5.N.S,F5.N.W,F5.N.T.p,λp1 ks1 H6 _ _ _ g6 t6 h6 P6=>#[p1,rfl,#[_,SqL.of h6],λD hD=>?_]];obtain ⟨T6,k6⟩:=F5.N.T.g0 g6 t6;have F6:=F5.k4 k6 T6;have hkl:=P6.length;rw[af]at hkl;have hrl:∀ k,(betL (aC OF k) key high).length<=63:=λk=>cD (fg _ _) (by
  by_cases z:k<OF.length
  .exact nr hkeys _ (tq z)
  .unfold aC;rw[aF,dk (by lia)];exact cS _)
 refine c9 (xs:=ks1.map V.ref) (λi U H7=>∃(x0:Option V) (us:List Addr),U=[x0,some (.int b)]/\H7 D=some (.lst (us.map V.ref))/\D∉us/\Paired (λa (r:List Int)=>H7 a=some (.lst (r.map V.int))) us (((w.take i).map λk=>betL (aC OF k) key high).map λr=>r.map (· + b))/\But D H6 H7) ?_ ?_ ?_ ?_
 .exact #[_,[],rfl,ah,dq,.nil,λb o n e=>by rw[ak n];exact e]
 .rintro i U H7 _ ⟨x0,us,rfl,_,_,_,k7⟩;exact SqL.of (k7 _ _ (aq h6 hD) h6)
 .rintro i m x U H7 hx hm ⟨x0,us,rfl,h7,hnu,P7,k7⟩;rw[aQ]at hx;obtain ⟨ki,hki,rfl⟩:=cI.mp hx;obtain ⟨r,hr,hkr⟩:=eO P6 hki;rw[aQ]at hr;obtain ⟨kn,hkn,rfl⟩:=cI.mp hr;obtain ⟨hi,rfl⟩:=aY.mp hkn;have hk7:=k7 _ _ (aq hkr hD) hkr;have hul:=P7.length;rw[af,af,bt]at hul;rw[af]at hm;have hrl':=hrl w[i];rw[cx hi,aN,aN];obtain ⟨r,er⟩:∃ r,betL (aC OF w[i]) key high=r:=#[_,rfl];rw[er]at hk7 hrl';refine bZ ?_;refine #[_,rfl,ki,rfl,#[_,SqL.of hk7],λD2 hD2=>?_];refine c9 (xs:=r.map V.int) (λj U H8=>∃ y0:Option V,U=[y0,some (.int b)]/\H8 D2=some (.lst (((r.take j).map (· + b)).map V.int))/\But D2 H7 H8) ?_ ?_ ?_ ?_
  .exact #[_,rfl,ah,λb o n e=>by rw[ak n];exact e]
  .rintro j U H8 _ ⟨y0,rfl,_,k8⟩;exact SqL.of (k8 _ _ (aq hk7 hD2) hk7)
  .rintro j m2 x U H8 hx hm2 ⟨y0,rfl,h8,k8⟩;rw[aQ]at hx;obtain ⟨y,hy,rfl⟩:=cI.mp hx;obtain ⟨hj,rfl⟩:=aY.mp hy;rw[af]at hm2;refine bZ ?_;refine #[_,rfl,_,rfl,_,_,rfl,rfl,_,h8,aW (by rw[af,af,bt];lia),m2-1,by lia,by rw[af];lia,_,rfl,?_,λb o n e=>by rw[ak n];exact k8 b o n e];rw[ah,cx hj,aN,aN];rfl
  rintro U H8 ⟨y0,rfl,h8,k8⟩;rw[af,bh (av _)]at h8;have s8:Same H7 H8:=λb o e=>k8 b o (aq e hD2) e;have nD2:D2≠D:=λz=>by rw[z,h7]at hD2;cases hD2
  refine #[_,s8 _ _ h7,aW (by rw[af];lia),m-1,by lia,by rw[af];lia,_,us++[D2],rfl,by rw[ah,aN];rfl,λz=>?_,?_,λb o n e=>by rw[ak n];exact s8 _ _ (k7 b o n e)]
  .rcases bO.mp z with z|z
   .exact hnu z
   .exact nD2 (a0.mp z).symm
  .refine kZ (xf hnu (pImp (λ_ _ e=>s8 _ _ e) P7)) ?_;show upd H8 D _ D2=some (.lst (((betL (aC OF w[i]) key high).map (· + b)).map V.int));rw[er,ak nD2];exact h8
 rintro U H7 ⟨x0,us,rfl,h7,hnu,P7,k7⟩;refine n7 _ _ ?_;rw[af,hkl,bh (av _)]at P7;have F7:=F6.same (λb o e=>k7 b o (aq e hD) e);refine #[_,rfl,_,rfl,_,rfl,_,rfl,_,_,rfl,rfl,_,rfl,_,rfl,_,_,rfl,rfl,u,wa,ps,_,t,rs2,as2,w,key+b,high+b,rfl,F7.S,F7.N.W,F7.N.T.p,λp2 ks2 H8 _ _ _ g8 t8 h8 P8=>?_];obtain ⟨T8,k8⟩:=F7.N.T.g0 g8 t8;have k0:=F7.N.T.k0 k8;rw[show (w.map λk=>betL (aC (OF.map λr=>r.map (· + b)) k) (key+b) (high+b))=(w.map λk=>betL (aC OF k) key high).map λr=>r.map (· + b) from by rw[bT];exact dJ λk _=>by rw[e1,MQ];rfl]at P8;refine #[_,rfl,_,_,#[p2,_,rfl,SqL.of h8,jw P8],#[D,_,rfl,SqL.of (k0.lst h7),jw (xD k0 P7)],?_];rw[aU rfl];exact q _ (F7.k4 k8 T8).N
structure TNow (K:Frag)(m0 mF mS mL:Addr)(H0 H:Hp)(st wa:Addr)(ps:List Nat)(OF:List (List Int))(t rs:Addr)(as:List Addr)(w:List Nat)(u:Addr)(rows2:List (List Int))(rs2:Addr)(as2:List Addr):Prop where
 S:bR H st ps OF t rs as
 W:cK H wa ps w
 T:Tab4 m0 mF mS mL H
 F:bR H u ps rows2 t rs2 as2
 k:K4 m0 mF mS mL H0 H
section
variable {K:Frag}{m0 mF mS mL:Addr}{H0 H H':Hp}{st wa:Addr}{ps:List Nat}{OF:List (List Int)}{t rs:Addr}{as:List Addr}{w:List Nat}{u:Addr}{rows2:List (List Int)}{rs2:Addr}{as2:List Addr}
def TNow.k4 (h:TNow K m0 mF mS mL H0 H st wa ps OF t rs as w u rows2 rs2 as2)(k:K4 m0 mF mS mL H H')(T':Tab4 m0 mF mS mL H'):TNow K m0 mF mS mL H0 H' st wa ps OF t rs as w u rows2 rs2 as2:=
 have k0:=h.T.k0 k
 #[m3 k0 h.S,m4 k0 h.W,T',m3 k0 h.F,h.k.trans k]
def TNow.same (h:TNow K m0 mF mS mL H0 H st wa ps OF t rs as w u rows2 rs2 as2)(s:Same H H'):TNow K m0 mF mS mL H0 H' st wa ps OF t rs as w u rows2 rs2 as2:=h.k4 (.of s) (h.T.same s)
def neg_neg (r:List Int):neg (neg r)=r:=by
 unfold neg;rw[<-List.map_reverse,List.reverse_reverse,bT]
 conv=>rhs;rw[<-jE r]
 exact dJ λx _=>Int.neg_neg x
end
def Tab4.put {d:Addr}{us vs:List V}(x:Tab4 m0 mF mS mL H)(h:H d=some (.lst us)):Tab4 m0 mF mS mL (upd H d (.lst vs)):=by
 have one:∀{m:Addr} {pos:Pos} {q:Str},bp H m pos q->bp (upd H d (.lst vs)) m pos q:=λ{m pos q} x=>by
  obtain ⟨tab,h1,h2,h3⟩:=x.ex;refine #[tab,?_,h2,?_]
  .rw[ak (λz=>by rw[z,h]at h1;cases h1)]
   exact h1
  rcases h3 with h3|⟨c,h3,h4⟩
  .exact .inl h3
  .refine .inr #[c,h3,?_];have h4':H c=_:=h4;show upd H d (.lst vs) c=_;rw[ak (λz=>by rw[z,h]at h4';cases h4')]
   exact h4'
 exact #[one x.p,one x.f,one x.s,one x.a,x.n]
section
variable {K:Frag}{m0 mF mS mL:Addr}{H0 H H':Hp}{st wa:Addr}{ps:List Nat}{OF:List (List Int)}{t rs:Addr}{as:List Addr}{w:List Nat}{u:Addr}{rows2:List (List Int)}{rs2:Addr}{as2:List Addr}
def Es {D:Addr}{us vs:List V}(S:bR H st ps OF t rs as)(hD:H D=some (.lst us)):bR (upd H D (.lst vs)) st ps OF t rs as:=by
 have up:∀{b:Addr} {xs:List V},H b=some (.tup xs)->upd H D (.lst vs) b=some (.tup xs):=λ{b xs} e=>by rw[ak (λz=>by rw[z,hD]at e;cases e)];exact e
 exact #[up S.st,up S.tr,up S.rs,pImp (λ_ _ q=>up q) S.at_,S.len,S.T,S.R,S.few,S.keys]
def TNow.put {D:Addr}{us vs:List V}(h:TNow K m0 mF mS mL H0 H st wa ps OF t rs as w u rows2 rs2 as2)(hD:H D=some (.lst us))(f:H0 D=none)(nw:wa≠D):TNow K m0 mF mS mL H0 (upd H D (.lst vs)) st wa ps OF t rs as w u rows2 rs2 as2:=
 #[Es h.S hD,#[by rw[ak nw];exact h.W.at_,h.W.len,h.W.ne,h.W.ch,h.W.kn],h.T.put hD,Es h.F hD,λb o n e=>by rw[ak (aq e f)];exact h.k b o n e]
def TNow.free {b:Addr}(h:TNow K m0 mF mS mL H0 H st wa ps OF t rs as w u rows2 rs2 as2)(e:H b=none):H0 b=none:=by
 cases z:H0 b with
 | none=>rfl
 | some o=>
  have:=h.k _ _ (h.T.free e) z;rw[e]at this;cases this
end
def Nc {OF:List (List Int)}:(OF.map neg).map (λr=>r.reverse.map (- ·))=OF:=by
 rw[bT]
 conv=>rhs;rw[<-jE OF]
 exact dJ λr _=>neg_neg r
inductive xE (K:Frag)(m0 mF mS mL:Addr)(vs:List V)(H:Hp)(Q:VK)(w_1:XK):Prop
 | c:∀(st wa:Addr) (key:Int) (ps:List Nat) (OF:List (List Int)) (t rs:Addr) (as:List Addr) (w:List Nat),vs=[.ref st,.ref wa,.int key]->bR H st ps OF t rs as->cK H wa ps w->Tab4 m0 mF mS mL H->(∀ H',K4 m0 mF mS mL H H'->Tab4 m0 mF mS mL H'->Q (.bl true) H')->xE K m0 mF mS mL vs H Q w_1
def Nd (T:Txt K mg)(zx:DF K mg "_law_turned_alike" qp rS)(EF:FC P w K mg base 2 "turned_about" qX (xm K))(fF:FC P w K mg base 6 "places" jl (lg K m0))(gh:FC P w K mg base 6 "who_has" jm (lj K))(zt:FC P w K mg base 6 "above" mI (lp K mL gf))(N0:FC P w K mg base 6 "below" rg (lp K mL iO))(zu:FC P w K mg base 9 "paper_of" mM (tw K mF mS))(zv:FC P w K mg base 9 "lets_by" mN (tE K)):FC P w K mg base 10 "_law_turned_alike" rS (xE K m0 mF mS mL):=by
 refine zx.ok jj (λvs H Q E h=>?_) (λf cdv A outer s H vs Q E hr h=>?_)
 .obtain ⟨st,wa,key,ps,OF,t,rs,as,w,rfl,_⟩:=h;rfl
 obtain ⟨st,wa,key,ps,OF,t,rs,as,w,rfl,S,W,TT,q⟩:=h;refine #[_,(cz (aL (i:=3) jj.nd rfl (au rfl) (ax EF hr (aa (pv 0) ae)))
   (cz (aL (i:=4) jj.nd rfl (au rfl) (ax gh hr (aa (pv 0) (aa (pv 1) (aa (pv 2) ae)))))
   (cz (aL (i:=5) jj.nd rfl (au rfl) (cy ae))
   (cz (cO PassesOwn.never rfl (jX rfl T.lA (aa (pv 1) (aa (ax fF hr (aa (pv 0) (aa (pv 1) (aa (pv 2) ae)))) ae))) (i8 rfl (c7 (aP (i:=6) jj.nd rfl (au rfl)) (c7 (aP (i:=7) jj.nd rfl (au rfl)) fP))) (aw (dB (d5 F.plainAttrs_list F.slot_list_append F.type_list_append eJ (pv 5) (aa (aG cF (aG cF (aT (bJ (K:=K)) rfl T.bG bF (aa (aB (aR (K:=K)) (aB (aR (K:=K)) (pv 0) ag (λ_ _=>rfl)) (pv 6) (λ_ _=>rfl)) ae)) (pv 7)) (dC uo rfl T.tM boot_int (aa (d3 (uV (K:=K)) (pv 6) (pv 4) (by with_unfolding_all rfl)) ae))) ae)))))
   (c5 (bu (PW.pt (fO (aX (dN (List Int) (huD hr)) (ax fF hr (aa (pv 3) (aa (pv 1) (aa (aG cF ag (pv 2)) ae)))) (pv 5) (aS _)) (fN (aX (dN (List Int) (huD hr)) (ax gh hr (aa (pv 3) (aa (pv 1) (aa (aG cF ag (pv 2)) ae)))) (pv 4) (aS _))))) (aw (aE bV)) bz)
   (c5 (bu (aX (dN (Tup (Option Int)×Tup (Tup Int)) (huD hr)) (ax EF hr (aa (pv 3) ae)) (pv 0) (aS _)) (aw (aE bV)) bz)
   (cz (aL (i:=8) jj.nd rfl (au rfl) (cy (aa (ax zt hr (aa (pv 0) (aa (pv 1) (aa (pv 2) ae)))) (aa (ax N0 hr (aa (pv 3) (aa (pv 1) (aa (aG cf (aG cF ag (pv 2)) ag) ae)))) ae))))
   (c5 (bu (aX (Hy (Option (Int×Int)) (huD hr)) eU (pv 8) (by with_unfolding_all rfl)) (aw (aE (d3 (uM (List (Option (Int×Int))) (huD hr)) (pv 8) (cy (aa eU (aa eU ae))) (aS _)))) bz)
   (c5 (bu (aX hE (aB (aR (K:=K)) (aB (bw (K:=K)) (pv 8) ag (λ_ _=>rfl)) ag (λ_ _=>rfl)) (aG cF ag (aB (aR (K:=K)) (aB (bw (K:=K)) (pv 8) ag (λ_ _=>rfl)) ag (λ_ _=>rfl))) (aS _)) (aw (aE bV)) bz)
   (aw (aE (ax zv hr (aa (pv 3) (aa (pv 1) (aa (aG cF ag (pv 2)) (aa (ax zu hr (aa (pv 3) (aa (pv 1) (aa (aG cF ag (pv 2)) ae)))) ae)))))))))))))))),?_]
 have hkeys:=S.keys;have hwl:=W.len;have hl:=S.len;have few:=S.few;intro N1 n1;refine #[_,rfl,st,t,rs,as,OF,rfl,S.st,S.rs,S.at_,by lia,λr hr=>cD (nr hkeys r hr) (by lia),λu rs2 as2 H1 s1 h1 h2 h3=>n1 _ _ ?_];have M1:TNow K m0 mF mS mL H H1 st wa ps OF t rs as w u (OF.map neg) rs2 as2:=by
  refine #[S.same s1,W.same s1,TT.same s1,#[h1,s1 _ _ S.tr,h2,h3,by rw[af];exact hl,S.T,#[λr hr=>?_,λr hr x hx=>?_],few,by rw[Er λr=>by unfold neg;rw[af,fh]];exact hkeys],.of s1]
  .obtain ⟨r,hr',rfl⟩:=bI.mp hr;exact fJ.mpr (List.pairwise_reverse.mpr ((S.R.up r hr').imp λ{a b} z=>by lia))
  .obtain ⟨r,hr',rfl⟩:=bI.mp hr;have:=S.R.key r hr' _ (xA.mp hx);lia
 have SR:=S.R;clear n1 h1 h2 h3 s1 TT S;intro N2 n2;refine #[_,rfl,_,rfl,_,rfl,st,wa,ps,OF,t,rs,as,w,key,rfl,M1.S,M1.W,λth H2 _ s2 hth=>n2 _ _ ?_];have M2:=M1.same s2;clear n2 M1 s2;intro N3 n3;refine #[(by show 0<=sizeLine;decide),λD hD=>n3 _ _ ?_];have nwa:=aq M2.W.at_ hD;have nth:=aq hth hD;have fD:=M2.free hD;have s3:=aJ hD (.lst []);have M3:=M2.same s3;have hth3:=s3 _ _ hth;have hD3:upd H2 D (.lst []) D=some (.lst []):=ah;generalize upd H2 D (.lst [])=H3 at M3 hth3 hD3 ⊢;clear n3 M2 hth s3;intro N4 n4;refine #[_,rfl,_,rfl,_,rfl,_,rfl,st,wa,ps,OF,t,rs,as,w,key,rfl,M3.S,M3.W,M3.T.p,λpl H4 hpl g4 t4 h4=>?_];have npl:pl≠D:=λz=>by rw[z,hD3]at hpl;cases hpl
 obtain ⟨T4,k4⟩:=M3.T.g0 g4 t4;have k0:=M3.T.k0 k4;have M4:=M3.k4 k4 T4;have hth4:=k0.lst hth3;have hD4:=k0.lst hD3;clear M3 hth3 hD3 g4 t4 T4 k4 k0 hpl;refine #[wa,pl,rfl,#[_,SqL.of M4.W.at_],#[_,SqL.of h4],?_];refine GM (xs:=w.map nV) (ys:=(w.map λk=>bx (aC OF k) key).map nV) (by rw[af,af,af]) (λi U H5=>∃ x6 x7:Option V,U=[some (.ref st),some (.ref wa),some (.int key),some (.ref u),some (.ref th),some (.ref D),x6,x7,none]/\H5 D=some (.lst (((w.take i).map λk=>bx (neg (aC OF k)) (0-key)).map nV))/\TNow K m0 mF mS mL H H5 st wa ps OF t rs as w u (OF.map neg) rs2 as2/\H5 th=some (.lst ((w.filter λk=>decide (key∈aC OF k)).map nV))/\H5 pl=some (.lst ((w.map λk=>bx (aC OF k) key).map nV))) ?_ ?_ ?_ ?_
 .exact #[_,_,rfl,hD4,M4,hth4,h4]
 .rintro i U H5 _ ⟨x6,x7,rfl,_,M5,_,p5⟩;exact #[SqL.of M5.W.at_,SqL.of p5]
 .clear M4 hD4 hth4 h4;rintro i x y U H5 rr hx hy ⟨x6,x7,rfl,h5,M5,th5,p5⟩ hrr;obtain ⟨hi,rfl⟩:=eN hx;have hkn:=W.kn _ (iL hi);have hmw:=iL hi;have eg:w.getD i 0=w[i]:=by rw[aF,aD hi];rfl
  rw[aQ,aQ,aD hi,<-eg]at hy;obtain rfl:=aV hy;have etk:=iK hi;generalize w.getD i 0=kn at hkn hmw etk;have sr:=aJ hrr (.tup [nV kn,nV (bx (aC OF kn) key)]);refine #[rr,_,rfl,SqT.of ah,rfl,_,_,rfl,_,_,rfl,rfl,?_];have M6:=M5.same sr;have D6:=sr _ _ h5;have th6:=sr _ _ th5;have p6:=sr _ _ p5;obtain ⟨b,hb1,hb2⟩:=M6.S.at_.get (k:=kn) (by rw[hl];exact hkn);refine #[_,rfl,.inl #[rfl,_,SqL.of D6],_,rfl,_,_,_,_,rfl,rfl,SqT.of M6.S.st,rfl,_,rfl,_,_,_,_,rfl,rfl,SqT.of M6.S.rs,iH hb1,_,_,rfl,.inr (SqT.of hb2),_,rfl,_,_,rfl,rfl,_,rfl,_,rfl,th,_,rfl,.inl (SqL.of th6),rfl,vQ _,.inr #[_,rfl,_,_,rfl,rfl,D,_,_,rfl,rfl,D6,aW (by rw[af,af,bt];lia),?_]];refine #[_,_,rfl,?_,M6.put D6 fD nwa,by rw[ak nth];exact th6,by rw[ak npl];exact p6];rw[ah,etk,aN,aN];refine congrArg some (congrArg HO.lst (congrArg (λl=>_++l) ?_));refine congrArg (λz=>[V.int z]) ?_;show ((((aC OF kn).map V.int).length:Nat):Int)-((bx (aC OF kn) key:Nat):Int)-(if inV (.int (kn:Int)) ((w.filter λk=>decide (key∈aC OF k)).map nV)=true then 1 else 0)=((bx (neg (aC OF kn)) (0-key):Nat):Int)
  rw[vR,af];have bn:=MR (key:=key) (SR.at_up kn);have im:(kn∈w.filter λk=>decide (key∈aC OF k))↔key∈aC OF kn:=by rw[dh];exact #[λz=>cE z.2,λz=>#[hmw,aU z]]
  by_cases c:key∈aC OF kn
  .rw[aU (im.mpr c),ar rfl];rw[ar c]at bn;lia
  .rw[bH (λz=>c (im.mp z)),az cN];rw[az c]at bn;lia
 clear M4 hD4 hth4 h4;rintro U H5 ⟨x6,x7,rfl,h5,M5,th5,pl5⟩;clear pl5;refine n4 _ _ ?_;rw[af,bh (av _)]at h5;have e1:∀ k,aC (OF.map neg) k=neg (aC OF k):=λk=>xy (f:=neg) rfl k;refine #[λU' H'=>U'=[some (.ref st),some (.ref wa),some (.int key),some (.ref u),some (.ref th),some (.ref D),x6,x7,none]/\TNow K m0 mF mS mL H H' st wa ps OF t rs as w u (OF.map neg) rs2 as2,?_,?_]
 .intro N7 n7;refine #[_,rfl,_,rfl,_,rfl,_,_,rfl,rfl,u,wa,ps,_,t,rs2,as2,w,0-key,rfl,M5.F,M5.W,M5.T.p,λp1 H6 _ g6 t6 h6=>?_];obtain ⟨T6,k6⟩:=M5.T.g0 g6 t6;have k0:=M5.T.k0 k6;have M6:=M5.k4 k6 T6;rw[show (w.map λk=>bx (aC (OF.map neg) k) (0-key))=w.map λk=>bx (neg (aC OF k)) (0-key) from dJ λk _=>by rw[e1]]at h6;refine #[_,rfl,_,_,#[p1,_,rfl,SqL.of h6,eD],#[D,_,rfl,SqL.of (k0.lst h5),eD],_,rfl,cU rfl ?_];refine #[_,rfl,_,rfl,_,rfl,_,_,rfl,rfl,u,wa,ps,_,t,rs2,as2,w,0-key,rfl,M6.F,M6.W,λp2 H7 _ s7 h7=>?_];rw[show (w.filter λk=>decide (0-key∈aC (OF.map neg) k))=w.filter λk=>decide (key∈aC OF k) from jO λk _=>by rw[e1];exact decide_eq_decide.mpr (by rw[xA,show -(0-key)=key by lia])]at h7;exact #[_,rfl,_,_,#[p2,_,rfl,SqL.of h7,eD],#[th,_,rfl,SqL.of (s7 _ _ (k0.lst th5)),eD],_,rfl,cU rfl (n7 _ _ #[rfl,M6.same s7])]
 clear M5 h5 th5 H5;rintro _ H5 ⟨rfl,M5⟩;refine #[λU' H'=>U'=[some (.ref st),some (.ref wa),some (.int key),some (.ref u),some (.ref th),some (.ref D),x6,x7,none]/\TNow K m0 mF mS mL H H' st wa ps OF t rs as w u (OF.map neg) rs2 as2,?_,?_]
 .intro N7 n7;have hk2:=M5.F.keys;refine #[_,rfl,u,t,rs2,as2,_,rfl,M5.F.st,M5.F.rs,M5.F.at_,by rw[af];lia,λr hr=>cD (nr hk2 r hr) (by lia),λu2 rs3 as3 H6 s6 h1 h2 h3=>?_];rw[Nc]at h3;have M6:=M5.same s6;exact #[_,rfl,_,_,ni h1 M6.F.tr h2 h3,tJ M6.S,_,rfl,cU rfl (n7 _ _ #[rfl,M6])]
 clear M5 H5;rintro _ H5 ⟨rfl,M5⟩;intro N7 n7;refine #[_,rfl,_,rfl,_,rfl,st,wa,ps,OF,t,rs,as,w,key,rfl,M5.S,M5.W,M5.T.a,λv H6 g6 t6 hv=>?_];obtain ⟨T6,k6⟩:=M5.T.gL g6 t6;have M6:=M5.k4 k6 T6;clear M5 g6 t6 T6 k6;refine #[_,rfl,_,rfl,_,rfl,_,_,rfl,rfl,_,_,rfl,rfl,u,wa,ps,_,t,rs2,as2,w,0-key+1,rfl,M6.F,M6.W,M6.T.a,λv2 H7 g7 t7 hv2=>#[(by show 2<=sizeLine;decide),λsm hsm=>n7 _ _ ?_]];obtain ⟨T7,k7⟩:=M6.T.gL g7 t7;have ss:=aJ hsm (.lst [v,v2]);have hva:=nj (.of ss) (nj (M6.T.k0 k7) hv);have hvb:=nj (.of ss) hv2;have M8:=(M6.k4 k7 T7).same ss;have hs8:upd H7 sm (.lst [v,v2]) sm=some (.lst [v,v2]):=ah;generalize upd H7 sm (.lst [v,v2])=H8 at M8 hva hvb hs8 ⊢;clear M6 hv hv2 g7 t7 T7 k7 ss hsm n7 N7;refine #[λU' H'=>U'=[some (.ref st),some (.ref wa),some (.int key),some (.ref u),some (.ref th),some (.ref D),x6,x7,some (.ref sm)]/\H8=H'/\∃(e f:Int×Int) (a1 a2:Addr),H' sm=some (.lst [.ref a1,.ref a2])/\H' a1=some (.tup [.int e.1,.int e.2])/\H' a2=some (.tup [.int f.1,.int f.2])/\e.1=0-f.1,?_,?_]
 .intro N7 n7;refine #[_,rfl,sm,_,none,[gf OF w key,iO (OF.map neg) w (0-key+1)],rfl,.inl (SqL.of hs8),rfl,.cons hva (.cons hvb .nil),λb hb=>#[_,rfl,?_]];rcases MT (OF:=OF) (w:=w) (key:=key) with ⟨z1,z2⟩|⟨e,f',z1,z2,z3⟩
  .rw[z1,z2]at hb;rw[z1]at hva;rw[z2]at hvb;obtain rfl:b=true:=hb.mpr bL;have hva:v=.non:=hva;have hvb:v2=.non:=hvb;subst hva hvb;refine iteT ?_;refine #[_,rfl,(by show 2<=sizeLine;decide),λl hl=>?_];have sl:=aJ hl (.lst [.non,.non]);refine #[[none,none],[none,none],#[sm,_,rfl,SqL.of (sl _ _ hs8),.cons rfl (.cons rfl .nil)],#[l,_,rfl,SqL.of ah,.cons rfl (.cons rfl .nil)],?_];rw[aU rfl];have M9:=M8.same sl;exact q _ M9.k M9.T
  .rw[z1,z2]at hb;rw[z1]at hva;rw[z2]at hvb;obtain ⟨a1,y1,y2,rfl,ha,f1,f2⟩:=(show hasP K H8 e v from hva);obtain ⟨a2,y3,y4,rfl,hb',f3,f4⟩:=(show hasP K H8 f' v2 from hvb);have f1:y1=.int e.1:=f1;have f2:y2=.int e.2:=f2;have f3:y3=.int f'.1:=f3;have f4:y4=.int f'.2:=f4;subst f1 f2 f3 f4;have hbf:b=false:=by
    cases b with
    | false=>rfl
    | true=>
     have:=hb.mp rfl;simp at this
   subst hbf;exact iteF (n7 _ _ #[rfl,rfl,e,f',a1,a2,hs8,ha,hb',z3])
 rintro _ _ ⟨rfl,rfl,e,f',a1,a2,hs,h1,h2,he⟩;refine #[λU' H'=>U'=[some (.ref st),some (.ref wa),some (.int key),some (.ref u),some (.ref th),some (.ref D),x6,x7,some (.ref sm)]/\H8=H',?_,?_]
 .intro N7 n7;refine #[_,rfl,_,_,_,_,rfl,rfl,SqL.of hs,rfl,_,_,_,_,rfl,rfl,SqT.of h1,rfl,_,rfl,_,_,_,_,rfl,rfl,SqL.of hs,rfl,_,_,_,_,rfl,rfl,SqT.of h2,rfl,_,_,rfl,rfl,rfl,_,rfl,?_];exact cU (show V.int _=V.int _ by rw[he]) (n7 _ _ #[rfl,rfl])
 rintro _ _ ⟨rfl,rfl⟩;refine #[_,rfl,_,rfl,_,rfl,_,_,rfl,rfl,_,rfl,_,rfl,_,rfl,_,_,rfl,rfl,u,wa,0-key,ps,_,t,rs2,as2,w,rfl,M8.F,M8.W,M8.T.ts,λpp zs H9 _ k9 t9 h9 hP9=>?_];obtain ⟨T9,k9'⟩:=M8.T.gS k9 t9;have M9:=M8.k4 k9' T9;exact #[u,wa,pp,0-key,ps,_,t,rs2,as2,w,zs,rfl,M9.F,M9.W,h9,hP9,λHA sA=>q _ (M9.same sA).k (M9.same sA).T]
def exR (OF:List (List Int))(i j:Nat):List (List Int):=(OF.set i (aC OF j)).set j (aC OF i)
section
variable {OF:List (List Int)}{i j k:Nat}{r:List Int}
def xF (hk:i<OF.length):aC (OF.set i r) k=if k=i then r else aC OF k:=by
 unfold aC;rw[aF,nY,aF];by_cases z:i=k
 .subst z;rw[ar rfl,ar rfl,ar hk];rfl
 .rw[az z,az (bE z)]
def xG (hi:i<OF.length)(hj:j<OF.length):aC (exR OF i j) k=aC OF (if k=j then i else if k=i then j else k):=by
 unfold exR;rw[xF (by rw[gk];exact hj)];split
 .rfl
 .rw[xF hi];split<;>rfl
def jx:(exR OF i j).length=OF.length:=by
 unfold exR;rw[gk,gk]
def Nf (hi:i<OF.length)(hj:j<OF.length):exR (exR OF i j) j i=OF:=by
 have e:=lh (exR (exR OF i j) j i);rw[jx,jx]at e;rw[e]
 conv=>rhs;rw[lh OF]
 refine dJ λk hk=>?_;rw[xG (by rw[jx];exact hj) (by rw[jx];exact hi),xG hi hj];congr 1
 repeat' split
 all_goals lia
def xH:∀{OF:List (List Int)} {i:Nat},i<OF.length->cw (OF.set i r)+(aC OF i).length=cw OF+r.length
 | [],_,h=>absurd h (iY _)
 | a::OF,0,_=>by
  show ((r::OF).map List.length).sum+a.length=((a::OF).map List.length).sum+r.length;rw[bK,bK,cZ,cZ];lia
 | a::OF,i+1,h=>by
  have:=xH (OF:=OF) (i:=i) (Nat.lt_of_succ_lt_succ h);show ((a::OF.set i r).map List.length).sum+(aC OF i).length=((a::OF).map List.length).sum+r.length;rw[bK,bK,cZ,cZ];unfold cw at this;lia
def Et (hi:i<OF.length)(hj:j<OF.length):cw (exR OF i j)=cw OF:=by
 have a:=xH (r:=aC OF j) hi;have b:=xH (OF:=OF.set i (aC OF j)) (r:=aC OF i) (i:=j) (by rw[gk];exact hj);rw[xF hi]at b;unfold exR;split at b<;>lia
def Eu (hi:i<OF.length)(hj:j<OF.length)(h:r∈exR OF i j):r∈OF:=by
 unfold exR at h;rcases List.mem_or_eq_of_mem_set h with h|rfl
 .rcases List.mem_or_eq_of_mem_set h with h|rfl
  .exact h
  .exact tq hj
 .exact tq hi
def Ng (T:bf ps)(hl:OF.length=ps.length+1):wtR ps OF 0=cw OF:=by
 unfold wtR;rw[CS T]
 conv=>rhs;rw[lh OF]
 unfold cw;rw[bT,hl];rfl
end
def nu {H:Hp}{v:Addr}{r:List Int}(hv:H v=some (.tup (r.map V.int))):∀{as:List Addr} {OF:List (List Int)} (kn:Nat),bA H as OF->bA H (as.set kn v) (OF.set kn r)
 | _,_,_,.nil=>.nil
 | _,_,0,.cons _ t=>.cons hv t
 | _,_,kn+1,.cons h t=>.cons h (nu hv kn t)
inductive xI (K:Frag)(vs:List V)(H:Hp)(Q:VK)(w_1:XK):Prop
 | c:∀(st:Addr) (ps:List Nat) (OF:List (List Int)) (t rs:Addr) (as:List Addr),vs=[.ref st]->bR H st ps OF t rs as->(∀(p:Addr) (n:Nat) (H':Hp),Same H H'->H' p=some (.tup [nV (cw OF),nV n])->Q (.ref p) H')->xI K vs H Q w_1
def Nh (T:Txt K mg)(zy:DF K mg "weight" pj qR)(N8:FC P w K mg base 8 "weight_beneath" qS (spWB K)):FC P w K mg base 9 "weight" qR (xI K):=by
 refine zy.ok IH (λvs H Q E h=>?_) (λf cdv A outer s H vs Q E hr h=>?_)
 .obtain ⟨st,ps,OF,t,rs,as,rfl,_⟩:=h;rfl
 obtain ⟨st,ps,OF,t,rs,as,rfl,S,q⟩:=h;refine #[_,(aw (aE (ax N8 hr (aa (pv 0) (aa ag ae))))),?_];refine #[_,rfl,st,ps,OF,t,rs,as,0,rfl,S,by lia,λp H' _ s' hp=>q p (wtF ps OF 0) H' s' ?_];rw[Ng S.T S.len]at hp;exact hp
def tL {H:Hp}{a:Addr}{ps:List Nat}{k:Nat}(h:H a=some (.lst [nV k]))(hk:k<ps.length+1):cK H a ps [k]:=#[h,by show 1<=900;decide,nofun,λt ht=>absurd ht (by simp),λx hx=>by rw[a0.mp hx];exact hk]
inductive xJ (K:Frag)(m0 mF mS mL:Addr)(vs:List V)(H:Hp)(Q:VK)(w_1:XK):Prop
 | c:∀(L d st wa:Addr) (key high:Int) (ps:List Nat) (OF:List (List Int)) (t rs:Addr) (as:List Addr) (w:List Nat),vs=[.ref d,.ref st,.int key,.int high]->ANow K m0 mF mS mL L d H st wa ps OF t rs as w->(∀ H',Q (.bl true) H')->xJ K m0 mF mS mL vs H Q w_1
def Ni (T:Txt K mg)(zA:DF K mg "_law_exchanged_alike" qr rT)(cn:FC P w K mg base 2 "_law_take" eW (fq K))(EG:FC P w K mg base 2 "exchanged" qT (xh K))(fF:FC P w K mg base 6 "places" jl (lg K m0))(iR:FC P w K mg base 7 "stretch" kI (m9 K m0))(EH:FC P w K mg base 9 "weight" qR (xI K)):FC P w K mg base 10 "_law_exchanged_alike" rT (xJ K m0 mF mS mL):=by
 refine zA.ok ku (λvs H Q E h=>?_) (λf cdv A outer s H vs Q E hr h=>?_)
 .obtain ⟨L,d,st,wa,key,high,ps,OF,t,rs,as,w,rfl,_⟩:=h;rfl
 obtain ⟨L,d,st,wa,key,high,ps,OF,t,rs,as,w,rfl,N,q⟩:=h;refine #[_,(cz (aL (i:=4) ku.nd rfl (au rfl) (ax cn hr (aa (pv 0) (aa (aT (bJ (K:=K)) rfl T.bG bF (aa (aB (aR (K:=K)) (pv 1) ag (λ_ _=>rfl)) ae)) ae))))
   (cz (aL (i:=5) ku.nd rfl (au rfl) (ax cn hr (aa (pv 0) (aa (aT (bJ (K:=K)) rfl T.bG bF (aa (aB (aR (K:=K)) (pv 1) ag (λ_ _=>rfl)) ae)) ae))))
   (cz (aL (i:=6) ku.nd rfl (au rfl) (ax EG hr (aa (pv 1) (aa (pv 4) (aa (pv 5) ae)))))
   (cz (cO PassesOwn.never rfl (fQ rfl T.dG (aa (aT (bJ (K:=K)) rfl T.bG bF (aa (aB (aR (K:=K)) (pv 1) ag (λ_ _=>rfl)) ae)) ae)) (aP (i:=7) ku.nd rfl (au rfl)) (cz (aL (i:=8) ku.nd rfl (au rfl) (aB (bw (K:=K)) (cy (aa (pv 7) (aa (pv 5) (aa (pv 4) ae)))) (aG cf (dC uo rfl T.tM boot_int (aa (d3 dr (pv 7) (pv 4) (aS _)) ae)) (aG eC ag (dC uo rfl T.tM boot_int (aa (oh (d3 dr (pv 7) (pv 5) (aS _)) (jS (d3 hE (pv 4) (pv 5) (aS _)))) ae)))) (λ_ _=>rfl)))
   (c5 (bu (aX (dN (List (List Int)) (huD hr)) (ax iR hr (aa (pv 6) (aa (cy (aa (pv 7) ae)) (aa (pv 2) (aa (pv 3) ae))))) (ax iR hr (aa (pv 1) (aa (cy (aa (pv 8) ae)) (aa (pv 2) (aa (pv 3) ae))))) (aS _)) (aw (aE bV)) bz)
   (aw (bu (aX (dN (List Int) (huD hr)) (ax fF hr (aa (pv 6) (aa (cy (aa (pv 7) ae)) (aa (pv 2) ae)))) (ax fF hr (aa (pv 1) (aa (cy (aa (pv 8) ae)) (aa (pv 2) ae)))) (aS _)) (aw (aE bV)) bz)))))
   (c5 (bu (aX (dN (Tup (Option Int)×Tup (Tup Int)) (huD hr)) (ax EG hr (aa (pv 6) (aa (pv 5) (aa (pv 4) ae)))) (pv 1) (aS _)) (aw (aE bV)) bz)
   (aw (aE (d3 dr (aB (aR (K:=K)) (ax EH hr (aa (pv 6) ae)) ag (λ_ _=>rfl)) (aB (aR (K:=K)) (ax EH hr (aa (pv 1) ae)) ag (λ_ _=>rfl)) (aS _))))))))),?_]
 have few:=N.S.few;have hl:=N.S.len;have el:=ck ps;intro N1 n1;refine #[_,rfl,_,rfl,_,_,_,_,rfl,rfl,SqT.of N.S.st,rfl,_,_,rfl,.inr (SqT.of N.S.tr),?_];rw[el];refine #[d,L,((ps.length+1:Nat):Int),rfl,#[by lia,by lia],N.ls,λx H1 x0 x1 k1 s1=>n1 _ _ ?_];obtain ⟨i,rfl⟩:∃ i:Nat,x=i:=#[x.toNat,by lia];have A1:=N.take k1 s1;clear N n1 k1 s1;intro N2 n2;refine #[_,rfl,_,rfl,_,_,_,_,rfl,rfl,SqT.of A1.S.st,rfl,_,_,rfl,.inr (SqT.of A1.S.tr),?_];rw[el];refine #[d,L,((ps.length+1:Nat):Int),rfl,#[by lia,by lia],A1.ls,λy H2 y0 y1 k2 s2=>n2 _ _ ?_];obtain ⟨j,rfl⟩:∃ j:Nat,y=j:=#[y.toNat,by lia];have A2:=A1.take k2 s2;clear A1 n2 k2 s2;have hi:i<OF.length:=by lia
 have hj:j<OF.length:=by lia
 obtain ⟨ai,hi1,hi2⟩:=A2.S.at_.get hi;obtain ⟨aj,hj1,hj2⟩:=A2.S.at_.get hj;have hal:=A2.S.at_.length;intro N3 n3;refine #[_,rfl,_,rfl,_,rfl,st,t,rs,as.map V.ref,i,j,.ref ai,.ref aj,rfl,A2.S.st,A2.S.rs,by rw[aQ,hi1];rfl,by rw[aQ,hj1];rfl,by rw[af];lia,λu rs2 H3 s3 h1 h2=>n3 _ _ ?_];have SR:=A2.S.R;have F3:FNow K m0 mF mS mL L d H3 st wa ps OF t rs as w u (exR OF i j) rs2 ((as.set i aj).set j ai):=#[A2.same s3,h1,s3 _ _ A2.S.tr,by rw[h2,i3,i3],nu (s3 _ _ hi2) j (nu (s3 _ _ hj2) i (A2.S.at_.ext s3)),by rw[jx];exact hl,A2.S.T,#[λr hr'=>SR.up r (Eu hi hj hr'),λr hr'=>SR.key r (Eu hi hj hr')],few,by rw[Et hi hj];exact A2.S.keys];clear A2 h1 h2 n3 hi1 hi2 hj1 hj2 s3;intro N4 n4;refine #[_,rfl,_,_,_,_,rfl,rfl,SqT.of F3.N.S.st,rfl,_,_,rfl,.inr (SqT.of F3.N.S.tr),_,rfl,by rw[el];lia,by rw[el];lia,?_];rw[el,eA];refine fR (n:=ps.length+1) (λm U HA=>∃ x7 x8:Option V,U=[some (.ref d),some (.ref st),some (.int key),some (.int high),some (nV i),some (nV j),some (.ref u),x7,x8]/\FNow K m0 mF mS mL L d HA st wa ps OF t rs as w u (exR OF i j) rs2 ((as.set i aj).set j ai)) ?_ ?_ ?_
 .exact #[_,_,rfl,F3]
 .clear F3;rintro m U HA hm ⟨x7,x8,rfl,FA⟩;refine CU λN B R hN hB hR'=>?_;rw[gV];intro N5 n5;refine #[_,rfl,_,rfl,_,rfl,(by show 3<=sizeLine;decide),λl hl'=>?_];have sl:=aJ hl' (.lst [nV m,nV j,nV i]);have FB:=FA.same sl;have hlB:upd HA l (.lst [nV m,nV j,nV i]) l=some (.lst [nV m,nV j,nV i]):=ah;generalize upd HA l (.lst [nV m,nV j,nV i])=HB at FB hlB ⊢;clear FA sl hl';refine #[_,rfl,_,rfl,rfl,.inr #[_,rfl,?_]];have dm:∀{a b:Nat},a=b->decide (V.int (a:Int)=nV b)=true:=λh=>aU (by rw[h]);have dn:∀{a b:Nat},a≠b->decide (V.int (a:Int)=nV b)=false:=λh=>bH λz=>h (Int.ofNat.inj (V.int.inj z));obtain ⟨e,he⟩:∃ e:Nat,(if m=j then i else if m=i then j else m)=e:=#[_,rfl]
  have hen:e<ps.length+1:=by
   rw[<-he];split
   .omega
   .split<;>lia
  have ee:aC (exR OF i j) m=aC OF e:=by rw[xG hi hj,he]
  have go:N5 [some (.ref d),some (.ref st),some (.int key),some (.int high),some (nV i),some (nV j),some (.ref u),some (.int (m:Int)),some (nV e)] HB:=n5 _ _ (by
   refine #[λU' H'=>U'=[some (.ref d),some (.ref st),some (.int key),some (.int high),some (nV i),some (nV j),some (.ref u),some (.int (m:Int)),some (nV e)]/\FNow K m0 mF mS mL L d H' st wa ps OF t rs as w u (exR OF i j) rs2 ((as.set i aj).set j ai),?_,?_]
   .intro N6 n6;refine #[_,rfl,_,rfl,(by show 1<=sizeLine;decide),λa1 ha1=>?_];have s1:=aJ ha1 (.lst [nV m]);have F1:=FB.same s1;refine #[_,rfl,_,rfl,u,a1,ps,exR OF i j,t,rs2,_,[m],key,high,rfl,F1.S,tL ah hm,F1.N.T.p,λp1 ks1 H4 _ _ _ g4 t4 h4 P4=>?_];obtain ⟨T4,k4⟩:=F1.N.T.g0 g4 t4;have F4:=F1.k4 k4 T4;refine #[_,rfl,_,rfl,(by show 1<=sizeLine;decide),λa2 ha2=>?_];have s2:=aJ ha2 (.lst [nV e]);have F5:=F4.same s2;refine #[_,rfl,_,rfl,st,a2,ps,OF,t,rs,as,[e],key,high,rfl,F5.N.S,tL ah hen,F5.N.T.p,λp2 ks2 H6 _ _ _ g6 t6 h6 P6=>?_];obtain ⟨T6,k6⟩:=F5.N.T.g0 g6 t6;have k0:=Kp0.trans (.of s2) (F5.N.T.k0 k6);rw[show ([m].map λk=>betL (aC (exR OF i j) k) key high)=[e].map λk=>betL (aC OF k) key high from congrArg (λr=>[betL r key high]) ee]at P4;exact #[_,_,#[p1,_,rfl,SqL.of (k0.lst h4),jw (xD k0 P4)],#[p2,_,rfl,SqL.of h6,jw P6],_,rfl,cU rfl (n6 _ _ #[rfl,F5.k4 k6 T6])]
   rintro _ HC ⟨rfl,FC⟩;refine #[_,rfl,_,rfl,(by show 1<=sizeLine;decide),λa1 ha1=>?_];have s1:=aJ ha1 (.lst [nV m]);have F1:=FC.same s1;refine #[_,rfl,u,a1,ps,exR OF i j,t,rs2,_,[m],key,rfl,F1.S,tL ah hm,F1.N.T.p,λp1 H4 _ g4 t4 h4=>?_];obtain ⟨T4,k4⟩:=F1.N.T.g0 g4 t4;have F4:=F1.k4 k4 T4;refine #[_,rfl,_,rfl,(by show 1<=sizeLine;decide),λa2 ha2=>?_];have s2:=aJ ha2 (.lst [nV e]);have F5:=F4.same s2;refine #[_,rfl,st,a2,ps,OF,t,rs,as,[e],key,rfl,F5.N.S,tL ah hen,F5.N.T.p,λp2 H6 _ g6 t6 h6=>?_];obtain ⟨T6,k6⟩:=F5.N.T.g0 g6 t6;have k0:=Kp0.trans (.of s2) (F5.N.T.k0 k6);rw[show ([m].map λk=>bx (aC (exR OF i j) k) key)=[e].map λk=>bx (aC OF k) key from congrArg (λr=>[bx r key]) ee]at h4;exact #[_,_,#[p1,_,rfl,SqL.of (k0.lst h4),eD],#[p2,_,rfl,SqL.of h6,eD],_,rfl,cU rfl (hN _ _ #[_,_,rfl,F5.k4 k6 T6])])
  by_cases c2:m=j
  .refine #[_,rfl,_,rfl,rfl,_,rfl,?_];rw[dm c2];refine iteT ?_;refine #[_,rfl,_,rfl,rfl,.inr #[_,rfl,_,_,rfl,rfl,.inl #[by decide,by decide],_,_,rfl,rfl,_,_,_,_,rfl,rfl,SqL.of hlB,(?_:atI [nV m,nV j,nV i] _=some (nV e)),go]];by_cases c3:i=j
   .rw[dm (show m=i by lia),dm c3];rw[ar c2]at he;rw[<-he,<-c3];rfl
   .rw[dn (show m≠i by lia),dn c3];rw[ar c2]at he;rw[<-he];rfl
  .refine #[_,rfl,_,rfl,rfl,_,rfl,?_];rw[dn c2];refine iteF ?_;refine .inr #[_,rfl,_,_,rfl,rfl,.inl #[by decide,by decide],_,_,rfl,rfl,_,_,_,_,rfl,rfl,SqL.of hlB,(?_:atI [nV m,nV j,nV i] _=some (nV e)),go];rw[az c2]at he;by_cases c1:m=i
   .rw[dm c1];rw[ar c1]at he;rw[<-he];rfl
   .rw[dn c1];rw[az c1]at he;rw[<-he];rfl
 clear F3;rintro U HA ⟨x7,x8,rfl,FA⟩;refine n4 _ _ ?_;refine #[λU' H'=>U'=[some (.ref d),some (.ref st),some (.int key),some (.int high),some (nV i),some (nV j),some (.ref u),x7,x8]/\FNow K m0 mF mS mL L d H' st wa ps OF t rs as w u (exR OF i j) rs2 ((as.set i aj).set j ai),?_,?_]
 .intro N6 n6;obtain ⟨bi,b1,b2⟩:=FA.S.at_.get (k:=i) (by rw[jx];exact hi);obtain ⟨bj,c1,c2⟩:=FA.S.at_.get (k:=j) (by rw[jx];exact hj);refine #[_,rfl,_,rfl,_,rfl,u,t,rs2,((as.set i aj).set j ai).map V.ref,j,i,.ref bj,.ref bi,rfl,FA.S.st,FA.S.rs,by rw[aQ,c1];rfl,by rw[aQ,b1];rfl,by rw[af,gk,gk];lia,λu2 rs3 H4 s4 h1 h2=>?_];have F4:=FA.same s4;have R4:bA H4 ((((as.set i aj).set j ai).set j bi).set i bj) (exR (exR OF i j) j i):=nu (s4 _ _ c2) i (nu (s4 _ _ b2) j F4.S.at_);rw[Nf hi hj]at R4;rw[<-i3,<-i3]at h2;exact #[_,rfl,_,_,ni h1 F4.S.tr h2 R4,tJ F4.N.S,_,rfl,cU rfl (n6 _ _ #[rfl,F4])]
 clear FA;rintro _ HB ⟨rfl,FB⟩;refine #[_,rfl,u,ps,exR OF i j,t,rs2,_,rfl,FB.S,λp1 n1 H4 s4 h4=>#[_,_,_,_,rfl,rfl,SqT.of h4,rfl,?_]];have F4:=FB.same s4;refine #[_,rfl,st,ps,OF,t,rs,as,rfl,F4.N.S,λp2 n2 H5 s5 h5=>#[_,_,_,_,rfl,rfl,SqT.of h5,rfl,rfl,?_]];rw[Et hi hj,aU rfl];exact q _
inductive lx (K:Frag)(m0 mL mF mS:Addr)(vs:List V)(H:Hp)(Q:VK)(w_1:XK):Prop
 | c:∀(a:Addr) (ns:List Int),vs=[.ref a]->SqL K H a (ns.map V.int)->ns.length<=63->[m0,mL,mF,mS].Nodup->H m0=some (.tbl (List.toArray []))->H mL=some (.tbl (List.toArray []))->H mF=some (.tbl (List.toArray []))->H mS=some (.tbl (List.toArray []))->(∀ H',Q (.bl true) H')->lx K m0 mL mF mS vs H Q w_1
def Nj (T:Txt K mg)(zB:DF K mg "law" qt rV)(N9:FC P w K mg base 1 "_law_begin" rE (uI K))(Oa:FC P w K mg base 6 "_law_stand" rM (wN K))(Ob:FC P w K mg base 3 "_law_way" rL (wO K))(EI:FC P w K mg base 4 "_law_asked_key" rN (wQ K))(Oc:FC P w K mg base 10 "_law_named_alike" rQ (nq K m0 mF mS mL))(Od:FC P w K mg base 10 "_law_raised_alike" rR (nq K m0 mF mS mL))(Oe:FC P w K mg base 10 "_law_turned_alike" rS (xE K m0 mF mS mL))(Og:FC P w K mg base 10 "_law_exchanged_alike" rT (xJ K m0 mF mS mL)):FC P w K mg base 11 "law" rV (lx K m0 mL mF mS):=by
 refine zB.ok kx (λvs H Q E h=>?_) (λf cdv A outer s H vs Q E hr h=>?_)
 .obtain ⟨a,ns,rfl,_⟩:=h;rfl
 obtain ⟨a,ns,rfl,hS,_,hnd,hm0,hmL,hmF,hmS,q⟩:=h;have hnd':[m0,mF,mS,mL].Nodup:=by
  refine (List.Perm.nodup_iff ?_).mp hnd;exact .cons _ ((List.perm_append_comm (l₁:=[mL]) (l₂:=[mF,mS])))
 have hT0:Tab4 m0 mF mS mL H:=#[#[(List.toArray []),hm0,trivial,.inl rfl],#[(List.toArray []),hmF,trivial,.inl rfl],#[(List.toArray []),hmS,trivial,.inl rfl],#[(List.toArray []),hmL,trivial,.inl rfl],hnd'];refine #[_,(cz (aL (i:=1) kx.nd rfl (au rfl) (ax N9 hr (aa (pv 0) ae)))
   (cz (aL (i:=2) kx.nd rfl (au rfl) (ax Oa hr (aa (pv 1) ae)))
   (cz (aL (i:=3) kx.nd rfl (au rfl) (ax Ob hr (aa (pv 1) (aa (aB (aR (K:=K)) (pv 2) ag (λ_ _=>rfl)) ae))))
   (cz (aL (i:=4) kx.nd rfl (au rfl) (aT (lV rfl) rfl T.lz boot_max (aa (aG cF ag (aG fS ag ag)) (aa (ax EI hr (aa (pv 1) (aa (pv 2) ae))) ae))))
   (cz (aL (i:=5) kx.nd rfl (au rfl) (ax EI hr (aa (pv 1) (aa (pv 2) ae))))
   (c5 (bu (PW.pt (fO (dZ (dM (ax Oc hr (aa (pv 1) (aa (pv 2) (aa (pv 3) (aa (pv 4) (aa (pv 5) ae)))))))) (fN (dZ (dM (ax Od hr (aa (pv 1) (aa (pv 2) (aa (pv 3) (aa (pv 4) (aa (pv 5) ae))))))))))) (aw (aE bV)) bz)
   (c5 (bu (dZ (dM (ax Oe hr (aa (pv 2) (aa (pv 3) (aa (pv 4) ae)))))) (aw (aE bV)) bz)
   (aw (aE (zL (d3 i9 (aT (bJ (K:=K)) rfl T.bG bF (aa (aB (aR (K:=K)) (pv 2) ag (λ_ _=>rfl)) ae)) ag (aS _)) (jS (ax Og hr (aa (pv 1) (aa (pv 2) (aa (pv 4) (aa (pv 5) ae)))))))))))))))),?_]
 intro N1 n1;refine #[_,rfl,a,ns,rfl,hS,λd H1 _ g1 s1=>n1 _ _ ?_];intro N2 n2;refine #[_,rfl,d,a,rfl,s1,λst ps OF t rs as H2 S2 k2 s2=>n2 _ _ ?_];have T2:=(hT0.ext g1.ext).ext (s1.ext k2);intro N3 n3;refine #[_,rfl,_,rfl,_,_,_,_,rfl,rfl,SqT.of S2.st,rfl,?_];refine #[d,a,t,ps,rfl,S2.tr,S2.T,S2.few,s2,λwa w H3 _ W3 k3 s3=>n3 _ _ ?_];have A3:ANow K m0 mF mS mL a d H3 st wa ps OF t rs as w:=#[#[iQ s2 k3 S2.st,iQ s2 k3 S2.tr,iQ s2 k3 S2.rs,pImp (λ_ _ q=>iQ s2 k3 q) S2.at_,S2.len,S2.T,S2.R,S2.few,S2.keys],W3,s3,T2.ext (s2.ext k3)];clear n1 n2 n3 S2 T2 W3 k3 s3 s2 k2 s1 g1 hT0 hnd hnd';intro N4 n4;refine #[_,_,rfl,rfl,#[by decide,by decide,by decide],_,_,rfl,rfl,_,rfl,_,rfl,d,a,st,ps,OF,t,rs,as,rfl,A3.S,A3.ls,λkey0 H4 k4 s4=>#[_,_,rfl,n4 _ _ ?_]];have A4:=A3.take k4 s4;clear A3 n4 k4 s4;generalize (if key0>2-10^Int.toNat 60 then key0 else 2-10^Int.toNat 60)=key
 intro N5 n5;refine #[_,rfl,_,rfl,d,a,st,ps,OF,t,rs,as,rfl,A4.S,A4.ls,λhigh H5 k5 s5=>n5 _ _ ?_];have A5:=A4.take k5 s5;clear A4 n5 k5 s5;refine #[λU' H'=>U'=[some (.ref a),some (.ref d),some (.ref st),some (.ref wa),some (.int key),some (.int high)]/\ANow K m0 mF mS mL a d H' st wa ps OF t rs as w,?_,?_]
 .intro N6 n6;refine #[_,rfl,_,rfl,_,rfl,_,rfl,_,rfl,a,d,st,wa,key,high,ps,OF,t,rs,as,w,rfl,A5,λH6 A6=>#[_,rfl,iteF ?_]];exact #[_,rfl,_,rfl,_,rfl,_,rfl,_,rfl,a,d,st,wa,key,high,ps,OF,t,rs,as,w,rfl,A6,λH7 A7=>#[_,rfl,iteF (n6 _ _ #[rfl,A7])]]
 clear A5;rintro _ H5 ⟨rfl,A5⟩;refine #[λU' H'=>U'=[some (.ref a),some (.ref d),some (.ref st),some (.ref wa),some (.int key),some (.int high)]/\ANow K m0 mF mS mL a d H' st wa ps OF t rs as w,?_,?_]
 .intro N6 n6;exact #[_,rfl,_,rfl,_,rfl,st,wa,key,ps,OF,t,rs,as,w,rfl,A5.S,A5.W,A5.T,λH6 k6 T6=>#[_,rfl,iteF (n6 _ _ #[rfl,A5.k4 k6 T6])]]
 clear A5;rintro _ H5 ⟨rfl,A5⟩;refine #[_,rfl,_,_,_,_,rfl,rfl,SqT.of A5.S.st,rfl,_,_,rfl,.inr (SqT.of A5.S.tr),_,_,rfl,rfl,_,rfl,?_];exact ite2 (λ_=>q _) (λ_=>#[_,rfl,_,rfl,_,rfl,_,rfl,a,d,st,wa,key,high,ps,OF,t,rs,as,w,rfl,A5,q])
abbrev lawRoom:Nat:=11
def all_ok (T:Txt K mg){mc6 mp6 mc7 mp7 mc50 mp50 mc54 mp54:Addr}(hBM:BMAt mg base)(yu:DF K mg "is_whole" oK kz)(yv:DF K mg "is_key" oM qD)(zb:DF K mg "need_key" oN qE)(xT:DF K mg "code" oO qF)(nz:DF K mg "how_many_below" oP kC)(tQ:DFT K mg "place" j7 mv mc6 mp6)(tS:DFT K mg "place_in" j8 kF mc7 mp7)(yd:DF K mg "joined_up" oQ mw)(xR:DF K mg "lowest_unlike" oR qG)(xU:DF K mg "turned" oS qH)(xV:DF K mg "labels" oT qI)(xW:DF K mg "neighbours" oU mz)(xX:DF K mg "least_free" oV qJ)(xY:DF K mg "colours" oW qK)(ya:DF K mg "marks" oX qL)(yc:DF K mg "handed" oY qM)(yw:DF K mg "is_one_of_first" oZ mB)(yf:DF K mg "children" o4 mC)(yg:DF K mg "beneath" o5 qN)(yx:DF K mg "is_way" o6 qO)(yz:DF K mg "need_way" o7 jk)(zo:DF K mg "long_together" o8 qP)(y8:DF K mg "with_row" o9 qQ)(yh:DF K mg "own_entries" pb mD)(yi:DF K mg "full_rows_beneath" pe mE)(ym:DF K mg "full_rows" ph mG)(zy:DF K mg "weight" pj qR)(zp:DF K mg "weight_beneath" pk qS)(y9:DF K mg "exchanged" pq qT)(zc:DF K mg "raised_row" pw qU)(zd:DF K mg "raised" px qV)(ze:DF K mg "row_about" pz qW)(zg:DF K mg "turned_about" pA qX)(zh:DF K mg "is_order" pB qY)(zj:DF K mg "named" pC qZ)(zi:DF K mg "named_way" pD mH)(yQ:DF K mg "rows_on" pE kG)(yS:DF K mg "entries_on" pF kH)(yR:DF K mg "places" pG jl)(yU:DF K mg "who_has" pH jm)(yV:DF K mg "first_with" pI q9)(yW:DF K mg "keys_between" pJ rf)(yX:DF K mg "stretch" pK kI)(yY:DF K mg "above" pL mI)(yZ:DF K mg "below" pM rg)(yT:DF K mg "joined_from" pN rh)(yq:DF K mg "owns_of" pO rj)(yr:DF K mg "starts_of" pP rl)(yt:DF K mg "bridges_of" pQ mJ)(tN:DFT K mg "first_place" j9 rm mc50 mp50)(tO:DF K mg "start_in" pR mK)(yA:DF K mg "next_place" pS rp)(yB:DF K mg "search" pT rq)(tP:DFT K mg "search_for_key" ka rA mc54 mp54)(yK:DF K mg "paper_of" pU mM)(yM:DF K mg "is_line" pV rB)(yN:DF K mg "is_place_in" pW rC)(yO:DF K mg "is_near_start" pX rD)(yP:DF K mg "lets_by" pY mN)(yE:DF K mg "_law_every" pZ mO)(xP:DF K mg "_law_begin" p0 rE)(xO:DF K mg "_law_mixed" p7 rF)(xQ:DF K mg "_law_take" p8 eW)(xS:DF K mg "_law_key" p9 kJ)(ye:DF K mg "_law_tree" qa rG)(yo:DF K mg "_law_row" qb rH)(yp:DF K mg "_law_rows" qd rJ)(yD:DF K mg "_law_children" qe rK)(yG:DF K mg "_law_way" qg rL)(yF:DF K mg "_law_stand" qh rM)(yH:DF K mg "_law_asked_key" qi rN)(zm:DF K mg "_law_order" qj rO)(zq:DF K mg "_law_entry" ql rP)(zr:DF K mg "_law_named_alike" qm rQ)(zw:DF K mg "_law_raised_alike" qo rR)(zx:DF K mg "_law_turned_alike" qp rS)(zA:DF K mg "_law_exchanged_alike" qr rT)(zB:DF K mg "law" qt rV):FC P w K mg base 11 "law" rV (lx K mp6 mp7 mp50 mp54):=
 have m:=JX (P:=P) (w:=w) (base:=base) T xO;have t:=JZ T xQ m;have c:=J7 (P:=P) (w:=w) (base:=base) T xT;have nb:=Ku (P:=P) (w:=w) (base:=base) T xW;have mk:=KC T ya (Kl T xV c (Kc T xU (J0 T xR))) (Kx T xY nb (Kv T xX)) nb;have ch:=KL (P:=P) (w:=w) (base:=base) T yf;have ow:=KU (P:=P) (w:=w) (base:=base) T yh;have jo:=KH (P:=P) (w:=w) (base:=base) T yd;have fr:=KW T yi (KM T yg) ch (KF T yc mk) ow jo;have fu:=KZ T ym fr;have bo:=Lg T yt ch (Lf T yr) (Ld T yq);have ky:=J2 T xS t;have ls:=LC T yF t (KJ T ye t) (K2 T yp t (K1 T yo t ky));have fi:=λ(b:Heap) (S:Sub K mg base b)=>Lu (P:=P) (w:=w) (base:=b) T tN (hBM.lift S) (λb' _=>wC (base:=b') T nz);have se:=λ(b:Heap) (S:Sub K mg base b)=>Lw (P:=P) (w:=w) (base:=b) T yB (fi b S) (DJ T tO) (Lv T yA);have wh:=Lk (P:=P) (w:=w) (base:=base) T yu;have one:=Lm T yw wh;have nd:=Lo T yz (Ln T yx one);have fk:=LI T tP hBM bo se;have pa:=LK T yK nd fu fk;have le:=LO T yP nd (LL T yM wh) fu bo (LM T yN) (LN T yO (DJ T tO));have ro:=LR T yQ nd;have pc:=LQ (P:=P) (w:=w) (base:=base) T tQ hBM (λb=>wC (base:=b) T nz);have pi:=LV (P:=P) (w:=w) (base:=base) T tS hBM (λb=>wC (base:=b) T nz);have pl:=LU T yR ro pc;have st:=Ma T yX ro (L9 T yW pc);have who:=L6 T yU ro;have eo:=LY T yS nd ow jo;have nw:=MA (P:=P) (w:=w) (base:=base) T zi;have na:=MB T zj (Mz T zh one) nw;have nk:=Ml T zb (Ll T yv wh);have ra:=Mn T zd (Mm T zc nk);have ta:=Mp T zg (Mo T ze);have ex:=Mk T y9 (Mi T y8);have ev:=LB (P:=P) (w:=w) (base:=base) T yE;have ab:=Mg T yY eo pi;have we:=Nh T zy (MG T zp fr (MF T zo))
 Nj T zB (JY T xP) ls (LF T yG t (Ly T yD)) (LG T yH ev t ky) (MZ T zr (MD T zm t) na nw pl st who (L0 T yT eo pi) (MV T zq) ab (L8 T yV who) pa le) (Nb T zw ev ky ra pl st who) (Nd T zx ta pl who ab (Mh T yZ eo pi) pa le) (Ni T zA t ex pl st we)
end
def u1 {P:List Value->Prop}(h:∀ a,P [a])(us:List Value)(hl:us.length=1):P us:=by
 rcases us with _|⟨a,_|⟨z,us⟩⟩
 .cases hl
 .exact h a
 .exact absurd hl (by simp)
def u2 {P:List Value->Prop}(h:∀ a b,P [a,b])(us:List Value)(hl:us.length=2):P us:=by
 rcases us with _|⟨a,_|⟨b,_|⟨z,us⟩⟩⟩
 .cases hl
 .cases hl
 .exact h a b
 .exact absurd hl (by simp)
def u3 {P:List Value->Prop}(h:∀ a b c,P [a,b,c])(us:List Value)(hl:us.length=3):P us:=by
 rcases us with _|⟨a,_|⟨b,_|⟨c,_|⟨z,us⟩⟩⟩⟩
 .cases hl
 .cases hl
 .cases hl
 .exact h a b c
 .exact absurd hl (by simp)
def u4 {P:List Value->Prop}(h:∀ a b c d,P [a,b,c,d])(us:List Value)(hl:us.length=4):P us:=by
 rcases us with _|⟨a,_|⟨b,_|⟨c,_|⟨d,_|⟨z,us⟩⟩⟩⟩⟩
 .cases hl
 .cases hl
 .cases hl
 .cases hl
 .exact h a b c d
 .exact absurd hl (by simp)
def u5 {P:List Value->Prop}(h:∀ a b c d e,P [a,b,c,d,e])(us:List Value)(hl:us.length=5):P us:=by
 rcases us with _|⟨a,_|⟨b,_|⟨c,_|⟨d,_|⟨e,_|⟨z,us⟩⟩⟩⟩⟩⟩
 .cases hl
 .cases hl
 .cases hl
 .cases hl
 .cases hl
 .exact h a b c d e
 .exact absurd hl (by simp)
structure AD (K:Frag)(x:Str)(st:Stmt):Prop where
 ex:∃(f:Addr) (oc:Value) (od:Option Addr) (kV dc pm:Value) (an:Option Addr) (cd ct:Value) (sl:Array (Option Value)),nsIn K mainGlobals x=some (some (.ref f))/\K.lookup f=some #[oc,od,.func (fnOf x x (fU st) (eK st) (aH st) .none kV dc pm an cd ct),sl]/\codeIn K cd x=true/\keepIn K (.ref f)=true
def AD.of {K:Frag}{x:Str}{st:Stmt}{f:Addr}{oc:Value}{od:Option Addr}{kV dc pm:Value}{an:Option Addr}{cd ct:Value}{sl:Array (Option Value)}(a:nsIn K mainGlobals x=some (some (.ref f)))(l:K.lookup f=some #[oc,od,.func (fnOf x x (fU st) (eK st) (aH st) .none kV dc pm an cd ct),sl])(c:codeIn K cd x=true)(k:keepIn K (.ref f)=true):AD K x st:=#[f,oc,od,kV,dc,pm,an,cd,ct,sl,a,l,c,k]
def AD.df {K:Frag}{h:Heap}{mg:Str->Option Value}{st:Stmt}{ps:List Str}(a:AD K x st)(X:K.In h)(G:h.Ns mainGlobals mg)
  (hb:∀(kV doc pm:Value) (an:Option Addr) (cdv ct:Value) (us:List Value),us.length=ps.length->bindArgs (fnOf x x (fU st) (eK st) (aH st) .none kV doc pm an cdv ct) #[us,[]]=pure (ps.zip us):=by
   first|exact λ_ _ _ _ _ _=>u1 λ_=>rfl|exact λ_ _ _ _ _ _=>u2 λ_ _=>rfl|exact λ_ _ _ _ _ _=>u3 λ_ _ _=>rfl|exact λ_ _ _ _ _ _=>u4 λ_ _ _ _=>rfl|exact λ_ _ _ _ _ _=>u5 λ_ _ _ _ _=>rfl|exact λ_ _ _ _ _ _=>u6 λ_ _ _ _ _ _=>rfl):DF K mg x st ps:=by
 obtain ⟨f,oc,od,kV,dc,pm,an,cd,ct,sl,a,l,c,k⟩:=a.ex;exact #[_,_,uA l c k,(uA l c k).binds hb,mg_of X G a]
def AD.dft {K:Frag}{h:Heap}{mg:Str->Option Value}{st:Stmt}{ps:List Str}{mc mp:Addr}(a:AD K x st)(X:K.In h)(G:h.Ns mainGlobals mg)(t:tabIn K x=some (mc,mp))(hh:codeHdIn K mc mp=true)
  (hb:∀(kV doc pm:Value) (an:Option Addr) (cdv ct:Value) (us:List Value),us.length=ps.length->bindArgs (fnOf x x (fU st) (eK st) (aH st) .none kV doc pm an cdv ct) #[us,[]]=pure (ps.zip us):=by
   first|exact λ_ _ _ _ _ _=>u1 λ_=>rfl|exact λ_ _ _ _ _ _=>u2 λ_ _=>rfl|exact λ_ _ _ _ _ _=>u3 λ_ _ _=>rfl|exact λ_ _ _ _ _ _=>u4 λ_ _ _ _=>rfl|exact λ_ _ _ _ _ _=>u5 λ_ _ _ _ _=>rfl|exact λ_ _ _ _ _ _=>u6 λ_ _ _ _ _ _=>rfl):DFT K mg x st ps mc mp:=by
 obtain ⟨f,oc,od,kV,dc,pm,an,cd,ct,sl,a,l,c,k⟩:=a.ex;have e:cd=.ref mc:=L2.HL a l t;subst e;exact #[#[_,_,_,_,_,_,_,_,_,l,c,k,mg_of X G a,(uA l c k).binds hb],hh]
def Nk {l:OpenLaw}{K:Frag}{h:Heap}{mg:Str->Option Value}{fa mc6 mp6 mc7 mp7 mc50 mp50 mc54 mp54:Addr}(X:K.In h)(G:h.Ns mainGlobals mg)(hfa:mg "law" = some (.ref fa)){t_KNOT_NUMBERS:Tok}{t_TURNS:Tok}{t_MOST_BEHIND_START:Tok}(a1:AD K "is_whole" oK)(a2:AD K "is_key" oM)(a3:AD K "need_key" oN)(a4:AD K "code" oO)(a5:AD K "how_many_below" oP)(a6:AD K "place" j7)(a7:AD K "place_in" j8)(a8:AD K "joined_up" oQ)(a9:AD K "lowest_unlike" oR)(a10:AD K "turned" oS)(a11:AD K "labels" oT)(a12:AD K "neighbours" oU)(a13:AD K "least_free" oV)(a14:AD K "colours" oW)(a15:AD K "marks" oX)(a16:AD K "handed" oY)(a17:AD K "is_one_of_first" oZ)(a18:AD K "children" o4)(a19:AD K "beneath" o5)(a20:AD K "is_way" o6)(a21:AD K "need_way" o7)(a22:AD K "long_together" o8)(a23:AD K "with_row" o9)(a24:AD K "own_entries" pb)(a25:AD K "full_rows_beneath" pe)(a26:AD K "full_rows" ph)(a27:AD K "weight" pj)(a28:AD K "weight_beneath" pk)(a29:AD K "exchanged" pq)(a30:AD K "raised_row" pw)(a31:AD K "raised" px)(a32:AD K "row_about" pz)(a33:AD K "turned_about" pA)(a34:AD K "is_order" pB)(a35:AD K "named" pC)(a36:AD K "named_way" pD)(a37:AD K "rows_on" pE)(a38:AD K "entries_on" pF)(a39:AD K "places" pG)(a40:AD K "who_has" pH)(a41:AD K "first_with" pI)(a42:AD K "keys_between" pJ)(a43:AD K "stretch" pK)(a44:AD K "above" pL)(a45:AD K "below" pM)(a46:AD K "joined_from" pN)(a47:AD K "owns_of" pO)(a48:AD K "starts_of" pP)(a49:AD K "bridges_of" pQ)(a50:AD K "first_place" j9)(a51:AD K "start_in" pR)(a52:AD K "next_place" pS)(a53:AD K "search" pT)(a54:AD K "search_for_key" ka)(a55:AD K "paper_of" pU)(a56:AD K "is_line" pV)(a57:AD K "is_place_in" pW)(a58:AD K "is_near_start" pX)(a59:AD K "lets_by" pY)(a60:AD K "_law_every" pZ)(a61:AD K "_law_begin" p0)(a62:AD K "_law_mixed" p7)(a63:AD K "_law_take" p8)(a64:AD K "_law_key" p9)(a65:AD K "_law_tree" qa)(a66:AD K "_law_row" qb)(a67:AD K "_law_rows" qd)(a68:AD K "_law_children" qe)(a69:AD K "_law_way" qg)(a70:AD K "_law_stand" qh)(a71:AD K "_law_asked_key" qi)(a72:AD K "_law_order" qj)(a73:AD K "_law_entry" ql)(a74:AD K "_law_named_alike" qm)(a75:AD K "_law_raised_alike" qo)(a76:AD K "_law_turned_alike" qp)(a77:AD K "_law_exchanged_alike" qr)(a78:AD K "law" qt)(t6:tabIn K "place" = some (mc6,mp6))(h6:codeHdIn K mc6 mp6=true)(t7:tabIn K "place_in" = some (mc7,mp7))(h7:codeHdIn K mc7 mp7=true)(t50:tabIn K "first_place" = some (mc50,mp50))(h50:codeHdIn K mc50 mp50=true)(t54:tabIn K "search_for_key" = some (mc54,mp54))(h54:codeHdIn K mc54 mp54=true)(Oh:nsIn K mainGlobals "abs" = some none)(Oi:nsIn K mainGlobals "all" = some none)(Oj:nsIn K mainGlobals "bool" = some none)(Ol:nsIn K mainGlobals "dict" = some none)(Om:nsIn K mainGlobals "enumerate" = some none)(On:nsIn K mainGlobals "int" = some none)(Oo:nsIn K mainGlobals "isinstance" = some none)(Oq:nsIn K mainGlobals "len" = some none)(Os:nsIn K mainGlobals "list" = some none)(Ot:nsIn K mainGlobals "max" = some none)(Ou:nsIn K mainGlobals "min" = some none)(Ov:nsIn K mainGlobals "range" = some none)(Ow:nsIn K mainGlobals "reversed" = some none)(Ox:nsIn K mainGlobals "set" = some none)(Oy:nsIn K mainGlobals "sorted" = some none)(Oz:nsIn K mainGlobals "sum" = some none)(OA:nsIn K mainGlobals "tuple" = some none)(OB:nsIn K mainGlobals "zip" = some none)(OC:nsIn K mainGlobals "KNOT_NUMBERS" = some (some (.int 64 t_KNOT_NUMBERS)))(OD:nsIn K mainGlobals "TURNS" = some (some (.int 5 t_TURNS)))(OE:nsIn K mainGlobals "MOST_BEHIND_START" = some (some (.int 2 t_MOST_BEHIND_START))) :
  ∃ fd:FuncData,(∀(s:Shared) (v:Value),BindsTo s fd #[[v],[]] [("_law_script",v)])/\∀ base:Heap,K.In base->base.Ns mainGlobals mg->L2.BMAt mg base->FnOk l.prog w K mg base CX0 lawRoom fa fd ["_law_script"] (lx K mp6 mp7 mp50 mp54):=by
 obtain ⟨f,oc,od,kV,dc,pm,an,cd,ct,sl,a,l,c,k⟩:=a78.ex;have e:=hfa.symm.trans (mg_of X G a);cases e
 have T:Txt K mg:=#[mg_none_of X G Oh,mg_none_of X G Oi,mg_none_of X G Oj,mg_none_of X G Ol,mg_none_of X G Om,mg_none_of X G On,mg_none_of X G Oo,mg_none_of X G Oq,mg_none_of X G Os,mg_none_of X G Ot,mg_none_of X G Ou,mg_none_of X G Ov,mg_none_of X G Ow,mg_none_of X G Ox,mg_none_of X G Oy,mg_none_of X G Oz,mg_none_of X G OA,mg_none_of X G OB,#[_,mg_of X G OC],#[_,mg_of X G OD],#[_,mg_of X G OE]];exact #[_,λs v=>.of_eq rfl,λbase _ _ hBM=>(all_ok (P:=_) (w:=w) (base:=base) T hBM (a1.df X G) (a2.df X G) (a3.df X G) (a4.df X G) (a5.df X G) (a6.dft X G t6 h6) (a7.dft X G t7 h7) (a8.df X G) (a9.df X G) (a10.df X G) (a11.df X G) (a12.df X G) (a13.df X G) (a14.df X G) (a15.df X G) (a16.df X G) (a17.df X G) (a18.df X G) (a19.df X G) (a20.df X G) (a21.df X G) (a22.df X G) (a23.df X G) (a24.df X G) (a25.df X G) (a26.df X G) (a27.df X G) (a28.df X G) (a29.df X G) (a30.df X G) (a31.df X G) (a32.df X G) (a33.df X G) (a34.df X G) (a35.df X G) (a36.df X G) (a37.df X G) (a38.df X G) (a39.df X G) (a40.df X G) (a41.df X G) (a42.df X G) (a43.df X G) (a44.df X G) (a45.df X G) (a46.df X G) (a47.df X G) (a48.df X G) (a49.df X G) (a50.dft X G t50 h50) (a51.df X G) (a52.df X G) (a53.df X G) (a54.dft X G t54 h54) (a55.df X G) (a56.df X G) (a57.df X G) (a58.df X G) (a59.df X G) (a60.df X G) (a61.df X G) (a62.df X G) (a63.df X G) (a64.df X G) (a65.df X G) (a66.df X G) (a67.df X G) (a68.df X G) (a69.df X G) (a70.df X G) (a71.df X G) (a72.df X G) (a73.df X G) (a74.df X G) (a75.df X G) (a76.df X G) (a77.df X G) (a78.df X G)).at (mg_of X G a) l]
def walk {l:OpenLaw}{q:Program}{loose:List Str}{XP:(Str->Option Value)->Heap->Prop}{YP:World->Heap->Prop}{d:DefRec}{K:Params->Frag}{mc6 mp6 mc7 mp7 mc50 mp50 mc54 mp54:Addr}(hn:l.most=some 63)(hdf:d.params.defaults=[])
  (hY:∀(w:World) (h:Heap),YP w h->(K w.params).In h) (hYT6:∀(w:World) (h:Heap),YP w h->h.get? mp6=some (W.tabObj (List.toArray []))) (hC6:∀(w:World),codeHdIn (K w.params) mc6 mp6=true) (hD6:∀(w:World),(K w.params).lookup mp6=none) (hYT7:∀(w:World) (h:Heap),YP w h->h.get? mp7=some (W.tabObj (List.toArray []))) (hC7:∀(w:World),codeHdIn (K w.params) mc7 mp7=true) (hD7:∀(w:World),(K w.params).lookup mp7=none) (hYT50:∀(w:World) (h:Heap),YP w h->h.get? mp50=some (W.tabObj (List.toArray []))) (hC50:∀(w:World),codeHdIn (K w.params) mc50 mp50=true) (hD50:∀(w:World),(K w.params).lookup mp50=none) (hYT54:∀(w:World) (h:Heap),YP w h->h.get? mp54=some (W.tabObj (List.toArray []))) (hC54:∀(w:World),codeHdIn (K w.params) mc54 mp54=true) (hD54:∀(w:World),(K w.params).lookup mp54=none) (hNE:[mp6,mp7,mp50,mp54].Nodup)
  (F:∀(w:World) (mg:Str->Option Value) (fa:Addr) (h:Heap),(K w.params).In h->h.Ns mainGlobals mg->mg d.name=some (.ref fa)->
   ∃ fd:FuncData,(∀(s:Shared) (u:Value),BindsTo s fd #[[u],[]] [("_law_script",u)])/\∀ base:Heap,(K w.params).In base->base.Ns mainGlobals mg->L2.BMAt mg base->FnOk l.prog w (K w.params) mg base CX0 lawRoom fa fd ["_law_script"] (lx (K w.params) mp6 mp7 mp50 mp54)) :
  W.WalkO q loose XP YP l.row.toRowW d [] (λf vs=>PySem.call f vs):=
 L2.HK (n:=63) (k:=lawRoom) (x := "_law_script") (tabs:=[(mc6,mp6),(mc7,mp7),(mc50,mp50),(mc54,mp54)]) (sp:=λw=>lx (K w.params) mp6 mp7 mp50 mp54) hn (by decide) hdf #[rfl,by decide,by decide,rfl] hY (λw h Y q hq=>(bq.mp hq).elim (λz=>z ▸ hYT6 w h Y) (λhq=>(bq.mp hq).elim (λz=>z ▸ hYT7 w h Y) (λhq=>(bq.mp hq).elim (λz=>z ▸ hYT50 w h Y) (λhq=>(bq.mp hq).elim (λz=>z ▸ hYT54 w h Y) (λhq=>absurd hq dq))))) (λw q hq=>(bq.mp hq).elim (λz=>z ▸ #[hC6 w,hD6 w]) (λhq=>(bq.mp hq).elim (λz=>z ▸ #[hC7 w,hD7 w]) (λhq=>(bq.mp hq).elim (λz=>z ▸ #[hC50 w,hD50 w]) (λhq=>(bq.mp hq).elim (λz=>z ▸ #[hC54 w,hD54 w]) (λhq=>absurd hq dq))))) F (λ_ _ a ns hl hT hS=>#[a,ns,rfl,hS,hl,hNE,hT _ bL,hT _ (cp _ bL),hT _ (cp _ (cp _ bL)),hT _ (cp _ (cp _ (cp _ bL))),λ_=>rfl])
end My
open PySem PySem.W PyProof.Rows
end
namespace PySem.W.Fast
def tw13934426237026440435:=0
def tw2045712625792725555:=0
def tw14317974553913328656:=0
def tw10045062028560666190:=0
def tw2162929936642333235:=0
def tw8160138626862854754:=0
def tw12786090220745765534:=0
def tw2960249563627310615:=0
def tw4967563010929968663:=0
def tw17129331653892853652:=0
def tw1978685080063176630:=0
def tw8711331580666538515:=0
def tw3082328346693920907:=0
def tw6503970187025921237:=0
def tw18386790630028428240:=0
def tw2356437651449723741:=0
def tw5649313986463007125:=0
def tw17117436370999989273:=0
def tw9205874976384880983:=0
def tw18224211467647503716:=0
def tw6576805083879092192:=0
def tw11949176012220535203:=0
def tw14506343165928515577:=0
def tw10259780539526342758:=0
def tw2593581080183739986:=0
def tw12537895575472985065:=0
def tw11230938485756275743:=0
def tw6273099295331323323:=0
def tw3843331013656440293:=0
def tw10646485549044507576:=0
def tw5484054133041389854:=0
def tw8809738158605817044:=0
def tw15091609757386891778:=0
def tw16907861679698217996:=0
def tw14315231979273912677:=0
def tw7567729621790648998:=0
def tw17911956599703430497:=0
def tw6194195115943532054:=0
def tw12412615033432289108:=0
def tw7160221949871695826:=0
def tw11885123358184412182:=0
def tw5007680817420004272:=0
def tw8899063344072895763:=0
def tw276671431775369297:=0
def tw6644626205314936255:=0
def tw13701942070227896910:=0
def tw12620521514290192791:=0
def tw13531932891662957109:=0
def tw8349847465983592396:=0
def tw6881136857396510895:=0
def tw11042310303005312542:=0
def tw3727930776738164682:=0
def tw1343060063652202790:=0
def tw7922145104689662533:=0
def tw2394599383684545480:=0
def tw2855460817359147157:=0
def tw18399246890145069369:=0
def tw15537819084113300710:=0
def tw12477350221625091994:=0
def tw18276729343811465275:=0
def tw11948891295668949721:=0
def tw6527288341718833708:=0
def tw1308986438925683654:=0
def tw8918506107479939665:=0
def tw6094477269234977279:=0
def tw11948091906296529385:=0
def tw6698828826952159073:=0
def tw9415596297327124808:=0
def tw13656272205425590049:=0
def tw5627841429059947036:=0
def tw15901676285255759696:=0
def tw4169068390018942705:=0
def tw15198878983681700310:=0
def tw14169525792555167711:=0
def tw1329442579659511869:=0
def tw13023644000864606712:=0
def tw6298458717247853107:=0
def tw11432867455032108138:=0
def tw10490420532737158041:=0
def tw9502386017310942033:=0
def tw15603850757451297791:=0
def tw569118058371150620:=0
def tw15704428457481374146:=0
def tw11866548803138132202:=0
def tw10816723954622123319:=0
def tw1050011685929599442:=0
def tw12981270804173255855:=0
def tw10974861566401301751:=0
def tw3701859543779457233:=0
def tw14447451122632274278:=0
def tw9768515750972385849:=0
def tw3036936447287192716:=0
def tw15054175038373764540:=0
def tw2239927052574681850:=0
def tw1682382580654910632:=0
def tw14254453977039391097:=0
def tw8291959779073026478:=0
def tw17173941624776721231:=0
def tw13737577601837536210:=0
def tw13649891147332255158:=0
def tw16297887495725105636:=0
def tw1095567659054022228:=0
def tw2916237840148632247:=0
def tw893764606012207438:=0
def tw12851105882677405218:=0
def tw8428343739925780490:=0
def tw13385282704322834670:=0
def tw18071055941060148524:=0
def tw10093147061622337252:=0
def tw242731708466305452:=0
def tw9465833960330286762:=0
def tw1668493507513218633:=0
def tw14742294332723483841:=0
def tw8231511577877215876:=0
def tw1516528431109422000:=0
def tw5855606713338199872:=0
def tw16572450614570228165:=0
def tw16570546363915773025:=0
def tw16890351468935576512:=0
def tw13295720529138894836:=0
def tw17168452165208372241:=0
def tw15171082170006069483:=0
def tw3814538626435097479:=0
def tw4795331774484160846:=0
def tw15303200073518186221:=0
def tw9832444486880611571:=0
def tw13443640179720572827:=0
def tw15595597498275380874:=0
def tw4445347849955752610:=0
def tw8745346896380004278:=0
def tw13378971418711064624:=0
def tw2782298766217184126:=0
def tw12135680362474343998:=0
def tw1160766660277123919:=0
def tw9818746188863337248:=0
def tw7122245448870649284:=0
def tw10902964755280933355:=0
def tw6911324402769795466:=0
def tw8640843831930384505:=0
def tw14063638615135021506:=0
def tw10076287927567892568:=0
def tw17813412957734621867:=0
def tw6488378899836332126:=0
def tw512820637502886831:=0
def tw4220069981362213435:=0
def tw8793206353903391810:=0
def tw1905153608777127837:=0
def tw9592541314957998727:=0
def tw14375841240607456744:=0
def tw5317696209704513223:=0
def tw14995208504662051978:=0
def tw8327289974296820947:=0
def tw16316244164451013134:=0
def tw2294092347106649461:=0
def tw15246247257275165682:=0
def tw1776928081247432476:=0
def tw12649867929972004129:=0
def tw3388364386399153361:=0
def tw2896423463699312582:=0
def tw752218190135641764:=0
def tw2820810203568040606:=0
def tw17818254888315950075:=0
def tw16914434081158073320:=0
def tw1802466346720050037:=0
def tw14870317174169888429:=0
def tw17240889285098973081:=0
def tw8165899439382631742:=0
def tw14404290118450241816:=0
def tw8231303709746037347:=0
def tw12668404162994686177:=0
def tw737107185786326739:=0
def tw6705422315556678578:=0
def tw1140217176426170294:=0
def tw18301856318216583737:=0
def tw15944984103352221044:=0
def tw3757468559743919555:=0
def tw6390254604390284793:=0
def tw17721429366430215046:=0
def tw4548180856163070112:=0
def tw1262583349352336863:=0
def tw15215293830782298016:=0
def tw14056992887583795015:=0
def tw15066848085168880497:=0
def tw276248563109847891:=0
def tw7655187939774137200:=0
def tw4414842329534058548:=0
def tw494195209751288617:=0
def tw10660131303725542252:=0
def tw10977423307416332038:=0
def tw1862262170513606751:=0
def tw922342878631906083:=0
def tw17269979273966151323:=0
def tw10932756418089901293:=0
def tw13573271882902637466:=0
def tw8939688054794077424:=0
def tw16078185450795030535:=0
def tw12981419080893400752:=0
def tw2352214143820935674:=0
def tw4108721554572105748:=0
def tw15412535828196281586:=0
end PySem.W.Fast
set_option maxRecDepth 100000 in
set_option maxHeartbeats 0 in
theorem PySem.Challenge.cw_bridgefind_k54_whole_answers_carried_alo_holds : PySem.Challenge.rw_bridgefind_k54_whole_answers_carried_alo.Holds := by
 w_on; o_law; k_head; (case hw=>w_witness2)
 k_fill
 refine My.walk (l:=PySem.Challenge.rw_bridgefind_k54_whole_answers_carried_alo) (mc6:=104) (mp6:=100) (mc7:=111) (mp7:=107) (mc50:=366) (mp50:=362) (mc54:=394) (mp54:=390) rfl rfl (fun w h Y=>PySem.W.km_in_of Y) (fun w h Y=>PySem.W.km_tabs_of Y 100 (by decide)) (fun w=>by kernel_rfl) (fun w=>by kernel_rfl) (fun w h Y=>PySem.W.km_tabs_of Y 107 (by decide)) (fun w=>by kernel_rfl) (fun w=>by kernel_rfl) (fun w h Y=>PySem.W.km_tabs_of Y 362 (by decide)) (fun w=>by kernel_rfl) (fun w=>by kernel_rfl) (fun w h Y=>PySem.W.km_tabs_of Y 390 (by decide)) (fun w=>by kernel_rfl) (fun w=>by kernel_rfl) (by decide) ?F
 case F=>
  intro w mg fa h KX G hmg
  refine' My.Nk (mc6:=104) (mp6:=100) (mc7:=111) (mp7:=107) (mc50:=366) (mp50:=362) (mc54:=394) (mp54:=390) KX G hmg ?_ ?_ ?_ ?_ ?_ ?_ ?_ ?_ ?_ ?_ ?_ ?_ ?_ ?_ ?_ ?_ ?_ ?_ ?_ ?_ ?_ ?_ ?_ ?_ ?_ ?_ ?_ ?_ ?_ ?_ ?_ ?_ ?_ ?_ ?_ ?_ ?_ ?_ ?_ ?_ ?_ ?_ ?_ ?_ ?_ ?_ ?_ ?_ ?_ ?_ ?_ ?_ ?_ ?_ ?_ ?_ ?_ ?_ ?_ ?_ ?_ ?_ ?_ ?_ ?_ ?_ ?_ ?_ ?_ ?_ ?_ ?_ ?_ ?_ ?_ ?_ ?_ ?_ ?_ ?_ ?_ ?_ ?_ ?_ ?_ ?_ ?_ ?_ ?_ ?_ ?_ ?_ ?_ ?_ ?_ ?_ ?_ ?_ ?_ ?_ ?_ ?_ ?_ ?_ ?_ ?_ ?_
  any_goals k_is
  all_goals first | refine' My.AD.of ?_ ?_ ?_ ?_ | skip
  any_goals k_is
  all_goals kernel_rfl

