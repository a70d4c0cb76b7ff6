import PyProof.Rows.All
import Wide.All
import OpenK.AllK
import Wide.FinOn
import PyProof.EqAt
import PyProof.EqKinds
import PyProof.TupleCall
import PyProof.NeKinds
import Lean
import PyProof.ExcBaseAll.ValueError
import PyProof.NsDelKeeps
import PyProof.ExcArgsOwn
import KE.KIsAll
import PyProof.FString
import PySem.Challenge.RW_bridgefind_k74_whole_shelves_searched
set_option autoImplicit true
set_option relaxedAutoImplicit true
set_option Elab.async false
set_option linter.all false
set_option maxRecDepth 100000
set_option maxHeartbeats 1000000
theorem zdA {i m n:Nat}(e:i+m=n)(h:i < n):m - 1 < m:=by lia
theorem zdB {i m n:Nat}(e:i+m=n)(h:i < n):i+1+(m - 1)=n:=by lia
theorem zdC {α:Type}{xs:List α}{i:Nat}{x:α}(h:xs[i]?=some x):i < xs.length:=(List.getElem?_eq_some_iff.mp h).1
theorem zdD {α β:Type}{f:α->β}{xs:List α}{i:Nat}{x:α}(h:xs[i]?=some x):i < (xs.map f).length:=by rw[List.length_map];exact zdC h
theorem zdE {α β:Type}{f:α->β}{xs:List α}{i:Nat}(h:i < xs.length):i < (xs.map f).length:=by rw[List.length_map];exact h
local macro_rules|`(tactic|lia)=>`(tactic|first | (with_reducible (first | assumption | exact Nat.le_of_lt ‹_› | exact Nat.lt_add_one_of_le ‹_› | exact Nat.lt_add_one _ | exact Nat.le_add_right _ _ | exact Nat.le_add_left _ _ | exact Nat.le_of_lt_add_one ‹_› | exact Nat.lt_of_le_of_lt (Nat.zero_le _) ‹_› | exact Nat.sub_lt ‹_› Nat.one_pos | exact zdA ‹_› ‹_› | exact zdB ‹_› ‹_› | exact zdA ‹_› (zdC ‹_›) | exact zdB ‹_› (zdC ‹_›) | exact zdA ‹_› (zdD ‹_›) | exact zdB ‹_› (zdD ‹_›) | exact zdA ‹_› (zdE ‹_›) | exact zdB ‹_› (zdE ‹_›) | exact Nat.sub_le _ _ | exact Nat.add_sub_of_le ‹_› | exact Nat.le_refl _ | exact Nat.le_trans ‹_› ‹_› | exact Nat.lt_of_lt_of_le ‹_› ‹_› | exact Nat.lt_of_le_of_lt ‹_› ‹_› | exact Nat.le_trans (Nat.le_of_lt ‹_›) ‹_› | exact Nat.lt_of_lt_of_eq ‹_› ‹_› | exact Nat.lt_of_lt_of_eq ‹_› (Eq.symm ‹_›) | exact Nat.le_of_eq ‹_› | exact Nat.le_of_eq (Eq.symm ‹_›) | exact Nat.lt_of_lt_of_le ‹_› (Nat.le_add_right _ _) | exact Nat.le_antisymm ‹_› ‹_› | exact Eq.symm ‹_› | exact Int.natCast_nonneg _ | exact Int.ofNat_lt.mpr ‹_› | exact Int.ofNat_lt.mp ‹_› | exact Int.ofNat_le.mpr ‹_› | exact Int.le_of_lt ‹_›)) | cutsat|omega)
open PySem.W (Frag nsIn codeIn keepIn tabIn codeHdIn mg_of mg_none_of fnOf OpenLaw kitOne mroIn findIn)
abbrev yaa:=@Nat.le_refl
abbrev yab:=@List.length_map
abbrev yac:=@List.getElem?_eq_getElem
abbrev yad:=@List.getD_eq_getElem?_getD
abbrev yae:=@Option.some.inj
abbrev yaf:=@PySem.Heap.lt_size
abbrev yag:=@List.mem_cons
abbrev yah:=@List.length_append
abbrev yai:=@decide_eq_true
abbrev yaj:=@List.getElem?_eq_some_iff
abbrev yak:=@PySem.Heap.get?_push_of_some
abbrev yal:=@List.map_append
abbrev yam:=@List.getElem?_map
abbrev yan:=@decide_eq_false
abbrev yao:=@List.length_take
abbrev yap:=@List.map_cons
abbrev yaq:=@List.mem_singleton
abbrev yar:=@List.mem_cons_of_mem
abbrev yas:=@List.take_of_length_le
abbrev yat:=@Nat.ne_of_lt
abbrev yau:=@List.mem_cons_self
abbrev yav:=@List.size_toArray
abbrev yaw:=@List.mem_append
abbrev yax:=@Nat.le_trans
abbrev yay:=@List.length_singleton
abbrev yaz:=@List.not_mem_nil
abbrev yaA:=@List.getElem_mem
abbrev yaB:=@Nat.lt_of_lt_of_le
abbrev yaC:=@List.append_nil
abbrev yaD:=@Bool.false_ne_true
abbrev yaE:=@List.mem_map
abbrev yaF:=@List.take_succ_eq_append_getElem
abbrev yaG:=@Nat.zero_le
abbrev yaH:=@of_decide_eq_true
abbrev yaI:=@PySem.Heap.get?_push_size
abbrev yaJ:=@List.sum_cons
abbrev yaK:=@List.nodup_cons
abbrev yaL:=@List.length_range
abbrev yaM:=@List.length_cons
abbrev yaN:=@List.mem_of_getElem?
abbrev yaO:=@Nat.lt_irrefl
abbrev yaP:=@List.getElem_of_mem
abbrev yaQ:=@List.filter_append
abbrev yaR:=@List.length_drop
abbrev yaS:=@List.filter_cons_of_pos
abbrev yaT:=@List.mem_range
abbrev yaU:=@Nat.le_of_lt
abbrev yaV:=@List.getElem?_eq_none
abbrev yaW:=@List.all_eq_true
abbrev yaX:=@List.take_append_drop
abbrev yaY:=@List.mem_filter
abbrev yaZ:=@List.mem_append_right
abbrev ya0:=@List.pairwise_iff_getElem
abbrev ya1:=@List.lookup_cons
abbrev ya2:=@List.nodup_append
abbrev ya3:=@List.length_filter_le
abbrev ya4:=@List.getElem?_append_right
abbrev ya5:=@Int.toNat_natCast
abbrev ya6:=@Nat.lt_of_le_of_lt
abbrev ya7:=@List.getElem?_range
abbrev ya8:=@List.filter_eq_nil_iff
abbrev ya9:=@List.filter_cons_of_neg
abbrev yba:=@List.getElem?_append_left
abbrev ybb:=@Bool.and_eq_true
abbrev ybc:=@List.any_cons
abbrev ybd:=@List.map_map
abbrev ybe:=@List.ext_getElem?
abbrev ybf:=@List.drop_eq_nil_of_le
abbrev ybg:=@List.range_succ
abbrev ybh:=@Nat.le_succ
abbrev ybi:=@List.length_nil
abbrev ybj:=@List.nodup_nil
abbrev ybk:=@Nat.add_zero
abbrev ybl:=@Array.length_toList
abbrev ybm:=@Nat.ne_of_gt
abbrev ybn:=@Int.natCast_nonneg
abbrev ybo:=@PySem.Heap.get?_update_other
abbrev ybp:=@Bool.and_false
abbrev ybq:=@Option.map_eq_some_iff
abbrev ybr:=@Nat.le_of_not_lt
abbrev ybs:=@List.append_assoc
abbrev ybt:=@List.getElem?_set
abbrev ybu:=@Nat.min_eq_left
abbrev ybv:=@Int.zero_add
abbrev ybw:=@List.flatten_append
abbrev ybx:=@List.filterMap_cons
abbrev yby:=@List.length_replicate
abbrev ybz:=@List.find?_cons
abbrev ybA:=@Option.map_some
abbrev ybB:=@List.map_nil
abbrev ybC:=@Nat.add_le_add_right
abbrev ybD:=@List.reverse_cons
abbrev ybE:=@List.length_reverse
abbrev ybF:=@Nat.not_lt_zero
abbrev ybG:=@Nat.testBit_succ
abbrev ybH:=@Nat.add_sub_cancel
abbrev ybI:=@Nat.sub_self
abbrev ybJ:=@List.flatten_cons
abbrev ybK:=@Nat.zero_add
abbrev ybL:=@List.length_pos_iff
abbrev ybM:=@Bool.or_false
abbrev ybN:=@List.filter_congr
abbrev ybO:=@List.mem_or_eq_of_mem_set
abbrev ybP:=@Nat.le_of_eq
abbrev ybQ:=@List.of_mem_zip
abbrev ybR:=@List.pairwise_map
abbrev ybS:=@Bool.false_eq_true
abbrev ybT:=@Bool.not_eq_true'
abbrev ybU:=@List.mem_reverse
abbrev ybV:=@List.map_take
abbrev ybW:=@Nat.pow_succ
abbrev ybX:=@Bool.eq_false_iff
abbrev ybY:=@List.map_congr_left
abbrev ybZ:=@Nat.lt_or_ge
abbrev yb0:=@Bool.eq_iff_iff
abbrev yb1:=@PySem.Heap.size_push
abbrev yb2:=@Nat.lt_succ_self
abbrev yb3:=@Option.isSome_iff_exists
abbrev yb4:=@List.length_set
abbrev yb5:=@List.all_cons
abbrev yb6:=@Bool.false_or
abbrev yb7:=@Int.emod_nonneg
abbrev yb8:=@Int.emod_lt_of_pos
abbrev yb9:=@List.eq_nil_of_length_eq_zero
abbrev yca:=@List.take_zero
abbrev ycb:=@List.getElem?_cons_succ
abbrev ycc:=@List.getElem?_take
abbrev ycd:=@List.length_zip
abbrev yce:=@List.filter_eq_self
abbrev ycf:=@List.mem_flatten
abbrev ycg:=@Nat.min_eq_right
abbrev ych:=@List.flatten_singleton
abbrev yci:=@List.pairwise_append
abbrev ycj:=@List.nodup_range
abbrev yck:=@List.pairwise_cons
abbrev ycl:=@List.filter_filter
abbrev ycm:=@List.map_drop
abbrev ycn:=@List.getElem?_set_ne
abbrev yco:=@Nat.add_le_add_left
abbrev ycp:=@List.zip_cons_cons
abbrev ycq:=@Array.perm_iff_toList_perm
abbrev ycr:=@List.getElem?_reverse
abbrev ycs:=@List.getElem?_drop
abbrev yct:=@List.pairwise_lt_range
abbrev ycu:=@Nat.pos_of_ne_zero
abbrev ycv:=@of_decide_eq_false
abbrev ycw:=@List.pairwise_singleton
abbrev ycx:=@List.length_eq_zero_iff
abbrev ycy:=@List.mem_of_mem_drop
set_option hygiene false
local macro_rules
|`(.(a))=>`((by lia))
|`(.(b))=>`((λf cdv A outer s H vs Q E hr h=>?_))
|`(.(c))=>`((λvs H Q E h=>?_))
|`(.(d))=>`((model X.prog X.w))
|`(.(e))=>`((zaf ps rows k))
|`(.(f))=>`((X.env.qual ++ "<lambda>"))
|`(.(g))=>`((zar rows kn))
|`(.(h))=>`((by simp))
|`(.(i))=>`((by decide))
|`(.(j))=>`((model prog w))
|`(.(k))=>`((List Int))
|`(.(l))=>`((zaf ps rows c))
|`(.(m))=>`((zaf ps rows j))
|`(.(n))=>`((λc=>?_))
set_option hygiene true
namespace L2
open PySem PySem.Spec PyProof.Rows
abbrev Key:=Sum Int Str
def zkj:Key->Value->Bool
  | .inl k,v=>Value.isInt k v
  | .inr x,v=>Value.isStrOf x v
def keyH (w:World):Key->Int
  | .inl k=>hashInt k
  | .inr x=>hashStr w x
theorem zbd:∀{k:Key} {v:Value},zkj k v=true->(∃ i t,k=Sum.inl i/\v=Value.int i t)\/(∃ x t,k=Sum.inr x/\v=Value.str x t)
  | .inl i,v,h=>by
    obtain ⟨t,e⟩:=Value.isInt_shape (k:=i) (v:=v) h;exact .inl ⟨i,t,rfl,e⟩
  | .inr x,v,h=>by
    obtain ⟨t,e⟩:=Value.isStrOf_shape (x:=x) (v:=v) h;exact .inr ⟨x,t,rfl,e⟩
theorem zod (i:Int)(t:Tok):zkj (.inl i) (.int i t)=true:=by simp[zkj,Value.isInt]
theorem zoc (x:Str)(t:Tok):zkj (.inr x) (.str x t)=true:=by simp[zkj,Value.isStrOf]
theorem ztN (a b:Int):decide ((Sum.inl a:Key)=Sum.inl b)=(a==b):=by
  by_cases e:a=b
  · subst e;simp
  · have h:¬ (Sum.inl a:Key)=Sum.inl b:=λq=>e (Sum.inl.inj q)
    rw[yan h];exact (beq_eq_false_iff_ne.mpr e).symm
theorem ztK (a b:Str):decide ((Sum.inr a:Key)=Sum.inr b)=decide (a=b):=by
  by_cases e:a=b
  · subst e;simp
  · have h:¬ (Sum.inr a:Key)=Sum.inr b:=λq=>e (Sum.inr.inj q)
    rw[yan h,yan e]
theorem ztM (a:Int)(b:Str):decide ((Sum.inl a:Key)=Sum.inr b)=false:=yan (λq=>nomatch q)
theorem ztL (a:Str)(b:Int):decide ((Sum.inr a:Key)=Sum.inl b)=false:=yan (λq=>nomatch q)
def zaQ (prog:Program)(w:World):PySem.KeyKind prog w Key where
  is:=zkj
  hash:=keyH w
  inj:=λv a b ha hb=>by
    rcases zbd ha with ⟨i,t,rfl,rfl⟩|⟨x,t,rfl,rfl⟩
    · rcases zbd hb with ⟨j,u,rfl,e⟩|⟨y,u,rfl,e⟩
      · injection e with e1 _;rw[e1]
      · exact nomatch e
    · rcases zbd hb with ⟨j,u,rfl,e⟩|⟨y,u,rfl,e⟩
      · exact nomatch e
      · injection e with e1 _;rw[e1]
  byValue:=λk v h=>by
    rcases zbd h with ⟨i,t,rfl,rfl⟩|⟨x,t,rfl,rfl⟩<;>rfl
  pyHash:=λhv h=>by
    rcases zbd hv with ⟨i,t,rfl,rfl⟩|⟨x,t,rfl,rfl⟩
    · exact wpAny_pyHash_int h
    · exact wpAny_pyHash_str h
  eqBool:=λhu hv h=>by
    rcases zbd hu with ⟨i,t,rfl,rfl⟩|⟨x,t,rfl,rfl⟩
    · rcases zbd hv with ⟨j,u,rfl,rfl⟩|⟨y,u,rfl,rfl⟩
      · rw[ztN]at h;exact wpAny_eqBool_int h
      · rw[ztM]at h;exact SeqAt.EqAt.int_str i t y u _ _ _ _ h
    · rcases zbd hv with ⟨j,u,rfl,rfl⟩|⟨y,u,rfl,rfl⟩
      · rw[ztL]at h;exact SeqAt.EqAt.str_int x t j u _ _ _ _ h
      · rw[ztK]at h;exact wpAny_eqBool_str h
  «strs»:=λk x t v h=>by
    rcases zbd h with ⟨i,u,rfl,e⟩|⟨y,u,rfl,e⟩
    · exact nomatch e
    · injection e with e1 _
      subst e1;cases v<;>rfl
theorem zl2 (prog:Program)(w:World)(k:Key)(v:Value):(zaQ prog w).is k v=zkj k v:=rfl
theorem zkc (prog:Program)(w:World)(i:Int)(t:Tok):(zaQ prog w).is (.inl i) (.int i t)=true:=zod i t
theorem zkb (prog:Program)(w:World)(x:Str)(t:Tok):(zaQ prog w).is (.inr x) (.str x t)=true:=zoc x t
end L2
namespace L2
open PySem PySem.Spec PyProof.Rows
inductive V where
  | non|bl (b:Bool)|int (i:Int)|str (x:Str)|byt (b:Array UInt8)|flt (b:UInt64)|ref (a:Addr)|ty (n:String)
  deriving DecidableEq
def RelV:V->Value->Prop
  | .non,u=>u=Value.none
  | .bl b,u=>u=Value.bool b
  | .int i,u=>∃ t,u=Value.int i t
  | .str x,u=>∃ t,u=Value.str x t
  | .byt b,u=>∃ t,u=Value.bytes b t
  | .flt b,u=>∃ t,u=Value.float b t
  | .ref a,u=>u=Value.ref a
  | .ty n,u=>u=Value.type n
abbrev Vals:List V->List Value->Prop:=Paired RelV
theorem Vals.length {xs:List V}{us:List Value}(r:Vals xs us):xs.length=us.length:=Paired.length r
theorem Vals.get:∀{xs:List V} {us:List Value} {i:Nat} {x:V},Vals xs us->xs[i]?=some x->∃ u,us[i]?=some u/\RelV x u
  | _,_,_,_,.nil,e=>by simp at e
  | _,_,0,_,.cons r _,e=>by simp at e;subst e;exact ⟨_,rfl,r⟩
  | _,_,i+1,x,.cons _ t,e=>by
    obtain ⟨u,h1,h2⟩:=Vals.get (i:=i) (x:=x) t (by simpa using e);exact ⟨u,by simpa using h1,h2⟩
theorem Vals.set {x:V}{u:Value}(r:RelV x u):∀{xs:List V} {us:List Value} (i:Nat),Vals xs us->Vals (xs.set i x) (us.set i u)
  | _,_,_,.nil=>.nil
  | _,_,0,.cons _ t=>.cons r t
  | _,_,i+1,.cons q t=>.cons q (Vals.set r i t)
theorem Vals.append:∀{xs ys:List V} {us ws:List Value},Vals xs us->Vals ys ws->Vals (xs++ys) (us++ws)
  | _,_,_,_,.nil,s=>s
  | _,_,_,_,.cons r t,s=>.cons r (Vals.append t s)
theorem Vals.take:∀{xs:List V} {us:List Value} (n:Nat),Vals xs us->Vals (xs.take n) (us.take n)
  | _,_,0,_=>.nil
  | _,_,_+1,.nil=>.nil
  | _,_,n+1,.cons r t=>.cons r (Vals.take n t)
theorem Vals.drop:∀{xs:List V} {us:List Value} (n:Nat),Vals xs us->Vals (xs.drop n) (us.drop n)
  | _,_,0,r=>r
  | _,_,_+1,.nil=>.nil
  | _,_,n+1,.cons _ t=>Vals.drop n t
def RelO:Option V->Option Value->Prop
  | some v,some u=>RelV v u
  | none,none=>True
  | _,_=>False
def KV {κ:Type}:List (κ×V)->List (κ×Value)->Prop:=Paired λ(p:κ×V) (q:κ×Value)=>p.1=q.1/\RelV p.2 q.2
def kV:Key->V
  | .inl i=>.int i
  | .inr x=>.str x
inductive HO where
  | lst (xs:List V)
  | tup (xs:List V)
  | dK (kvs:List (Key×V))|dT (kvs:List (List Key×V))
  | set (S:Int->Bool) (n:Nat)
  | ins (C dx:Addr) (fs:List (Str×V))
  | own (x:Addr)
  | xd (fs:List (Str×V))
  | met (f x:Addr)
  | rng (lo hi:Int)
  | frz (o:Obj) (u:HO)
  | tbl (ps:Array Value)
  | ext (φ:Heap->Prop)
abbrev Hp:=Addr->Option HO
def upd (H:Hp)(a:Addr)(o:HO):Hp:=λb=>if b=a then some o else H b
theorem zab {a:Addr}:upd H a o a=some o:=by unfold upd;rw[if_pos rfl]
theorem zag {a b:Addr}(h:b≠a):upd H a o b=H b:=by unfold upd;rw[if_neg h]
theorem zrj {a:Addr}:upd (upd H a o) a u=upd H a u:=by
  funext b;unfold upd;split<;>rfl
theorem ztB {H:Hp}{a b:Addr}{o u:HO}(h:H a=some o)(h':H b=some u)(d:o≠u):a≠b:=by
  intro e;subst e;rw[h]at h';exact d (yae h')
theorem zac {H:Hp}{a b:Addr}{o:HO}(h:H a=some o)(h':H b=none):a≠b:=by
  intro e;subst e;rw[h]at h';cases h'
section
variable (P:Program)(w:World)
def zbw (H:Hp)(h:Heap)(a:Addr):HO->Prop
  | .lst xs=>xs.length<=sizeLine/\∃(its:List Value) (n:Nat),Vals xs its/\h.get? a=some { cls:=.type "list",data:=.seq its.toArray n }
  | .tup xs=>xs.length<=sizeLine/\∃ its:List Value,Vals xs its/\IsTup h a its.toArray
  | .dK kvs=>kvs.length<=sizeLine/\(a==sysModules)=false/\∃ vs,KV kvs vs/\h.DictOf (zaQ P w) a vs
  | .dT kvs=>kvs.length<=sizeLine/\(a==sysModules)=false/\∃ xs:List (List Key×Addr×Value),
      Paired (λ(p:List Key×V) (q:List Key×Addr×Value)=>p.1=q.1/\H q.2.1=some (.tup (p.1.map kV))/\RelV p.2 q.2.2) kvs xs/\
      ∃ o es ep,h.get? a=some o/\o.ExactDict/\o.data=.dict es ep/\es.toList=xs.map (entryOfKey (tupleKind (zaQ P w)))/\(xs.map (·.1)).Nodup
  | .set S n=>h.SetOf (intKind P w) a S n
  | .ins C dx fs=>H dx=some (.own a)/\fs.length<=1000/\dx≠a/\h.get? a=some (PySem.W.instObj C dx)/\
      ∃ mA,h.Ns1 dx mA/\(∀ f,RelO (fs.lookup f) (mA f))/\PySem.Within mA (fs.map (·.1))
  | .own _=>∃ o,h.get? a=some o
  | .xd fs=>∃ mA,h.Ns1 a mA/\∀ f,RelO (fs.lookup f) (mA f)
  | .rng lo hi=>∃ t u v,h.get? a=some { cls:=.type "range",data:=.fields #[.int lo t,.int hi u,.int 1 v] }
  | .frz o u=>h.get? a=some o/\zbw H h a u
  | .tbl ps=>h.get? a=some { cls:=.none,data:=.fields ps }
  | .met f x=>h.get? a=some (PySem.W.methodObj (.ref f) (.ref x))
  | .ext φ=>φ h/\(∃ o,h.get? a=some o)/\∀ h1 h2:Heap,φ h1->(∀ o,h1.get? a=some o->h2.get? a=some o)->φ h2
def HOk (H:Hp)(h:Heap):Prop:=∀ a o,H a=some o->zbw P w H h a o
end
section
variable {P:Program}{w:World}{H H':Hp}{h h':Heap}{a:Addr}{o:HO}
theorem zbw.lt (x:zbw P w H h a o):a<h.objs.size:=by
  cases o with
  | lst xs=>obtain ⟨_,_,_,_,e⟩:=x;exact yaf e
  | tup xs=>obtain ⟨_,_,_,p⟩:=x;exact p.lt
  | dK kvs=>obtain ⟨_,_,_,_,o,_,_,e,_⟩:=x;exact yaf e
  | dT kvs=>obtain ⟨_,_,_,_,o,_,_,e,_⟩:=x;exact yaf e
  | set S n=>obtain ⟨o,_,_,_,e,_⟩:=x;exact yaf e
  | ins C dx fs=>obtain ⟨_,_,_,e,_⟩:=x;exact yaf e
  | own y=>obtain ⟨_,e⟩:=x;exact yaf e
  | xd fs=>obtain ⟨_,⟨_,_,_,e,_⟩,_⟩:=x;exact yaf e
  | rng lo hi=>obtain ⟨_,_,_,e⟩:=x;exact yaf e
  | frz ob u=>obtain ⟨e,_⟩:=x;exact yaf e
  | tbl ps=>exact yaf (show h.get? a=some _ from x)
  | met f y=>exact yaf (show h.get? a=some _ from x)
  | ext φ=>obtain ⟨_,⟨_,e⟩,_⟩:=x;exact yaf e
theorem Paired.mapP {α β:Type}{F G:α->β->Prop}:∀{l₁:List α} {l₂:List β},Paired F l₁ l₂->(∀ a b,F a b->G a b)->Paired G l₁ l₂
  | _,_,.nil,_=>.nil
  | _,_,.cons r t,f=>.cons (f _ _ r) (Paired.mapP t f)
theorem zbw.stay (x:zbw P w H h a o)(k:∀ b u,(b=a\/H b=some (.own a))->h.get? b=some u->h'.get? b=some u)
    (ho:∀ b,H b=some (.own a)->H' b=some (.own a)) (ht:∀ b xs,H b=some (.tup xs)->H' b=some (.tup xs)):zbw P w H' h' a o:=by
  induction o with
  | lst xs=>obtain ⟨z,its,n,r,e⟩:=x;exact ⟨z,its,n,r,k _ _ (.inl rfl) e⟩
  | tup xs=>obtain ⟨z,its,r,ob,e,c⟩:=x;exact ⟨z,its,r,ob,k _ _ (.inl rfl) e,c⟩
  | dK kvs=>obtain ⟨z,y,vs,r,ob,es,ep,e,c⟩:=x;exact ⟨z,y,vs,r,ob,es,ep,k _ _ (.inl rfl) e,c⟩
  | dT kvs=>
    obtain ⟨z,y,xs,r,ob,es,ep,e,c⟩:=x;exact ⟨z,y,xs,Paired.mapP r λp q z=>⟨z.1,ht _ _ z.2.1,z.2.2⟩,ob,es,ep,k _ _ (.inl rfl) e,c⟩
  | set S n=>obtain ⟨ob,es,ep,t,e,c⟩:=x;exact ⟨ob,es,ep,t,k _ _ (.inl rfl) e,c⟩
  | ins C dx fs=>
    obtain ⟨d,z,ne,e,mA,⟨od,es,ep,e2,c⟩,r⟩:=x;exact ⟨ho _ d,z,ne,k _ _ (.inl rfl) e,mA,⟨od,es,ep,k _ _ (.inr d) e2,c⟩,r⟩
  | own y=>obtain ⟨ob,e⟩:=x;exact ⟨ob,k _ _ (.inl rfl) e⟩
  | xd fs=>obtain ⟨mA,⟨od,es,ep,e,c⟩,r⟩:=x;exact ⟨mA,⟨od,es,ep,k _ _ (.inl rfl) e,c⟩,r⟩
  | rng lo hi=>obtain ⟨t,u,v,e⟩:=x;exact ⟨t,u,v,k _ _ (.inl rfl) e⟩
  | frz ob u ih=>obtain ⟨e,q⟩:=x;exact ⟨k _ _ (.inl rfl) e,ih q⟩
  | tbl ps=>
    have e:h.get? a=some { cls:=.none,data:=.fields ps }:=x;show h'.get? a=some { cls:=.none,data:=.fields ps };exact k a _ (.inl rfl) e
  | met f y=>
    have e:h.get? a=some (PySem.W.methodObj (.ref f) (.ref y)):=x;show h'.get? a=some (PySem.W.methodObj (.ref f) (.ref y));exact k a _ (.inl rfl) e
  | ext φ=>obtain ⟨p,⟨o,e⟩,st⟩:=x;exact ⟨st _ _ p λo q=>k _ _ (.inl rfl) q,⟨o,k _ _ (.inl rfl) e⟩,st⟩
theorem HOk.lt (x:HOk P w H h)(e:H a=some o):a<h.objs.size:=(x a o e).lt
theorem HOk.fresh (x:HOk P w H h)(e:h.objs.size<=a):H a=none:=by
  cases q:H a with
  | none=>rfl
  | some u=>exact absurd (yaB (x.lt q) e) (yaO _)
theorem HOk.kept (x:HOk P w H h)(k:∀ b u,h.get? b=some u->h'.get? b=some u):HOk P w H h':=λa o e=>
  (x a o e).stay (λb u _ q=>k b u q) (λ_ q=>q) λ_ _ q=>q
theorem HOk.laid (x:HOk P w H h)(k:∀ b u,h.get? b=some u->h'.get? b=some u)(hp:h.objs.size<=a)(new:zbw P w (upd H a o) h' a o):HOk P w (upd H a o) h':=λb u e=>by
  have hn:=x.fresh hp;by_cases hb:b=a
  · subst hb;rw[zab]at e;cases e;exact new
  · rw[zag hb]at e
    exact (x b u e).stay (λc v _ q=>k c v q) (λc q=>by rw[zag (zac q hn)];exact q) λc xs q=>by rw[zag (zac q hn)];exact q
end
def Rd (H:Hp)(a:Addr)(u:HO):Prop:=H a=some u\/∃ o,H a=some (.frz o u)
theorem Rd.ok {w:World}{h:Heap}{a:Addr}(r:Rd H a u)(x:HOk P w H h):zbw P w H h a u:=by
  rcases r with r|⟨o,r⟩
  · exact x a u r
  · obtain ⟨_,q⟩:=x a _ r
    exact q
def Mut:Option HO->Prop
  | some (.lst _)=>True
  | some (.dK _)=>True
  | some (.dT _)=>True
  | some (.set _ _)=>True
  | some (.ins _ _ _)=>True
  | some (.ext _)=>True
  | _=>False
section
variable {P:Program}{w:World}{H:Hp}{h h':Heap}{x e:Addr}{o':HO}
theorem HOk.write (ok:HOk P w H h)(mu:Mut (H x))(he:e=x\/H e=some (.own x))(k:∀ b u,b≠e->h.get? b=some u->h'.get? b=some u)(heo:∃ u,h'.get? e=some u)
    (new:zbw P w (upd H x o') h' x o'):HOk P w (upd H x o') h':=λb u q=>by
  have nown:∀ c y,H c=some (.own y)->c≠x:=λc y r z=>by subst z;rw[r]at mu;exact mu
  have ntup:∀ c xs,H c=some (.tup xs)->c≠x:=λc xs r z=>by subst z;rw[r]at mu;exact mu
  by_cases hb:b=x
  · subst hb;rw[zab]at q;cases q;exact new
  · rw[zag hb]at q
    by_cases hbe:b=e
    · have q':H b=some (.own x):=by
        rcases he with z|z
        · exact absurd (hbe.trans z) hb
        · rw[hbe];exact z
      rw[q]at q';cases q'
      obtain ⟨v,hv⟩:=heo;exact ⟨v,by rw[hbe];exact hv⟩
    · refine (ok b u q).stay (λc v hc r=>k c v ?_ r) (λc r=>by rw[zag (nown c b r)];exact r) λc xs r=>by rw[zag (ntup c xs r)];exact r
      rcases hc with rfl|hc
      · exact hbe
      · rintro rfl
        rcases he with z|z
        · exact nown c b hc z
        · rw[hc]at z;cases z;exact hb rfl
end
structure Un (fs ex:List Addr)(H H':Hp)(h h':Heap):Prop where
  keep:∀ b o,h.get? b=some o->H b=none->b∉fs->b∉ex->h'.get? b=some o
  slot:∀ b o,h.get? b=some o->H b=none->b∈fs->b∉ex->∃ sl,h'.get? b=some { o with slots:=sl }
  free:∀ b o,h.get? b=some o->H b=none->b∉ex->H' b=none
  there:∀ b o,h.get? b=some o->b∉ex->∃ o',h'.get? b=some o'
  tups:∀ b xs,H b=some (.tup xs)->H' b=some (.tup xs)
  frzs:∀ b o u,H b=some (.frz o u)->H' b=some (.frz o u)
  tbls:∀ b ps,H b=some (.tbl ps)->∃ more,H' b=some (.tbl (ps++more))
section
variable {fs fs' ex ex':List Addr}{H H1 H2:Hp}{h h1 h2 h':Heap}{a x e:Addr}{o:HO}
theorem Un.any (u:Un fs ex H H1 h h1){b:Addr}{ob:Obj}(q:h.get? b=some ob)(n:H b=none)(hx:b∉ex):∃ sl,h1.get? b=some { ob with slots:=sl }:=by
  by_cases hb:b∈fs
  · exact u.slot b ob q n hb hx
  · exact ⟨ob.slots,u.keep b ob q n hb hx⟩
theorem Un.kept (k:∀ b u,h.get? b=some u->h'.get? b=some u):Un fs ex H H h h':=
  ⟨λb ob q _ _ _=>k b ob q,λb ob q _ _ _=>⟨ob.slots,k b ob q⟩,λ_ _ _ n _=>n,λb ob q _=>⟨ob,k b ob q⟩,λ_ _ q=>q,λ_ _ _ q=>q,λ_ ps q=>⟨#[],by rw[q];simp⟩⟩
theorem Un.refl:Un fs ex H H h h:=Un.kept λ_ _ q=>q
theorem Un.laid (k:∀ b u,h.get? b=some u->h'.get? b=some u)(hp:h.objs.size<=a)(hn:H a=none):Un fs ex H (upd H a o) h h' where
  keep:=λb u q _ _ _=>k b u q
  slot:=λb u q _ _ _=>⟨u.slots,k b u q⟩
  free:=λb u q n _=>by rw[zag (yat (yaB (yaf q) hp))];exact n
  there:=λb u q _=>⟨u,k b u q⟩
  tups:=λb xs q=>by rw[zag (zac q hn)];exact q
  frzs:=λb u xs q=>by rw[zag (zac q hn)];exact q
  tbls:=λb ps q=>⟨#[],by rw[zag (zac q hn),q];simp⟩
theorem Un.write (mu:Mut (H x))(he:e=x\/H e=some (.own x))(k:∀ b u,b≠e->h.get? b=some u->h'.get? b=some u)(heo:∃ u,h'.get? e=some u):Un fs ex H (upd H x o) h h':=by
  have hx:∀ b,H b=none->b≠x:=λb n z=>by subst z;rw[n]at mu;exact mu
  have hb:∀ b,H b=none->b≠e:=λb n z=>by
    subst z;rcases he with r|r
    · exact hx b n r
    · rw[n]at r;cases r
  have hm:∀ b u,H b=some u->¬ Mut (some u)->b≠x:=λb u q nm z=>by subst z;rw[q]at mu;exact nm mu
  refine ⟨λb u q n _ _=>k b u (hb b n) q,λb u q n _ _=>⟨u.slots,k b u (hb b n) q⟩,λb u q n _=>by rw[zag (hx b n)];exact n,λb u q _=>?_,
    λb xs q=>by rw[zag (hm b _ q λz=>z)];exact q,λb u xs q=>by rw[zag (hm b _ q λz=>z)];exact q,λb ps q=>⟨#[],by rw[zag (hm b _ q λz=>z),q];simp⟩⟩
  by_cases hbe:b=e
  · subst hbe;exact heo
  · exact ⟨u,k b u hbe q⟩
end
def trk (h:Heap)(H:Hp):List Addr:=(List.range h.objs.size).filter λa=>(H a).isSome
def hidT (h:Heap)(H:Hp):Heap:=PySem.W.hideAll h (trk h H)
theorem zoj (h:Heap)(H:Hp):(hidT h H).objs.size=h.objs.size:=PySem.W.hideAll_size _ _
theorem zp9 {h:Heap}{H:Hp}{b:Addr}{o:Obj}(e:h.get? b=some o)(n:H b=none):(hidT h H).get? b=some o:=
  PySem.W.hideAll_get _ e λhm=>by
    have q:(H b).isSome=true:=(yaY.mp hm).2;rw[n]at q;simp at q
theorem zr7 {b:Addr}{o:Obj}(e:(hidT h H).get? b=some o):h.get? b=some o/\H b=none:=by
  have e':h.get? b=some o:=PySem.W.of_hideAll (trk h H) e;refine ⟨e',?_⟩;cases q:H b with
  | none=>rfl
  | some x=>
    have hm:b∈trk h H:=yaY.mpr ⟨yaT.mpr (yaf e'),by simp[q]⟩;have z:(hidT h H).get? b=none:=PySem.W.hideAll_none (trk h H) hm;rw[z]at e;cases e
def zsG (g h:Heap)(L:Addr):List (Addr×Obj):=(List.range h.objs.size).filterMap λa=>if a=L\/(g.get? a).isSome=true then none else (h.get? a).map λo=>(a,o)
def rest (g h:Heap)(L d:Addr):List (Addr×Obj):=(zsG g h L).filter λp=>decide (p.1≠d)
end L2
namespace L2
open PySem PySem.Spec PyProof.Rows
structure Mod (K:Frag)(mg:Str->Option Value)(base:Heap):Prop where
  kin:K.In base
  glob:base.Ns mainGlobals mg
  blt:∃ mb,base.Ns builtinsNs mb/\∀ x:Str,x ≠ "__name__"->mb x=bootBuiltins x
  nolimit:base.NoLimit
structure Cx where
  prog:Program
  w:World
  K:Frag
  mg:Str->Option Value
  base:Heap
  A:Around
  N:List Str
  s₀:Shared
  H₀:Hp
  env:Env
  outer:List Env
  stack:List Env
  ex:List Addr
  fn:Str->Bool
  calm:Bool
  pn:List (Addr×Obj)
  xe:Value->Shared->Prop
def frs (l:List Env):List Addr:=l.filterMap (·.frame)
abbrev Cx.fs (X:Cx):List Addr:=frs X.outer
def Vis (sc:Scope)(x:Str):Prop:=sc.names.lookup x=some .local\/sc.names.lookup x=some .cell\/sc.names.lookup x=some .free
def Loc (sc:Scope)(x:Str):Prop:=sc.names.lookup x=some .local\/sc.names.lookup x=some .cell
def Look (env:Env)(h:Heap)(m:Str->Option Value)(x:Str)(u:Value):Prop:=
  (env.kindOf x=some .local/\m x=some u)\/((env.kindOf x=some .cell\/env.kindOf x=some .free)/\∃ c,env.cells.lookup x=some c/\h.IsCell c (some u))
structure Cx.Ok (X:Cx):Prop where
  mod:Mod X.K X.mg X.base
  kind:X.env.scope.kind=.function
  glob:X.env.globals=mainGlobals
  blt:X.env.builtins=builtinsNs
  above:X.s₀.heap.objs.size<=X.env.locals
  inj:∀ x y c,X.env.cells.lookup x=some c->X.env.cells.lookup y=some c->x=y
  has:∀ x,(X.env.kindOf x=some .cell\/X.env.kindOf x=some .free)->∃ c,X.env.cells.lookup x=some c
  cab:∀ x c,X.fn x=true->X.env.cells.lookup x=some c->X.s₀.heap.objs.size<=c
  hd:X.calm=true->X.A.handled=none
  frames:X.A.frames=some X.stack
  stk:X.stack=X.outer\/(X.stack=X.env::X.outer/\X.env.frame=some X.env.locals)
  exf:∀ b∈X.ex,b≠X.env.locals/\∀ x c,X.env.cells.lookup x=some c->c≠b
  bs:∀ b o,X.base.get? b=some o->X.s₀.heap.get? b=some o/\X.H₀ b=none
  bsz:X.base.objs.size<=X.s₀.heap.objs.size
  noex:∀ b o,X.base.get? b=some o->b∉X.ex
  exfs:∀ b∈X.ex,b∉X.fs
  funs:X.s₀.heap.FunFrames X.base X.outer
  frf:∀ b∈X.fs,X.H₀ b=none
structure Inv (X:Cx)(pins:List (Addr×Obj))(U:List (Option V))(H:Hp)(s:Shared):Prop where
  ok:X.Ok
  os:s.os=X.s₀.os
  bare:AllBare s.gens
  base:Un X.fs X.ex X.H₀ H X.s₀.heap s.heap
  loc:∃ m,s.heap.Ns X.env.locals m/\∀(i:Nat) (x:Str) (v:V),X.N[i]?=some x->U[i]?=some (some v)->Vis X.env.scope x->∃ u,RelV v u/\Look X.env s.heap m x u
  cell:∀ x c,X.env.cells.lookup x=some c->∃ v,s.heap.IsCell c v
  free:H X.env.locals=none
  freeC:∀ x c,X.env.cells.lookup x=some c->H c=none
  pin:∀ p∈X.pn++pins,s.heap.get? p.1=some p.2/\H p.1=none/\p.1≠X.env.locals/\p.1∉X.fs/\∀ v,p.2.data≠.cell v
  hok:HOk X.prog X.w H s.heap
  len:U.length=X.N.length
section
variable {X:Cx}{pins:List (Addr×Obj)}{U:List (Option V)}{H H':Hp}{s:Shared}{h':Heap}
theorem Cx.Ok.nofr (ok:X.Ok){b:Addr}{o:Obj}(e:X.base.get? b=some o):b∉X.fs:=λhb=>by
  have:=(ok.funs.mem hb).1;rw[e]at this;cases this
theorem Inv.bs (I:Inv X pins U H s):∀ b o,X.base.get? b=some o->s.heap.get? b=some o/\H b=none:=λb o e=>
  ⟨I.base.keep b o (I.ok.bs b o e).1 (I.ok.bs b o e).2 (I.ok.nofr e) (I.ok.noex b o e),I.base.free b o (I.ok.bs b o e).1 (I.ok.bs b o e).2 (I.ok.noex b o e)⟩
theorem Inv.bk (I:Inv X pins U H s):∀ b o,X.base.get? b=some o->s.heap.get? b=some o:=λb o e=>(I.bs b o e).1
theorem Inv.mod (I:Inv X pins U H s):Mod X.K X.mg X.base:=I.ok.mod
theorem Inv.kIn (I:Inv X pins U H s):X.K.In s.heap:=I.ok.mod.kin.keeps I.bk
theorem Inv.lt (I:Inv X pins U H s):X.env.locals<s.heap.objs.size:=let ⟨_,hn,_⟩:=I.loc;hn.lt
theorem Inv.sz (I:Inv X pins U H s):X.s₀.heap.objs.size<=s.heap.objs.size:=yax I.ok.above (yaU I.lt)
theorem Inv.nofs (I:Inv X pins U H s){a:Addr}(h:s.heap.objs.size<=a):a∉X.fs:=λhb=>by
  obtain ⟨_,o,ho,_⟩:=I.ok.funs.mem hb;exact absurd (yaB (yaf ho) (yax I.sz h)) (yaO _)
theorem Inv.cne (I:Inv X pins U H s):∀ x c,X.env.cells.lookup x=some c->c≠X.env.locals:=λx c e z=>by
  obtain ⟨v,o,ho,hd⟩:=I.cell x c e;obtain ⟨m,⟨o',es,ep,ho',hd',_⟩,_⟩:=I.loc;rw[z,ho']at ho;cases ho;rw[hd']at hd;cases hd
theorem Inv.funs (I:Inv X pins U H s):s.heap.FunFrames X.base X.outer:=by
  have all:∀(l:List Env),(∀ b∈frs l,b∈X.fs)->X.s₀.heap.FunFrames X.base l->s.heap.FunFrames X.base l:=by
    intro l
    induction l with
    | nil=>intro _ _;trivial
    | cons env r ih=>
      intro hs hl;obtain ⟨hk,⟨L,o,hf,hn,ho,hd⟩,hr⟩:=hl;have hL:L∈X.fs:=hs L (by unfold frs;rw[ybx,hf];exact yau);obtain ⟨sl,e⟩:=I.base.slot L o ho (I.ok.frf L hL) hL λz=>I.ok.exfs L z hL;exact ⟨hk,⟨L,_,hf,hn,e,hd⟩,ih (λb hb=>hs b (by unfold frs;rw[ybx,hf];exact yar _ hb)) hr⟩
  exact all X.outer (λ_ hb=>hb) I.ok.funs
theorem Inv.stack (I:Inv X pins U H s):s.heap.FunFrames X.base X.stack:=by
  rcases I.ok.stk with e|⟨e,hf⟩
  · rw[e];exact I.funs
  · rw[e]
    obtain ⟨m,hn,_⟩:=I.loc;refine .cons (by rw[I.ok.kind];decide) hf hn ?_ I.funs;exact Heap.get?_none_of_le (yax I.ok.bsz I.ok.above)
theorem Inv.stkSub (I:Inv X pins U H s):∀ b∈frs X.stack,b∈X.env.locals::X.fs:=λb hb=>by
  rcases I.ok.stk with e|⟨e,hf⟩
  · rw[e]at hb;exact yar _ hb
  · rw[e]at hb
    unfold frs at hb;rw[ybx,hf]at hb;exact hb
theorem Inv.stkFree (I:Inv X pins U H s):∀ b∈frs X.stack,H b=none:=λb hb=>by
  rcases yag.mp (I.stkSub b hb) with e|hb
  · rw[e];exact I.free
  · obtain ⟨_,o,ho,_⟩:=I.ok.funs.mem hb
    exact I.base.free b o ho (I.ok.frf b hb) λz=>I.ok.exfs b z hb
theorem Inv.step {g':Array GenState}{t':Nat}{d':Drawn}{ch:List Addr}(I:Inv X pins U H s)
    (hch:∀ b∈ch,(b∈X.ex\/X.s₀.heap.objs.size<=b)/\b≠X.env.locals/\(∀ x c,X.env.cells.lookup x=some c->c≠b)/\∀ p∈X.pn++pins,p.1≠b)
    (keep:∀ b o,b≠X.env.locals->b∉X.fs->b∉ch->s.heap.get? b=some o->H b=none->h'.get? b=some o)
    (slot:∀ b o,b≠X.env.locals->b∈X.fs->b∉ch->s.heap.get? b=some o->H b=none->∃ sl,h'.get? b=some { o with slots:=sl }) (free:∀ b o,b∉ch->s.heap.get? b=some o->H b=none->H' b=none)
    (there:∀ b o,b∉ch->s.heap.get? b=some o->∃ o',h'.get? b=some o')
    (tups:∀ b xs,H b=some (.tup xs)->H' b=some (.tup xs)) (frzs:∀ b o u,H b=some (.frz o u)->H' b=some (.frz o u)) (tbls:∀ b ps,H b=some (.tbl ps)->∃ more,H' b=some (.tbl (ps++more)))
    (ns:∀ m,s.heap.Ns X.env.locals m->h'.Ns X.env.locals m) (hok:HOk X.prog X.w H' h') (hg:AllBare g') :
    Inv X pins U H' { s with heap:=h',gens:=g',drawn:=d',toks:=t' }:=by
  have neL:∀ b o,X.s₀.heap.get? b=some o->b≠X.env.locals:=λb o e=>yat (yaB (yaf e) I.ok.above);have neC:∀ b o,X.s₀.heap.get? b=some o->b∉X.ex->b∉ch:=λb o e hx hb=>by
    rcases (hch b hb).1 with z|z
    · exact hx z
    · exact absurd (yaB (yaf e) z) (yaO _)
  have cellK:∀ x c,X.env.cells.lookup x=some c->∀ v,s.heap.IsCell c v->h'.IsCell c v:=λx c e v ⟨o,ho,hd⟩=>by
    have nch:c∉ch:=λz=>(hch c z).2.2.1 x c e rfl;by_cases hc:c∈X.fs
    · obtain ⟨sl,q⟩:=slot c o (I.cne x c e) hc nch ho (I.freeC x c e)
      exact ⟨_,q,hd⟩
    · exact ⟨o,keep c o (I.cne x c e) hc nch ho (I.freeC x c e),hd⟩
  refine ⟨I.ok,I.os,hg,⟨λb o e n hb hx=>?_,λb o e n hb hx=>?_,λb o e n hx=>?_,λb o e hx=>?_,λb xs e=>tups b xs (I.base.tups b xs e),λb o xs e=>frzs b o xs (I.base.frzs b o xs e),λb ps e=>?_⟩,?_,λx c e=>?_,?_,λx c e=>?_,λp hp=>?_,hok,I.len⟩
  · exact keep b o (neL b o e) hb (neC b o e hx) (I.base.keep b o e n hb hx) (I.base.free b o e n hx)
  · obtain ⟨sl,e1⟩:=I.base.slot b o e n hb hx
    obtain ⟨sl',e2⟩:=slot b _ (neL b o e) hb (neC b o e hx) e1 (I.base.free b o e n hx);exact ⟨sl',e2⟩
  · obtain ⟨o',e1⟩:=I.base.there b o e hx
    exact free b o' (neC b o e hx) e1 (I.base.free b o e n hx)
  · obtain ⟨o',e1⟩:=I.base.there b o e hx
    exact there b o' (neC b o e hx) e1
  · obtain ⟨m1,e1⟩:=I.base.tbls b ps e
    obtain ⟨m2,e2⟩:=tbls b _ e1;exact ⟨m1++m2,by rw[e2,Array.append_assoc]⟩
  · obtain ⟨m,hn,hl⟩:=I.loc
    refine ⟨m,ns m hn,λi x v e1 e2 e3=>?_⟩;obtain ⟨u,r,l⟩:=hl i x v e1 e2 e3;refine ⟨u,r,?_⟩;rcases l with l|⟨k,c,e,z⟩
    · exact .inl l
    · exact .inr ⟨k,c,e,cellK x c e _ z⟩
  · obtain ⟨v,z⟩:=I.cell x c e
    exact ⟨v,cellK x c e v z⟩
  · obtain ⟨m,⟨o,_,_,ho,_⟩,_⟩:=I.loc
    exact free _ o (λz=>(hch _ z).2.1 rfl) ho I.free
  · obtain ⟨v,o,ho,hd⟩:=I.cell x c e
    exact free c o (λz=>(hch c z).2.2.1 x c e rfl) ho (I.freeC x c e)
  · obtain ⟨e,n,ne,nf,d⟩:=I.pin p hp
    have nch:p.1∉ch:=λz=>(hch p.1 z).2.2.2 p hp rfl;exact ⟨keep p.1 p.2 ne nf nch e n,free p.1 p.2 nch e n,ne,nf,d⟩
theorem Inv.un {t':Nat}(I:Inv X pins U H s)(u:Un X.fs [] H H' s.heap h')(hok:HOk X.prog X.w H' h'):Inv X pins U H' { s with heap:=h',toks:=t' }:=by
  obtain ⟨m,⟨o,es,ep,ho,r⟩,_⟩:=id I.loc;obtain ⟨sl,hL⟩:=u.any ho I.free (by simp);exact I.step (g':=s.gens) (d':=s.drawn) (ch:=[]) (λ_ z=>nomatch z) (λb o _ hb _ e n=>u.keep b o e n hb (by simp)) (λb o _ hb _ e n=>u.slot b o e n hb (by simp)) (λb o _ e n=>u.free b o e n (by simp)) (λb o _ e=>u.there b o e (by simp)) u.tups u.frzs u.tbls (λm' hm=>by
    obtain ⟨o',es',ep',ho',r'⟩:=hm;rw[ho]at ho';cases ho'
    exact ⟨_,es',ep',hL,r'⟩) hok I.bare
theorem Inv.call {g':Array GenState}{t':Nat}{d':Drawn}{ch:List Addr}(I:Inv X pins U H s)(u:Un (frs X.stack) ch H H' s.heap h')(hok:HOk X.prog X.w H' h')(hg:AllBare g')
    (hch:∀ b∈ch,(b∈X.ex\/X.s₀.heap.objs.size<=b)/\b≠X.env.locals/\(∀ x c,X.env.cells.lookup x=some c->c≠b)/\∀ p∈X.pn++pins,p.1≠b) :
    Inv X pins U H' { s with heap:=h',gens:=g',drawn:=d',toks:=t' }:=by
  obtain ⟨m,⟨o,es,ep,ho,r⟩,_⟩:=id I.loc;obtain ⟨sl,hL⟩:=u.any ho I.free λz=>(hch _ z).2.1 rfl;exact I.step (ch:=ch) hch (λb o hL hb hc e n=>u.keep b o e n (λz=>(yag.mp (I.stkSub b z)).elim hL hb) hc) (λb o _ _ hc e n=>u.any e n hc) (λb o hc e n=>u.free b o e n hc) (λb o hc e=>u.there b o e hc) u.tups u.frzs u.tbls (λm' hm=>by
    obtain ⟨o',es',ep',ho',r'⟩:=hm;rw[ho]at ho';cases ho'
    exact ⟨_,es',ep',hL,r'⟩) hok hg
theorem Inv.turned {t':Nat}{it:Addr}(I:Inv X pins U H s)(k:∀ b o,b≠it->s.heap.get? b=some o->h'.get? b=some o)(hn:H it=none)(hL:it≠X.env.locals)
    (h1:it∈X.ex\/X.s₀.heap.objs.size<=it) (h2:∀ x c,X.env.cells.lookup x=some c->c≠it) (h3:∀ p∈X.pn++pins,p.1≠it):Inv X pins U H { s with heap:=h',toks:=t' }:=by
  have nit:∀ b u,H b=some u->b≠it:=λb u e z=>by rw[z,hn]at e;cases e
  refine I.step (g':=s.gens) (d':=s.drawn) (ch:=[it]) (λb hb=>?_) (λb o _ _ hc e _=>k b o (λz=>hc (by simp[z])) e) (λb o _ _ hc e _=>⟨o.slots,k b o (λz=>hc (by simp[z])) e⟩) (λ_ _ _ _ n=>n)
    (λb o hc e=>⟨o,k b o (λz=>hc (by simp[z])) e⟩) (λ_ _ e=>e) (λ_ _ _ e=>e) (λb ps e=>⟨#[],by rw[e];simp⟩) (λm hm=>?_) (λb u e=>?_) I.bare
  · have e:b=it:=by simpa using hb
    subst e;exact ⟨h1,hL,h2,h3⟩
  · obtain ⟨o,es,ep,ho,r⟩:=hm
    exact ⟨o,es,ep,k _ o (Ne.symm hL) ho,r⟩
  · refine (I.hok b u e).stay (λc v hc q=>k c v ?_ q) (λ_ q=>q) λ_ _ q=>q
    rcases hc with z|z
    · rw[z];exact nit b u e
    · exact nit c _ z
theorem Inv.tok (I:Inv X pins U H s)(t:Nat):Inv X pins U H { s with toks:=t }:=I.un (h':=s.heap) (t':=t) Un.refl I.hok
theorem Inv.kept {t':Nat}(I:Inv X pins U H s)(k:∀ b u,s.heap.get? b=some u->h'.get? b=some u):Inv X pins U H { s with heap:=h',toks:=t' }:=I.un (Un.kept k) (I.hok.kept k)
theorem Inv.laid {a:Addr}{t':Nat}(I:Inv X pins U H s)(k:∀ b u,s.heap.get? b=some u->h'.get? b=some u)(hp:s.heap.objs.size<=a)(new:zbw X.prog X.w (upd H a o) h' a o) :
    Inv X pins U (upd H a o) { s with heap:=h',toks:=t' }:=I.un (Un.laid k hp (I.hok.fresh hp)) (I.hok.laid k hp new)
theorem Inv.write {x e:Addr}{t':Nat}(I:Inv X pins U H s)(mu:Mut (H x))(he:e=x\/H e=some (.own x))(k:∀ b u,b≠e->s.heap.get? b=some u->h'.get? b=some u)(heo:∃ u,h'.get? e=some u)
    (new:zbw X.prog X.w (upd H x o) h' x o):Inv X pins U (upd H x o) { s with heap:=h',toks:=t' }:=I.un (Un.write mu he k heo) (I.hok.write mu he k heo new)
theorem Inv.pins_of {pins':List (Addr×Obj)}(I:Inv X pins U H s)(h:∀ p∈pins',s.heap.get? p.1=some p.2/\H p.1=none/\p.1≠X.env.locals/\p.1∉X.fs/\∀ v,p.2.data≠.cell v):Inv X pins' U H s:=
  ⟨I.ok,I.os,I.bare,I.base,I.loc,I.cell,I.free,I.freeC,λp hp=>(yaw.mp hp).elim (λz=>I.pin p (List.mem_append_left _ z)) (h p),I.hok,I.len⟩
theorem zil {N:List Str}(hN:N.Nodup){i j:Nat}{x:Str}(a:N[i]?=some x)(b:N[j]?=some x):i=j:=by
  obtain ⟨h1,e1⟩:=yaj.mp a;obtain ⟨h2,e2⟩:=yaj.mp b;exact (List.getElem_inj hN).mp (e1.trans e2.symm)
theorem ziU {M:Model}{A:Around}{E:Value->Shared->Prop}{i:Nat}{x:Str}{v:V}{u:Value}{Q:Unit->Shared->Prop}(I:Inv X pins U H s)(hN:X.N.Nodup)(hi:X.N[i]?=some x)(hx:Loc X.env.scope x)(r:RelV v u)
    (h:∀ s',Inv X pins (U.set i (some v)) H s'->(∃ a,Heap.SameBut a s.heap s'.heap/\(a=X.env.locals\/X.env.cells.lookup x=some a))->Q () s') (hf:X.fn x=true\/X.env.scope.names.lookup x=some .local:=by first|exact .inl rfl|exact .inr rfl|assumption):wpAny M A (storeName X.env x u) Q E s:=by
  obtain ⟨m,hn,hl⟩:=id I.loc;have hcls:(X.env.scope.kind == .class||(X.env.scope.kind == .module&&X.env.locals != X.env.globals))=false:=by rw[I.ok.kind];rfl
  have hiσ:i<U.length:=by rw[I.len];exact (yaj.mp hi).1
  have cne:=I.cne;have tracked:∀{a:Addr} {h':Heap},(∃ o,s.heap.get? a=some o/\H a=none)->Heap.SameBut a s.heap h'->HOk X.prog X.w H h':=λ{a h'} ha hs b ob e=>by
    obtain ⟨_,_,hfree⟩:=ha;refine (I.hok b ob e).stay (λc w' hc q=>(hs.2 c ?_).trans q) (λ_ q=>q) λ_ _ q=>q;rintro rfl;rcases hc with rfl|hc
    · rw[hfree]at e;cases e
    · rw[hfree]at hc;cases hc
  rcases hx with hk|hk
  · refine wpAny_storeName_local hk hn (λh' hn' hs=>?_) hcls
    obtain ⟨oL,_,_,hoL,_⟩:=id hn;refine h _ ⟨I.ok,I.os,I.bare,⟨λb o e n hb hx=>?_,λb o e n hb hx=>?_,I.base.free,λb o e hx=>?_,I.base.tups,I.base.frzs,I.base.tbls⟩,⟨_,hn',λj y v' e1 e2 e3=>?_⟩,λy c e=>?_,I.free,I.freeC,λp hp=>?_,tracked ⟨oL,hoL,I.free⟩ hs,by simpa using I.len⟩ ⟨_,hs,.inl rfl⟩
    · exact (hs.2 b (yat (yaB (yaf e) I.ok.above))).trans (I.base.keep b o e n hb hx)
    · obtain ⟨sl,e1⟩:=I.base.slot b o e n hb hx
      exact ⟨sl,(hs.2 b (yat (yaB (yaf e) I.ok.above))).trans e1⟩
    · obtain ⟨o',e1⟩:=I.base.there b o e hx
      exact ⟨o',(hs.2 b (yat (yaB (yaf e) I.ok.above))).trans e1⟩
    · by_cases hj:j=i
      · subst hj
        rw[hi]at e1;cases e1
        rw[List.getElem?_set_self hiσ]at e2;cases e2
        exact ⟨u,r,.inl ⟨hk,by simp⟩⟩
      · rw[ycn (Ne.symm hj)]at e2
        obtain ⟨u',r',q⟩:=hl j y v' e1 e2 e3;refine ⟨u',r',?_⟩;rcases q with ⟨k,e⟩|⟨k,c,e,z⟩
        · refine .inl ⟨k,?_⟩
          have:y≠x:=λe=>hj (zil hN e1 (e ▸ hi));simp[this,e]
        · exact .inr ⟨k,c,e,z.sameBut hs (cne y c e)⟩
    · obtain ⟨w',z⟩:=I.cell y c e
      exact ⟨w',z.sameBut hs (cne y c e)⟩
    · obtain ⟨e,n,ne,nf,d⟩:=I.pin p hp
      exact ⟨(hs.2 p.1 ne).trans e,n,ne,nf,d⟩
  · have hfn:X.fn x=true:=by
      rcases hf with z|z
      · exact z
      · rw[z]at hk;cases hk
    obtain ⟨c,hc⟩:=I.ok.has x (.inl hk);obtain ⟨w',z⟩:=I.cell x c hc;refine wpAny_storeName_cell I.ok.kind hk hc z (λh' hc' hs=>?_);obtain ⟨oc,hoc,hocd⟩:=id z;refine h { s with heap:=h' } ⟨I.ok,I.os,I.bare,⟨λb o e n hb hx=>?_,λb o e n hb hx=>?_,I.base.free,λb o e hx=>?_,I.base.tups,I.base.frzs,I.base.tbls⟩,⟨m,hn.sameBut hs (Ne.symm (cne x c hc)),λj y v' e1 e2 e3=>?_⟩,λy c' e=>?_,I.free,I.freeC,λp hp=>?_,tracked ⟨oc,hoc,I.freeC x c hc⟩ hs,by simpa using I.len⟩ ⟨c,hs,.inr hc⟩
    · exact (hs.2 b (yat (yaB (yaf e) (I.ok.cab x c hfn hc)))).trans (I.base.keep b o e n hb hx)
    · obtain ⟨sl,e1⟩:=I.base.slot b o e n hb hx
      exact ⟨sl,(hs.2 b (yat (yaB (yaf e) (I.ok.cab x c hfn hc)))).trans e1⟩
    · obtain ⟨o',e1⟩:=I.base.there b o e hx
      exact ⟨o',(hs.2 b (yat (yaB (yaf e) (I.ok.cab x c hfn hc)))).trans e1⟩
    · by_cases hj:j=i
      · subst hj
        rw[hi]at e1;cases e1
        rw[List.getElem?_set_self hiσ]at e2;cases e2
        exact ⟨u,r,.inr ⟨.inl hk,c,hc,hc'⟩⟩
      · rw[ycn (Ne.symm hj)]at e2
        obtain ⟨u',r',q⟩:=hl j y v' e1 e2 e3;refine ⟨u',r',?_⟩;rcases q with q|⟨k,c',e,z'⟩
        · exact .inl q
        · refine .inr ⟨k,c',e,z'.sameBut hs ?_⟩
          rintro rfl;exact hj (zil hN e1 (I.ok.inj _ _ _ e hc ▸ hi))
    · by_cases hcc:c'=c
      · subst hcc;exact ⟨_,hc'⟩
      · obtain ⟨w2,z2⟩:=I.cell y c' e
        exact ⟨w2,z2.sameBut hs hcc⟩
    · obtain ⟨e,n,ne,nf,d⟩:=I.pin p hp
      refine ⟨(hs.2 p.1 ?_).trans e,n,ne,nf,d⟩;intro q;rw[q,hoc]at e;have q':oc=p.2:=yae e;exact d w' (by rw[<-q'];exact hocd)
theorem zhO {M:Model}{A:Around}{E:Value->Shared->Prop}{i:Nat}{x:Str}{v:V}{u:Value}{Q:Unit->Shared->Prop}(I:Inv X pins U H s)(hN:X.N.Nodup)(hi:X.N[i]?=some x)(hx:Loc X.env.scope x)(r:RelV v u)
    (h:∀ s',Inv X pins (U.set i (some v)) H s'->Q () s') (hf:X.fn x=true\/X.env.scope.names.lookup x=some .local:=by first|exact .inl rfl|exact .inr rfl|assumption):wpAny M A (storeName X.env x u) Q E s:=
  ziU I hN hi hx r (λs' I' _=>h s' I') hf
theorem Inv.call' {s':Shared}{ch:List Addr}(I:Inv X pins U H s)(ho:s'.os=s.os)(u:Un (frs X.stack) ch H H' s.heap s'.heap)(hok:HOk X.prog X.w H' s'.heap)(hg:AllBare s'.gens)
    (hch:∀ b∈ch,(b∈X.ex\/X.s₀.heap.objs.size<=b)/\b≠X.env.locals/\(∀ x c,X.env.cells.lookup x=some c->c≠b)/\∀ p∈X.pn++pins,p.1≠b):Inv X pins U H' s':=by
  obtain ⟨h',g',d',t',o'⟩:=s';have e:o'=s.os:=ho;subst e;exact I.call (g':=g') (t':=t') (d':=d') u hok hg hch
end
abbrev XK:=Value->Option Addr->Hp->Prop
abbrev St:=List (Option V)
abbrev VK:=V->Hp->Prop
abbrev TE:=St->Hp->VK->Prop
abbrev TT:=St->Hp->(Bool->Hp->Prop)->Prop
abbrev TA:=St->Hp->(List V->Hp->Prop)->Prop
structure Ends where
  nx:St->Hp->Prop
  rt:VK
  bk:St->Hp->Prop:=λ_ _=>False
  ct:St->Hp->Prop:=λ_ _=>False
abbrev TS:=Ends->St->Hp->Prop
def EP (X:Cx)(pins:List (Addr×Obj))(U:St)(Q:VK)(u:Value)(s':Shared):Prop:=∃ v H',Inv X pins U H' s'/\RelV v u/\Q v H'
def TP (X:Cx)(pins:List (Addr×Obj))(U:St)(Q:Bool->Hp->Prop)(b:Bool)(s':Shared):Prop:=∃ H',Inv X pins U H' s'/\Q b H'
def AP (X:Cx)(pins:List (Addr×Obj))(U:St)(Q:List V->Hp->Prop)(us:List Value)(s':Shared):Prop:=∃ vs H',Inv X pins U H' s'/\Vals vs us/\Q vs H'
def SP (X:Cx)(pins:List (Addr×Obj))(D:Ends)(f:Flow)(s':Shared):Prop:=
  match f with
  | .next=>∃ U' H',Inv X pins U' H' s'/\D.nx U' H'
  | .brk=>∃ U' H',Inv X pins U' H' s'/\D.bk U' H'
  | .cont=>∃ U' H',Inv X pins U' H' s'/\D.ct U' H'
  | .ret u=>∃ v U' H',Inv X pins U' H' s'/\RelV v u/\D.rt v H'
def PE (X:Cx)(e:Expr)(t:TE):Prop:=
  ∀(pins:List (Addr×Obj)) (s:Shared) (U:St) (H:Hp) (Q:VK),Inv X pins U H s->t U H Q->wpAny .(d) X.A (eval e X.env) (EP X pins U Q) X.xe s
def PT (X:Cx)(e:Expr)(t:TT):Prop:=
  ∀(pins:List (Addr×Obj)) (s:Shared) (U:St) (H:Hp) (Q:Bool->Hp->Prop),Inv X pins U H s->t U H Q->wpAny .(d) X.A (isTrue e X.env (eval e X.env)) (TP X pins U Q) X.xe s
def PW (X:Cx)(e:Expr)(t:TT):Prop:=
  ∀(whole:Sem Value) (pins:List (Addr×Obj)) (s:Shared) (U:St) (H:Hp) (Q:Bool->Hp->Prop),Inv X pins U H s->t U H Q->wpAny .(d) X.A (isTrue e X.env whole) (TP X pins U Q) X.xe s
theorem PW.pt {t:TT}(h:PW X e t):PT X e t:=h _
def PA (X:Cx)(es:List Expr)(t:TA):Prop:=
  ∀(pos:Pos) (pins:List (Addr×Obj)) (s:Shared) (U:St) (H:Hp) (Q:List V->Hp->Prop),Inv X pins U H s->t U H Q->wpAny .(d) X.A (spliced (backTo pos (starEach es X.env))) (AP X pins U Q) X.xe s
def PS (X:Cx)(st:Stmt)(t:TS):Prop:=
  ∀(pins:List (Addr×Obj)) (s:Shared) (U:St) (H:Hp) (D:Ends),Inv X pins U H s->t D U H->wpAny .(d) X.A (exec st X.env) (SP X pins D) X.xe s
def PSs (X:Cx)(st:List Stmt)(t:TS):Prop:=
  ∀(pins:List (Addr×Obj)) (s:Shared) (U:St) (H:Hp) (D:Ends),Inv X pins U H s->t D U H->wpAny .(d) X.A (execs st X.env) (SP X pins D) X.xe s
theorem thn {α:Type}{t:Sem α}{Q Q':α->Shared->Prop}{M:Model}{A:Around}{E:Value->Shared->Prop}{s:Shared}(h:wpAny M A t Q E s)(hQ:∀ a s,Q a s->Q' a s):wpAny M A t Q' E s:=wpAny_mono h hQ λ_ _ x=>x
end L2
namespace L2
open PySem PySem.Spec PyProof.Rows
section
variable {X:Cx}
def tVar (i:Nat):TE:=λU H Q=>∃ v,U[i]?=some (some v)/\Q v H
def tC (v:V):TE:=λ_ H Q=>Q v H
theorem zti {i:Nat}{x:Str}{pos:Pos}(hN:X.N[i]?=some x)(hv:Vis X.env.scope x)(hd:(x==("__debug__" : Str))=false:=by decide)(hcd:(x==("__classdict__" : Str))=false:=by decide):PE X (.Name x pos) (tVar i):=by
  intro pins s U H Q I h;obtain ⟨v,e,h⟩:=h;obtain ⟨m,hn,hl⟩:=I.loc;obtain ⟨u,r,l⟩:=hl i x v hN e hv;have fin:EP X pins U Q u s:=⟨v,H,I,r,h⟩;rcases l with ⟨hk,hm⟩|⟨hk,c,hc,hcell⟩
  · exact wpAny_Name (wpAny_loadName_local I.ok.kind hk hn hm fin) hd
  · rcases hk with hk|hk
    · exact wpAny_Name (wpAny_loadName_cell I.ok.kind hk hc hcell fin) hd
    · exact wpAny_Name (wpAny_loadName_free I.ok.kind hk hc hcell fin hcd) hd
theorem zai {i j pos}:PE X (.Constant (.int i) j pos) (tC (.int i)):=λ_ _ _ H _ I h=>wpAny_Constant_int ⟨.int i,H,I.tok _,⟨_,rfl⟩,h⟩
theorem zeJ {b j pos}:PE X (.Constant (.bool b) j pos) (tC (.bl b)):=λ_ _ _ H _ I h=>Constant_bool ⟨.bl b,H,I,rfl,h⟩
theorem zgO {j pos}:PE X (.Constant .none j pos) (tC .non):=λ_ _ _ H _ I h=>Constant_none ⟨.non,H,I,rfl,h⟩
theorem zc8 {x j pos}:PE X (.Constant (.str x) j pos) (tC (.str x)):=λ_ _ _ H _ I h=>Calls.Constant_str ⟨.str x,H,I.tok _,⟨_,rfl⟩,h⟩
def Gl (X:Cx)(x:Str):Prop:=X.env.kindOf x=some .globalImplicit
theorem zdO {E:Value->Shared->Prop}{u:Value}{pos:Pos}{Q:Value->Shared->Prop}(I:Inv X pins U H s)(hg:Gl X x)(hm:X.mg x=some u)(h:Q u s)
    (hd:(x==("__debug__" : Str))=false:=by decide):wpAny .(d) X.A (eval (.Name x pos) X.env) Q E s:=
  Calls.Name_function_global I.ok.kind hg (Calls.loadGlobal_global (by rw[I.ok.glob];exact I.mod.glob.keeps I.bk) hm h) hd
theorem zfZ {E:Value->Shared->Prop}{u:Value}{pos:Pos}{Q:Value->Shared->Prop}(I:Inv X pins U H s)(hg:Gl X x)(hm:X.mg x=none)(hv:bootBuiltins x=some u)(h:Q u s)
    (hn:x ≠ "__name__":=by decide) (hd:(x==("__debug__" : Str))=false:=by decide):wpAny .(d) X.A (eval (.Name x pos) X.env) Q E s:=by
  obtain ⟨mb,h1,h2⟩:=I.mod.blt;exact Calls.Name_function_global I.ok.kind hg (Calls.loadGlobal_builtin (by rw[I.ok.glob];exact I.mod.glob.keeps I.bk) hm (by rw[I.ok.blt];exact h1.keeps I.bk) ((h2 x hn).trans hv) h) hd
theorem zrM {v:V}{u:Value}{pos:Pos}(hg:Gl X x)(hm:X.mg x=some u)(r:RelV v u)(hd:(x==("__debug__" : Str))=false:=by decide):PE X (.Name x pos) (tC v):=
  λ_ _ _ H _ I h=>zdO I hg hm ⟨v,H,I,r,h⟩ hd
theorem zde {v:V}{u:Value}{pos:Pos}(hg:Gl X x)(hm:X.mg x=none)(hv:bootBuiltins x=some u)(r:RelV v u)(hn:x ≠ "__name__":=by decide)(hd:(x==("__debug__" : Str))=false:=by decide):PE X (.Name x pos) (tC v):=
  λ_ _ _ H _ I h=>zfZ I hg hm hv ⟨v,H,I,r,h⟩ hn hd
variable {a b:Expr}{ta tb:TE}{pos:Pos}
def tB (t:TE):TT:=λU H Q=>t U H λx H1=>∃ c,x=.bl c/\Q c H1
theorem zcn {t:TE}(h:PE X e t)(he:∀ whole,isTrue e X.env whole=(do let v <-whole;standAt e.pos;holding [v] (truthy v)):=by intro _;rfl):PT X e (tB t):=by
  intro pins s U H Q I hw;refine isTrue_plain (thn (h pins s U H _ I hw) λv s1 zq0=>?_) (he _);obtain ⟨x,H1,I1,r1,q1⟩:=zq0;obtain ⟨d,rfl,q⟩:=q1;cases r1
  exact wpAny_truthy_bool ⟨H1,I1,q⟩
variable {tA tB':TT}{rest:List Expr}
def tAnd (t u:TT):TT:=λU H Q=>t U H λc H1=>if c=true then u U H1 Q else Q false H1
def tOr (t u:TT):TT:=λU H Q=>t U H λc H1=>if c=true then Q true H1 else u U H1 Q
def tNot (t:TT):TT:=λU H Q=>t U H λc H1=>Q (!c) H1
theorem zeT (ha:PT X a tA):PW X (.BoolOp .And [a] pos) tA:=by
  intro wh pins s U H Q I h;refine isTrue_and (thn (ha pins s U H Q I h) λc s1 e=>?_);cases c with
  | true=>exact isTrue_and_nil e
  | false=>exact e
theorem zlb (ha:PT X a tA):PW X (.BoolOp .Or [a] pos) tA:=by
  intro wh pins s U H Q I h;refine isTrue_or (thn (ha pins s U H Q I h) λc s1 e=>?_);cases c with
  | false=>exact isTrue_or_nil e
  | true=>exact e
theorem zgI (ha:PT X a tA)(hb:PW X (.BoolOp .And (b::rest) pos) tB'):PW X (.BoolOp .And (a::b::rest) pos) (tAnd tA tB'):=by
  intro wh pins s U H Q I h;refine isTrue_and (thn (ha pins s U H _ I h) λc s1 zq0=>?_);obtain ⟨H1,I1,q1⟩:=zq0;cases c with
  | true=>exact hb wh pins s1 U H1 Q I1 q1
  | false=>exact ⟨H1,I1,q1⟩
theorem znb (ha:PT X a tA)(hb:PW X (.BoolOp .Or (b::rest) pos) tB'):PW X (.BoolOp .Or (a::b::rest) pos) (tOr tA tB'):=by
  intro wh pins s U H Q I h;refine isTrue_or (thn (ha pins s U H _ I h) λc s1 zq0=>?_);obtain ⟨H1,I1,q1⟩:=zq0;cases c with
  | true=>exact ⟨H1,I1,q1⟩
  | false=>exact hb wh pins s1 U H1 Q I1 q1
theorem zcH (ha:PT X a tA):PT X (.UnaryOp .Not a pos) (tNot tA):=by
  intro pins s U H Q I h;exact isTrue_not (ha pins s U H (λc H1=>Q (!c) H1) I h)
def zum (ta tb:TE):TE:=λU H Q=>ta U H λx H1=>∃ c,x=.bl c/\if c=true then tb U H1 Q else Q (.bl false) H1
def zug (ta:TE):TE:=λU H Q=>ta U H λx H1=>∃ c,x=.bl c/\Q (.bl (!c)) H1
theorem znk {op}{t:TE}(h:PE X a t):PE X (.BoolOp op [a] pos) t:=λpins s U H Q I hw=>BoolOp_one (h pins s U H Q I hw)
theorem znm (ha:PE X a ta)(hb:PE X (.BoolOp .And (b::rest) pos) tb):PE X (.BoolOp .And (a::b::rest) pos) (zum ta tb):=by
  intro pins s U H Q I h;refine BoolOp_and (thn (ha pins s U H _ I h) λv s1 zq0=>?_);obtain ⟨x,H1,I1,r1,q1⟩:=zq0;obtain ⟨c,rfl,q1⟩:=q1;cases r1
  refine wpAny_truthy_bool ?_;cases c with
  | true=>exact hb pins s1 U H1 Q I1 q1
  | false=>exact ⟨.bl false,H1,I1,rfl,q1⟩
theorem ztj (ha:PE X a ta):PE X (.UnaryOp .Not a pos) (zug ta):=by
  intro pins s U H Q I h;refine UnaryOp_ (thn (ha pins s U H _ I h) λv s1 zq0=>?_);obtain ⟨x,H1,I1,r1,q1⟩:=zq0;obtain ⟨c,rfl,q1⟩:=q1;cases r1
  exact not_of (wpAny_truthy_bool ⟨.bl (!c),H1,I1,rfl,q1⟩)
def tIf (t:TT)(ta tb:TE):TE:=λU H Q=>t U H λc H1=>if c=true then ta U H1 Q else tb U H1 Q
theorem zle (hc:PT X c tA)(ha:PE X a ta)(hb:PE X b tb):PE X (.IfExp c a b pos) (tIf tA ta tb):=by
  intro pins s U H Q I h;refine wpAny_IfExp (thn (hc pins s U H _ I h) λd s1 zq0=>?_);obtain ⟨H1,I1,q1⟩:=zq0;cases d with
  | true=>exact ha pins s1 U H1 Q I1 q1
  | false=>exact hb pins s1 U H1 Q I1 q1
end
end L2
namespace L2
open PySem PySem.Spec PyProof.Rows
def SqL (K:Frag)(H:Hp)(a:Addr)(xs:List V):Prop:=
  Rd H a (.lst xs)\/
    ∃(o:Obj) (its:Array Value) (n:Nat),K.lookup a=some o/\o.cls=.type "list"/\o.dict=none/\o.data=.seq its n/\its.size<=sizeLine/\Vals xs its.toList
def SqT (K:Frag)(H:Hp)(a:Addr)(xs:List V):Prop:=
  Rd H a (.tup xs)\/
    ∃(o:Obj) (its:Array Value) (n:Nat),K.lookup a=some o/\o.cls=.type "tuple"/\o.data=.seq its n/\its.size<=sizeLine/\Vals xs its.toList
def absV:Value->Option V
  | .none=>some .non
  | .bool b=>some (.bl b)
  | .int i _=>some (.int i)
  | .str x _=>some (.str x)
  | .bytes b _=>some (.byt b)
  | .float b _=>some (.flt b)
  | .ref a=>some (.ref a)
  | .type n=>some (.ty n)
  | _=>none
theorem RelV.abs {x:V}{u:Value}(r:RelV x u):absV u=some x:=by
  cases x with
  | non=>cases r;rfl
  | bl _=>cases r;rfl
  | int _=>obtain ⟨t,rfl⟩:=r;rfl
  | str _=>obtain ⟨t,rfl⟩:=r;rfl
  | byt _=>obtain ⟨t,rfl⟩:=r;rfl
  | flt _=>obtain ⟨t,rfl⟩:=r;rfl
  | ref _=>cases r;rfl
  | ty _=>cases r;rfl
theorem RelV.inj {x y:V}{u:Value}(r:RelV x u)(q:RelV y u):x=y:=yae (r.abs.symm.trans q.abs)
theorem Vals.inj:∀{xs ys:List V} {us:List Value},Vals xs us->Vals ys us->xs=ys
  | _,_,_,.nil,.nil=>rfl
  | _,_,_,.cons r t,.cons r' t'=>by rw[r.inj r',Vals.inj t t']
section
variable {X:Cx}{pins:List (Addr×Obj)}{U:St}{H:Hp}{s:Shared}{a:Addr}{xs ys:List V}
theorem SqL.of {K:Frag}(h:H a=some (.lst xs)):SqL K H a xs:=.inl (.inl h)
theorem SqT.of {K:Frag}(h:H a=some (.tup xs)):SqT K H a xs:=.inl (.inl h)
theorem Inv.list (I:Inv X pins U H s)(h:SqL X.K H a xs):∃ its:List Value,Vals xs its/\PlainL s.heap a its.toArray/\xs.length<=sizeLine:=by
  rcases h with h|⟨o,its,n,hk,hc,hd,hs,hz,r⟩
  · obtain ⟨z,its,n,r,e⟩:=h.ok I.hok
    exact ⟨its,r,⟨_,n,e,rfl,rfl,rfl⟩,z⟩
  · refine ⟨its.toList,r,⟨o,n,I.kIn a o hk,hc,hd,by simpa using hs⟩,?_⟩
    have e:=r.length;simp only[ybl]at e;lia
theorem Inv.tuple (I:Inv X pins U H s)(h:SqT X.K H a xs):∃ its:List Value,Vals xs its/\IsTup s.heap a its.toArray/\xs.length<=sizeLine:=by
  rcases h with h|⟨o,its,n,hk,hc,hs,hz,r⟩
  · obtain ⟨z,its,r,p⟩:=h.ok I.hok
    exact ⟨its,r,p,z⟩
  · refine ⟨its.toList,r,⟨o,I.kIn a o hk,hc,n,by simpa using hs⟩,?_⟩
    have e:=r.length;simp only[ybl]at e;lia
theorem Inv.list_inj (I:Inv X pins U H s)(h:SqL X.K H a xs)(h':SqL X.K H a ys):xs=ys:=by
  obtain ⟨its,r,⟨o,n,e,_,_,d⟩,_⟩:=I.list h;obtain ⟨its',r',⟨o',n',e',_,_,d'⟩,_⟩:=I.list h';rw[e]at e';cases e'
  rw[d]at d';injection d' with d1 _;have:its=its':=by simpa using congrArg Array.toList d1
  subst this;exact r.inj r'
theorem Inv.tuple_inj (I:Inv X pins U H s)(h:SqT X.K H a xs)(h':SqT X.K H a ys):xs=ys:=by
  obtain ⟨its,r,⟨o,e,_,n,d⟩,_⟩:=I.tuple h;obtain ⟨its',r',⟨o',e',_,n',d'⟩,_⟩:=I.tuple h';rw[e]at e';cases e'
  rw[d]at d';injection d' with d1 _;have:its=its':=by simpa using congrArg Array.toList d1
  subst this;exact r.inj r'
end
abbrev Cx.wish (X:Cx)(E:Value->Shared->Prop):Cx:={ X with xe:=E }
abbrev Cx.nox (X:Cx):Cx:=X.wish λ_ _=>False
theorem Cx.Ok.wish {X:Cx}(ok:X.Ok)(E:Value->Shared->Prop):(X.wish E).Ok:=
  ⟨ok.mod,ok.kind,ok.glob,ok.blt,ok.above,ok.inj,ok.has,ok.cab,ok.hd,ok.frames,ok.stk,ok.exf,ok.bs,ok.bsz,ok.noex,ok.exfs,ok.funs,ok.frf⟩
theorem Cx.Ok.unwish {X:Cx}{E:Value->Shared->Prop}(ok:(X.wish E).Ok):X.Ok:=
  ⟨ok.mod,ok.kind,ok.glob,ok.blt,ok.above,ok.inj,ok.has,ok.cab,ok.hd,ok.frames,ok.stk,ok.exf,ok.bs,ok.bsz,ok.noex,ok.exfs,ok.funs,ok.frf⟩
section
variable {X:Cx}{pins:List (Addr×Obj)}{U:St}{H:Hp}{s:Shared}{E:Value->Shared->Prop}
theorem Inv.wish (I:Inv X pins U H s)(E:Value->Shared->Prop):Inv (X.wish E) pins U H s:=⟨I.ok.wish E,I.os,I.bare,I.base,I.loc,I.cell,I.free,I.freeC,I.pin,I.hok,I.len⟩
theorem Inv.unwish (I:Inv (X.wish E) pins U H s):Inv X pins U H s:=⟨I.ok.unwish,I.os,I.bare,I.base,I.loc,I.cell,I.free,I.freeC,I.pin,I.hok,I.len⟩
theorem SP.unwish {D:Ends}{f:Flow}(h:SP (X.wish E) pins D f s'):SP X pins D f s':=by
  cases f with
  | next=>obtain ⟨U',H',I,q⟩:=h;exact ⟨U',H',I.unwish,q⟩
  | brk=>obtain ⟨U',H',I,q⟩:=h;exact ⟨U',H',I.unwish,q⟩
  | cont=>obtain ⟨U',H',I,q⟩:=h;exact ⟨U',H',I.unwish,q⟩
  | ret u=>obtain ⟨v,U',H',I,r,q⟩:=h;exact ⟨v,U',H',I.unwish,r,q⟩
theorem PSs.nox {st:List Stmt}{t:TS}(h:PSs X.nox st t):PSs X st t:=λpins s U H D I hw=>
  wpAny_mono (h pins s U H D (I.wish _) hw) (λ_ _ q=>q.unwish) λ_ _ z=>False.elim z
end
section
variable {X:Cx}{st:Stmt}{rest:List Stmt}{t u:TS}{e:Expr}{te:TE}{pos:Pos}
def zuh:TS:=λD U H=>D.nx U H
def tSeq (t u:TS):TS:=λD U H=>t { D with nx:=u D } U H
theorem zaD:PSs X [] zuh:=λ_ _ U H _ I h=>wpAny_execs_nil ⟨U,H,I,h⟩
theorem zaj (h1:PS X st t)(h2:PSs X rest u):PSs X (st::rest) (tSeq t u):=by
  intro pins s U H D I h;refine wpAny_execs_cons (thn (h1 pins s U H { D with nx:=u D } I h) λf s1 q=>?_);cases f with
  | next=>
    obtain ⟨U',H',I',q⟩:=q;exact h2 pins s1 U' H' D I' q
  | ret v=>exact q
  | brk=>exact q
  | cont=>exact q
theorem zae (h1:PS X st t):PSs X [st] t:=by
  intro pins s U H D I h;refine wpAny_execs_cons (thn (h1 pins s U H D I h) λf s1 q=>?_);cases f with
  | next=>exact wpAny_execs_nil q
  | ret v=>exact q
  | brk=>exact q
  | cont=>exact q
theorem Inv.quiet {s:Shared}(I:Inv X pins U H s):interactive X.env=false:=by simp[interactive,I.ok.kind]
def zui (te:TE):TS:=λD U H=>te U H λ_ H1=>D.nx U H1
theorem zbi (he:PE X e te)(hs:swapsWith e none pos.line X.env=pure false:=by rfl):PS X (.Expr e pos) (zui te):=by
  intro pins s U H D I h;exact wpAny_Expr_any (thn (he pins s U H _ I h) λv s1 zq0=>(by obtain ⟨x,H1,I1,r1,q1⟩:=zq0;exact ⟨U,H1,I1,q1⟩)) I.quiet hs
def tRet (te:TE):TS:=λD U H=>te U H D.rt
theorem zaw (he:PE X e te):PS X (.Return (some e) pos) (tRet te):=by
  intro pins s U H D I h;exact wpAny_Return_some (thn (he pins s U H _ I h) λv s1 zq0=>(by obtain ⟨x,H1,I1,r1,q1⟩:=zq0;exact ⟨x,U,H1,I1,r1,q1⟩))
def tIfS (c:TT)(t u:TS):TS:=λD U H=>c U H λb H1=>if b=true then t D U H1 else u D U H1
theorem za3 {a:List Stmt}(hc:PT X c tc)(ha:PSs X a t)(hb:PSs X b u):PS X (.If c a b pos) (tIfS tc t u):=by
  intro pins s U H D I h;refine wpAny_If (thn (hc pins s U H _ I h) λd s1 zq0=>?_);obtain ⟨H1,I1,q1⟩:=zq0;cases d with
  | true=>exact ha pins s1 U H1 D I1 q1
  | false=>exact hb pins s1 U H1 D I1 q1
def zsN:TS:=λ_ _ _=>False
theorem za9:PS X st zsN:=λ_ _ _ _ _ _ h=>h.elim
end
abbrev TG:=V->St->Hp->(St->Hp->Prop)->Prop
abbrev TGs:=List V->St->Hp->(St->Hp->Prop)->Prop
def PG (X:Cx)(target:Expr)(t:TG):Prop:=
  ∀(pins:List (Addr×Obj)) (s:Shared) (U:St) (H:Hp) (v:V) (u:Value) (Q:St->Hp->Prop),Inv X pins U H s->RelV v u->t v U H Q->
    wpAny .(d) X.A (assign target X.env u) (λ_ s'=>∃ U' H',Inv X pins U' H' s'/\Q U' H') X.xe s
def PGs (X:Cx)(ts:List Expr)(t:TGs):Prop:=
  ∀(pins:List (Addr×Obj)) (s:Shared) (U:St) (H:Hp) (vs:List V) (us:List Value) (Q:St->Hp->Prop),Inv X pins U H s->Vals vs us->t vs U H Q->
    wpAny .(d) X.A (assignInOrder ((assignEach ts X.env).map (·.2)) us) (λ_ s'=>∃ U' H',Inv X pins U' H' s'/\Q U' H') X.xe s
abbrev TSet:=V->V->V->Hp->(Hp->Prop)->Prop
def PSet (X:Cx)(t:TSet):Prop:=
  ∀(pins:List (Addr×Obj)) (s:Shared) (U:St) (H:Hp) (o i v:V) (ov iv u:Value) (Q:Hp->Prop),Inv X pins U H s->RelV o ov->RelV i iv->RelV v u->t o i v H Q->
    wpAny .(d) X.A (setItem ov iv u) (λ_ s'=>∃ H',Inv X pins U H' s'/\Q H') X.xe s
section
variable {X:Cx}{pos:Pos}
def zko (i:Nat):TG:=λv U H Q=>Q (U.set i (some v)) H
theorem zas {i:Nat}{x:Str}(hN:X.N.Nodup)(hi:X.N[i]?=some x)(hx:Loc X.env.scope x)(hf:X.fn x=true\/X.env.scope.names.lookup x=some .local:=by first|exact .inl rfl|exact .inr rfl|assumption):PG X (.Name x pos) (zko i):=by
  intro pins s U H v u Q I r h;exact wpAny_assign_Name (zhO I hN hi hx r (λs' I'=>⟨_,H,I',h⟩) hf)
def gNil:TGs:=λvs U H Q=>vs=[]/\Q U H
def zuy (t:TG)(u:TGs):TGs:=λvs U H Q=>∃ v r,vs=v::r/\t v U H λU' H'=>u r U' H' Q
theorem zdK:PGs X [] gNil:=by
  intro pins s U H vs us Q I r h;obtain ⟨e,h⟩:=h;subst e;cases r
  exact assignInOrder_nil ⟨U,H,I,h⟩
theorem zaZ {t:TG}(h1:PG X e t)(h2:PGs X es u)
    (hs:(assignEach (e::es) X.env).map (·.2)=assign e X.env::(assignEach es X.env).map (·.2):=by rfl):PGs X (e::es) (zuy t u):=by
  intro pins s U H vs us Q I r h;obtain ⟨v,vr,e1,h⟩:=h;subst e1;cases r with
  | cons r rr=>
    rw[hs];refine assignInOrder_cons (thn (h1 pins s U H _ _ _ I r h) λ_ s1 zq0=>?_);obtain ⟨U1,H1,I1,q1⟩:=zq0;exact h2 pins s1 U1 H1 _ _ Q I1 rr q1
def gTup (K:Frag)(n:Nat)(t:TGs):TG:=λv U H Q=>∃ a xs,v=.ref a/\SqT K H a xs/\xs.length=n/\t xs U H Q
theorem zgN {k:Nat}{t:TGs}{n:Nat}(hc:X.calm=true)(h:PGs X es t)
    (hn:(assignEach es X.env).length=n:=by rfl) (hst:(assignEach es X.env).findIdx? (·.1)=none:=by rfl):PG X (.Tuple es k pos) (gTup X.K n t):=by
  intro pins s U H v u Q I r hw;obtain ⟨a,xs,e1,hq,hl,hw⟩:=hw;subst e1;cases r
  obtain ⟨its,rv,ht,hz⟩:=I.tuple hq;refine assign_Tuple_tuple (I.ok.hd hc) ht (by simp[hn,<-hl,rv.length]) hst λh' hx=>?_;have I1:Inv X pins U H { s with heap:=h' }:=I.kept (t':=s.toks) λb o e=>hx b o (yat (yaf e)) e;exact h pins _ U H xs _ Q I1 (by simpa using rv) hw
def gSub (to ti:TE)(t:TSet):TG:=λv U H Q=>to U H λo H1=>ti U H1 λi H2=>t o i v H2 λH3=>Q U H3
theorem znj {t:TSet}(ho:PE X o to)(hi:PE X i ti)(hs:PSet X t)
    (ha:∀ v,assign (.Subscript o i pos) X.env v=(do
      let ov <-holding [v] (eval o X.env)
      let iv <-holding [v,ov] (eval i X.env)
      standAt pos
      holding [v,ov,iv] (setItem ov iv v)
      release [v,ov,iv] []):=by intro _;rfl):PG X (.Subscript o i pos) (gSub to ti t):=by
  intro pins s U H v u Q I r h;rw[ha];refine wpAny_bind (wpAny_holding (thn (ho pins s U H _ I h) λov s1 zq0=>?_));obtain ⟨x,H1,I1,r1,q1⟩:=zq0;refine wpAny_bind (wpAny_holding (thn (hi pins s1 U H1 _ I1 q1) λiv s2 zq0=>?_));obtain ⟨y,H2,I2,r2,q2⟩:=zq0;refine wpAny_bind (wpAny_standAt (wpAny_bind (wpAny_holding (thn (hs pins s2 U H2 x y v ov iv u _ I2 r1 r2 r q2) λ_ s3 zq0=>?_))));obtain ⟨H3,I3,q3⟩:=zq0;exact wpAny_release ⟨U,H3,I3,q3⟩
def tAsg (te:TE)(g:TG):TS:=λD U H=>te U H λx H1=>g x U H1 D.nx
theorem zi5 (he:PE X e te)(hg:PG X tg g)(hs:swapsWithSole [tg] e pos.line X.env=pure false:=by rfl)(hw:swappedStores [tg] e X.env=pure none:=by rfl)
    (h1:(assignEach [tg] X.env).map (·.2)=[assign tg X.env]:=by rfl):PS X (.Assign [tg] e pos) (tAsg te g):=by
  intro pins s U H D I h;refine wpAny_Assign_stores (thn (he pins s U H _ I h) λv s1 zq0=>?_) hs hw;obtain ⟨x,H1,I1,r1,q1⟩:=zq0;rw[h1];exact thn (hg pins s1 U H1 x v _ I1 r1 q1) λ_ s2 q=>q
theorem zaq {i:Nat}{x:Str}{pos':Pos}(hN:X.N.Nodup)(hi:X.N[i]?=some x)(hx:Loc X.env.scope x)(he:PE X e te)(hs:swapsWith e (some (.Name x pos')) pos.line X.env=pure false:=by rfl)(hf:X.fn x=true\/X.env.scope.names.lookup x=some .local:=by first|exact .inl rfl|exact .inr rfl|assumption) :
    PS X (.Assign [.Name x pos'] e pos) (tAsg te (zko i)):=by
  intro pins s U H D I h;refine wpAny_Assign_Name (thn (he pins s U H _ I h) λv s1 zq0=>?_) hs;obtain ⟨y,H1,I1,r1,q1⟩:=zq0;exact zhO I1 hN hi hx r1 (λs2 I2=>⟨_,H1,I2,q1⟩) hf
end
section
variable {X:Cx}{pos:Pos}
def zmK (c:TT)(tb:TS):TS:=λD U H=>∃ W:Nat->St->Hp->Prop,(∃ m,W m U H)/\∀ m U H,W m U H->
  c U H λb H1=>if b=true then ∃ N:St->Hp->Prop,(∀ U' H',N U' H'->∃ m',m'<m/\W m' U' H')/\tb { D with nx:=N,ct:=N,bk:=D.nx } U H1 else D.nx U H1
theorem zgo (hp:PassesOwn .(d) X.A X.env X.xe)(hc:PT X c tc)(hb:PSs X body tb):PS X (.While c body [] pos) (zmK tc tb):=by
  intro pins s U H D I h;obtain ⟨W,⟨m0,w0⟩,turn⟩:=h;refine wpAny_While (codeAny_whileLoop (λn s'=>∃ U' H',Inv X pins U' H' s'/\W n U' H') ?_ m0 ⟨U,H,I,w0⟩);rintro n s1 ⟨U1,H1,I1,w1⟩;refine wpAny_passesOwn hp (thn (hc pins s1 U1 H1 _ I1 (turn n U1 H1 w1)) λb s2 zq0=>?_);obtain ⟨H2,I2,q2⟩:=zq0;cases b with
  | true=>
    obtain ⟨N,hN,q2⟩:=q2;rw[if_pos rfl];refine wpAny_passesOwn hp (thn (hb pins s2 U1 H2 _ I2 q2) λf s3 q3=>?_);cases f with
    | next=>
      obtain ⟨U3,H3,I3,n3⟩:=q3;obtain ⟨m',hm,w3⟩:=hN U3 H3 n3;exact ⟨m',hm,U3,H3,I3,w3⟩
    | cont=>
      obtain ⟨U3,H3,I3,n3⟩:=q3;obtain ⟨m',hm,w3⟩:=hN U3 H3 n3;exact ⟨m',hm,U3,H3,I3,w3⟩
    | brk=>exact q3
    | ret v=>exact q3
  | false=>
    rw[if_neg yaD];exact wpAny_execs_nil ⟨U1,H2,I2,q2⟩
end
structure It where
  go:Nat->Hp->Prop
  yld:Nat->Hp->V->Hp->Prop
  stop:Nat->Hp->Prop
def FpOk (X:Cx)(pins:List (Addr×Obj))(H:Hp)(b:Addr):Prop:=
  H b=none/\b≠X.env.locals/\b∉X.fs/\(b∈X.ex\/X.s₀.heap.objs.size<=b)/\(∀ x c,X.env.cells.lookup x=some c->c≠b)/\∀ p∈X.pn++pins,p.1≠b
theorem Inv.fpOk {H':Hp}{s:Shared}{b:Addr}(I:Inv X pins U H s)(hb:s.heap.objs.size<=b)(hn:H' b=none):FpOk X pins H' b:=by
  refine ⟨hn,ybm (yaB I.lt hb),I.nofs hb,.inr (yax I.sz hb),λx c e z=>?_,λp hp z=>?_⟩
  · obtain ⟨v,q⟩:=I.cell x c e
    exact absurd (yaB q.lt (by rw[z];exact hb)) (yaO _)
  · exact absurd (yaB (yaf (I.pin p hp).1) (by rw[z];exact hb)) (yaO _)
structure Turn (P:Program)(w:World)(K:Frag)(tg:Expr)(J:It)(fp:List Addr)(it:Addr)(tn:Nat->Heap->Prop):Prop where
  mem:it∈fp
  obj:∀ i h,tn i h->∀ b∈fp,∃ o,h.get? b=some o/\∀ v,o.data≠.cell v
  keep:∀ i h h',tn i h->(∀ b∈fp,∀ o,h.get? b=some o->h'.get? b=some o)->tn i h'
  item:∀(X:Cx),X.prog=P->X.w=w->X.K=K->X.calm=true->∀(i:Nat) (pins:List (Addr×Obj)) (s:Shared) (U:St) (H:Hp) (E:Value->Shared->Prop),Inv X pins U H s->(∀ b∈fp,FpOk X pins H b)->tn i s.heap->J.go i H->
    wpAny (model P w) X.A (pyNext (.ref it)) (λr s1=>∃ u,r=some u/\
      wpAny (model P w) X.A (letOwnedTupleGo tg (.ref it) u) (λ_ s2=>∃ x H',Inv X pins U H' s2/\RelV x u/\J.yld i H x H'/\tn (i+1) s2.heap/\∀ b∈fp,H' b=none) E s1) E s
  done:∀(X:Cx),X.prog=P->X.w=w->X.K=K->X.calm=true->∀(i:Nat) (pins:List (Addr×Obj)) (s:Shared) (U:St) (H:Hp) (E:Value->Shared->Prop),Inv X pins U H s->(∀ b∈fp,FpOk X pins H b)->tn i s.heap->J.stop i H->
    wpAny (model P w) X.A (pyNext (.ref it)) (λr s1=>r=none/\Inv X pins U H s1) E s
  self:∀(A:Around) (i:Nat) (s:Shared) (Q:Value->Shared->Prop) (E:Value->Shared->Prop),tn i s.heap->Q (.ref it) s->wpAny (model P w) A (pyIter (.ref it)) Q E s
abbrev TI:=St->Hp->(It->Hp->Prop)->Prop
def PIE (X:Cx)(pins:List (Addr×Obj))(U:St)(tg:Expr)(R:It->Hp->Prop)(itv:Value)(s2:Shared):Prop:=
  ∃(it:Addr) (fp:List Addr) (tn:Nat->Heap->Prop) (J:It) (H':Hp),itv=.ref it/\Inv X pins U H' s2/\Turn X.prog X.w X.K tg J fp it tn/\tn 0 s2.heap/\(∀ b∈fp,FpOk X pins H' b)/\R J H'
def PI (X:Cx)(tg iter:Expr)(wi:TI):Prop:=
  ∀(pins:List (Addr×Obj)) (s:Shared) (U:St) (H:Hp) (R:It->Hp->Prop),Inv X pins U H s->wi U H R->
    wpAny .(d) X.A (eval iter X.env) (λv s1=>wpAny .(d) X.A (pyIter v) (PIE X pins U tg R) X.xe s1) X.xe s
theorem zqe {M:Model}{A:Around}{E:Value->Shared->Prop}{s:Shared}{tg:Expr}{it:Addr}{u:Value}{o:Obj}{n:String}{vs:Array Value}{Q:Unit->Shared->Prop}(ho:s.heap.get? it=some o)(hc:o.cls=.type n)(hd:o.data=.fields vs)
    (hn:["enumerate","zip","dict_itemiterator","dict_reverseitemiterator","odict_iterator","itertools.zip_longest","itertools.pairwise"].contains n=false) (hQ:Q () s):wpAny M A (letOwnedTupleGo tg (.ref it) u) Q E s:=by
  unfold letOwnedTupleGo;cases tg<;>first
    | exact wpAny_pure hQ
    | (cases u <;> first
        | exact wpAny_pure hQ
        | (refine wpAny_bind (wpAny_load ho ?_)
           rw[hc,hd];show wpAny M A (if (["enumerate","zip","dict_itemiterator","dict_reverseitemiterator","odict_iterator","itertools.zip_longest","itertools.pairwise"].contains n&&vs[0]?==some (rawInt _))=true then _ else _) Q E s
           rw[if_neg (by intro h;rw[hn,Bool.false_and]at h;cases h)]
           exact wpAny_pure hQ))
def Itl (K:Frag)(a:Addr):It:=
  ⟨λi H=>∃ xs x,SqL K H a xs/\xs[i]?=some x,λi H x H'=>H'=H/\∀ xs,SqL K H a xs->xs[i]?=some x,λi H=>∃ xs,SqL K H a xs/\xs.length<=i⟩
def Itt (K:Frag)(a:Addr):It:=
  ⟨λi H=>∃ xs x,SqT K H a xs/\xs[i]?=some x,λi H x H'=>H'=H/\∀ xs,SqT K H a xs->xs[i]?=some x,λi H=>∃ xs,SqT K H a xs/\xs.length<=i⟩
def Itr (lo:Int)(n:Nat):It:=⟨λi _=>i<n,λi H x H'=>H'=H/\x=.int (lo+i),λi _=>n<=i⟩
theorem ziP {K:Frag}(a it:Addr):Turn P w K tg (Itl K a) [it] it (λi h=>h.IsListIter it a i) where
  mem:=by simp
  obj:=λi h st b hb=>by
    have e:b=it:=by simpa using hb
    subst e;obtain ⟨o,e,c,d⟩:=st;exact ⟨o,e,λv z=>by rw[d]at z;cases z⟩
  keep:=λi h h' st k=>st.at λo e=>k it .(h) o e
  item:=by
    intro X hP hw hK hc i pins s U H E I hf st hg;subst hP hw hK;obtain ⟨xs,x,hq,hx⟩:=hg;obtain ⟨its,rv,p,hz⟩:=I.list hq;obtain ⟨u,hu,ru⟩:=rv.get hx;obtain ⟨f0,f1,f2,f3,f4,f5⟩:=hf it .(h);refine wpAny_pyNext_list_item st p.isList (x:=u) (by simpa using hu) λh' st' sb=>?_;have I1:Inv X pins U H { s with heap:=h' }:=I.turned (t':=s.toks) (λb o hb e=>(sb.2 b hb).trans e) f0 f1 f3 f4 f5;obtain ⟨o,e,c,d⟩:=id st';exact ⟨u,rfl,zqe (s:={ s with heap:=h' }) e c d .(i) ⟨x,H,I1,ru,⟨rfl,λys hy=>by rw[I.list_inj hy hq];exact hx⟩,st',λb hb=>(hf b hb).1⟩⟩
  done:=by
    intro X hP hw hK hc i pins s U H E I hf st hg;subst hP hw hK;obtain ⟨xs,hq,hx⟩:=hg;obtain ⟨its,rv,p,hz⟩:=I.list hq;obtain ⟨f0,f1,f2,f3,f4,f5⟩:=hf it .(h);have hl:=rv.length;exact wpAny_pyNext_list_end (I.ok.hd hc) st p.isList (by simp;lia) λh' eb=>⟨rfl,I.turned (t':=s.toks) (λb o hb e=>eb b o hb e) f0 f1 f3 f4 f5⟩
  self:=λ_ _ _ _ _ st h=>wpAny_pyIter_listiter st h
theorem zho {K:Frag}(a it:Addr):Turn P w K tg (Itt K a) [it] it (λi h=>h.IsTupleIter it a i) where
  mem:=by simp
  obj:=λi h st b hb=>by
    have e:b=it:=by simpa using hb
    subst e;obtain ⟨o,e,c,d⟩:=st;exact ⟨o,e,λv z=>by rw[d]at z;cases z⟩
  keep:=λi h h' st k=>st.at λo e=>k it .(h) o e
  item:=by
    intro X hP hw hK hc i pins s U H E I hf st hg;subst hP hw hK;obtain ⟨xs,x,hq,hx⟩:=hg;obtain ⟨its,rv,p,hz⟩:=I.tuple hq;obtain ⟨u,hu,ru⟩:=rv.get hx;obtain ⟨f0,f1,f2,f3,f4,f5⟩:=hf it .(h);refine wpAny_pyNext_tuple_item st (show s.heap.IsTuple a its.toArray from p) (x:=u) (by simpa using hu) λh' st' sb=>?_;have I1:Inv X pins U H { s with heap:=h' }:=I.turned (t':=s.toks) (λb o hb e=>(sb.2 b hb).trans e) f0 f1 f3 f4 f5;obtain ⟨o,e,c,d⟩:=id st';exact ⟨u,rfl,zqe (s:={ s with heap:=h' }) e c d .(i) ⟨x,H,I1,ru,⟨rfl,λys hy=>by rw[I.tuple_inj hy hq];exact hx⟩,st',λb hb=>(hf b hb).1⟩⟩
  done:=by
    intro X hP hw hK hc i pins s U H E I hf st hg;subst hP hw hK;obtain ⟨xs,hq,hx⟩:=hg;obtain ⟨its,rv,p,hz⟩:=I.tuple hq;obtain ⟨f0,f1,f2,f3,f4,f5⟩:=hf it .(h);have hl:=rv.length;exact wpAny_pyNext_tuple_end (I.ok.hd hc) st (show s.heap.IsTuple a its.toArray from p) (by simp;lia) λh' eb=>⟨rfl,I.turned (t':=s.toks) (λb o hb e=>eb b o hb e) f0 f1 f3 f4 f5⟩
  self:=λ_ _ _ _ _ st h=>wpAny_pyIter_tupleiter st h
theorem zlH {K:Frag}(it:Addr)(lo:Int)(n:Nat):Turn P w K tg (Itr lo n) [it] it (λi h=>IsRangeIter h it (lo+(i:Nat)*1) ((n:Int)-(i:Nat)) 1) where
  mem:=by simp
  obj:=λi h st b hb=>by
    have e:b=it:=by simpa using hb
    subst e;exact ⟨_,st,λv z=>by
      have z':Data.fields _=Data.cell v:=z;cases z'⟩
  keep:=λi h h' st k=>k it .(h) _ st
  item:=by
    intro X hP hw hK hc i pins s U H E I hf st hg;subst hP hw hK;obtain ⟨f0,f1,f2,f3,f4,f5⟩:=hf it .(h);have W:=Walks.range (prog:=X.prog) (w:=X.w) (I.ok.hd hc) it lo 1 n;refine W.item i s _ _ hg st λv h' tk hv st' kk=>?_;obtain ⟨t,rfl⟩:=hv;have I1:Inv X pins U H { s with heap:=h',toks:=tk }:=I.turned (λb o hb e=>kk b o (by simpa using hb) e) f0 f1 f3 f4 f5;refine ⟨_,rfl,zqe (s:={ s with heap:=h',toks:=tk }) (n := "range_iterator") st' rfl rfl .(i) ⟨.int (lo+i),H,I1,⟨t,?_⟩,⟨rfl,rfl⟩,st',λb hb=>(hf b hb).1⟩⟩;rw[Int.mul_one]
  done:=by
    intro X hP hw hK hc i pins s U H E I hf st hg;subst hP hw hK;obtain ⟨f0,f1,f2,f3,f4,f5⟩:=hf it .(h);exact wpAny_pyNext_range_end (I.ok.hd hc) st (by have:n<=i:=hg;lia) λh' eb=>⟨rfl,I.turned (t':=s.toks) (λb o hb e=>eb b o hb e) f0 f1 f3 f4 f5⟩
  self:=λ_ _ _ _ _ st h=>wpAny_pyIter_rangeiter st h
end L2
namespace L2
open PySem PySem.Spec PyProof.Rows
section
variable {X:Cx}{tg:Expr}
def zuu (K:Frag)(tl:TE):TI:=λU H R=>tl U H λx H1=>∃ a,x=.ref a/\(∃ xs,SqL K H1 a xs)/\R (Itl K a) H1
def iTup (K:Frag)(tl:TE):TI:=λU H R=>tl U H λx H1=>∃ a,x=.ref a/\(∃ xs,SqT K H1 a xs)/\R (Itt K a) H1
theorem zbM (hl:PE X l tl):PI X tg l (zuu X.K tl):=by
  intro pins s U H R I h;refine thn (hl pins s U H _ I h) λv s1 zq0=>?_;obtain ⟨x,H1,I1,r1,q1⟩:=zq0;obtain ⟨a,e,⟨xs,hq⟩,q⟩:=q1;subst e;cases r1
  obtain ⟨its,rv,p,hz⟩:=I1.list hq;refine wpAny_pyIter_list p.isList ?_;refine ⟨s1.heap.objs.size,[s1.heap.objs.size],_,_,H1,rfl,I1.kept (t':=s1.toks) λb o e=>yak _ e,ziP a _,⟨_,yaI _ rfl,rfl,rfl⟩,λb hb=>?_,q⟩;have e:b=s1.heap.objs.size:=by simpa using hb
  subst e;exact I1.fpOk (yaa _) (I1.hok.fresh (yaa _))
theorem zhv (hl:PE X l tl):PI X tg l (iTup X.K tl):=by
  intro pins s U H R I h;refine thn (hl pins s U H _ I h) λv s1 zq0=>?_;obtain ⟨x,H1,I1,r1,q1⟩:=zq0;obtain ⟨a,e,⟨xs,hq⟩,q⟩:=q1;subst e;cases r1
  obtain ⟨its,rv,p,hz⟩:=I1.tuple hq;refine wpAny_pyIter_tuple (show s1.heap.IsTuple a its.toArray from p) ?_;refine ⟨s1.heap.objs.size,[s1.heap.objs.size],_,_,H1,rfl,I1.kept (t':=s1.toks) λb o e=>yak _ e,zho a _,⟨_,yaI _ rfl,rfl,rfl⟩,λb hb=>?_,q⟩;have e:b=s1.heap.objs.size:=by simpa using hb
  subst e;exact I1.fpOk (yaa _) (I1.hok.fresh (yaa _))
theorem zla {R:It->Hp->Prop}{E:Value->Shared->Prop}{lo hi:Int}{t u v:Tok}{tk:Nat}(I:Inv X pins U H s)(h1:-(2^62)<=lo)(h2:lo<2^62)(h3:-(2^62)<=hi)(h4:hi<2^62)
    (q:R (Itr lo (hi-lo).toNat) H):wpAny .(d) X.A (pyIter (.ref s.heap.objs.size)) (PIE X pins U tg R) E { s with heap:=s.heap.push { cls:=.type "range",data:=.fields #[.int lo t,.int hi u,.int 1 v] },toks:=tk }:=by
  refine wpAny_pyIter_range (IsRange.new ..) (small_one h1 h2 h3 h4) ?_;have I1:Inv X pins U H { s with heap:=s.heap.push { cls:=.type "range",data:=.fields #[.int lo t,.int hi u,.int 1 v] },toks:=tk }:=I.kept λb o e=>yak _ e;refine ⟨(s.heap.push { cls:=.type "range",data:=.fields #[.int lo t,.int hi u,.int 1 v] }).objs.size,[(s.heap.push { cls:=.type "range",data:=.fields #[.int lo t,.int hi u,.int 1 v] }).objs.size],_,_,H,rfl,
    I1.kept (t':=tk) λb o e=>yak _ e,zlH _ lo (hi-lo).toNat,?_,λb hb=>?_,q⟩
  · have e1:lo+((0:Nat):Int)*1=lo:=by simp
    have e2:(((hi-lo).toNat:Nat):Int)-((0:Nat):Int)=Builtin.Range.rangeSize lo hi 1:=by rw[rangeSize_one];split<;>lia
    show IsRangeIter _ _ (lo+((0:Nat):Int)*1) ((((hi-lo).toNat:Nat):Int)-((0:Nat):Int)) 1;rw[e1,e2];exact yaI _ rfl
  · have e:b=(s.heap.push { cls:=.type "range",data:=.fields #[.int lo t,.int hi u,.int 1 v] }).objs.size:=by simpa using hb
    subst e;exact I1.fpOk (yaa _) (I1.hok.fresh (yaa _))
def zut (ta:TA):TI:=λU H R=>ta U H λvs H1=>∃ j:Int,vs=[.int j]/\-(2^62)<=j/\j<2^62/\R (Itr 0 j.toNat) H1
def zus (ta:TA):TI:=λU H R=>ta U H λvs H1=>∃ i j:Int,vs=[.int i,.int j]/\(-(2^62)<=i/\i<2^62/\-(2^62)<=j/\j<2^62)/\R (Itr i (j-i).toNat) H1
theorem zbQ {a:Expr}{p pos:Pos}(hg:Gl X "range")(hm:X.mg "range" = none)(ha:PA X [a] ta)(hs:starEach [a] X.env=[(false,eval a X.env)]:=by rfl):PI X tg (.Call (.Name "range" p) [a] [] pos) (zut ta):=by
  intro pins s U H R I h;refine Call_ (zfZ I hg hm boot_range (PyProof.Rows.callWith_type1 (thn (ha pos pins s U H _ I h) λus s1 zq0=>?_) hs rfl));obtain ⟨vs,H1,I1,r1,q1⟩:=zq0;obtain ⟨j,e,q1,q2,q⟩:=q1;subst e;cases r1 with
  | cons r rr=>
    cases rr
    obtain ⟨t,rfl⟩:=r;exact call_range_1 (zla I1 .(a) .(a) q1 q2 (by simpa using q))
theorem zdj {a b:Expr}{p pos:Pos}(hg:Gl X "range")(hm:X.mg "range" = none)(ha:PA X [a,b] ta)(hs:starEach [a,b] X.env=[(false,eval a X.env),(false,eval b X.env)]:=by rfl)(hs2:starEach [b] X.env=[(false,eval b X.env)]:=by rfl) :
    PI X tg (.Call (.Name "range" p) [a,b] [] pos) (zus ta):=by
  intro pins s U H R I h;refine Call_ (zfZ I hg hm boot_range (PyProof.Rows.callWith_type1 (thn (ha pos pins s U H _ I h) λus s1 zq0=>?_) (by rw[hs,hs2]) (by rw[hs2];rfl)));obtain ⟨vs,H1,I1,r1,q1⟩:=zq0;obtain ⟨i,j,e,⟨q1,q2,q3,q4⟩,q⟩:=q1;subst e;cases r1 with
  | cons r rr=>
    cases rr with
    | cons r' rr=>
      cases rr
      obtain ⟨t,rfl⟩:=r;obtain ⟨t',rfl⟩:=r';exact call_range_2 (zla I1 q1 q2 q3 q4 q)
def tFor (wi:TI)(g:TG)(tb:TS):TS:=λD U H=>wi U H λJ H1=>∃ W:Nat->Nat->St->Hp->Prop,(∃ m,W 0 m U H1)/\∀ i m U H,W i m U H->
  (J.stop i H/\D.nx U H)\/(J.go i H/\∃ N:St->Hp->Prop,(∀ U' H',N U' H'->∃ m',m'<m/\W (i+1) m' U' H')/\∀ x H',J.yld i H x H'->g x U H' λU2 H2=>tb { D with nx:=N,ct:=N,bk:=D.nx } U2 H2)
def zi7 (fp:List Addr)(h:Heap):List (Addr×Obj):=fp.filterMap λb=>(h.get? b).map λo=>(b,o)
theorem zeG {fp:List Addr}{h:Heap}{b:Addr}{o:Obj}(hb:b∈fp)(e:h.get? b=some o):(b,o)∈zi7 fp h:=List.mem_filterMap.mpr ⟨b,hb,by rw[e];rfl⟩
theorem znJ {p:Addr×Obj}(hp:p∈zi7 fp h):p.1∈fp/\h.get? p.1=some p.2:=by
  obtain ⟨b,hb,e⟩:=List.mem_filterMap.mp hp;cases q:h.get? b with
  | none=>rw[q]at e;cases e
  | some o=>
    rw[q]at e;have e':(b,o)=p:=yae e;subst e';exact ⟨hb,q⟩
theorem Inv.pinned {s:Shared}{fp:List Addr}(I:Inv X pins U H s)(hf:∀ b∈fp,FpOk X pins H b)(ho:∀ b∈fp,∃ o,s.heap.get? b=some o/\∀ v,o.data≠.cell v):Inv X (pins++zi7 fp s.heap) U H s:=
  I.pins_of λp hp=>(yaw.mp hp).elim (λz=>I.pin p (yaZ _ z)) λz=>by
    obtain ⟨hb,e⟩:=znJ z;obtain ⟨f0,f1,f2,_⟩:=hf p.1 hb;obtain ⟨o,e',d⟩:=ho p.1 hb;rw[e]at e';cases e'
    exact ⟨e,f0,f1,f2,d⟩
theorem Inv.unpinned {pins pl:List (Addr×Obj)}{s:Shared}(I:Inv X (pins++pl) U H s):Inv X pins U H s:=I.pins_of λp hp=>I.pin p (yaZ _ (List.mem_append_left _ hp))
theorem zbr {pos:Pos}(hp:PassesOwn .(d) X.A X.env X.xe)(hc:X.calm=true)(hi:PI X tg iter wi)(hg:PG X tg g)(hb:PSs X body tb)
    (hs:∀ x,foldedSetIterable iter X.env x=pure x:=by intro _;rfl):PS X (.For tg iter body [] pos) (tFor wi g tb):=by
  intro pins s U H D I h;refine wpAny_For (thn (hi pins s U H _ I h) λv s1 h1=>thn h1 λitv s2 h2=>?_) hs;obtain ⟨it,fp,tn,J,H2,e,I2,T,st2,f2,W,⟨m0,w0⟩,turn⟩:=h2;subst e;have stat:∀{H':Hp},(∀ b∈fp,H' b=none)->∀ b∈fp,FpOk X pins H' b:=λhn b hb=>⟨hn b hb,(f2 b hb).2⟩;refine codeAny_forLoop_any (λn s'=>∃ i U' H',Inv X pins U' H' s'/\tn i s'.heap/\(∀ b∈fp,H' b=none)/\W i n U' H') ?_ m0 ⟨0,U,H2,I2,st2,λb hb=>(f2 b hb).1,w0⟩;rintro n s3 ⟨i,U3,H3,I3,st3,fr3,w3⟩;rcases turn i n U3 H3 w3 with ⟨stop,qn⟩|⟨go,N,hN,step⟩
  · refine wpAny_passesOwn hp (thn (T.done X rfl rfl rfl hc i pins s3 U3 H3 X.xe I3 (stat fr3) st3 stop) λr s4 zq0=>?_)
    obtain ⟨hr,I4⟩:=zq0;subst hr;exact wpAny_execs_nil ⟨U3,H3,I4,qn⟩
  · refine wpAny_passesOwn hp (thn (T.item X rfl rfl rfl hc i pins s3 U3 H3 X.xe I3 (stat fr3) st3 go) λr s4 zq0=>?_)
    obtain ⟨u,hr,h4⟩:=zq0;subst hr;refine wpAny_passesOwn hp (thn h4 λ_ s5 zq0=>?_);obtain ⟨x,H5,I5,r5,y5,st5,fr5⟩:=zq0;have I5':=I5.pinned (stat fr5) (T.obj _ _ st5);refine wpAny_passesOwn hp (thn (hg _ s5 U3 H5 x u _ I5' r5 (step x H5 y5)) λ_ s6 zq0=>?_);obtain ⟨U6,H6,I6,q6⟩:=zq0;refine wpAny_passesOwn hp (thn (hb _ s6 U6 H6 _ I6 q6) λf s7 q7=>?_);have again:∀{U7:St} {H7:Hp},Inv X (pins++zi7 fp s5.heap) U7 H7 s7->N U7 H7->∃ m,m<n/\∃ i U' H',Inv X pins U' H' s7/\tn i s7.heap/\(∀ b∈fp,H' b=none)/\W i m U' H':=λ{U7 H7} I7 n7=>by
      obtain ⟨m',hm,w7⟩:=hN U7 H7 n7;refine ⟨m',hm,i+1,U7,H7,I7.unpinned,T.keep _ _ _ st5 λb hb o e=>(I7.pin (b,o) (yaZ _ (yaZ _ (zeG hb e)))).1,λb hb=>?_,w7⟩;obtain ⟨o,e,d⟩:=T.obj _ _ st5 b hb;exact (I7.pin (b,o) (yaZ _ (yaZ _ (zeG hb e)))).2.1
    cases f with
    | next=>obtain ⟨U7,H7,I7,n7⟩:=q7;exact again I7 n7
    | cont=>obtain ⟨U7,H7,I7,n7⟩:=q7;exact again I7 n7
    | brk=>obtain ⟨U7,H7,I7,q7⟩:=q7;exact ⟨U7,H7,I7.unpinned,q7⟩
    | ret v=>obtain ⟨x7,U7,H7,I7,r7,q7⟩:=q7;exact ⟨x7,U7,H7,I7.unpinned,r7,q7⟩
end
theorem zdS {K:Frag}{a:Addr}{g:TG}{tb:TS}{D:Ends}{U:St}{H:Hp}(Pv:Nat->St->Hp->Prop)(h0:Pv 0 U H)(hl:∀ i U H,i<=xs.length->Pv i U H->SqL K H a xs)
    (hs:∀ i x U H,xs[i]?=some x->Pv i U H->g x U H λU2 H2=>tb { D with nx:=Pv (i+1),ct:=Pv (i+1),bk:=D.nx } U2 H2) (hd:∀ U H,Pv xs.length U H->D.nx U H) :
    ∃ W:Nat->Nat->St->Hp->Prop,(∃ m,W 0 m U H)/\∀ i m U H,W i m U H->
      ((Itl K a).stop i H/\D.nx U H)\/((Itl K a).go i H/\∃ N:St->Hp->Prop,(∀ U' H',N U' H'->∃ m',m'<m/\W (i+1) m' U' H')/\∀ x H',(Itl K a).yld i H x H'->g x U H' λU2 H2=>tb { D with nx:=N,ct:=N,bk:=D.nx } U2 H2):=by
  refine ⟨λi m U H=>m=xs.length-i/\i<=xs.length/\Pv i U H,⟨xs.length,by simp,yaG _,h0⟩,?_⟩;rintro i m U H ⟨rfl,hi,p⟩;have q:=hl i U H hi p;by_cases hlt:i<xs.length
  · refine .inr ⟨⟨xs,xs[i],q,by simp[hlt]⟩,Pv (i+1),λU' H' p'=>⟨xs.length-(i+1),by lia,rfl,hlt,p'⟩,λx H' y=>?_⟩
    obtain ⟨e,y⟩:=y;subst e;exact hs i x U _ (y xs q) p
  · have e:i=xs.length:=by lia
    subst e;exact .inl ⟨⟨xs,q,yaa _⟩,hd U H p⟩
theorem zow {K:Frag}{a:Addr}{g:TG}{tb:TS}{D:Ends}{U:St}{H:Hp}(Pv:Nat->St->Hp->Prop)(h0:Pv 0 U H)(hl:∀ i U H,i<=xs.length->Pv i U H->SqT K H a xs)
    (hs:∀ i x U H,xs[i]?=some x->Pv i U H->g x U H λU2 H2=>tb { D with nx:=Pv (i+1),ct:=Pv (i+1),bk:=D.nx } U2 H2) (hd:∀ U H,Pv xs.length U H->D.nx U H) :
    ∃ W:Nat->Nat->St->Hp->Prop,(∃ m,W 0 m U H)/\∀ i m U H,W i m U H->
      ((Itt K a).stop i H/\D.nx U H)\/((Itt K a).go i H/\∃ N:St->Hp->Prop,(∀ U' H',N U' H'->∃ m',m'<m/\W (i+1) m' U' H')/\∀ x H',(Itt K a).yld i H x H'->g x U H' λU2 H2=>tb { D with nx:=N,ct:=N,bk:=D.nx } U2 H2):=by
  refine ⟨λi m U H=>m=xs.length-i/\i<=xs.length/\Pv i U H,⟨xs.length,by simp,yaG _,h0⟩,?_⟩;rintro i m U H ⟨rfl,hi,p⟩;have q:=hl i U H hi p;by_cases hlt:i<xs.length
  · refine .inr ⟨⟨xs,xs[i],q,by simp[hlt]⟩,Pv (i+1),λU' H' p'=>⟨xs.length-(i+1),by lia,rfl,hlt,p'⟩,λx H' y=>?_⟩
    obtain ⟨e,y⟩:=y;subst e;exact hs i x U _ (y xs q) p
  · have e:i=xs.length:=by lia
    subst e;exact .inl ⟨⟨xs,q,yaa _⟩,hd U H p⟩
theorem zbA {lo:Int}{n:Nat}{g:TG}{tb:TS}{D:Ends}{U:St}{H:Hp}(Pv:Nat->St->Hp->Prop)(h0:Pv 0 U H)
    (hs:∀ i U H,i<n->Pv i U H->g (.int (lo+i)) U H λU2 H2=>tb { D with nx:=Pv (i+1),ct:=Pv (i+1),bk:=D.nx } U2 H2) (hd:∀ U H,Pv n U H->D.nx U H) :
    ∃ W:Nat->Nat->St->Hp->Prop,(∃ m,W 0 m U H)/\∀ i m U H,W i m U H->
      ((Itr lo n).stop i H/\D.nx U H)\/((Itr lo n).go i H/\∃ N:St->Hp->Prop,(∀ U' H',N U' H'->∃ m',m'<m/\W (i+1) m' U' H')/\∀ x H',(Itr lo n).yld i H x H'->g x U H' λU2 H2=>tb { D with nx:=N,ct:=N,bk:=D.nx } U2 H2):=by
  refine ⟨λi m U H=>m=n-i/\i<=n/\Pv i U H,⟨n,by simp,yaG _,h0⟩,?_⟩;rintro i m U H ⟨rfl,hi,p⟩;by_cases hlt:i<n
  · refine .inr ⟨hlt,Pv (i+1),λU' H' p'=>⟨n-(i+1),by lia,rfl,hlt,p'⟩,λx H' y=>?_⟩
    obtain ⟨e,y⟩:=y;subst e y;exact hs i U _ hlt p
  · have e:i=n:=by lia
    subst e;exact .inl ⟨yaa _,hd U H p⟩
theorem zo4 {c:TT}{tb:TS}{D:Ends}{U:St}{H:Hp}(Pv:St->Hp->Prop)(μ:St->Hp->Nat)(h0:Pv U H)
    (hs:∀ U H,Pv U H->c U H λb H1=>if b=true then tb { D with nx:=λU' H'=>Pv U' H'/\μ U' H'<μ U H,ct:=λU' H'=>Pv U' H'/\μ U' H'<μ U H,bk:=D.nx } U H1 else D.nx U H1)
    (mono:∀ U H Q Q',(∀ b H1,Q b H1->Q' b H1)->c U H Q->c U H Q'):zmK c tb D U H:=by
  refine ⟨λm U H=>m=μ U H/\Pv U H,⟨_,rfl,h0⟩,?_⟩;rintro m U H ⟨rfl,p⟩;refine mono U H _ _ (λb H1 q=>?_) (hs U H p);cases b with
  | true=>exact ⟨_,λU' H' ⟨p',l⟩=>⟨_,l,rfl,p'⟩,q⟩
  | false=>exact q
end L2
namespace L2
open PySem PySem.Spec PyProof.Rows
abbrev R2:=V->V->Hp->VK->Prop
def OpR (X:Cx)(f:Value->Value->Sem Value)(r:R2):Prop:=
  ∀(pins:List (Addr×Obj)) (s:Shared) (U:St) (H:Hp) (x y:V) (v u:Value) (Q:VK),Inv X pins U H s->RelV x v->RelV y u->r x y H Q->
    wpAny .(d) X.A (f v u) (EP X pins U Q) X.xe s
def UnR (X:Cx)(f:Value->Sem Value)(r:V->Hp->VK->Prop):Prop:=
  ∀(pins:List (Addr×Obj)) (s:Shared) (U:St) (H:Hp) (x:V) (v:Value) (Q:VK),Inv X pins U H s->RelV x v->r x H Q->
    wpAny .(d) X.A (f v) (EP X pins U Q) X.xe s
def zdg (X:Cx)(f:Value)(r:List V->Hp->VK->Prop):Prop:=
  ∀(pins:List (Addr×Obj)) (s:Shared) (U:St) (H:Hp) (xs:List V) (us:List Value) (Q:VK),Inv X pins U H s->Vals xs us->r xs H Q->
    wpAny .(d) X.A (call f us) (EP X pins U Q) X.xe s
def tOp (r:R2)(ta tb:TE):TE:=λU H Q=>ta U H λx H1=>tb U H1 λy H2=>r x y H2 Q
def tUn (r:V->Hp->VK->Prop)(ta:TE):TE:=λU H Q=>ta U H λx H1=>r x H1 Q
def rI (C:Int->Int->Prop)(g:Int->Int->V):R2:=λx y H Q=>∃ i j,x=.int i/\y=.int j/\C i j/\Q (g i j) H
def rI0 (g:Int->Int->V):R2:=λx y H Q=>∃ i j,x=.int i/\y=.int j/\Q (g i j) H
def rU (g:Int->V):V->Hp->VK->Prop:=λx H Q=>∃ i,x=.int i/\Q (g i) H
section
variable {X:Cx}{a b c:Expr}{ta tb tc:TE}{pos:Pos}
theorem binT (ha:PE X a ta)(hb:PE X b tb){R:V->V->Hp->Prop}(I:Inv X pins U H s)
    (h:ta U H λx H1=>tb U H1 λy H2=>R x y H2) {Q:Value->Shared->Prop} {f:Value->Value->Sem Value}
    (hf:∀ v u s2 x y H2,Inv X pins U H2 s2->RelV x v->RelV y u->R x y H2->wpAny .(d) X.A (f v u) Q X.xe s2) :
    wpAny .(d) X.A (eval a X.env) (λv s₁=>wpAny .(d) X.A (eval b X.env) (λu s₂=>wpAny .(d) X.A (f v u) Q X.xe s₂) X.xe s₁) X.xe s:=by
  refine thn (ha pins s U H _ I h) λv s1 zq0=>?_;obtain ⟨x,H1,I1,r1,q1⟩:=zq0;refine thn (hb pins s1 U H1 _ I1 q1) λu s2 zq0=>?_;obtain ⟨y,H2,I2,r2,q2⟩:=zq0;exact hf v u s2 x y H2 I2 r1 r2 q2
theorem zaG {op:Operator}(ho:OpR X (binaryOp op) r)(ha:PE X a ta)(hb:PE X b tb):PE X (.BinOp a op b pos) (tOp r ta tb):=by
  intro pins s U H Q I h;exact wpAny_BinOp (binT ha hb I h λv u s2 x y H2 I2 rx ry q=>ho pins s2 U H2 x y v u Q I2 rx ry q)
theorem zib {op:UnaryOp}(ho:UnR X (unaryOp op) r)(ha:PE X a ta):PE X (.UnaryOp op a pos) (tUn r ta):=by
  intro pins s U H Q I h;exact UnaryOp_ (thn (ha pins s U H _ I h) λv s1 zq0=>(by obtain ⟨x,H1,I1,r1,q1⟩:=zq0;exact ho pins s1 U H1 x v Q I1 r1 q1))
theorem opI {f:Value->Value->Sem Value}{C:Int->Int->Prop}{g:Int->Int->Int}
    (rule:∀(i j:Int) (t u:Tok) (s:Shared) (Q:Value->Shared->Prop) (E:Value->Shared->Prop),C i j->Q (.int (g i j) s.toks) { s with toks:=s.toks+1 }->wpAny .(d) X.A (f (.int i t) (.int j u)) Q E s) :
    OpR X f (rI C λi j=>.int (g i j)):=by
  intro pins s U H x y v u Q I rx ry h;obtain ⟨i,j,rfl,rfl,hc,q⟩:=h;obtain ⟨t,rfl⟩:=rx;obtain ⟨t',rfl⟩:=ry;exact rule i j t t' s _ _ hc ⟨.int (g i j),H,I.tok _,⟨_,rfl⟩,q⟩
theorem opI0 {f:Value->Value->Sem Value}{g:Int->Int->Int}
    (rule:∀(i j:Int) (t u:Tok) (s:Shared) (Q:Value->Shared->Prop) (E:Value->Shared->Prop),Q (.int (g i j) s.toks) { s with toks:=s.toks+1 }->wpAny .(d) X.A (f (.int i t) (.int j u)) Q E s) :
    OpR X f (rI0 λi j=>.int (g i j)):=by
  intro pins s U H x y v u Q I rx ry h;obtain ⟨i,j,rfl,rfl,q⟩:=h;obtain ⟨t,rfl⟩:=rx;obtain ⟨t',rfl⟩:=ry;exact rule i j t t' s _ _ ⟨.int (g i j),H,I.tok _,⟨_,rfl⟩,q⟩
theorem opB0 {f:Value->Value->Sem Value}{g:Int->Int->Bool}
    (rule:∀(i j:Int) (t u:Tok) (s:Shared) (Q:Value->Shared->Prop) (E:Value->Shared->Prop),Q (.bool (g i j)) s->wpAny .(d) X.A (f (.int i t) (.int j u)) Q E s) :
    OpR X f (rI0 λi j=>.bl (g i j)):=by
  intro pins s U H x y v u Q I rx ry h;obtain ⟨i,j,rfl,rfl,q⟩:=h;obtain ⟨t,rfl⟩:=rx;obtain ⟨t',rfl⟩:=ry;exact rule i j t t' s _ _ ⟨.bl (g i j),H,I,rfl,q⟩
def CDiv (i j:Int):Prop:=0<j/\j<1073741824
def CPow (i j:Int):Prop:=0<=j/\j<=1000000/\i.natAbs<2^64
def CMul (i j:Int):Prop:=(-(2^64)<i/\i<2^64)\/(-(2^64)<j/\j<2^64)
theorem CMul.ok (h:CMul i j):IntMulOk i j:=by
  rcases h with ⟨h1,h2⟩|⟨h1,h2⟩
  · exact .of_left (intBits_le_64 h1 h2)
  · exact .of_right (intBits_le_64 h1 h2)
theorem zlG (k:Nat):(0:Int)<=2^k:=by
  rw[two_pow_cast];exact ybn _
theorem zbn:OpR X (binaryOp .Add) (rI0 λi j=>.int (i+j)):=opI0 λ_ _ _ _ _ _ _ q=>add_int q
theorem zdb:OpR X (binaryOp .Sub) (rI0 λi j=>.int (i-j)):=opI0 λ_ _ _ _ _ _ _ q=>sub_int q
theorem zdl:OpR X (binaryOp .Mult) (rI CMul λi j=>.int (i*j)):=opI λ_ _ _ _ _ _ _ hc q=>mul_int q hc.ok
theorem zj6:OpR X (binaryOp .FloorDiv) (rI CDiv λi j=>.int (i/j)):=opI λi j _ _ _ _ _ hc q=>by
  have h1:(0:Int)<j:=hc.1;have h2:j<1073741824:=hc.2;exact floordiv_int .(a) (by rw[Int.fdiv_eq_ediv_of_nonneg i .(a)];exact q) (.inl (PyProof.noPylong_small .(a)))
theorem zfV:OpR X (binaryOp .Mod) (rI (λ_ j=>0<j) λi j=>.int (i%j)):=opI λi j _ _ _ _ _ hc q=>by
  have h1:(0:Int)<j:=hc;exact mod_int' .(a) (by rw[Int.fmod_eq_emod_of_nonneg i .(a)];exact q)
theorem zgS:OpR X (binaryOp .Pow) (rI CPow λi j=>.int (i^j.toNat)):=opI λ_ _ _ _ _ _ _ hc q=>pow_int_small hc.1 hc.2.1 hc.2.2 q
theorem zto:OpR X (binaryOp .RShift) (rI (λ_ j=>0<=j) λi j=>.int (i/2^j.toNat)):=opI λi j _ _ _ _ _ hc q=>
  rshift_int hc (by rw[Int.fdiv_eq_ediv_of_nonneg i (zlG _)];exact q)
theorem zqX:OpR X (binaryOp .BitAnd) (rI0 λi j=>.int (Builtin.bitAnd i j)):=opI0 λ_ _ _ _ _ _ _ q=>and_int q
theorem ztn:OpR X (binaryOp .BitXor) (rI0 λi j=>.int (Builtin.bitXor i j)):=opI0 λ_ _ _ _ _ _ _ q=>xor_int q
theorem unI {f:Value->Sem Value}{g:Int->Int}
    (rule:∀(i:Int) (t:Tok) (s:Shared) (Q:Value->Shared->Prop) (E:Value->Shared->Prop),Q (.int (g i) s.toks) { s with toks:=s.toks+1 }->wpAny .(d) X.A (f (.int i t)) Q E s) :
    UnR X f (rU λi=>.int (g i)):=by
  intro pins s U H x v Q I rx h;obtain ⟨i,rfl,q⟩:=h;obtain ⟨t,rfl⟩:=rx;exact rule i t s _ _ ⟨.int (g i),H,I.tok _,⟨_,rfl⟩,q⟩
theorem ze4:UnR X (unaryOp .USub) (rU λi=>.int (-i)):=unI λ_ _ _ _ _ q=>neg_int q
end
def scal:V->V->Bool
  | .non,.non=>true|.non,.int _=>true|.int _,.non=>true|.non,.bl _=>true|.bl _,.non=>true|.non,.str _=>true|.str _,.non=>true
  | .int _,.int _=>true|.bl _,.bl _=>true|.str _,.str _=>true|.byt _,.byt _=>true
  | .int _,.str _=>true|.str _,.int _=>true|.bl _,.str _=>true|.str _,.bl _=>true
  | _,_=>false
def rEq:R2:=λx y H Q=>scal x y=true/\Q (.bl (decide (x=y))) H
def rNe:R2:=λx y H Q=>scal x y=true/\Q (.bl (!decide (x=y))) H
theorem zoF {i j:Int}:decide (V.int i=V.int j)=(i==j):=by
  rw[yb0];simp
theorem zre {i j:Bool}:decide (V.bl i=V.bl j)=(i==j):=by
  rw[yb0];simp
theorem zoE {i j:Str}:decide (V.str i=V.str j)=(i==j):=by
  rw[yb0];simp
theorem zoG {i j:Array UInt8}:decide (V.byt i=V.byt j)=(i.toList==j.toList):=by
  rw[yb0];cases i
  cases j
  simp
section
variable {X:Cx}{a b c:Expr}{ta tb tc:TE}{pos:Pos}
theorem za2 {Q:VK}{k k':Bool}(I:Inv X pins U H s)(q:Q (.bl k) H)(e:k=k'):EP X pins U Q (.bool k') s:=by
  subst e;exact ⟨.bl k,H,I,rfl,q⟩
theorem zfv:OpR X (compareOp .Eq) rEq:=by
  intro pins s U H x y v u Q I rx ry h;obtain ⟨hs,q⟩:=h;cases x with
  | non=>
    cases rx
    cases y with
    | non=>cases ry;exact PySem.EqNone.eq_none_none (za2 I q .(h))
    | bl j=>cases ry;exact PySem.EqNone.eq_none_bool (za2 I q .(h))
    | int j=>obtain ⟨t',rfl⟩:=ry;exact PySem.EqNone.eq_none_int (za2 I q .(h))
    | str j=>obtain ⟨t',rfl⟩:=ry;exact PySem.EqNone.eq_none_str (za2 I q .(h))
    | _=>exact absurd (show false=true from hs) yaD
  | bl i=>
    cases rx
    cases y with
    | non=>cases ry;exact PySem.EqNone.eq_bool_none (za2 I q .(h))
    | bl j=>cases ry;exact eq_bool (za2 I q zre)
    | str j=>obtain ⟨t',rfl⟩:=ry;exact PySem.EqMixed.eq_bool_str (za2 I q .(h))
    | _=>exact absurd (show false=true from hs) yaD
  | int i=>
    obtain ⟨t,rfl⟩:=rx;cases y with
    | non=>cases ry;exact PySem.EqNone.eq_int_none (za2 I q .(h))
    | int j=>obtain ⟨t',rfl⟩:=ry;exact eq_int (za2 I q zoF)
    | str j=>obtain ⟨t',rfl⟩:=ry;exact PySem.EqMixed.eq_int_str (za2 I q .(h))
    | _=>exact absurd (show false=true from hs) yaD
  | str i=>
    obtain ⟨t,rfl⟩:=rx;cases y with
    | non=>cases ry;exact PySem.EqNone.eq_str_none (za2 I q .(h))
    | bl j=>cases ry;exact PySem.EqMixed.eq_str_bool (za2 I q .(h))
    | int j=>obtain ⟨t',rfl⟩:=ry;exact PySem.EqMixed.eq_str_int (za2 I q .(h))
    | str j=>obtain ⟨t',rfl⟩:=ry;exact eq_str (za2 I q zoE)
    | _=>exact absurd (show false=true from hs) yaD
  | byt i=>
    obtain ⟨t,rfl⟩:=rx;cases y with
    | byt j=>obtain ⟨t',rfl⟩:=ry;exact PySem.W.eq_bytes (za2 I q zoG)
    | _=>exact absurd (show false=true from hs) yaD
  | _=>cases y<;>exact absurd (show false=true from hs) yaD
theorem zrQ:OpR X (compareOp .NotEq) rNe:=by
  intro pins s U H x y v u Q I rx ry h;obtain ⟨hs,q⟩:=h;cases x with
  | non=>
    cases rx
    cases y with
    | non=>cases ry;exact PySem.EqNone.ne_none_none (za2 I q .(h))
    | bl j=>cases ry;exact PySem.EqNone.ne_none_bool (za2 I q .(h))
    | int j=>obtain ⟨t',rfl⟩:=ry;exact PySem.EqNone.ne_none_int (za2 I q .(h))
    | str j=>obtain ⟨t',rfl⟩:=ry;exact PySem.EqNone.ne_none_str (za2 I q .(h))
    | _=>exact absurd (show false=true from hs) yaD
  | bl i=>
    cases rx
    cases y with
    | non=>cases ry;exact PySem.EqNone.ne_bool_none (za2 I q .(h))
    | bl j=>cases ry;exact ne_bool (za2 I q (congrArg not zre))
    | str j=>obtain ⟨t',rfl⟩:=ry;exact PySem.EqMixed.ne_bool_str (za2 I q .(h))
    | _=>exact absurd (show false=true from hs) yaD
  | int i=>
    obtain ⟨t,rfl⟩:=rx;cases y with
    | non=>cases ry;exact PySem.EqNone.ne_int_none (za2 I q .(h))
    | int j=>obtain ⟨t',rfl⟩:=ry;exact ne_int (za2 I q (congrArg not zoF))
    | str j=>obtain ⟨t',rfl⟩:=ry;exact PySem.EqMixed.ne_int_str (za2 I q .(h))
    | _=>exact absurd (show false=true from hs) yaD
  | str i=>
    obtain ⟨t,rfl⟩:=rx;cases y with
    | non=>cases ry;exact PySem.EqNone.ne_str_none (za2 I q .(h))
    | bl j=>cases ry;exact PySem.EqMixed.ne_str_bool (za2 I q .(h))
    | int j=>obtain ⟨t',rfl⟩:=ry;exact PySem.EqMixed.ne_str_int (za2 I q .(h))
    | str j=>obtain ⟨t',rfl⟩:=ry;exact ne_str (za2 I q (congrArg not zoE))
    | _=>exact absurd (show false=true from hs) yaD
  | byt i=>
    obtain ⟨t,rfl⟩:=rx;cases y with
    | byt j=>obtain ⟨t',rfl⟩:=ry;exact PySem.W.ne_bytes (za2 I q (congrArg not zoG))
    | _=>exact absurd (show false=true from hs) yaD
  | _=>cases y<;>exact absurd (show false=true from hs) yaD
theorem zfu:OpR X (compareOp .Lt) (rI0 λi j=>.bl (decide (i<j))):=opB0 λ_ _ _ _ _ _ _ q=>lt_int q
theorem zrR:OpR X (compareOp .LtE) (rI0 λi j=>.bl (decide (i<=j))):=opB0 λ_ _ _ _ _ _ _ q=>le_int q
theorem zj5:OpR X (compareOp .Gt) (rI0 λi j=>.bl (decide (j<i))):=opB0 λ_ _ _ _ _ _ _ q=>gt_int q
theorem znv:OpR X (compareOp .GtE) (rI0 λi j=>.bl (decide (j<=i))):=opB0 λ_ _ _ _ _ _ _ q=>ge_int q
theorem zqW:OpR X (compareOp .Is) (λx y H Q=>y=.non/\Q (.bl (decide (x=.non))) H):=by
  intro pins s U H x y v u Q I rx ry h;obtain ⟨rfl,q⟩:=h;cases ry
  refine is_none_gen (za2 I q ?_);cases x<;>first
    | (cases rx;rfl)
    | (obtain ⟨t,rfl⟩:=rx;rfl)
theorem zns:OpR X (compareOp .IsNot) (λx y H Q=>y=.non/\Q (.bl (!decide (x=.non))) H):=by
  intro pins s U H x y v u Q I rx ry h;obtain ⟨rfl,q⟩:=h;cases ry
  refine isnot_none_gen (za2 I q ?_);cases x<;>first
    | (cases rx;rfl)
    | (obtain ⟨t,rfl⟩:=rx;rfl)
theorem zaH (b:Expr){op:CmpOp}(h:op≠.In:=by decide)(h2:op≠.NotIn:=by decide):behindInMarks op b=false:=by
  have e1:(op==CmpOp.In)=false:=by cases op<;>first|rfl|exact absurd rfl h
  have e2:(op==CmpOp.NotIn)=false:=by cases op<;>first|rfl|exact absurd rfl h2
  cases b<;>simp[behindInMarks,e1,e2]
theorem zeV {op:CmpOp}(ho:OpR X (compareOp op) r)(ha:PE X a ta)(hb:PE X b tb)(hm:behindInMarks op b=false):PE X (.Compare a [op] [b] pos) (tOp r ta tb):=by
  intro pins s U H Q I h;exact wpAny_Compare1 (binT ha hb I h λv u s2 x y H2 I2 rx ry q=>ho pins s2 U H2 x y v u Q I2 rx ry q) hm
def zru (t:TE):TT:=λU H Q=>t U H λx H'=>∃ k,x=.bl k/\Q k H'
theorem zau {op:CmpOp}(ho:OpR X (compareOp op) r)(ha:PE X a ta)(hb:PE X b tb)(hm:behindInMarks op b=false):PT X (.Compare a [op] [b] pos) (zru (tOp r ta tb)):=by
  intro pins s U H Q I h;refine wpAny_isTrue_Compare1 (thn (ha pins s U H _ I h) λv s1 ⟨x,H1,I1,r1,q1⟩=>thn (hb pins s1 U H1 _ I1 q1) λu s2 ⟨y,H2,I2,r2,q2⟩=>
    thn (ho pins s2 U H2 x y v u _ I2 r1 r2 q2) λc s3 ⟨z,H3,I3,r3,k,e,q3⟩=>?_) hm
  subst e;cases r3
  exact wpAny_truthy_bool ⟨H3,I3,q3⟩
def zqE (r r':R2)(ta tb tc:TE):TE:=λU H Q=>ta U H λx H1=>tb U H1 λy H2=>r x y H2 λz H3=>∃ k,z=.bl k/\
  (if k=true then tc U H3 λw' H4=>r' y w' H4 Q else Q (.bl false) H3)
theorem zpv {op op':CmpOp}(ho:OpR X (compareOp op) r)(ho':OpR X (compareOp op') r')(ha:PE X a ta)(hb:PE X b tb)(hc:PE X c tc)
    (hm:lastMarks [op,op'] [b,c]=false:=by with_unfolding_all rfl):PE X (.Compare a [op,op'] [b,c] pos) (zqE r r' ta tb tc):=by
  intro pins s U H Q I h;refine Compare_chain (thn (ha pins s U H _ I h) λv s1 ⟨x,H1,I1,r1,q1⟩=>chain_link (thn (hb pins s1 U H1 _ I1 q1) λu s2 ⟨y,H2,I2,r2,q2⟩=>
    thn (ho pins s2 U H2 x y v u _ I2 r1 r2 q2) λd s3 ⟨z,H3,I3,r3,k,e,q3⟩=>?_)) hm
  subst e;cases r3
  refine wpAny_truthy_bool ?_;cases k with
  | false=>exact ite_ff ⟨.bl false,H3,I3,rfl,q3⟩
  | true=>exact ite_tt (chain_last (thn (hc pins s3 U H3 _ I3 q3) λw' s4 ⟨z',H4,I4,r4,q4⟩=>ho' pins s4 U H4 y z' u w' Q I4 r2 r4 q4))
theorem zpq {op op':CmpOp}(ho:OpR X (compareOp op) r)(ho':OpR X (compareOp op') r')(ha:PE X a ta)(hb:PE X b tb)(hc:PE X c tc)
    (hm:lastMarks [op,op'] [b,c]=false:=by with_unfolding_all rfl):PT X (.Compare a [op,op'] [b,c] pos) (zru (zqE r r' ta tb tc)):=by
  intro pins s U H Q I h;refine isTrue_chain (thn (ha pins s U H _ I h) λv s1 ⟨x,H1,I1,r1,q1⟩=>test_link (thn (hb pins s1 U H1 _ I1 q1) λu s2 ⟨y,H2,I2,r2,q2⟩=>
    thn (ho pins s2 U H2 x y v u _ I2 r1 r2 q2) λd s3 ⟨z,H3,I3,r3,k,e,q3⟩=>?_)) hm
  subst e;cases r3
  refine wpAny_truthy_bool ?_;cases k with
  | false=>
    obtain ⟨k',e',q'⟩:=q3;cases e'
    exact ite_ff ⟨H3,I3,q'⟩
  | true=>
    refine ite_tt (test_last (thn (hc pins s3 U H3 _ I3 q3) λw' s4 zq0=>?_));obtain ⟨z',H4,I4,r4,q4⟩:=zq0;refine thn (ho' pins s4 U H4 y z' u w' _ I4 r2 r4 q4) λd' s5 zq1=>?_;obtain ⟨z2,H5,I5,r5,k2,e2,q5⟩:=zq1;subst e2;cases r5
    exact wpAny_truthy_bool ⟨H5,I5,q5⟩
theorem zll:(sizeLine:Nat)<2^63:=by rw[sizeLine_eq];decide
theorem zgD {x:V}{us:List Value}(r:Vals [x] us):∃ u,us=[u]/\RelV x u:=by
  cases r with
  | cons r1 r2=>cases r2;exact ⟨_,rfl,r1⟩
theorem zhl {x y:V}{us:List Value}(r:Vals [x,y] us):∃ u w',us=[u,w']/\RelV x u/\RelV y w':=by
  cases r with
  | cons r1 r2=>
    cases r2 with
    | cons r3 r4=>cases r4;exact ⟨_,_,rfl,r1,r3⟩
theorem ziC:zdg X (.builtin "abs") (λxs H Q=>∃ i,xs=[.int i]/\Q (.int (if i<0 then -i else i)) H):=by
  intro pins s U H xs us Q I r h;obtain ⟨i,rfl,q⟩:=h;obtain ⟨u,rfl,t,rfl⟩:=zgD r;exact call_abs_int λu tk=>⟨.int (if i<0 then -i else i),H,I.tok _,⟨_,rfl⟩,q⟩
theorem zjH (hc:X.calm=true):zdg X (.builtin "max") (λxs H Q=>∃ i j,xs=[.int i,.int j]/\Q (.int (if j>i then j else i)) H):=by
  intro pins s U H xs us Q I r h;obtain ⟨i,j,rfl,q⟩:=h;obtain ⟨u,w',rfl,⟨t,rfl⟩,⟨t',rfl⟩⟩:=zhl r;refine max_two_ints (I.ok.hd hc) λh' tk k=>⟨_,H,I.kept k,?_,q⟩;by_cases hj:j>i
  · rw[if_pos hj,if_pos hj];exact ⟨_,rfl⟩
  · rw[if_neg hj,if_neg hj];exact ⟨_,rfl⟩
theorem zjG (hc:X.calm=true):zdg X (.builtin "min") (λxs H Q=>∃ i j,xs=[.int i,.int j]/\Q (.int (if j<i then j else i)) H):=by
  intro pins s U H xs us Q I r h;obtain ⟨i,j,rfl,q⟩:=h;obtain ⟨u,w',rfl,⟨t,rfl⟩,⟨t',rfl⟩⟩:=zhl r;refine min_two_ints (I.ok.hd hc) λh' tk k=>⟨_,H,I.kept k,?_,q⟩;by_cases hj:j<i
  · rw[if_pos hj,if_pos hj];exact ⟨_,rfl⟩
  · rw[if_neg hj,if_neg hj];exact ⟨_,rfl⟩
end
end L2
namespace L2
open PySem PySem.Spec PyProof.Rows
structure ObjM (h:Heap)(x dx C:Addr)(mA:Str->Option Value):Prop where
  obj:h.get? x=some (PySem.W.instObj C dx)
  ns:h.Ns1 dx mA
  ne:dx≠x
theorem znV {h:Heap}{dx:Addr}{mA:Str->Option Value}(n:h.Ns1 dx mA):∃ od,h.get? dx=some od/\∀ name,PySem.W.lookIn name od=some (mA name):=by
  obtain ⟨o,es,ep,ho,hd,hk,_,hm⟩:=n;refine ⟨o,ho,λname=>?_⟩;have e:=hm name;unfold nsFind findBy at e;rw[<-Array.find?_toList]at e;unfold PySem.W.lookIn;rw[hd];dsimp only;split
  · rename_i y q
    rw[q]at e;exact congrArg some e
  · rename_i q
    rw[q]at e;have a:es.toList.any (·.refKey)=false:=by
      rw[List.any_eq_false];intro y hy;obtain ⟨z,t,hkey⟩:=hk y (Array.mem_toList_iff.mp hy);simp[DictEntry.refKey,hkey]
    have a':¬ es.toList.any (·.refKey)=true:=by rw[a];exact yaD
    rw[if_neg a'];exact congrArg some e
theorem ObjM.look (I:ObjM h x dx C mA):∃ od,PySem.W.InstAt h x (PySem.W.instObj C dx) C (some od)/\∀ name,PySem.W.lookIn name od=some (mA name):=
  let ⟨od,ho,hl⟩:=znV I.ns
  ⟨od,⟨I.obj,rfl,rfl,ho⟩,hl⟩
section
variable {prog:Program}{w:World}{A:Around}{E:Value->Shared->Prop}{s:Shared}{K:Frag}{x dx C f:Addr}{mA:Str->Option Value}{name:Str}{v:Value}
theorem zso {expr:Bool}{Q:Value->Shared->Prop}(X:K.In s.heap)(I:ObjM s.heap x dx C mA)(hg:PySem.W.plainGet K C name=true)(hh:PySem.W.hasDictIn K C=true)
    (ha:findIn K (.ref C) name=some none) (hv:mA name=some v) (hv':PySem.W.handedIn v=true) (h:Q v { s with toks:=s.toks+1 }) :
    wpAny .(j) A (getAttr (.ref x) name expr) Q E s:=by
  obtain ⟨od,J,hl⟩:=I.look;exact PySem.W.get_value X J (PySem.W.plainGet_of hg).1 (PySem.W.findObj_own hh ha rfl (by rw[hl,hv])) hv' h
theorem zqf {pl:Sem Bool}{Q:Value×List Value->Shared->Prop}(X:K.In s.heap)(I:ObjM s.heap x dx C mA)(hg:PySem.W.plainGet K C name=true)
    (hf:findIn K (.ref C) name=some (some (.ref f))) (ht:PySem.W.isFn K (.ref f)=true) (hv:mA name=none) (h:Q (.ref f,[.ref x]) s) :
    wpAny .(j) A (getMethod (.ref x) name pl) Q E s:=by
  obtain ⟨od,J,hl⟩:=I.look;exact PySem.W.method_fn X J (PySem.W.plainGet_of hg).1 (PySem.W.plainGet_of hg).2 hf (beq_iff_eq.mp ht) (by show (PySem.W.lookIn name od).map (·.isSome)=some false;rw[hl,hv];rfl) h
theorem zrC {ns:List Str}{Q:Unit->Shared->Prop}(X:K.In s.heap)(I:ObjM s.heap x dx C mA)
    (hs:findIn K (.ref C) "__setattr__" = some (some (.builtin "object.__setattr__"))) (hp:PySem.W.plainOver K C=true) (ht:PySem.W.takerIn K C name=some none) (hh:PySem.W.hasDictIn K C=true)
    (hw:PySem.Within mA ns) (hsz:ns.length<=sizeLine)
    (h:∀ h',ObjM h' x dx C (λy=>if y=name then some v else mA y)->Heap.SameBut dx s.heap h'->Q () { s with heap:=h',toks:=s.toks+2 }) :
    wpAny .(j) A (setAttr (.ref x) name v) Q E s:=by
  obtain ⟨od,J,hl⟩:=I.look;refine PySem.W.set_plain X J hs (PySem.W.osa_open (s:={ s with toks:=s.toks+1 }) (r:=none) X J hp ht λb=>?_);obtain ⟨cd,hc,hd'⟩:=PySem.W.any_some hh;have hx:s.heap.get? x=some ⟨.ref C,some dx,.plain,#[]⟩:=I.obj;refine wpAny_bind (wpAny_pure (wpAny_bind (wpAny_bind (wpAny_loadPart hx (wpAny_bind (PySem.W.Looks.here (s:={ s with toks:=s.toks+1 }) (PySem.W.looks_clsIn X hc) ?_))))));rw[hd'];refine wpAny_pure (a:=some dx) (wpAny_bind (wpAny_pure (wpAny_bind ?_)));refine wpAny_nsSet1 (s:={ s with toks:=s.toks+1 }) I.ns λh' hn2 hs2=>?_;obtain ⟨oD,esD,epD,hoD,hdD,hcD⟩:=hn2.count (PySem.Within.cons name v hw);refine wpAny_bind (wpAny_lookBehind hoD (by rw[hdD];exact pastItsLine_dict (yax hcD (by rw[yaM];lia))) ?_);exact wpAny_pure (h _ ⟨(hs2.2 _ (Ne.symm I.ne)).trans I.obj,hn2,I.ne⟩ hs2)
theorem zp0 {R:Result->Shared->Prop}{vs:List Value}{kw:List (Str×Value)}(X:K.In s.heap)(hm:PySem.W.makesIn K C=true)
    (hi:findIn K (.ref C) "__init__" = some (some (.ref f))) (hf:PySem.W.typeIn K (.ref f)=some (.type "function"))
    (h:codeAny (model prog w) (A.under (.builtin "type.__call__" ⟨.ref C::vs,kw⟩)) (.call (.ref f) ⟨.ref (s.heap.objs.size+1)::vs,kw⟩) (PySem.W.InitBack (s.heap.objs.size+1) R)
      { s with heap:=(s.heap.push PySem.W.emptyDict).push (PySem.W.instObj C s.heap.objs.size) }) :
    codeAny .(j) A (.call (.ref C) ⟨vs,kw⟩) R s:=by
  obtain ⟨hh,g,d,t,os⟩:=s;exact PySem.W.make_core (PySem.W.makes_of X hm) (PySem.W.looks_findIn X hi) (λself=>PySem.W.bind_fn X self hf) (.inl rfl) h
end
def putF (f:Str)(v:V):List (Str×V)->List (Str×V)
  | []=>[(f,v)]
  | (g,x)::r=>if g=f then (g,v)::r else (g,x)::putF f v r
theorem zgX (f g:Str)(v:V):∀ fs:List (Str×V),(putF f v fs).lookup g=if g=f then some v else fs.lookup g
  | []=>by
    show List.lookup g [(f,v)]=_;by_cases h:g=f
    · have hb:(g==f)=true:=beq_iff_eq.mpr h
      simp only[List.lookup,hb,if_pos h]
    · have hb:(g==f)=false:=beq_eq_false_iff_ne.mpr h
      simp only[List.lookup,hb,if_neg h]
  | (k,x)::r=>by
    have ih:=zgX f g v r;rw[show putF f v ((k,x)::r)=(if k=f then (k,v)::r else (k,x)::putF f v r) from rfl]
    by_cases hk:k=f
    · rw[if_pos hk]
      by_cases h:g=k
      · have hb:(g==k)=true:=beq_iff_eq.mpr h
        simp only[List.lookup,hb,if_pos (h.trans hk)]
      · have hb:(g==k)=false:=beq_eq_false_iff_ne.mpr h
        simp only[List.lookup,hb,if_neg (λe:g=f=>h (e.trans hk.symm))]
    · rw[if_neg hk]
      by_cases h:g=k
      · have hb:(g==k)=true:=beq_iff_eq.mpr h
        simp only[List.lookup,hb,if_neg (λe:g=f=>hk (h.symm.trans e))]
      · have hb:(g==k)=false:=beq_eq_false_iff_ne.mpr h
        simp only[List.lookup,hb];exact ih
theorem zgZ (f:Str)(v:V):∀ fs:List (Str×V),f∈(putF f v fs).map (·.1)/\∀ g,g∈fs.map (·.1)->g∈(putF f v fs).map (·.1)
  | []=>⟨by simp[putF],λg h=>by simp at h⟩
  | (k,x)::r=>by
    obtain ⟨i1,i2⟩:=zgZ f v r;rw[show putF f v ((k,x)::r)=(if k=f then (k,v)::r else (k,x)::putF f v r) from rfl]
    by_cases hk:k=f
    · rw[if_pos hk]
      subst hk;exact ⟨by simp,λg h=>by simpa using h⟩
    · rw[if_neg hk]
      refine ⟨?_,λg h=>?_⟩
      · rw[yap]
        exact yar _ i1
      · rw[yap]at h ⊢
        rcases yag.mp h with e|e
        · exact yag.mpr (.inl e)
        · exact yar _ (i2 g e)
theorem zgY (f:Str)(v:V):∀ fs:List (Str×V),(putF f v fs).length<=fs.length+1
  | []=>by simp[putF]
  | (k,x)::r=>by
    have ih:=zgY f v r;rw[show putF f v ((k,x)::r)=(if k=f then (k,v)::r else (k,x)::putF f v r) from rfl]
    by_cases hk:k=f
    · rw[if_pos hk,yaM,yaM];lia
    · rw[if_neg hk,yaM,yaM];lia
theorem RelO.some_of {v:V}{o:Option Value}(r:RelO (some v) o):∃ u,o=some u/\RelV v u:=by
  cases o with
  | none=>exact (show False from r).elim
  | some u=>exact ⟨u,rfl,r⟩
theorem RelO.none_of {o:Option Value}(r:RelO none o):o=none:=by
  cases o with
  | none=>rfl
  | some u=>exact (show False from r).elim
theorem zoq {v:V}{u:Value}(r:RelV v u):PySem.W.handedIn u=true:=by
  cases v with
  | non=>cases (show u=Value.none from r);rfl
  | bl b=>cases (show u=Value.bool b from r);rfl
  | int i=>obtain ⟨t,e⟩:=(show ∃ t,u=Value.int i t from r);cases e;rfl
  | str x=>obtain ⟨t,e⟩:=(show ∃ t,u=Value.str x t from r);cases e;rfl
  | byt b=>obtain ⟨t,e⟩:=(show ∃ t,u=Value.bytes b t from r);cases e;rfl
  | flt b=>obtain ⟨t,e⟩:=(show ∃ t,u=Value.float b t from r);cases e;rfl
  | ref a=>cases (show u=Value.ref a from r);rfl
  | ty n=>cases (show u=Value.type n from r);rfl
section
variable {P:Program}{w:World}{H H':Hp}{h h':Heap}{a C dx:Addr}{fs fs':List (Str×V)}
theorem zit (hok:HOk P w H h)(e:H a=some (.ins C dx fs)):∃ mA,ObjM h a dx C mA/\(∀ f,RelO (fs.lookup f) (mA f))/\PySem.Within mA (fs.map (·.1))/\fs.length<=1000/\H dx=some (.own a):=by
  obtain ⟨d,z,ne,ob,mA,n,r,q⟩:=(show zbw P w H h a (.ins C dx fs) from hok a _ e);exact ⟨mA,⟨ob,n,ne⟩,r,q,z,d⟩
end
structure Cls (K:Frag)(C:Addr):Prop where
  pg:PySem.W.plainGet K C Str.empty=true
  hd:PySem.W.hasDictIn K C=true
  po:PySem.W.plainOver K C=true
  sa:findIn K (.ref C) "__setattr__" = some (some (.builtin "object.__setattr__"))
theorem Cls.get {K:Frag}{C:Addr}(c:Cls K C)(f:Str):PySem.W.plainGet K C f=true:=c.pg
def zf4 (K:Frag)(C:Addr)(f:Str):Prop:=findIn K (.ref C) f=some none
theorem zf4.taker {K:Frag}{f:Str}(n:zf4 K C f):PySem.W.takerIn K C f=some none:=by
  unfold PySem.W.takerIn;rw[show findIn K (.ref C) f=some none from n];rfl
structure Meth (K:Frag)(C:Addr)(m:Str)(f:Addr):Prop where
  at_:findIn K (.ref C) m=some (some (.ref f))
  fn:PySem.W.isFn K (.ref f)=true
  kp:keepIn K (.ref f)=true
section
variable {X:Cx}{pins:List (Addr×Obj)}{U:St}{H:Hp}{s:Shared}{a C dx:Addr}{fs:List (Str×V)}{f:Str}{v:V}{A:Around}{E:Value->Shared->Prop}
theorem zmb {b:Bool}{Q:Value->Shared->Prop}(I:Inv X pins U H s)(e:H a=some (.ins C dx fs))(c:Cls X.K C)(n:zf4 X.K C f)(l:fs.lookup f=some v)
    (h:∀ u s',Inv X pins U H s'->RelV v u->Q u s'):wpAny .(d) A (getAttr (.ref a) f b) Q E s:=by
  obtain ⟨mA,O,r,_,_,_⟩:=zit I.hok e;obtain ⟨u,hu,ru⟩:=RelO.some_of (v:=v) (o:=mA f) (by rw[<-l];exact r f);exact zso I.kIn O (c.get f) c.hd n hu (zoq ru) (h u _ (I.tok _) ru)
theorem zfN {pl:Sem Bool}{Q:Value×List Value->Shared->Prop}(I:Inv X pins U H s)(e:H a=some (.ins C dx fs))(c:Cls X.K C)(k:Meth X.K C m g)(l:fs.lookup m=none)
    (h:Q (.ref g,[.ref a]) s):wpAny .(d) A (getMethod (.ref a) m pl) Q E s:=by
  obtain ⟨mA,O,r,_,_,_⟩:=zit I.hok e;have hn:mA m=none:=RelO.none_of (by rw[<-l];exact r m);exact zqf I.kIn O (c.get m) k.at_ k.fn hn h
theorem zlN {y:V}{u:Value}{Q:Unit->Shared->Prop}(I:Inv X pins U H s)(e:H a=some (.ins C dx fs))(c:Cls X.K C)(n:zf4 X.K C f)(hl:fs.length<1000)(ry:RelV y u)
    (h:∀ s',Inv X pins U (upd H a (.ins C dx (putF f y fs))) s'->Q () s'):wpAny .(d) A (setAttr (.ref a) f u) Q E s:=by
  obtain ⟨mA,O,r,wi,_,ho⟩:=zit I.hok e;have hz:(fs.map (·.1)).length<=sizeLine:=by rw[yab,sizeLine_eq];lia
  refine zrC I.kIn O c.sa c.po n.taker c.hd wi hz λh' O' sb=>h _ ?_;have hd:∃ o,h'.get? dx=some o:=let ⟨o,_,_,e',_⟩:=O'.ns;⟨o,e'⟩;refine I.write (x:=a) (e:=dx) (by rw[e];exact True.intro) (.inr ho) (λb q hb z=>(sb.2 b hb).trans z) hd ?_;refine ⟨by rw[zag O.ne];exact ho,?_,O.ne,O'.obj,_,O'.ns,λg=>?_,λg hg=>?_⟩
  · have:=zgY f y fs;lia
  · show RelO ((putF f y fs).lookup g) (if g=f then some u else mA g)
    rw[zgX];by_cases q:g=f
    · rw[if_pos q,if_pos q];exact ry
    · rw[if_neg q,if_neg q];exact r g
  · by_cases q:g=f
    · rw[q];exact (zgZ f y fs).1
    · refine (zgZ f y fs).2 g (wi g λz=>hg ?_)
      show (if g=f then some u else mA g)=none
      rw[if_neg q];exact z
theorem Inv.made (I:Inv X pins U H s):Inv X pins U (upd (upd H s.heap.objs.size (.own (s.heap.objs.size+1))) (s.heap.objs.size+1) (.ins C s.heap.objs.size []))
    { s with heap:=(s.heap.push PySem.W.emptyDict).push (PySem.W.instObj C s.heap.objs.size) }:=by
  have e1:(s.heap.push PySem.W.emptyDict).get? s.heap.objs.size=some PySem.W.emptyDict:=yaI s.heap rfl;have e2:((s.heap.push PySem.W.emptyDict).push (PySem.W.instObj C s.heap.objs.size)).get? (s.heap.objs.size+1)=some (PySem.W.instObj C s.heap.objs.size):=by
    have:=yaI (s.heap.push PySem.W.emptyDict) (o:=PySem.W.instObj C s.heap.objs.size) rfl;rwa[yb1]at this
  have e3:(s.heap.push PySem.W.emptyDict).Ns s.heap.objs.size (λ_=>none):=⟨PySem.W.emptyDict,#[],_,e1,rfl,(λe he=>absurd he .(h)),λ_=>rfl⟩;have I1:=I.laid (a:=s.heap.objs.size) (o:=.own (s.heap.objs.size+1)) (h':=s.heap.push PySem.W.emptyDict) (t':=s.toks) (λb u q=>yak _ q) (yaa _) ⟨_,e1⟩;refine I1.laid (a:=s.heap.objs.size+1) (o:=.ins C s.heap.objs.size []) (t':=s.toks) (λb u q=>yak _ q) (ybP (yb1 _ _)) ?_;have ne:s.heap.objs.size≠s.heap.objs.size+1:=yat (yb2 _);refine ⟨by rw[zag ne,zab],yaG _,ne,e2,λ_=>none,(Heap.Ns1.of_empty e3).at λo q=>yak _ q,λ_=>True.intro,λy hy=>absurd rfl hy⟩
theorem zsC {prog:Program}{w:World}{env:Env}{e:Expr}{f:Str}{pos:Pos}{s:Shared}{Q:Value->Shared->Prop}(hb:attributeBase e f env (eval e env)=eval e env)
    (h:wpAny .(j) A (eval e env) (λo s₁=>wpAny .(j) A (getAttr o f true) Q E s₁) E s):wpAny .(j) A (eval (.Attribute e f pos) env) Q E s:=
  Attribute_any_ h (by rw[arm_eval_Attribute,hb])
end
def tFld (K:Frag)(ta:TE)(f:Str):TE:=λU H Q=>ta U H λx H1=>∃ a C dx fs v,x=.ref a/\H1 a=some (.ins C dx fs)/\Cls K C/\zf4 K C f/\fs.lookup f=some v/\Q v H1
def sFld (K:Frag)(ta tv:TE)(f:Str):TS:=λD U H=>tv U H λy H1=>ta U H1 λx H2=>∃ a C dx fs,x=.ref a/\H2 a=some (.ins C dx fs)/\Cls K C/\zf4 K C f/\fs.length<1000/\
  D.nx U (upd H2 a (.ins C dx (putF f y fs)))
section
variable {X:Cx}{o e value:Expr}{f:Str}{pos pos' tpos:Pos}{ta tv:TE}
theorem zbK (he:PE X e ta)(hb:attributeBase e f X.env (eval e X.env)=eval e X.env):PE X (.Attribute e f pos) (tFld X.K ta f):=by
  intro pins s U H Q I h;refine zsC hb (thn (he pins s U H _ I h) λu s1 zq0=>?_);obtain ⟨x,H1,I1,rx,a,C,dx,fs,v,ex,ea,c,n,l,q⟩:=zq0;subst ex;obtain rfl:u=Value.ref a:=rx;exact zmb I1 ea c n l λu' s2 I2 ru=>⟨v,H1,I2,ru,q⟩
theorem zgK (ha:PE X o ta)(hv:PE X value tv)(hs:swapsWith value (some (.Attribute o f pos')) pos.line X.env=pure false):PS X (.Assign [.Attribute o f pos'] value pos) (sFld X.K ta tv f):=by
  intro pins s U H D I h;refine plainObj_wpAny_Assign_Attribute (thn (hv pins s U H _ I h) λu s1 zq0=>?_) hs;obtain ⟨y,H1,I1,ry,q⟩:=zq0;refine thn (ha pins s1 U H1 _ I1 q) λov s2 zq1=>?_;obtain ⟨x,H2,I2,rx,a,C,dx,fs,ex,ea,c,n,l,q2⟩:=zq1;subst ex;obtain rfl:ov=Value.ref a:=rx;exact zlN I2 ea c n l ry λs3 I3=>⟨U,_,I3,q2⟩
end
section
variable {X:Cx}{pins:List (Addr×Obj)}{U:St}{H:Hp}{s:Shared}{A:Around}{E:Value->Shared->Prop}{Q:Value->Shared->Prop}{c:Value}{b:Bool}
inductive TyOf (K:Frag)(H:Hp):V->Value->Prop where
  | non:TyOf K H .non (.type "NoneType")
  | bl (x:Bool):TyOf K H (.bl x) (.type "bool")
  | int (i:Int):TyOf K H (.int i) (.type "int")
  | str (x:Str):TyOf K H (.str x) (.type "str")
  | flt (x:UInt64):TyOf K H (.flt x) (.type "float")
  | lst {a:Addr} {xs:List V} (e:H a=some (.lst xs)):TyOf K H (.ref a) (.type "list")
  | frz {a:Addr} {o:Obj} {xs:List V} (e:H a=some (.frz o (.lst xs))):TyOf K H (.ref a) (.type "list")
  | tup {a:Addr} {xs:List V} (e:H a=some (.tup xs)):TyOf K H (.ref a) (.type "tuple")
  | dK {a:Addr} {kvs:List (Key×V)} (e:H a=some (.dK kvs)):TyOf K H (.ref a) (.type "dict")
  | dT {a:Addr} {kvs:List (List Key×V)} (e:H a=some (.dT kvs)):TyOf K H (.ref a) (.type "dict")
  | ins {a C dx:Addr} {fs:List (Str×V)} (e:H a=some (.ins C dx fs)) (cl:Cls K C) (ha:findIn K (.ref C) "__class__" = some (some (.builtin "object.__class__")))
      (hn:PySem.W.specialIn K (.builtin "object.__class__") "__get__" = some (some (.builtin "getset_descriptor.__get__"))) (htk:PySem.W.takesIn K (.builtin "object.__class__")=some true)
      (hm:mroIn K C (.type "object")=some true):TyOf K H (.ref a) (.ref C)
theorem zog {x:V}{u t:Value}(I:Inv X pins U H s)(rx:RelV x u)(ty:TyOf X.K H x t)(e:kitOne X.K t c=some b)(h:∀ tk,Q (.bool b) { s with toks:=tk }) :
    wpAny .(d) A (call (.builtin "isinstance") [u,c]) Q E s:=by
  cases ty with
  | non=>cases (show u=Value.none from rx);exact PySem.W.kia_one PySem.W.kitx_none I.kIn True.intro e nofun h
  | bl y=>cases (show u=Value.bool y from rx);exact PySem.W.kia_one PySem.W.kitx_bool I.kIn True.intro e nofun h
  | int i=>obtain ⟨t,q⟩:=(show ∃ t,u=Value.int i t from rx);cases q;exact PySem.W.kia_one PySem.W.kitx_int I.kIn True.intro e nofun h
  | str y=>obtain ⟨t,q⟩:=(show ∃ t,u=Value.str y t from rx);cases q;exact PySem.W.kia_one PySem.W.kitx_str I.kIn True.intro e nofun h
  | flt y=>obtain ⟨t,q⟩:=(show ∃ t,u=Value.float y t from rx);cases q;exact PySem.W.kia_one PySem.W.kitx_float I.kIn True.intro e nofun h
  | @lst a xs ea=>
    cases (show u=Value.ref a from rx)
    obtain ⟨_,_,n,_,h1⟩:=(show zbw X.prog X.w H s.heap a (.lst xs) from I.hok a _ ea);exact PySem.W.kia_one PySem.W.kitx_list I.kIn ⟨_,h1,rfl⟩ e nofun h
  | @frz a ob xs ea=>
    cases (show u=Value.ref a from rx)
    obtain ⟨_,_,_,n,_,h1⟩:=(show zbw X.prog X.w H s.heap a (.frz ob (.lst xs)) from I.hok a _ ea);exact PySem.W.kia_one PySem.W.kitx_list I.kIn ⟨_,h1,rfl⟩ e nofun h
  | @tup a xs ea=>
    cases (show u=Value.ref a from rx)
    obtain ⟨_,_,_,p⟩:=(show zbw X.prog X.w H s.heap a (.tup xs) from I.hok a _ ea);obtain ⟨o,h1,h2,_⟩:=p;exact PySem.W.kia_one PySem.W.kitx_tuple I.kIn ⟨o,h1,h2⟩ e nofun h
  | @dK a kvs ea=>
    cases (show u=Value.ref a from rx)
    obtain ⟨_,_,vs,_,p⟩:=(show zbw X.prog X.w H s.heap a (.dK kvs) from I.hok a _ ea);obtain ⟨o,es,ep,h1,h2,_⟩:=p;exact PySem.W.kia_one PySem.W.kitx_dict I.kIn ⟨o,h1,h2.1⟩ e nofun h
  | @dT a kvs ea=>
    cases (show u=Value.ref a from rx)
    obtain ⟨_,_,xs,_,o,es,ep,h1,h2,_⟩:=(show zbw X.prog X.w H s.heap a (.dT kvs) from I.hok a _ ea);exact PySem.W.kia_one PySem.W.kitx_dict I.kIn ⟨o,h1,h2.1⟩ e nofun h
  | @ins a C dx fs ea cl ha hn htk hm=>
    cases (show u=Value.ref a from rx)
    obtain ⟨mA,O,_⟩:=zit I.hok ea;obtain ⟨od,J,_⟩:=O.look;exact PySem.W.kia_one (PySem.W.kitx_own (cl.get _) cl.hd ha hn htk hm) I.kIn J e nofun h
end
end L2
namespace L2
open PySem PySem.Spec PyProof.Rows
structure Room (k:Nat)(A:Around):Prop where
  hd:A.handled=none
  dp:A.depth+3*k+5<recursionLimit
  un:A.units+16*k+200<cLine
  gd:A.guards=some []
theorem Room.mono {j k:Nat}{A:Around}(r:Room k A)(h:j<=k):Room j A:=⟨r.hd,by have:=r.dp;lia,by have:=r.un;lia,r.gd⟩
theorem Room.deeper {k:Nat}{A:Around}(r:Room (k+1) A)(env:Env):Room k (A.deeper env):=
  ⟨r.hd,by have:=r.dp;show A.depth+1+3*k+5<_;lia,by have:=r.un;show A.units+3+16*k+200<_;lia,r.gd⟩
theorem zl8 {A:Around}{C:Addr}{us:List Value}{kw:List (Str×Value)}:(A.under (.builtin "type.__call__" ⟨.ref C::us,kw⟩)).depth=A.depth+1:=by
  first|rfl|simp[Around.under,Code.weight,Code.isCreation,Code.isGuard,Code.isCaller,Code.frames,Code.isFrame,guardIds]
theorem zl6 {A:Around}{C:Addr}{us:List Value}{kw:List (Str×Value)}:(A.under (.builtin "type.__call__" ⟨.ref C::us,kw⟩)).units=A.units+1:=by
  first|rfl|simp[Around.under,Code.cUnits,Code.frames,Code.isFrame]
theorem Room.make {k:Nat}{A:Around}(r:Room (k+1) A)(C:Addr)(us:List Value)(kw:List (Str×Value)):Room k (A.under (.builtin "type.__call__" ⟨.ref C::us,kw⟩)):=
  ⟨r.hd,by have:=r.dp;rw[zl8];lia,by have:=r.un;rw[zl6];lia,by have h:=r.gd;simp[Around.under,Code.guards,Code.isGuard,guardIds,pushGuards,h]⟩
theorem Room.depth {k:Nat}{A:Around}(r:Room k A):A.depth<recursionLimit:=by have:=r.dp;lia
theorem Room.units {k:Nat}{A:Around}(r:Room k A):A.units+64<cLine:=by have:=r.un;lia
def tNil:TA:=λ_ H Q=>Q [] H
def zul (ta:TE)(tr:TA):TA:=λU H Q=>ta U H λx H1=>tr U H1 λxs H2=>Q (x::xs) H2
section
variable {X:Cx}{e:Expr}{es:List Expr}{te:TE}{t:TA}{pos:Pos}
theorem zad:PA X [] tNil:=λ_ _ _ _ H Q I h=>Calls.spliced_nil ⟨[],H,I,.nil,h⟩
theorem zaa (ha:PE X e te)(hr:PA X es t)(hs:starEach (e::es) X.env=(false,eval e X.env)::starEach es X.env:=by rfl):PA X (e::es) (zul te t):=by
  intro pos pins s U H Q I h;rw[hs];show wpAny _ _ (spliced ((false,eval e X.env)::backTo pos (starEach es X.env))) _ _ s;refine Calls.spliced_cons (thn (ha pins s U H _ I h) λu s1 zq0=>?_);obtain ⟨x,H1,I1,r1,q1⟩:=zq0;exact thn (hr pos pins s1 U H1 _ I1 q1) λus s2 zq0=>(by obtain ⟨xs,H2,I2,r2,q2⟩:=zq0;exact ⟨x::xs,H2,I2,.cons r1 r2,q2⟩)
def tTup (t:TA):TE:=λU H Q=>t U H λxs H1=>xs.length<=sizeLine/\∀ p,H1 p=none->Q (.ref p) (upd H1 p (.tup xs))
def tLst (t:TA):TE:=λU H Q=>t U H λxs H1=>xs.length<=sizeLine/\∀ p,H1 p=none->Q (.ref p) (upd H1 p (.lst xs))
theorem zaX {x1}(h:PA X es t):PE X (.Tuple es x1 pos) (tTup t):=by
  intro pins s U H Q I hq;refine wpAny_Tuple_spliced (thn (h pos pins s U H _ I hq) λus s1 zq0=>?_);obtain ⟨xs,H1,I1,r,z,q⟩:=zq0;refine ⟨by rw[<-r.length];exact z,?_⟩;have hf:H1 s1.heap.objs.size=none:=I1.hok.fresh (yaa _);refine ⟨.ref s1.heap.objs.size,upd H1 s1.heap.objs.size (.tup xs),I1.laid (t':=s1.toks) (λb u e=>yak _ e) (yaa _) ?_,rfl,q _ hf⟩;exact ⟨z,us,r,⟨_,yaI _ rfl,rfl,_,rfl⟩⟩
theorem zbj (h:PA X es t):PE X (.List es pos) (tLst t):=by
  intro pins s U H Q I hq;refine wpAny_List_spliced (thn (h pos pins s U H _ I hq) λus s1 zq0=>?_);obtain ⟨xs,H1,I1,r,z,q⟩:=zq0;refine ⟨by rw[<-r.length];exact z,?_⟩;have hf:H1 s1.heap.objs.size=none:=I1.hok.fresh (yaa _);refine ⟨.ref s1.heap.objs.size,upd H1 s1.heap.objs.size (.lst xs),I1.laid (t':=s1.toks) (λb u e=>yak _ e) (yaa _) ?_,rfl,q _ hf⟩;exact ⟨z,us,0,r,yaI _ rfl⟩
end
abbrev Sp:=List V->Hp->VK->XK->Prop
abbrev CXT:=List Env->Hp->Shared->XK->Value->Shared->Prop
structure Env0 (P:Program)(w:World)(K:Frag)(mg:Str->Option Value)(base:Heap)(A:Around)(outer:List Env)(s:Shared)(H:Hp):Prop where
  frames:A.frames=some outer
  mod:Mod K mg base
  bs:∀ b o,base.get? b=some o->s.heap.get? b=some o/\H b=none
  bsz:base.objs.size<=s.heap.objs.size
  funs:s.heap.FunFrames base outer
  frf:∀ b∈frs outer,H b=none
  hok:HOk P w H s.heap
  bare:AllBare s.gens
def CE (outer:List Env)(P:Program)(w:World)(H:Hp)(s:Shared)(Q:VK)(u:Value)(s':Shared):Prop:=
  ∃ v H',s'.os=s.os/\AllBare s'.gens/\Un (frs outer) [] H H' s.heap s'.heap/\HOk P w H' s'.heap/\RelV v u/\Q v H'
def CR (CX:CXT)(outer:List Env)(P:Program)(w:World)(H:Hp)(s:Shared)(Q:VK)(E:XK)(r:Result)(s':Shared):Prop:=
  match r with
  | .ok (.ret u)=>CE outer P w H s Q u s'
  | .ok _=>False
  | .error e=>CX outer H s E e s'
structure FnOk (P:Program)(w:World)(K:Frag)(mg:Str->Option Value)(base:Heap)(CX:CXT)(k:Nat)(f:Addr)(fd:FuncData)(ps:List Str)(sp:Sp):Prop where
  len:∀ vs H Q E,sp vs H Q E->vs.length=ps.length
  run:∀(A:Around) (outer:List Env) (s:Shared) (H:Hp) (args:Args) (us:List Value) (vs:List V) (Q:VK) (E:XK),Room k A->Env0 P w K mg base A outer s H->BindsTo s fd args (ps.zip us)->Vals vs us->sp vs H Q E->
    codeAny (model P w) A (.call (.ref f) args) (CR CX outer P w H s Q E) s
theorem FnOk.mono {w:World}{K:Frag}{mg:Str->Option Value}{base:Heap}{k:Nat}{f:Addr}{fd:FuncData}(F:FnOk P w K mg base CX j f fd ps sp)(h:j<=k) :
    FnOk P w K mg base CX k f fd ps sp:=⟨F.len,λA outer s H args us vs Q E hr=>F.run A outer s H args us vs Q E (hr.mono h)⟩
theorem Env0.make {w:World}{K:Frag}{mg:Str->Option Value}{base:Heap}{A:Around}{outer:List Env}{s:Shared}(e:Env0 P w K mg base A outer s H)(C:Addr)(us:List Value)(kw:List (Str×Value)) :
    Env0 P w K mg base (A.under (.builtin "type.__call__" ⟨.ref C::us,kw⟩)) outer s H:=⟨by first|exact e.frames|(simpa [Around.under,Code.envs,Code.isFrame,pushEnvs] using e.frames),e.mod,e.bs,e.bsz,e.funs,e.frf,e.hok,e.bare⟩
section
variable {X:Cx}{pins:List (Addr×Obj)}{U:St}{H:Hp}{s s':Shared}
theorem Inv.env0 (I:Inv X pins U H s):Env0 X.prog X.w X.K X.mg X.base X.A X.stack s H:=
  ⟨I.ok.frames,I.ok.mod,I.bs,yax I.ok.bsz I.sz,I.stack,I.stkFree,I.hok,I.bare⟩
theorem Inv.after (I:Inv X pins U H s)(h:CE X.stack X.prog X.w H s Q u s'):EP X pins U Q u s':=by
  obtain ⟨v,H',os,bare,un,hok,r,q⟩:=h;obtain ⟨hh,g,d,t,os'⟩:=s';obtain rfl:os'=s.os:=os;exact ⟨v,H',I.call (h':=hh) (g':=g) (d':=d) (t':=t) (ch:=[]) un hok bare (λb z=>absurd z .(h)),r,q⟩
end
def zsX (sp:Sp)(dvs:List V)(E:XK)(t:TA):TE:=λU H Q=>t U H λvs H1=>sp (vs++dvs) H1 Q E
def zpd (C:Addr)(m:Str)(sp:Sp)(dvs:List V)(E:XK)(ta:TE)(t:TA):TE:=λU H Q=>ta U H λx H1=>∃ a dx fs,x=.ref a/\H1 a=some (.ins C dx fs)/\fs.lookup m=none/\
  t U H1 λvs H2=>sp (x::(vs++dvs)) H2 Q E
def zsP (C:Addr)(sp:Sp)(dvs:List V)(E:XK)(t:TA):TE:=λU H Q=>t U H λvs H1=>∀ x dx,H1 x=none->H1 dx=none->dx≠x->
  sp (.ref x::(vs++dvs)) (upd (upd H1 dx (.own x)) x (.ins C dx [])) (λv H2=>v=.non/\Q (.ref x) H2) E
def zdY (K:Frag)(fd:FuncData)(ps:List Str)(ds:List Value):Prop:=
  ∀(s:Shared) (us:List Value),K.In s.heap->(us++ds).length=ps.length->BindsTo s fd ⟨us,[]⟩ (ps.zip (us++ds))
theorem zdY.all {K:Frag}{fd:FuncData}{ps:List Str}(h:∀ us:List Value,us.length=ps.length->bindArgs fd ⟨us,[]⟩=pure (ps.zip us)):zdY K fd ps []:=λs us _ hl=>by
  rw[yaC]at hl ⊢;exact .of_eq (h us hl)
def zhg (CX:CXT)(X:Cx)(E:XK):Prop:=∀(pins:List (Addr×Obj)) (U:St) (H:Hp) (s:Shared) (e:Value) (s':Shared),Inv X pins U H s->CX X.stack H s E e s'->X.xe e s'
section
variable {X:Cx}{CX:CXT}{k:Nat}{f C:Addr}{fd:FuncData}{ps:List Str}{sp:Sp}{dvs:List V}{ds:List Value}{E:XK}{x m:Str}{p pos apos:Pos}{e o:Expr}{es:List Expr}{ta:TE}{t:TA}
theorem zk7 {Q:VK}{us:List Value}{vs:List V}(F:FnOk X.prog X.w X.K X.mg X.base CX k f fd ps sp)(hr:Room k X.A)(hb:zdY X.K fd ps ds)(hd:Vals dvs ds)(hx:zhg CX X E)
    (I:Inv X pins U H s) (r:Vals vs us) (h:sp (vs++dvs) H Q E):wpAny .(d) X.A (call (.ref f) us) (EP X pins U Q) X.xe s:=by
  have r2:Vals (vs++dvs) (us++ds):=r.append hd;have hl:(us++ds).length=ps.length:=by rw[<-r2.length];exact F.len _ _ _ _ h
  refine wpAny_call (codeAny_mono (F.run X.A X.stack s H ⟨us,[]⟩ (us++ds) (vs++dvs) Q E hr I.env0 (hb s us I.kIn hl) r2 h) λr s' hq=>?_);cases r with
  | error e=>exact hx pins U H s e s' I hq
  | ok fl=>
    cases fl with
    | ret u=>exact I.after hq
    | next=>exact False.elim hq
    | brk=>exact False.elim hq
    | cont=>exact False.elim hq
theorem zrN (F:FnOk X.prog X.w X.K X.mg X.base CX k f fd ps sp)(hr:Room k X.A)(hg:Gl X x)(hm:X.mg x=some (.ref f))(hk:keepIn X.K (.ref f)=true)(hb:zdY X.K fd ps ds)(hd:Vals dvs ds)(hx:zhg CX X E)
    (ha:PA X (e::es) t) (hdb:(x==("__debug__" : Str))=false:=by decide) (he:starEach (e::es) X.env=(false,eval e X.env)::starEach es X.env:=by rfl) (hpl:(backTo pos (starEach es X.env)).any (·.1)=false:=by rfl) :
    PE X (.Call (.Name x p) (e::es) [] pos) (zsX sp dvs E t):=by
  intro pins s U H Q I h;refine wpAny_Call_Name_kw (zdO I hg hm ?_ hdb);refine PySem.W.callWith_K (h₀:=X.base) I.ok.mod.kin hk (thn (ha pos pins s U H _ I h) λus s1 zq0=>?_) he hpl;obtain ⟨vs,H1,I1,r,q⟩:=zq0;refine ⟨I1.kIn,?_⟩;exact zk7 F hr hb hd hx I1 r q
theorem zrK {pl:Sem Bool}(he:PE X o ta)(c:Cls X.K C)(hm:Meth X.K C m f)(F:FnOk X.prog X.w X.K X.mg X.base CX k f fd ps sp)(hr:Room k X.A)(hb:zdY X.K fd ps ds)(hd:Vals dvs ds)(hx:zhg CX X E)(ha:PA X (e::es) t)
    (hst:starEach (e::es) X.env=(false,eval e X.env)::starEach es X.env:=by rfl) (hpl:(backTo pos (starEach es X.env)).any (·.1)=false:=by rfl)
    (ht:eval (.Call (.Attribute o m apos) (e::es) [] pos) X.env=(do
      let ov <-eval o X.env
      standAt apos.atName
      let (f,first) <-holding [ov] (getMethod ov m pl)
      callWith pos f first (backTo pos (starEach (e::es) X.env)) (backToKw pos (keywordEach [] X.env))):=by rfl) :
    PE X (.Call (.Attribute o m apos) (e::es) [] pos) (zpd C m sp dvs E ta t):=by
  intro pins s U H Q I h;refine PySem.W.methodCall_KW (pl:=pl) (thn (he pins s U H _ I h) λu s1 zq0=>?_) ht;obtain ⟨x,H1,I1,rx,a,dx,fs,ex,ea,l,q⟩:=zq0;subst ex;obtain rfl:u=Value.ref a:=rx;refine zfN I1 ea c hm l ?_;refine PySem.W.callWith_K (first:=[.ref a]) (h₀:=X.base) I.ok.mod.kin hm.kp (thn (ha pos pins s1 U H1 _ I1 q) λus s2 zq0=>?_) hst hpl
  obtain ⟨vs,H2,I2,r,q2⟩:=zq0;refine ⟨I2.kIn,?_⟩;exact zk7 (us:=.ref a::us) (vs:=.ref a::vs) F hr hb hd hx I2 (.cons rfl r) q2
theorem zpt {pl:Sem Bool}(he:PE X o ta)(c:Cls X.K C)(hm:Meth X.K C m f)(F:FnOk X.prog X.w X.K X.mg X.base CX k f fd ps sp)(hr:Room k X.A)(hb:zdY X.K fd ps ds)(hd:Vals dvs ds)(hx:zhg CX X E)
    (ht:eval (.Call (.Attribute o m apos) [] [] pos) X.env=(do
      let ov <-eval o X.env
      standAt apos.atName
      let (f,first) <-holding [ov] (getMethod ov m pl)
      callWith pos f first (backTo pos (starEach [] X.env)) (backToKw pos (keywordEach [] X.env))):=by rfl) :
    PE X (.Call (.Attribute o m apos) [] [] pos) (zpd C m sp dvs E ta tNil):=by
  intro pins s U H Q I h;refine PySem.W.methodCall_KW (pl:=pl) (thn (he pins s U H _ I h) λu s1 zq0=>?_) ht;obtain ⟨x,H1,I1,rx,a,dx,fs,ex,ea,l,q⟩:=zq0;subst ex;obtain rfl:u=Value.ref a:=rx;refine zfN I1 ea c hm l ?_;exact PySem.W.callWith_K0 (first:=[.ref a]) I1.kIn hm.kp (zk7 (us:=[.ref a]) (vs:=[.ref a]) F hr hb hd hx I1 (.cons rfl .nil) q)
structure Mk (K:Frag)(C f:Addr):Prop where
  makes:PySem.W.makesIn K C=true
  init:findIn K (.ref C) "__init__" = some (some (.ref f))
  fn:PySem.W.isFn K (.ref f)=true
  kp:keepIn K (.ref C)=true
theorem zpm {Q:VK}{us:List Value}{vs:List V}(M:Mk X.K C f)(F:FnOk X.prog X.w X.K X.mg X.base CX k f fd ps sp)(hr:Room (k+1) X.A)(hb:zdY X.K fd ps ds)(hd:Vals dvs ds)
    (hx:zhg CX X E) (I:Inv X pins U H s) (r:Vals vs us)
    (h:∀ x dx,H x=none->H dx=none->dx≠x->sp (.ref x::(vs++dvs)) (upd (upd H dx (.own x)) x (.ins C dx [])) (λv H2=>v=.non/\Q (.ref x) H2) E) :
    wpAny .(d) X.A (call (.ref C) us) (EP X pins U Q) X.xe s:=by
  have hq:=h (s.heap.objs.size+1) s.heap.objs.size (I.hok.fresh (ybh _)) (I.hok.fresh (yaa _)) (yat (yb2 _));have I2:=Inv.made (C:=C) I;have r2:Vals (V.ref (s.heap.objs.size+1)::(vs++dvs)) (Value.ref (s.heap.objs.size+1)::(us++ds)):=.cons rfl (r.append hd);have hl:(Value.ref (s.heap.objs.size+1)::us++ds).length=ps.length:=by
    have e:=r2.length;rw[F.len _ _ _ _ hq]at e;exact e.symm
  refine wpAny_call (zp0 (f:=f) I.kIn M.makes M.init (beq_iff_eq.mp M.fn) (codeAny_mono (F.run _ X.stack _ _ ⟨Value.ref (s.heap.objs.size+1)::us,[]⟩ (Value.ref (s.heap.objs.size+1)::(us++ds)) _ _ E (hr.make C us [])
    (I2.env0.make C us []) (hb _ (Value.ref (s.heap.objs.size+1)::us) I2.kIn hl) r2 hq) λr s' hq'=>?_))
  cases r with
  | error e=>exact hx pins U _ _ e s' I2 hq'
  | ok fl=>
    cases fl with
    | ret u=>
      obtain ⟨v,H',I3,rv,ev,q3⟩:=I2.after hq';subst ev;exact ⟨rv,⟨V.ref (s.heap.objs.size+1),H',I3,rfl,q3⟩⟩
    | next=>exact False.elim hq'
    | brk=>exact False.elim hq'
    | cont=>exact False.elim hq'
theorem zrL (M:Mk X.K C f)(F:FnOk X.prog X.w X.K X.mg X.base CX k f fd ps sp)(hr:Room (k+1) X.A)(hg:Gl X x)(hm:X.mg x=some (.ref C))(hb:zdY X.K fd ps ds)(hd:Vals dvs ds)(hx:zhg CX X E)
    (ha:PA X (e::es) t) (hdb:(x==("__debug__" : Str))=false:=by decide) (he:starEach (e::es) X.env=(false,eval e X.env)::starEach es X.env:=by rfl) (hpl:(backTo pos (starEach es X.env)).any (·.1)=false:=by rfl) :
    PE X (.Call (.Name x p) (e::es) [] pos) (zsP C sp dvs E t):=by
  intro pins s U H Q I h;refine wpAny_Call_Name_kw (zdO I hg hm ?_ hdb);refine PySem.W.callWith_K (h₀:=X.base) I.ok.mod.kin M.kp (thn (ha pos pins s U H _ I h) λus s1 zq0=>?_) he hpl;obtain ⟨vs,H1,I1,r,q⟩:=zq0;refine ⟨I1.kIn,?_⟩;exact zpm M F hr hb hd hx I1 r q
end
structure zap (N P:List Str)(sc:Scope):Prop where
  kind:sc.kind=.function
  co:sc.isCoroutine=false
  gen:sc.isGenerator=false
  nd:N.Nodup
  pre:N.take P.length=P
  par:∀ x∈P,sc.names.lookup x=some .local\/sc.names.lookup x=some .cell
  nofree:∀ y∈sc.names,y.2≠.free
theorem zjK {kindOf:Str->Option NameKind}{x:Str}:∀{binds:List (Str×Value)} {m:Str->Option Value},(∀ v,(x,v)∉binds)->bindL kindOf binds m x=m x
  | [],_,_=>rfl
  | (n,v)::r,m,h=>by
    unfold bindL;rw[zjK λw hw=>h w (yar _ hw)];split
    · have:x≠n:=by rintro rfl;exact h v yau
      simp[this]
    · rfl
theorem zjM {kindOf:Str->Option NameKind}{x:Str}:∀{binds:List (Str×Value)} {m:Str->Option Value},(∀ v,(x,v)∉binds)->bindC kindOf binds m x=m x
  | [],_,_=>rfl
  | (n,v)::r,m,h=>by
    unfold bindC;rw[zjM λw hw=>h w (yar _ hw)];split
    · rfl
    · have:x≠n:=by rintro rfl;exact h v yau
      simp[this]
theorem zjL {kindOf:Str->Option NameKind}{x:Str}{v:Value}:∀{P:List Str} {vs:List Value} {i:Nat} {m:Str->Option Value},P.Nodup->P[i]?=some x->vs[i]?=some v->kindOf x=some .local->
    bindL kindOf (P.zip vs) m x=some v
  | [],_,_,_,_,h,_,_=>by simp at h
  | _::_,[],_,_,_,_,h,_=>by simp at h
  | p::P,w::vs,0,m,nd,h1,h2,hk=>by
    simp at h1 h2;subst h1;subst h2;show bindL kindOf ((p,w)::P.zip vs) m p=_;unfold bindL;rw[zjK λv hv=>(yaK.mp nd).1 (ybQ hv).1,if_pos hk];simp
  | p::P,w::vs,i+1,m,nd,h1,h2,hk=>by
    show bindL kindOf ((p,w)::P.zip vs) m x=_;unfold bindL;exact zjL (i:=i) (yaK.mp nd).2 (by simpa using h1) (by simpa using h2) hk
theorem zjN {kindOf:Str->Option NameKind}{x:Str}{v:Value}:∀{P:List Str} {vs:List Value} {i:Nat} {m:Str->Option Value},P.Nodup->P[i]?=some x->vs[i]?=some v->kindOf x≠some .local->
    bindC kindOf (P.zip vs) m x=some v
  | [],_,_,_,_,h,_,_=>by simp at h
  | _::_,[],_,_,_,_,h,_=>by simp at h
  | p::P,w::vs,0,m,nd,h1,h2,hk=>by
    simp at h1 h2;subst h1;subst h2;show bindC kindOf ((p,w)::P.zip vs) m p=_;unfold bindC;rw[zjM λv hv=>(yaK.mp nd).1 (ybQ hv).1,if_neg hk];simp
  | p::P,w::vs,i+1,m,nd,h1,h2,hk=>by
    show bindC kindOf ((p,w)::P.zip vs) m x=_;unfold bindC;exact zjN (i:=i) (yaK.mp nd).2 (by simpa using h1) (by simpa using h2) hk
def zcV (N:List Str)(vs:List V):St:=vs.map some++List.replicate (N.length-vs.length) none
def cxOf (CX:CXT)(P:Program)(w:World)(K:Frag)(mg:Str->Option Value)(base:Heap)(N:List Str)(qual:Str)(scope:Scope)(f:Addr)(cd:Value)(A:Around)(outer:List Env)(s:Shared)(H:Hp)(E:XK):Cx where
  prog:=P
  w:=w
  K:=K
  mg:=mg
  base:=base
  A:=A.deeper (envOfC qual scope s.heap.objs.size f cd)
  N:=N
  s₀:=s
  H₀:=H
  env:=envOfC qual scope s.heap.objs.size f cd
  outer:=outer
  stack:=envOfC qual scope s.heap.objs.size f cd::outer
  ex:=[]
  calm:=true
  fn:=λ_=>true
  pn:=[]
  xe:=λe s'=>wpAny (model P w) (A.deeper (envOfC qual scope s.heap.objs.size f cd)) (leaving (envOfC qual scope s.heap.objs.size f cd) e) (λ_ s''=>CX outer H s E e s'') (λe' s''=>CX outer H s E e' s'') s'
theorem zlE {sc:Scope}{n:Nat}{x:Str}(h:sc.names.lookup x=some .cell):∃ c,(cellsFrom n sc.names []).lookup x=some c:=by
  have q:=PySem.W.cellsFrom_some sc.names n [] (.inl h);exact yb3.mp q
theorem zoh {K:Frag}{qual:Str}{f:Addr}{cd:Value}{A:Around}{s1:Shared}{us:List Value}{vs:List V}
    (S:zap N ps scope) (hd:A.handled=none) (e0:Env0 P w K mg base A outer s H) (hl:vs.length=ps.length) (r:Vals vs us)
    (x:InCallC s s.heap.objs.size (bindL (envOfC qual scope s.heap.objs.size f cd).kindOf (ps.zip us) λ_=>none) (cellsFrom (s.heap.objs.size+1) scope.names []) (bindC (envOfC qual scope s.heap.objs.size f cd).kindOf (ps.zip us) λ_=>none) s1) :
    Inv (cxOf CX P w K mg base N qual scope f cd A outer s H E) [] (zcV N vs) H s1:=by
  have hpl:ps.length<=N.length:=by have:=congrArg List.length S.pre;rw[yao]at this;lia
  obtain ⟨h1,tk,rfl,hk⟩:=x.done;have noA:∀ b:Addr,b∉(cxOf CX P w K mg base N qual scope f cd A outer s H E).ex:=λb z=>absurd (show b∈([]:List Addr) from z) (by simp);refine ⟨⟨e0.mod,S.kind,rfl,rfl,yaa _,λy z c h1 h2=>?_,λy hy=>?_,λy c _ h=>?_,λ_=>hd,Around.frames_deeper e0.frames,.inr ⟨rfl,rfl⟩,λb z=>absurd z (noA b),e0.bs,e0.bsz,λb _ _=>noA b,λb z=>absurd z (noA b),e0.funs,e0.frf⟩,
    rfl,e0.bare,Un.kept hk,⟨_,x.toInCall.ns,λi y v h1 h2 h3=>?_⟩,λy c h=>⟨_,x.cell y c h⟩,e0.hok.fresh (yaa _),λy c h=>?_,λp hp=>absurd (show p∈([]:List (Addr×Obj)) from hp) (by simp),e0.hok.kept hk,?_⟩
  · exact name_of_addr x.apart (PySem.mem_of_lookup h1) (PySem.mem_of_lookup h2)
  · have hy:scope.names.lookup y=some .cell\/scope.names.lookup y=some .free:=hy
    rcases hy with hy|hy
    · exact zlE hy
    · exact absurd rfl (S.nofree _ (PySem.mem_of_lookup hy))
  · exact yaU (x.above y c (PySem.mem_of_lookup h))
  · have hi:i<vs.length:=by
      unfold zcV at h2;by_cases hi:i<vs.length
      · exact hi
      · rw[ya4 (by simpa using hi)]at h2
        rw[List.getElem?_replicate]at h2;split at h2<;>cases h2
    have ha:vs[i]?=some v:=by
      unfold zcV at h2;rw[yba (by simpa using hi),yam]at h2;cases e:vs[i]? with
      | none=>rw[e]at h2;cases h2
      | some a=>rw[e]at h2;cases h2;rfl
    obtain ⟨u,hu,rv⟩:=r.get ha;have hp:ps[i]?=some y:=by
      rw[<-S.pre,List.getElem?_take_of_lt .(a)];exact h1
    have ndP:ps.Nodup:=by rw[<-S.pre];exact S.nd.sublist (List.take_sublist _ _)
    refine ⟨u,rv,?_⟩;rcases S.par y (yaN hp) with k|k
    · exact .inl ⟨k,zjL ndP hp hu k⟩
    · obtain ⟨c,e⟩:=zlE (n:=s.heap.objs.size+1) k
      refine .inr ⟨.inl k,c,e,?_⟩;have q:=x.cell y c e;rw[zjN ndP hp hu (by show scope.names.lookup y≠_;rw[k];decide)]at q;exact q
  · exact e0.hok.fresh (yaU (x.above y c (PySem.mem_of_lookup h)))
  · unfold zcV
    show _=N.length;rw[yah,yab,yby];lia
theorem zsq {K:Frag}{k:Nat}{f:Addr}{name qual:Str}{params:Arguments}{body:List Stmt}{scope:Scope}{dV kV doc pm cdv ct oc:Value}{an od:Option Addr}
    {osl:Array (Option Value)}  {sp:Sp} (lk:K.lookup f=some ⟨oc,od,.func (fnOf name qual params body scope dV kV doc pm an cdv ct),osl⟩) (hcd:codeIn K cdv qual=true) (S:zap N ps scope)
    (len:∀ vs H Q E,sp vs H Q E->vs.length=ps.length)
    (hbody:∀(A:Around) (outer:List Env) (s:Shared) (H:Hp) (vs:List V) (Q:VK) (E:XK),Room k (A.deeper (envOfC qual scope s.heap.objs.size f cdv))->sp vs H Q E->
      ∃ t,PSs (cxOf CX P w K mg base N qual scope f cdv A outer s H E) body t/\t { nx:=λ_ H'=>Q .non H',rt:=Q } (zcV N vs) H) :
    FnOk P w K mg base CX (k+1) f (fnOf name qual params body scope dV kV doc pm an cdv ct) ps sp:=by
  refine ⟨len,λA outer s H args us vs Q E hr e0 hb r hsp=>?_⟩;have hl:=len _ _ _ _ hsp;have KX:K.In s.heap:=e0.mod.kin.keeps λb o e=>(e0.bs b o e).1;have lim:s.heap.NoLimit:=e0.mod.nolimit.keeps λb o e=>(e0.bs b o e).1;have hkind:∀ y∈ps.zip us,scope.names.lookup y.1=some .local\/(scope.names.lookup y.1=some .cell/\((cellsFrom (s.heap.objs.size+1) scope.names []).lookup y.1).isSome=true):=λ⟨n,v⟩ hy=>by
    rcases S.par n (ybQ hy).1 with q|q
    · exact .inl q
    · exact .inr ⟨q,PySem.W.cellsFrom_some _ _ _ (.inl q)⟩
  refine codeAny_call_function hr.depth (KX _ _ lk) rfl S.co S.gen rfl (PySem.W.codeRec_of KX hcd) (hb _ _ _ _ ?_);refine wpAny_newFunctionEnv_cells S.kind hkind λenv he s1 x=>?_;subst he;refine ⟨lim.keeps x.toInCall.keep,codeAny_func ?_⟩;obtain ⟨t,ht,hq⟩:=hbody A outer s H vs Q E (hr.deeper _) hsp;have I:Inv (cxOf CX P w K mg base N qual scope f cdv A outer s H E) [] (zcV N vs) H s1:=zoh S hr.hd e0 hl r x;refine wpAny_mono (ht [] s1 (zcV N vs) H _ I hq) (λfl s' hs=>?_) λe s' hs=>hs;have fin:∀{U':St} {H':Hp} {v:V} {u:Value},Inv (cxOf CX P w K mg base N qual scope f cdv A outer s H E) [] U' H' s'->RelV v u->Q v H'->CE outer P w H s Q u s':=
    λ{U' H' v u} J rv q=>⟨v,H',J.os,J.bare,J.base,J.hok,rv,q⟩
  cases fl with
  | ret u=>
    obtain ⟨v,U',H',J,rv,q⟩:=hs;exact fin J rv q
  | next=>
    obtain ⟨U',H',J,q⟩:=hs;exact fin (v:=V.non) (u:=Value.none) J rfl q
  | brk=>
    obtain ⟨_,_,_,q⟩:=hs;exact False.elim q
  | cont=>
    obtain ⟨_,_,_,q⟩:=hs;exact False.elim q
end L2
namespace L2
open PySem PySem.Spec PyProof.Rows
section
variable {X:Cx}{x:Str}{p pos:Pos}{e:Expr}{es:List Expr}{t:TA}{id T:String}{r:List V->Hp->VK->Prop}
def tCB (r:List V->Hp->VK->Prop)(t:TA):TE:=λU H Q=>t U H λvs H1=>r vs H1 Q
theorem zan (hc:zdg X (.builtin id) r)(hg:Gl X x)(hm:X.mg x=none)(hv:bootBuiltins x=some (.builtin id))(ha:PA X (e::es) t)(hn:x ≠ "__name__":=by decide)(hdb:(x==("__debug__" : Str))=false:=by decide)
    (he:starEach (e::es) X.env=(false,eval e X.env)::starEach es X.env:=by rfl) (hpl:(backTo pos (starEach es X.env)).any (·.1)=false:=by rfl):PE X (.Call (.Name x p) (e::es) [] pos) (tCB r t):=by
  intro pins s U H Q I h;refine wpAny_Call_Name_kw (zfZ I hg hm hv ?_ hn hdb);exact PyProof.Rows.callWith_builtin1 (thn (ha pos pins s U H _ I h) λus s1 zq0=>(by obtain ⟨vs,H1,I1,r1,q1⟩:=zq0;exact hc pins s1 U H1 vs us Q I1 r1 q1)) he hpl
theorem zaY (hc:zdg X (.type T) r)(hg:Gl X x)(hm:X.mg x=none)(hv:bootBuiltins x=some (.type T))(ha:PA X (e::es) t)(hn:x ≠ "__name__":=by decide)(hdb:(x==("__debug__" : Str))=false:=by decide)
    (he:starEach (e::es) X.env=(false,eval e X.env)::starEach es X.env:=by rfl) (hpl:(backTo pos (starEach es X.env)).any (·.1)=false:=by rfl):PE X (.Call (.Name x p) (e::es) [] pos) (tCB r t):=by
  intro pins s U H Q I h;refine wpAny_Call_Name_kw (zfZ I hg hm hv ?_ hn hdb);exact PyProof.Rows.callWith_type1 (thn (ha pos pins s U H _ I h) λus s1 zq0=>(by obtain ⟨vs,H1,I1,r1,q1⟩:=zq0;exact hc pins s1 U H1 vs us Q I1 r1 q1)) he hpl
end
end L2
namespace HT
open PySem PyProof.Rows
section
variable {prog:Program}{w:World}{A:Around}{E:Value->Shared->Prop}{s:Shared}
theorem cat_tup {t b:Addr}{vs ws:List Value}{Q:Value->Shared->Prop}(ht:IsTup s.heap t vs.toArray)(hb:IsTup s.heap b ws.toArray)(hv:vs≠[])
    (h1:ws=[]->Q (.ref t) s) (h2:ws≠[]->Q (.ref s.heap.objs.size) { s with heap:=s.heap.push { cls:=.type "tuple",data:=.seq (vs++ws).toArray } })
    (hsz:vs.length+ws.length<=sizeLine):wpAny .(j) A (binaryOp .Add (.ref t) (.ref b)) Q E s:=by
  obtain ⟨⟨cls,dd,data,sl⟩,ho,hc,n,hd⟩:=id ht;obtain ⟨⟨cls2,dd2,data2,sl2⟩,ho2,hc2,n2,hd2⟩:=id hb;simp only at hc hd hc2 hd2;subst hc hd hc2 hd2;have e:vs.toArray++ws.toArray=(vs++ws).toArray:=by simp
  by_cases hw:ws=[]
  · exact concat_meets ⟨_,ho,rfl⟩ ⟨_,ho2,rfl⟩ noFill_tuple_add seq_tuple_add PySem.F.slot_tuple_add PySem.F.entry_tuple_add (PySem.F.args_tuple_add_2 _ _)
      (tuple_addW1 t b vs.toArray ws.toArray n n2 dd dd2 sl sl2 (by simpa using hv) (by simp[hw])) ⟨ho,ho2,h1 hw⟩
  · refine concat_meets ⟨_,ho,rfl⟩ ⟨_,ho2,rfl⟩ noFill_tuple_add seq_tuple_add PySem.F.slot_tuple_add PySem.F.entry_tuple_add (PySem.F.args_tuple_add_2 _ _)
      (tuple_addW2 t b vs.toArray ws.toArray n n2 dd dd2 sl sl2 (by simpa using hv) (by simpa using hw) (by rw[yav,yav];exact hsz)) ⟨ho,ho2,?_⟩
    rw[e];exact h2 hw
def sIx (n d:Nat):Option Int->Nat
  | none=>d
  | some v=>if v<0 then (v+(n:Int)).toNat else min v.toNat n
theorem zdd (n d k:Nat):sIx n d (some (k:Int))=min k n:=by
  show (if (k:Int)<0 then ((k:Int)+(n:Int)).toNat else min (k:Int).toNat n)=min k n
  rw[if_neg .(a),ya5]
theorem zs9 (n d:Nat)(hd:d<=n)(o:Option Int):sIx n d o<=n:=by
  cases o with
  | none=>exact hd
  | some v=>
    show (if v<0 then (v+(n:Int)).toNat else min v.toNat n)<=n
    by_cases hv:v<0
    · rw[if_pos hv];lia
    · rw[if_neg hv];exact Nat.min_le_right _ _
theorem zoO (v:Int)(n d:Nat):(if v<0 then max (v+(n:Int)) 0 else min v (n:Int))=((sIx n d (some v):Nat):Int):=by
  show (if v<0 then max (v+(n:Int)) 0 else min v (n:Int))=(((if v<0 then (v+(n:Int)).toNat else min v.toNat n):Nat):Int)
  by_cases hv:v<0
  · simp only[if_pos hv];lia
  · simp only[if_neg hv];lia
theorem zmp (lo hi:Option Int)(n:Nat):Builtin.Slice.sliceAdjust lo hi 1 (n:Int)=(((sIx n 0 lo:Nat):Int),((sIx n n hi:Nat):Int)):=by
  have h1:¬ ((1:Int)<0):=by lia
  unfold Builtin.Slice.sliceAdjust;simp only[h1,if_false];refine Prod.ext ?_ ?_
  · cases lo with
    | none=>rfl
    | some v=>exact zoO v n 0
  · cases hi with
    | none=>rfl
    | some v=>exact zoO v n n
theorem zlP (i j:Nat):Builtin.Slice.slicePlaces (i:Int) (j:Int) 1=j-i:=by
  unfold Builtin.Slice.slicePlaces;have h1:(1:Int)>0:=by lia
  simp only[h1,if_true,Int.ediv_one];split<;>lia
theorem zht {v:Value}{o:Option Int}{Q:Option Int->Shared->Prop}(p:IsPart v o)(h:Q o s):wpAny .(j) A (Builtin.Slice.slicePartIndex v) Q E s:=by
  cases p with
  | none=>exact slicePart_none h
  | int i t=>exact slicePart_int h
theorem zdV {sl:Addr}{vl vu:Value}{lo hi:Option Int}{Q:Int×Int×Nat->Shared->Prop}(hs:s.heap.IsSliceOf sl vl vu .none)(pl:IsPart vl lo)(pu:IsPart vu hi)
    (h:Q (((sIx n 0 lo:Nat):Int),1,sIx n n hi-sIx n 0 lo) s):wpAny .(j) A (Builtin.Slice.sliceApplied (.ref sl) (pure (n:Int))) Q E s:=by
  obtain ⟨os,hos,hcs,hds⟩:=id hs;unfold Builtin.Slice.sliceApplied Builtin.Slice.sliceFields;refine wpAny_bind (wpAny_bind (wpAny_field hos hds (x:=vl) rfl (wpAny_bind (wpAny_field hos hds (x:=vu) rfl (wpAny_bind (wpAny_field hos hds (x:=.none) rfl (wpAny_pure ?_)))))));refine wpAny_bind (slicePart_none ?_);show wpAny _ _ (if ((1:Int)==0)=true then _ else _) _ _ s
  rw[if_neg .(i)];refine wpAny_bind (zht pl (wpAny_bind (zht pu (wpAny_bind (wpAny_pure ?_)))));show wpAny _ _ (match Builtin.Slice.sliceAdjust lo hi 1 (n:Int) with|(lo,hi)=>pure (lo,(1:Int),Builtin.Slice.slicePlaces lo hi 1)) _ _ s
  rw[zmp lo hi n];show wpAny _ _ (pure (((sIx n 0 lo:Nat):Int),(1:Int),Builtin.Slice.slicePlaces ((sIx n 0 lo:Nat):Int) ((sIx n n hi:Nat):Int) 1)) _ _ s;rw[zlP];exact wpAny_pure h
theorem zpr (xs:Array Value)(i k:Nat):((List.range k).filterMap λ(m:Nat)=>xs[((i:Int)+(m:Int)*1).toNat]?).toArray=((xs.toList.drop i).take k).toArray:=by
  have e:(λ(m:Nat)=>xs[((i:Int)+(m:Int)*1).toNat]?)=λm=>xs[i+m]?:=by
    funext m
    have:((i:Int)+(m:Int)*1).toNat=i+m:=by lia
    rw[this]
  rw[e];have:=pick_run xs i k;rw[List.filterMap_map]at this;have e2:((λx=>xs[x]?) ∘ λx=>i+x)=λm=>xs[i+m]?:=rfl;rw[e2]at this;rw[this]
theorem getItem_tuple_cut {t sl:Addr}{items:Array Value}{vl vu:Value}{lo hi:Option Int}{Q:Value->Shared->Prop}(ht:IsTup s.heap t items)(hs:s.heap.IsSliceOf sl vl vu .none)(pl:IsPart vl lo)(pu:IsPart vu hi)
    (hw:¬ (sIx items.size 0 lo=0/\sIx items.size items.size hi=items.size))
    (h:Q (.ref s.heap.objs.size) { s with heap:=s.heap.push { cls:=.type "tuple",data:=.seq ((items.toList.drop (sIx items.size 0 lo)).take (sIx items.size items.size hi-sIx items.size 0 lo)).toArray } })
    (hsz:items.size<=sizeLine):wpAny .(j) A (getItem (.ref t) (.ref sl)) Q E s:=by
  have htake:sizeOk (.seq ((items.toList.drop (sIx items.size 0 lo)).take (sIx items.size items.size hi-sIx items.size 0 lo)).toArray):=by
    show ((items.toList.drop (sIx items.size 0 lo)).take (sIx items.size items.size hi-sIx items.size 0 lo)).toArray.size<=sizeLine;rw[yav,yao,yaR,ybl];lia
  have hj:sIx items.size items.size hi<=items.size:=zs9 _ _ (yaa _) hi;obtain ⟨os,hos,hcs,hds⟩:=id hs;have hTs:s.TypeIs (.ref sl) "slice":=⟨os,hos,hcs⟩;unfold getItem
  try with_reducible refine wpAny_holding ?_
  first|refine wpAny_bind (wpAny_pure ?_)|skip
  refine wpAny_bind (wpAny_sequenceKey ht.typeIs (by decide) ?_);refine wpAny_bind (wpAny_callSpecial?_slot (name:=Str.ofString "__getitem__") ht.typeIs PyProof.Rows.slot_tuple_getitem
    (wpAny_call_entry PyProof.Rows.slot_tuple_getitem ht.typeIs entry_tuple_getitem ?_ (args_tuple_getitem _ _)))
  show wpAny _ _ (Builtin.Tuple.tupleItemsOf (.ref t) >>= _) _ _ s;refine wpAny_bind (tupleItemsOf_ ht ?_);refine wpAny_bind (wpAny_typeOf hTs ?_);rw[if_pos .(i)];refine wpAny_bind (zdV hs pl pu ?_);have hno:¬ ((((sIx items.size 0 lo:Nat):Int)==0&&(1:Int)==1&&(sIx items.size items.size hi-sIx items.size 0 lo)==items.size)=true):=by
    intro q;rw[ybb,ybb]at q;have q1:((sIx items.size 0 lo:Nat):Int)=0:=eq_of_beq q.1.1;have q2:sIx items.size items.size hi-sIx items.size 0 lo=items.size:=eq_of_beq q.2;exact hw ⟨by lia,by lia⟩
  show wpAny _ _ (if (((sIx items.size 0 lo:Nat):Int)==0&&(1:Int)==1&&(sIx items.size items.size hi-sIx items.size 0 lo)==items.size)=true then _ else _) _ _ s
  rw[if_neg hno,zpr]
  first
    | exact wpAny_bind (m:=Builtin.Tuple.tupleExact _) (wpAny_newObj_type (wpAny_pure ⟨_,rfl,wpAny_pure h⟩) htake)
    | exact wpAny_bind (m:=Builtin.Tuple.tupleExact _) (wpAny_newObj_type (wpAny_bind (wpAny_pure (wpAny_pure ⟨_,rfl,wpAny_pure h⟩))) htake)
    | exact wpAny_bind (wpAny_bind (m:=Builtin.Tuple.tupleExact _) (wpAny_newObj_type (wpAny_pure (wpAny_pure ⟨_,rfl,wpAny_pure h⟩)) htake))
    | exact wpAny_bind (wpAny_bind (m:=Builtin.Tuple.tupleExact _) (wpAny_newObj_type (wpAny_pure ⟨_,rfl,wpAny_pure h⟩) htake))
end
end HT
namespace L2
open PySem PySem.Spec PyProof.Rows
abbrev TO:=St->Hp->(Option Int->Hp->Prop)->Prop
def PO (X:Cx)(e:Option Expr)(t:TO):Prop:=
  ∀(pins:List (Addr×Obj)) (s:Shared) (U:St) (H:Hp) (Q:Option Int->Hp->Prop),Inv X pins U H s->t U H Q->
    wpAny .(d) X.A (evalPart e X.env) (λu s'=>∃ o H',Inv X pins U H' s'/\IsPart u o/\Q o H') X.xe s
def zjU:TO:=λ_ H Q=>Q none H
def zuf (t:TE):TO:=λU H Q=>t U H λx H1=>∃ i,x=.int i/\Q (some i) H1
section
variable {X:Cx}{e:Expr}{te:TE}{lo hi:Option Expr}{tl th:TO}{pos p2:Pos}
theorem zcK:PO X none zjU:=by
  intro pins s U H Q I h;rw[evalPart_none];exact wpAny_pure ⟨none,H,I,.none,h⟩
theorem zbL (h:PE X e te):PO X (some e) (zuf te):=by
  intro pins s U H Q I hw;rw[evalPart_some];refine thn (h pins s U H _ I hw) λu s1 zq0=>?_;obtain ⟨x,H1,I1,r1,q1⟩:=zq0;obtain ⟨i,rfl,q⟩:=q1;obtain ⟨t,rfl⟩:=r1;exact ⟨some i,H1,I1,.int i t,q⟩
def SlR (X:Cx)(r:V->Option Int->Option Int->Hp->VK->Prop):Prop:=
  ∀(pins:List (Addr×Obj)) (s:Shared) (U:St) (H:Hp) (x:V) (v vl vu:Value) (lo hi:Option Int) (sl:Addr) (Q:VK),Inv X pins U H s->RelV x v->s.heap.IsSliceOf sl vl vu .none->IsPart vl lo->IsPart vu hi->r x lo hi H Q->
    ∃ T id,typeLookup (.type T) "__getitem__" = pure (some (.builtin id))/\s.TypeIs v T/\wpAny .(d) X.A (getItem v (.ref sl)) (EP X pins U Q) X.xe s
def tSl (r:V->Option Int->Option Int->Hp->VK->Prop)(te:TE)(tl th:TO):TE:=λU H Q=>te U H λx H1=>tl U H1 λl H2=>th U H2 λu H3=>r x l u H3 Q
theorem zbH (hr:SlR X r)(he:PE X e te)(hl:PO X lo tl)(hu:PO X hi th):PE X (.Subscript e (.Slice lo hi none p2) pos) (tSl r te tl th):=by
  intro pins s U H Q I h;refine Subscript_ (thn (he pins s U H _ I h) λv s1 zq0=>?_);obtain ⟨x,H1,I1,r1,q1⟩:=zq0;refine wpAny_Slice (thn (hl pins s1 U H1 _ I1 q1) λvl s2 zq0=>?_);obtain ⟨l,H2,I2,pl,q2⟩:=zq0;refine thn (hu pins s2 U H2 _ I2 q2) λvu s3 zq1=>?_;obtain ⟨u,H3,I3,pu,q3⟩:=zq1;rw[evalPart_none];refine wpAny_pure ?_;have I4:Inv X pins U H3 { s3 with heap:=s3.heap.push { cls:=.type "slice",data:=.fields #[vl,vu,.none] } }:=I3.kept (t':=s3.toks) λb ob q=>yak _ q;obtain ⟨T,id,hT,ht,hg⟩:=hr pins { s3 with heap:=s3.heap.push { cls:=.type "slice",data:=.fields #[vl,vu,.none] } } U H3 x v vl vu l u s3.heap.objs.size Q I4 r1 (Heap.IsSliceOf.new ..) pl pu q3;show wpAny .(d) X.A (subscriptTail e (.Slice lo hi none p2) v (.ref s3.heap.objs.size)) (EP X pins U Q) X.xe { s3 with heap:=s3.heap.push { cls:=.type "slice",data:=.fields #[vl,vu,.none] } };exact tail_any (ops:=[.ref s3.heap.objs.size,v]) ht hT hg (by with_unfolding_all rfl)
def cutV (xs:List V)(lo hi:Option Int):List V:=(xs.drop (HT.sIx xs.length 0 lo)).take (HT.sIx xs.length xs.length hi-HT.sIx xs.length 0 lo)
theorem zg6 (xs:List V)(lo hi:Option Int):(cutV xs lo hi).length<=xs.length:=by
  unfold cutV;rw[yao,yaR];lia
def rSlT (K:Frag):V->Option Int->Option Int->Hp->VK->Prop:=λx lo hi H Q=>∃ a xs,x=.ref a/\SqT K H a xs/\
  ¬ (HT.sIx xs.length 0 lo=0/\HT.sIx xs.length xs.length hi=xs.length)/\∀ p,H p=none->Q (.ref p) (upd H p (.tup (cutV xs lo hi)))
theorem zs8:SlR X (rSlT X.K):=by
  intro pins s U H x v vl vu lo hi sl Q I rx hs pl pu h;obtain ⟨a,xs,rfl,hx,hw,q⟩:=h;cases rx
  obtain ⟨its,r,ht,hz⟩:=I.tuple hx;have hlen:its.toArray.size=xs.length:=by rw[yav];exact r.length.symm
  refine ⟨"tuple",_,PyProof.Rows.slot_tuple_getitem.lookup,ht.typeIs,?_⟩;refine HT.getItem_tuple_cut ht hs pl pu (by rw[hlen];exact hw) ?_ (by rw[hlen];exact hz);rw[hlen];refine ⟨.ref s.heap.objs.size,_,I.laid (t':=s.toks) (o:=.tup (cutV xs lo hi)) (λb ob q=>yak _ q) (yaa _) ?_,rfl,q _ (I.hok.fresh (yaa _))⟩;exact ⟨yax (zg6 xs lo hi) hz,_,(r.drop (HT.sIx xs.length 0 lo)).take (HT.sIx xs.length xs.length hi-HT.sIx xs.length 0 lo),IsTup.new _ _⟩
def zrE (K:Frag):R2:=λx y H Q=>∃ a b xs ys,x=.ref a/\y=.ref b/\SqT K H a xs/\SqT K H b ys/\xs≠[]/\xs.length+ys.length<=sizeLine/\
  (ys=[]->Q (.ref a) H)/\(ys≠[]->∀ p,H p=none->Q (.ref p) (upd H p (.tup (xs++ys))))
theorem Vals.nil_iff {xs:List V}{us:List Value}(r:Vals xs us):us=[]↔xs=[]:=by
  cases r with
  | nil=>simp
  | cons _ _=>simp
theorem zgU:OpR X (binaryOp .Add) (zrE X.K):=by
  intro pins s U H x y v u Q I rx ry h;obtain ⟨a,b,xs,ys,rfl,rfl,ha,hb,hx,hz,q1,q2⟩:=h;cases rx
  cases ry
  obtain ⟨its,r1,p1,_⟩:=I.tuple ha;obtain ⟨its2,r2,p2,_⟩:=I.tuple hb;refine HT.cat_tup p1 p2 (λz=>hx (r1.nil_iff.mp z)) (λz=>⟨.ref a,H,I,rfl,q1 (r2.nil_iff.mp z)⟩) (λz=>?_) (by rw[<-r1.length,<-r2.length];exact hz);refine ⟨.ref s.heap.objs.size,_,I.laid (t':=s.toks) (o:=.tup (xs++ys)) (λb ob q=>yak _ q) (yaa _) ?_,rfl,q2 (λw=>z (r2.nil_iff.mpr w)) _ (I.hok.fresh (yaa _))⟩;exact ⟨by rw[yah];exact hz,_,r1.append r2,IsTup.new _ _⟩
end
end L2
namespace L2
open PySem PySem.Spec PyProof.Rows
def ixN (n:Nat)(i:Int):Option Nat:=if 0<=i then (if i<n then some i.toNat else none) else if -(n:Int)<=i then some (i+n).toNat else none
def atI {α:Type}(xs:List α)(i:Int):Option α:=(ixN xs.length i).bind λj=>xs[j]?
theorem zoe {j:Nat}(h:ixN n i=some j):seqIndex? i n=some j/\j<n/\-(n:Int)<=i/\i<n:=by
  unfold ixN at h;by_cases h0:0<=i
  · rw[if_pos h0]at h
    by_cases h1:i<n
    · rw[if_pos h1]at h
      have e:i.toNat=j:=yae h;exact ⟨by rw[seqIndex_of h0 h1,e],by lia,by lia,h1⟩
    · rw[if_neg h1]at h;cases h
  · rw[if_neg h0]at h
    by_cases h1:-(n:Int)<=i
    · rw[if_pos h1]at h
      have e:(i+n).toNat=j:=yae h;exact ⟨by rw[seqIndex_neg .(a) h1,e],by lia,h1,by lia⟩
    · rw[if_neg h1]at h;cases h
theorem zo0 {α:Type}{xs:List α}{v:α}(h:atI xs i=some v):∃ j,seqIndex? i xs.length=some j/\xs[j]?=some v/\j<xs.length/\-(xs.length:Int)<=i/\i<xs.length:=by
  unfold atI at h;cases e:ixN xs.length i with
  | none=>rw[e]at h;cases h
  | some j=>
    rw[e]at h;obtain ⟨h1,h2,h3,h4⟩:=zoe e;exact ⟨j,h1,h,h2,h3,h4⟩
theorem za5 {α:Type}{xs:List α}{j:Nat}{v:α}(h:xs[j]?=some v):atI xs (j:Int)=some v:=by
  have hj:j<xs.length:=(yaj.mp h).1;have e:ixN xs.length (j:Int)=some j:=by
    unfold ixN;rw[if_pos .(a),if_pos .(a)];simp
  unfold atI;rw[e];exact h
def zsH (b:Expr):Prop:=∀ o i,subscripted b false o i=operate [o,i] (getItem o i)
def IxR (X:Cx)(r:R2):Prop:=
  ∀(value slice:Expr) (pins:List (Addr×Obj)) (s:Shared) (U:St) (H:Hp) (x y:V) (v u:Value) (Q:VK),Inv X pins U H s->RelV x v->RelV y u->r x y H Q->
    subscripted slice false v u=operate [v,u] (getItem v u)->wpAny .(d) X.A (subscriptTail value slice v u) (EP X pins U Q) X.xe s
def MtR (X:Cx)(id:String)(r:V->List V->Hp->VK->Prop):Prop:=
  ∀(pins:List (Addr×Obj)) (s:Shared) (U:St) (H:Hp) (x:V) (xs:List V) (v:Value) (us:List Value) (Q:VK),Inv X pins U H s->RelV x v->Vals xs us->r x xs H Q->
    wpAny .(d) X.A (call (.builtin id) (v::us)) (EP X pins U Q) X.xe s
section
variable {X:Cx}{a b:Expr}{ta tb:TE}{pos:Pos}
theorem zaB (hr:IxR X r)(ha:PE X a ta)(hb:PE X b tb)(hs:zsH b):PE X (.Subscript a b pos) (tOp r ta tb):=by
  intro pins s U H Q I h;exact Subscript_ (binT ha hb I h λv u s2 x y H2 I2 rx ry q=>hr a b pins s2 U H2 x y v u Q I2 rx ry q (hs _ _))
def rIxL (K:Frag):R2:=λx y H Q=>∃ p xs i v,x=.ref p/\y=.int i/\SqL K H p xs/\atI xs i=some v/\Q v H
def rIxT (K:Frag):R2:=λx y H Q=>∃ p xs i v,x=.ref p/\y=.int i/\SqT K H p xs/\atI xs i=some v/\Q v H
theorem zsg:IxR X (rIxL X.K):=by
  intro value slice pins s U H x y v u Q I rx ry h hs;obtain ⟨p,xs,i,z,rfl,rfl,hq,he,q⟩:=h;cases rx
  obtain ⟨t,rfl⟩:=ry;obtain ⟨its,r,pl,hz⟩:=I.list hq;obtain ⟨j,h1,h2,h3,h4,h5⟩:=zo0 he;obtain ⟨w,ew,rw'⟩:=r.get h2;have hl:=r.length;have hn:=zll;have fin:EP X pins U Q w s:=⟨z,H,I,rw',q⟩;by_cases h0:0<=i
  · have hj:i.toNat=j:=by
      rw[seqIndex_of h0 h5]at h1;exact yae h1
    exact item_listR pl.isList h0 .(a) (by rw[hj];simpa using ew) fin hs
  · have hj:(i+(its.toArray.size:Int)).toNat=j:=by
      rw[seqIndex_neg .(a) h4]at h1;rw[yav,<-hl];exact yae h1
    exact subscriptTail_builtinR (x:=w) pl.isList.typeIs slot_list_getitem.lookup
      (wpAny_getItem_list_neg (Q:=λr s'=>r=w/\EP X pins U Q r s') pl.isList .(a) (by rw[yav]<;>lia) .(a) (by rw[hj];simpa using ew) ⟨rfl,fin⟩) hs
theorem ztQ:IxR X (rIxT X.K):=by
  intro value slice pins s U H x y v u Q I rx ry h hs;obtain ⟨p,xs,i,z,rfl,rfl,hq,he,q⟩:=h;cases rx
  obtain ⟨t,rfl⟩:=ry;obtain ⟨its,r,pl,hz⟩:=I.tuple hq;obtain ⟨j,h1,h2,h3,h4,h5⟩:=zo0 he;obtain ⟨w,ew,rw'⟩:=r.get h2;have hl:=r.length;have hn:=zll;have fin:EP X pins U Q w s:=⟨z,H,I,rw',q⟩;exact subscriptTail_builtinR (x:=w) pl.typeIs slot_tuple_getitem.lookup
    (getItem_tuple (j:=j) (Q:=λr s'=>r=w/\EP X pins U Q r s') pl .(a) .(a) (by rw[yav,<-hl];exact h1) (by simpa using ew) ⟨rfl,fin⟩) hs
theorem zl5 (its:List Value)(n j:Nat)(u:Value):Obj.mapSeq (·.setIfInBounds j u) { cls:=.type "list",data:=.seq its.toArray n }={ cls:=.type "list",data:=.seq (its.set j u).toArray n }:=by
  simp[Obj.mapSeq]
theorem Inv.lst {pins:List (Addr×Obj)}{U:St}{H:Hp}{s:Shared}{p:Addr}{xs:List V}(I:Inv X pins U H s)(h:H p=some (.lst xs)) :
    ∃(its:List Value) (n:Nat),Vals xs its/\s.heap.get? p=some { cls:=.type "list",data:=.seq its.toArray n }/\xs.length<=sizeLine:=by
  obtain ⟨z,its,n,r,e⟩:=I.hok p _ h;exact ⟨its,n,r,e,z⟩
theorem Inv.lstUpd {s:Shared}{p:Addr}{xs ys:List V}{its its':List Value}{n n':Nat}{f:Obj->Obj}(I:Inv X pins U H s)(h:H p=some (.lst xs))
    (ho:s.heap.get? p=some { cls:=.type "list",data:=.seq its.toArray n }) (hf:f { cls:=.type "list",data:=.seq its.toArray n }={ cls:=.type "list",data:=.seq its'.toArray n' }) (r:Vals ys its') (hz:ys.length<=sizeLine) (t:Nat) :
    Inv X pins U (upd H p (.lst ys)) { s with heap:=s.heap.update p f,toks:=t }:=by
  have e:(s.heap.update p f).get? p=some { cls:=.type "list",data:=.seq its'.toArray n' }:=by
    rw[Heap.get?_update_self f ho (by rw[hf]<;>rfl),hf]
  refine I.write (x:=p) (e:=p) (by rw[h];trivial) (.inl rfl) (λb u hb q=>(ybo _ _ (Ne.symm hb)).trans q) ⟨_,e⟩ ?_;exact ⟨hz,its',n',r,e⟩
def zuo:V->V->V->Hp->(Hp->Prop)->Prop:=λo i v H Q=>∃ p xs k j,o=.ref p/\i=.int k/\H p=some (.lst xs)/\ixN xs.length k=some j/\Q (upd H p (.lst (xs.set j v)))
theorem zhY:PSet X zuo:=by
  intro pins s U H o i v ov iv u Q I ro ri rv h;obtain ⟨p,xs,k,j,rfl,rfl,hp,hj,q⟩:=h;cases ro
  obtain ⟨t,rfl⟩:=ri;obtain ⟨its,n,r,ho,hz⟩:=I.lst hp;obtain ⟨h1,h2,h3,h4⟩:=zoe hj;have hl:=r.length;have hn:=zll;have I':Inv X pins U (upd H p (.lst (xs.set j v))) { s with heap:=s.heap.update p (Obj.mapSeq (·.setIfInBounds j u)) }:=
    I.lstUpd hp ho (zl5 its n j u) (r.set rv j) (by rw[yb4];exact hz) s.toks
  by_cases h0:0<=k
  · have hk:k.toNat=j:=by
      rw[seqIndex_of h0 h4]at h1;exact yae h1
    exact PySem.W.ki_setAt ho h0 .(a) (by rw[yav,<-hl];exact h4) (by rw[hk];exact ⟨_,I',q⟩)
  · have hk:(k+(its.toArray.size:Int)).toNat=j:=by
      rw[seqIndex_neg .(a) h3]at h1;rw[yav,<-hl];exact yae h1
    exact PySem.W.ki_setBack ho .(a) (by rw[yav,<-hl];exact h3) .(a) (by rw[hk];exact ⟨_,I',q⟩)
theorem zi2 (lo hi:Option Int)(n:Nat):(sliceBounds lo hi none n).1=((HT.sIx n 0 lo:Nat):Int)/\(sliceBounds lo hi none n).2.1=((HT.sIx n n hi:Nat):Int)/\(sliceBounds lo hi none n).2.2=1:=by
  refine ⟨?_,?_,rfl⟩
  · cases lo with
    | none=>simp[sliceBounds,HT.sIx]
    | some i=>
      simp only[sliceBounds,HT.sIx,Option.getD_none,show (1:Int)>0 by decide,if_true];by_cases h:i<0
      · simp only[h,if_true]<;>lia
      · simp only[h,if_false]<;>lia
  · cases hi with
    | none=>simp[sliceBounds,HT.sIx]
    | some i=>
      simp only[sliceBounds,HT.sIx,Option.getD_none,show (1:Int)>0 by decide,if_true];by_cases h:i<0
      · simp only[h,if_true]<;>lia
      · simp only[h,if_false]<;>lia
theorem zhW (its:List Value)(lo hi:Option Int):slicePick its.toArray lo hi none=((its.drop (HT.sIx its.length 0 lo)).take (HT.sIx its.length its.length hi-HT.sIx its.length 0 lo)).toArray:=by
  obtain ⟨h1,h2,h3⟩:=zi2 lo hi its.toArray.size;unfold slicePick;rw[h1,h2,h3];simp only[sliceRange_one,pick_run,yav]<;>rfl
def rSlL (K:Frag):V->Option Int->Option Int->Hp->VK->Prop:=λx lo hi H Q=>∃ a xs,x=.ref a/\SqL K H a xs/\∀ p,H p=none->Q (.ref p) (upd H p (.lst (cutV xs lo hi)))
theorem zrB:SlR X (rSlL X.K):=by
  intro pins s U H x v vl vu lo hi sl Q I rx hs pl pu h;obtain ⟨a,xs,rfl,hx,q⟩:=h;cases rx
  obtain ⟨its,r,ht,hz⟩:=I.list hx;have hlen:=r.length;refine ⟨"list",_,slot_list_getitem.lookup,ht.isList.typeIs,?_⟩;refine wpAny_getItem_list_slice ht.isList hs pl pu .none .(h) ?_ (by rw[yav]<;>lia)
  rw[zhW,<-hlen];refine ⟨.ref s.heap.objs.size,_,I.laid (t':=s.toks) (o:=.lst (cutV xs lo hi)) (λb ob q=>yak _ q) (yaa _) ?_,rfl,q _ (I.hok.fresh (yaa _))⟩;exact ⟨yax (zg6 xs lo hi) hz,_,0,(r.drop (HT.sIx xs.length 0 lo)).take (HT.sIx xs.length xs.length hi-HT.sIx xs.length 0 lo),yaI _ rfl⟩
def zfP:V->Bool
  | .non=>true
  | .bl _=>true
  | .int _=>true
  | .str _=>true
  | _=>false
def eqV:V->V->Bool
  | .non,.non=>true
  | .bl a,.bl b=>a==b
  | .bl a,.int b=>(if a then 1 else 0)==b
  | .int a,.bl b=>a==(if b then 1 else 0)
  | .int a,.int b=>a==b
  | .str a,.str b=>a==b
  | _,_=>false
theorem zt0 {A:Around}{s:Shared}{y x:V}{u v:Value}(ry:RelV y u)(rx:RelV x v)(fy:zfP y=true)(fx:zfP x=true):SeqAt.EqAt A s u v (eqV y x):=by
  cases y with
  | non=>
    cases ry
    cases x with
    | non=>cases rx;exact SeqAt.EqAt.same _
    | bl b=>cases rx;exact SeqAt.EqAt.none_bool b
    | int b=>obtain ⟨t,rfl⟩:=rx;exact SeqAt.EqAt.none_int b t
    | str b=>obtain ⟨t,rfl⟩:=rx;exact SeqAt.EqAt.none_str b t
    | _=>exact absurd (show false=true from fx) yaD
  | bl a=>
    cases ry
    cases x with
    | non=>cases rx;exact SeqAt.EqAt.bool_none a
    | bl b=>cases rx;exact SeqAt.EqAt.bool_bool a b
    | int b=>obtain ⟨t,rfl⟩:=rx;exact SeqAt.EqAt.bool_int a b t
    | str b=>obtain ⟨t,rfl⟩:=rx;exact SeqAt.EqAt.bool_str a b t
    | _=>exact absurd (show false=true from fx) yaD
  | int a=>
    obtain ⟨t',rfl⟩:=ry;cases x with
    | non=>cases rx;exact SeqAt.EqAt.int_none a t'
    | bl b=>cases rx;exact SeqAt.EqAt.int_bool a t' b
    | int b=>obtain ⟨t,rfl⟩:=rx;exact SeqAt.EqAt.int_int a t' b t
    | str b=>obtain ⟨t,rfl⟩:=rx;exact SeqAt.EqAt.int_str a t' b t
    | _=>exact absurd (show false=true from fx) yaD
  | str a=>
    obtain ⟨t',rfl⟩:=ry;cases x with
    | non=>cases rx;exact SeqAt.EqAt.str_none a t'
    | bl b=>cases rx;exact SeqAt.EqAt.str_bool a t' b
    | int b=>obtain ⟨t,rfl⟩:=rx;exact SeqAt.EqAt.str_int a t' b t
    | str b=>obtain ⟨t,rfl⟩:=rx;exact SeqAt.EqAt.str_str a t' b t
    | _=>exact absurd (show false=true from fx) yaD
  | _=>exact absurd (show false=true from fy) yaD
def eqU (x:V)(u:Value):Bool:=match u with
  | .none=>eqV .non x
  | .bool b=>eqV (.bl b) x
  | .int i _=>eqV (.int i) x
  | .str z _=>eqV (.str z) x
  | _=>false
theorem zrb {y:V}{u:Value}(r:RelV y u)(f:zfP y=true):eqU x u=eqV y x:=by
  cases y with
  | non=>cases r;rfl
  | bl b=>cases r;rfl
  | int i=>obtain ⟨t,rfl⟩:=r;rfl
  | str z=>obtain ⟨t,rfl⟩:=r;rfl
  | _=>exact absurd (show false=true from f) yaD
theorem zhe :∀{xs:List V} {us:List Value},Vals xs us->xs.all zfP=true->us.any (eqU x)=xs.any λy=>eqV y x
  | _,_,.nil,_=>rfl
  | y::xs,u::us,.cons r t,f=>by
    rw[yb5,ybb]at f;rw[ybc,ybc,zrb r f.1,zhe t f.2]
theorem zfw {A:Around}{s:Shared}{x:V}{v:Value}(rx:RelV x v)(fx:zfP x=true):∀{xs:List V} {us:List Value},Vals xs us->xs.all zfP=true->∀ u∈us,SeqAt.EqAt A s u v (eqU x u)
  | _,_,.nil,_=>λu hu=>by cases hu
  | y::xs,u::us,.cons r t,f=>λu' hu=>by
    rw[yb5,ybb]at f;rcases yag.mp hu with rfl|hu
    · rw[zrb r f.1];exact zt0 r rx f.1 fx
    · exact zfw rx fx t f.2 u' hu
def inV (x:V)(xs:List V):Bool:=xs.any λy=>eqV y x
def rIn (K:Frag)(neg:Bool):R2:=λx y H Q=>∃ p xs,y=.ref p/\(SqL K H p xs\/SqT K H p xs)/\zfP x=true/\xs.all zfP=true/\Q (.bl (if neg then !inV x xs else inV x xs)) H
theorem znu:OpR X (compareOp .In) (rIn X.K false):=by
  intro pins s U H x y v u Q I rx ry h;obtain ⟨p,xs,rfl,hq,fx,fs,q⟩:=h;cases ry
  rcases hq with hq|hq
  · obtain ⟨its,r,pl,hz⟩:=I.list hq
    refine SeqAt.in_listAt (eqU x) pl.isList (λw hw=>zfw rx fx r fs w (by simpa using hw)) ⟨.bl _,H,I,rfl,?_⟩;rw[show its.toArray.any (eqU x)=its.any (eqU x) by simp,zhe r fs];exact q
  · obtain ⟨its,r,pl,hz⟩:=I.tuple hq
    refine SeqAt.in_tupleAt (eqU x) pl (λw hw=>zfw rx fx r fs w (by simpa using hw)) ⟨.bl _,H,I,rfl,?_⟩;rw[show its.toArray.any (eqU x)=its.any (eqU x) by simp,zhe r fs];exact q
theorem zjb:OpR X (compareOp .NotIn) (rIn X.K true):=by
  intro pins s U H x y v u Q I rx ry h;obtain ⟨p,xs,rfl,hq,fx,fs,q⟩:=h;cases ry
  rcases hq with hq|hq
  · obtain ⟨its,r,pl,hz⟩:=I.list hq
    refine SeqAt.notIn_listAt (eqU x) pl.isList (λw hw=>zfw rx fx r fs w (by simpa using hw)) ⟨.bl _,H,I,rfl,?_⟩;rw[show its.toArray.any (eqU x)=its.any (eqU x) by simp,zhe r fs];exact q
  · obtain ⟨its,r,pl,hz⟩:=I.tuple hq
    refine SeqAt.notIn_tupleAt (eqU x) pl (λw hw=>zfw rx fx r fs w (by simpa using hw)) ⟨.bl _,H,I,rfl,?_⟩;rw[show its.toArray.any (eqU x)=its.any (eqU x) by simp,zhe r fs];exact q
theorem zjJ:zdg X (.builtin "len") (λxs H Q=>∃ p ys,xs=[.ref p]/\(SqL X.K H p ys\/SqT X.K H p ys)/\Q (.int ys.length) H):=by
  intro pins s U H xs us Q I r h;obtain ⟨p,ys,rfl,hq,q⟩:=h;obtain ⟨u,rfl,rx⟩:=zgD r;cases rx
  have hn:=zll;rcases hq with hq|hq
  · obtain ⟨its,r',pl,hz⟩:=I.list hq
    have hlen:=r'.length;exact Calls.call_len_list pl.isList (by simp only[yav]<;>lia) ⟨.int ys.length,H,I.tok _,⟨s.toks+1,by rw[yav,hlen]⟩,q⟩
  · obtain ⟨its,r',pl,hz⟩:=I.tuple hq
    have hlen:=r'.length;exact len_tuple pl (by simp only[yav]<;>lia) ⟨.int ys.length,H,I.tok _,⟨s.toks+1,by rw[yav,hlen]⟩,q⟩
theorem zjI:zdg X (.type "list") (λxs H Q=>∃ p ys,xs=[.ref p]/\(SqL X.K H p ys\/SqT X.K H p ys)/\∀ l,H l=none->Q (.ref l) (upd H l (.lst ys))):=by
  intro pins s U H xs us Q I r h;obtain ⟨p,ys,rfl,hq,q⟩:=h;obtain ⟨u,rfl,rx⟩:=zgD r;cases rx
  have fin:∀(its:List Value),Vals ys its->ys.length<=sizeLine->∀(h':Heap) (c':Nat),(∀ b o',s.heap.get? b=some o'->h'.get? b=some o')->
      h'.get? s.heap.objs.size=some { cls:=.type "list",dict:=none,data:=.seq its.toArray c',slots:=#[] }->EP X pins U Q (.ref s.heap.objs.size) { s with heap:=h' }:=λits r' hz h' c' kp e=>
    ⟨.ref s.heap.objs.size,_,I.laid (t':=s.toks) kp (yaa _) (show zbw X.prog X.w _ h' _ (.lst ys) from ⟨hz,its,c',r',e⟩),rfl,q _ (I.hok.fresh (yaa _))⟩
  rcases hq with hq|hq
  · obtain ⟨its,r',pl,hz⟩:=I.list hq
    have hlen:=r'.length;obtain ⟨o,ho,hc,n,hd⟩:=pl.isList;exact call_list_seq p (.inl rfl) ho hc hd (λh' c' kp e=>fin its r' hz h' c' kp e) (by simp only[yav]<;>lia)
  · obtain ⟨its,r',pl,hz⟩:=I.tuple hq
    have hlen:=r'.length;obtain ⟨o,ho,hc,n,hd⟩:=pl;exact call_list_seq p (.inr rfl) ho hc hd (λh' c' kp e=>fin its r' hz h' c' kp e) (by simp only[yav]<;>lia)
theorem ziB:zdg X (.type "tuple") (λxs H Q=>∃ p ys,xs=[.ref p]/\((SqL X.K H p ys/\∀ l,H l=none->Q (.ref l) (upd H l (.tup ys)))\/(SqT X.K H p ys/\Q (.ref p) H))):=by
  intro pins s U H xs us Q I r h;obtain ⟨p,ys,rfl,h⟩:=h;obtain ⟨u,rfl,rx⟩:=zgD r;cases rx
  rcases h with ⟨hq,q⟩|⟨hq,q⟩
  · obtain ⟨its,r',pl,hz⟩:=I.list hq
    have hlen:=r'.length;refine call_tuple_list pl.isList (λh' kp=>?_) (by simp only[yav]<;>lia)
    have I1:Inv X pins U H { s with heap:=h' }:=I.kept (t':=s.toks) kp;have I2:Inv X pins U (upd H h'.objs.size (.tup ys)) { s with heap:=h'.push { cls:=.type "tuple",data:=.seq its.toArray } }:=
      I1.laid (t':=s.toks) (λb o e=>yak _ e) (yaa _) (show zbw X.prog X.w _ _ _ (.tup ys) from ⟨hz,its,r',IsTup.new _ _⟩)
    exact ⟨.ref h'.objs.size,_,I2,rfl,q _ (I1.hok.fresh (yaa _))⟩
  · obtain ⟨its,r',pl,hz⟩:=I.tuple hq
    exact call_tuple_same pl ⟨.ref p,H,I,rfl,q⟩
def tyV (K:Frag)(T:String)(x:V)(H:Hp):Prop:=match x with
  | .str _=>T = "str"
  | .int _=>T = "int"
  | .ref p=>(T = "list"/\∃ xs,SqL K H p xs)\/(T = "tuple"/\∃ o,K.lookup p=some o/\o.cls=.type "tuple"/\o.dict=none)\/
      (T = "dict"/\((∃ kvs,H p=some (.dK kvs))\/∃ kvs,H p=some (.dT kvs)))\/(T = "set"/\∃ S n,H p=some (.set S n))
  | _=>False
theorem zqD {x:V}{v:Value}(I:Inv X pins U H s)(r:RelV x v)(ty:tyV X.K T x H) :
    s.TypeIs v T/\∀ a,v=.ref a->∃ ob,s.heap.get? a=some ob/\ob.dict=none:=by
  cases x with
  | str z=>
    obtain ⟨t,rfl⟩:=r;cases (show T = "str" from ty)
    exact ⟨typeIs_str s z t,λ_ e=>nomatch e⟩
  | int i=>
    obtain ⟨t,rfl⟩:=r;cases (show T = "int" from ty)
    exact ⟨typeIs_int s i t,λ_ e=>nomatch e⟩
  | ref p=>
    cases r
    rcases ty with ⟨rfl,xs,hq⟩|⟨rfl,o,hk,hc,hd⟩|⟨rfl,hk⟩|⟨rfl,S,n,hk⟩
    · obtain ⟨its,_,pl,_⟩:=I.list hq
      refine ⟨pl.isList.typeIs,λa e=>?_⟩;cases e
      obtain ⟨o,n,e,c,hd,_⟩:=pl;exact ⟨o,e,hd⟩
    · refine ⟨⟨o,I.kIn p o hk,hc⟩,λa e=>?_⟩
      cases e
      exact ⟨o,I.kIn _ o hk,hd⟩
    · have z:∃ o,s.heap.get? p=some o/\o.ExactDict:=by
        rcases hk with ⟨kvs,hk⟩|⟨kvs,hk⟩
        · obtain ⟨_,_,_,_,o,_,_,e,ex,_⟩:=I.hok p _ hk
          exact ⟨o,e,ex⟩
        · obtain ⟨_,_,_,_,o,_,_,e,ex,_⟩:=I.hok p _ hk
          exact ⟨o,e,ex⟩
      obtain ⟨o,e,ex⟩:=z;refine ⟨⟨o,e,ex.1⟩,λa e2=>?_⟩;cases e2
      exact ⟨o,e,ex.2.1⟩
    · obtain ⟨o,_,_,_,e,ex,_⟩:=I.hok p _ hk
      refine ⟨⟨o,e,ex.1⟩,λa e2=>?_⟩;cases e2
      exact ⟨o,e,ex.2.1⟩
  | _=>exact False.elim ty
def tBM0 (K:Frag)(T:String)(r:V->List V->Hp->VK->Prop)(to:TE):TE:=λU H Q=>to U H λx H1=>tyV K T x H1/\r x [] H1 Q
def tBM (K:Frag)(T:String)(r:V->List V->Hp->VK->Prop)(to:TE)(t:TA):TE:=λU H Q=>to U H λx H1=>tyV K T x H1/\t U H1 λxs H2=>r x xs H2 Q
variable {o e:Expr}{es:List Expr}{to:TE}{t:TA}{name:Str}{apos cpos:Pos}{T id:String}{r:V->List V->Hp->VK->Prop}
theorem ztk (pa:PlainAttrs T)(slot:Slot T name id)(hty:typeOf (.builtin id)=pure (.type "method_descriptor"))(hm:MtR X id r)(ho:PE X o to)
    (hbase:attributeBase o name X.env (eval o X.env)=eval o X.env:=by rfl) (hline:(apos.endLine==cpos.line)=true:=by rfl):PE X (.Call (.Attribute o name apos) [] [] cpos) (tBM0 X.K T r to):=by
  intro pins s U H Q I h;refine wpAny_Call_method0_late hbase hline (thn (ho pins s U H _ I h) λv s1 zq0=>?_);obtain ⟨x,H1,I1,r1,ty,q1⟩:=zq0;obtain ⟨h1,h2⟩:=zqD I1 r1 ty;exact ⟨T,id,pa,slot,hty,h1,h2,Calls.callWith_builtin rfl (PySem.evalArgs_none (hm pins s1 U H1 x [] v [] Q I1 r1 .nil q1))⟩
theorem zeW (pa:PlainAttrs T)(slot:Slot T name id)(hty:typeOf (.builtin id)=pure (.type "method_descriptor"))(hm:MtR X id r)(ho:PE X o to)(ha:PA X (e::es) t)
    (hbase:attributeBase o name X.env (eval o X.env)=eval o X.env:=by rfl)
    (hfew:((backTo cpos (starEach (e::es) X.env)).all (λx=>!x.1) && (backToKw cpos (keywordEach [] X.env)).all (λx=>x.1.isSome)
      && decide ((e::es).length+([]:List Keyword).length+(if ([]:List Keyword).isEmpty then 0 else 1)<30))=true:=by rfl)
    (hline:(apos.endLine==cpos.line)=true:=by rfl) (hs:starEach (e::es) X.env=(false,eval e X.env)::starEach es X.env:=by rfl) (hplain:(backTo cpos (starEach es X.env)).any (·.1)=false:=by rfl) :
    PE X (.Call (.Attribute o name apos) (e::es) [] cpos) (tBM X.K T r to t):=by
  intro pins s U H Q I h;refine wpAny_Call_method_late hbase hfew hline rfl (thn (ho pins s U H _ I h) λv s1 zq0=>?_);obtain ⟨x,H1,I1,r1,ty,q1⟩:=zq0;obtain ⟨h1,h2⟩:=zqD I1 r1 ty;refine ⟨T,id,pa,slot,hty,h1,h2,?_⟩;have hA:=ha cpos pins s1 U H1 _ I1 q1;rw[hs]at hA ⊢;refine Calls.callWith_builtin (by show (false||(backTo cpos (starEach es X.env)).any (·.1))=false;rw[hplain]<;>rfl) (Calls.evalArgs_plain ?_)
  exact thn hA λus s2 zq0=>(by obtain ⟨vs,H2,I2,r2,q2⟩:=zq0;exact hm pins s2 U H2 x vs v us Q I2 r1 r2 q2)
end
end L2
namespace L2
open PySem PySem.Spec PyProof.Rows
def MtM (X:Cx)(id:String)(r:V->List V->Hp->VK->Prop):Prop:=
  ∀(pins:List (Addr×Obj)) (s:Shared) (U:St) (H:Hp) (x:V) (xs:List V) (v:Value) (us:List Value) (Q:VK),Inv X pins U H s->RelV x v->Vals xs us->r x xs H Q->
    wpAny .(d) X.A (call (.builtin id) (v::us)) (EP X pins U Q) X.xe s
theorem Vals.one:∀{x:V} {us:List Value},Vals [x] us->∃ u,us=[u]/\RelV x u
  | _,_,.cons r .nil=>⟨_,rfl,r⟩
section
variable {X:Cx}{pins:List (Addr×Obj)}{U:St}{H:Hp}{s:Shared}{l b:Addr}{xs ys zs:List V}
theorem Inv.lset {its its':List Value}{n:Nat}{f:Array Value->Array Value}{t':Nat}(I:Inv X pins U H s)(hH:H l=some (.lst xs))
    (e:s.heap.get? l=some { cls:=.type "list",data:=.seq its.toArray n }) (hf:f its.toArray=its'.toArray) (hv:Vals ys its') (hz:ys.length<=sizeLine) :
    Inv X pins U (upd H l (.lst ys)) { s with heap:=s.heap.update l (Obj.mapSeq f),toks:=t' }:=by
  have q:=PySem.IsL.update e f;rw[hf]at q;refine I.write (x:=l) (e:=l) (by rw[hH];exact trivial) (.inl rfl) (λb' u hb hu=>(ybo s.heap (Obj.mapSeq f) (Ne.symm hb)).trans hu) ⟨_,q⟩ ?_;exact ⟨hz,its',_,hv,q⟩
theorem Inv.lnew {its:List Value}{t':Nat}(I:Inv X pins U H s)(hv:Vals ys its)(hz:ys.length<=sizeLine) :
    Inv X pins U (upd H s.heap.objs.size (.lst ys)) { s with heap:=s.heap.push { cls:=.type "list",data:=.seq its.toArray },toks:=t' }:=
  I.laid (λ_ _ q=>yak _ q) (yaa _) ⟨hz,its,0,hv,yaI _ rfl⟩
theorem Inv.fresh (I:Inv X pins U H s):H s.heap.objs.size=none:=I.hok.fresh (yaa _)
theorem Inv.lstM (I:Inv X pins U H s)(hH:H l=some (.lst xs)):xs.length<=sizeLine/\∃(its:List Value) (n:Nat),Vals xs its/\xs.length=its.length/\s.heap.get? l=some { cls:=.type "list",data:=.seq its.toArray n }:=by
  obtain ⟨z,its,n,r,e⟩:=I.hok l _ hH;exact ⟨z,its,n,r,r.length,e⟩
theorem zpU {n:Nat}(h:n<=sizeLine):Builtin.List.listTooLong n=false:=by
  unfold Builtin.List.listTooLong;exact yan .(a)
end
section
variable {X:Cx}
def zrG:V->List V->Hp->VK->Prop:=λx vs H Q=>∃ l xs y,x=.ref l/\vs=[y]/\H l=some (.lst xs)/\xs.length<sizeLine/\Q .non (upd H l (.lst (xs++[y])))
theorem za4:MtM X "list.append" zrG:=by
  intro pins s U H x vs v us Q I rx rv h;obtain ⟨l,xs,y,rfl,rfl,hH,hz,q⟩:=h;cases rx
  obtain ⟨u,rfl,ru⟩:=rv.one;obtain ⟨z,its,n,r,hl,e⟩:=I.lstM hH;refine call_meets F.slot_list_append ⟨_,e,rfl⟩ F.entry_list_append (F.args_list_append_2 _ _) (PySem.list_append l its.toArray n u (by rw[yav];lia)) ⟨e,?_⟩;refine ⟨.non,_,I.lset (its':=its++[u]) hH e .(h) (r.append (.cons ru .nil)) ?_,rfl,q⟩;rw[yah,yay];lia
def zrD:V->List V->Hp->VK->Prop:=λx vs H Q=>∃ l b xs zs,x=.ref l/\vs=[.ref b]/\H l=some (.lst xs)/\H b=some (.lst zs)/\xs.length+zs.length<=sizeLine/\Q .non (upd H l (.lst (xs++zs)))
theorem znL:MtM X "list.extend" zrD:=by
  intro pins s U H x vs v us Q I rx rv h;obtain ⟨l,b,xs,zs,rfl,rfl,hH,hB,hz,q⟩:=h;cases rx
  obtain ⟨u,rfl,ru⟩:=rv.one;cases ru
  obtain ⟨z,its,n,r,hl,e⟩:=I.lstM hH;obtain ⟨z2,its2,n2,r2,hl2,e2⟩:=I.lstM hB;have hsz:its.toArray.size+its2.toArray.size<=sizeLine:=by rw[yav,yav];lia
  have hlong:¬ (!its.toArray.isEmpty&&Builtin.List.listTooLong (its.toArray.size+its2.toArray.size))=true:=by
    rw[zpU hsz,ybp];exact yaD
  refine call_meets F.slot_list_extend ⟨_,e,rfl⟩ F.entry_list_extend (F.args_list_extend_2 _ _)
    (AutoSeq1.list_extend_list_list_0 l its.toArray n b its2.toArray n2 hlong (by rw[yav];lia) .(a)) ⟨e,e2,?_⟩
  refine ⟨.non,_,I.lset (its':=its++its2) hH e .(h) (r.append r2) ?_,rfl,q⟩;rw[yah];lia
def rCat:R2:=λx y H Q=>∃ l b xs zs,x=.ref l/\y=.ref b/\H l=some (.lst xs)/\H b=some (.lst zs)/\xs.length+zs.length<=sizeLine/\∀ p,H p=none->Q (.ref p) (upd H p (.lst (xs++zs)))
theorem ztr:OpR X (binaryOp .Add) rCat:=by
  intro pins s U H x y v u Q I rx ry h;obtain ⟨l,b,xs,zs,rfl,rfl,hH,hB,hz,q⟩:=h;cases rx
  cases ry
  obtain ⟨z,its,n,r,hl,e⟩:=I.lstM hH;obtain ⟨z2,its2,n2,r2,hl2,e2⟩:=I.lstM hB;refine PySem.P.add_list e e2 ?_ (by rw[yav,yav];lia);have ea:its.toArray++its2.toArray=(its++its2).toArray:=by simp
  rw[ea];exact ⟨.ref _,_,I.lnew (t':=s.toks) (r.append r2) (by rw[yah];lia),rfl,q _ I.fresh⟩
end
end L2
namespace L2
open PySem PySem.Spec PyProof.Rows
section
variable {κ:Type}[DecidableEq κ]
def valV (kvs:List (κ×V))(k:κ):Option V:=(kvs.find? λkv=>decide (kv.1=k)).map (·.2)
def putK (kvs:List (κ×V))(k:κ)(v:V):List (κ×V):=
  if (kvs.any λkv=>decide (kv.1=k))=true then kvs.map (λkv=>if kv.1=k then (kv.1,v) else kv) else kvs++[(k,v)]
theorem za8 {p:κ×V}{r:List (κ×V)}{k:κ}(e:p.1=k):valV (p::r) k=some p.2:=by simp[valV,ybz,e]
theorem zaT {p:κ×V}{r:List (κ×V)}{k:κ}(e:¬ p.1=k):valV (p::r) k=valV r k:=by simp[valV,ybz,e]
theorem ze3 (k:κ):∀ kvs:List (κ×V),(kvs.any λkv=>decide (kv.1=k))=(valV kvs k).isSome
  | []=>rfl
  | p::r=>by
    rw[ybc];by_cases e:p.1=k
    · simp only[za8 e,yai e,Bool.true_or,Option.isSome_some]
    · rw[zaT e,yan e,yb6];exact ze3 k r
theorem zkJ (k j:κ)(y:V):∀ kvs:List (κ×V),valV (kvs.map λkv=>if kv.1=k then (kv.1,y) else kv) j=(valV kvs j).map λx=>if j=k then y else x
  | []=>rfl
  | p::r=>by
    have ih:=zkJ k j y r;rw[yap];by_cases h:p.1=k
    · rw[if_pos h]
      by_cases e:p.1=j
      · rw[za8 (p:=(p.1,y)) e,za8 e,ybA,if_pos (e.symm.trans h)]
      · rw[zaT (p:=(p.1,y)) e,zaT e,ih]
    · rw[if_neg h]
      by_cases e:p.1=j
      · rw[za8 (p:=p) e,za8 e,ybA,if_neg (λz=>h (e.trans z))]
      · rw[zaT (p:=p) e,zaT e,ih]
theorem ziN (k j:κ)(y:V):∀ kvs:List (κ×V),valV kvs k=none->valV (kvs++[(k,y)]) j=if j=k then some y else valV kvs j
  | [],_=>by
    by_cases e:k=j
    · rw[if_pos e.symm];exact za8 (p:=(k,y)) e
    · rw[if_neg (λz=>e z.symm)];exact zaT (p:=(k,y)) e
  | p::r,hn=>by
    rw[List.cons_append];have hk:¬ p.1=k:=λz=>by rw[za8 z]at hn;cases hn
    rw[zaT hk]at hn;have ih:=ziN k j y r hn;by_cases e:p.1=j
    · rw[za8 e,za8 e,if_neg (λz=>hk (e.trans z))]
    · rw[zaT e,zaT e,ih]
theorem zo8 (kvs:List (κ×V))(k j:κ)(y:V):valV (putK kvs k y) j=if j=k then some y else valV kvs j:=by
  unfold putK;by_cases a:(kvs.any λkv=>decide (kv.1=k))=true
  · rw[if_pos a,zkJ]
    rw[ze3]at a;by_cases e:j=k
    · obtain ⟨x,hx⟩:=yb3.mp a
      rw[if_pos e,e,hx,ybA,if_pos rfl]
    · rw[if_neg e]
      cases valV kvs j with
      | none=>rfl
      | some x=>rw[ybA,if_neg e]
  · rw[if_neg a]
    refine ziN k j y kvs ?_;rw[ze3]at a;cases q:valV kvs k with
    | none=>rfl
    | some x=>rw[q]at a;exact (a rfl).elim
theorem zdN (kvs:List (κ×V))(k:κ)(v:V):(putK kvs k v).length<=kvs.length+1:=by
  unfold putK;split
  · rw[yab];lia
  · rw[yah,yaM,ybi];lia
theorem zc6 {kvs:List (κ×V)}{k:κ}(v:V)(h:valV kvs k=none):putK kvs k v=kvs++[(k,v)]:=by
  unfold putK;rw[ze3,h];exact if_neg .(i)
theorem RelO.isSome_eq {o:Option V}{u:Option Value}(r:RelO o u):o.isSome=u.isSome:=by
  cases o with
  | none=>cases u with
    | none=>rfl
    | some _=>exact (show False from r).elim
  | some _=>cases u with
    | none=>exact (show False from r).elim
    | some _=>rfl
theorem RelO.getD {o:Option V}{u:Option Value}{d:V}{d':Value}(r:RelO o u)(rd:RelV d d'):RelV (o.getD d) (u.getD d'):=by
  cases o with
  | none=>cases u with
    | none=>exact rd
    | some _=>exact (show False from r).elim
  | some _=>cases u with
    | none=>exact (show False from r).elim
    | some _=>exact r
theorem KV.val {kvs:List (κ×V)}{vs:List (κ×Value)}(r:KV kvs vs)(k:κ):RelO (valV kvs k) (valueAt vs k):=by
  unfold KV at r
  induction r with
  | nil=>exact True.intro
  | @cons p q ps qs h t ih=>
    obtain ⟨h1,h2⟩:=h;by_cases e:p.1=k
    · have e':q.1=k:=h1.symm.trans e
      have b:valueAt (q::qs) k=some q.2:=by simp[valueAt,ybz,e']
      rw[za8 e,b];exact h2
    · have e':¬ q.1=k:=λz=>e (h1.trans z)
      have b:valueAt (q::qs) k=valueAt qs k:=by simp[valueAt,ybz,e']
      rw[zaT e,b];exact ih
theorem KV.any {kvs:List (κ×V)}{vs:List (κ×Value)}(r:KV kvs vs)(k:κ):(kvs.any λkv=>decide (kv.1=k))=vs.any λkv=>decide (kv.1=k):=by
  unfold KV at r
  induction r with
  | nil=>rfl
  | cons h t ih=>rw[ybc,ybc,ih,h.1]
theorem KV.repl {kvs:List (κ×V)}{vs:List (κ×Value)}(r:KV kvs vs)(k:κ){y:V}{u:Value}(ry:RelV y u) :
    KV (kvs.map λkv=>if kv.1=k then (kv.1,y) else kv) (vs.map λkv=>if kv.1=k then (kv.1,u) else kv):=by
  unfold KV at r ⊢
  induction r with
  | nil=>exact .nil
  | @cons p q ps qs h t ih=>
    rw[yap,yap];refine .cons ?_ ih;obtain ⟨h1,h2⟩:=h;by_cases e:p.1=k
    · rw[if_pos e,if_pos (h1.symm.trans e)];exact ⟨h1,ry⟩
    · rw[if_neg e,if_neg (λz=>e (h1.trans z))];exact ⟨h1,h2⟩
theorem KV.put {kvs:List (κ×V)}{vs:List (κ×Value)}(r:KV kvs vs)(k:κ){y:V}{u:Value}(ry:RelV y u):KV (putK kvs k y) (stored vs k u):=by
  unfold putK stored;rw[r.any k];by_cases e:(vs.any λkv=>decide (kv.1=k))=true
  · rw[if_pos e,if_pos e];exact r.repl k ry
  · rw[if_neg e,if_neg e];exact Paired.snoc r ⟨rfl,ry⟩
theorem KV.length {kvs:List (κ×V)}{vs:List (κ×Value)}(r:KV kvs vs):kvs.length=vs.length:=Paired.length r
end
theorem zjo {k:Key}{u:Value}(r:RelV (kV k) u):(zaQ P w).is k u=true:=by
  cases k with
  | inl i=>obtain ⟨t,e⟩:=(show ∃ t,u=Value.int i t from r);subst e;exact zkc P w i t
  | inr x=>obtain ⟨t,e⟩:=(show ∃ t,u=Value.str x t from r);subst e;exact zkb P w x t
theorem zjp :∀{ks:List Key} {us:List Value},Vals (ks.map kV) us->ItemsAre (zaQ P w) ks us
  | [],_,r=>by rw[ybB]at r;cases r;exact .nil
  | k::ks,_,r=>by
    rw[yap]at r;cases r with
    | cons h t=>exact .cons (zjo h) (zjp t)
abbrev KT (H:Hp):List (List Key×V)->List (List Key×Addr×Value)->Prop:=Paired λp q=>p.1=q.1/\H q.2.1=some (.tup (p.1.map kV))/\RelV p.2 q.2.2
theorem KT.val {kvs:List (List Key×V)}{xs:List (List Key×Addr×Value)}(r:KT H kvs xs)(k:List Key):RelO (valV kvs k) ((atKey xs k).map (·.2)):=by
  induction r with
  | nil=>exact True.intro
  | @cons p q ps qs h t ih=>
    obtain ⟨h1,_,h2⟩:=h;by_cases e:p.1=k
    · have e':q.1=k:=h1.symm.trans e
      have b:atKey (q::qs) k=some q.2:=by simp[atKey,ybz,e']
      rw[za8 e,b];exact h2
    · have e':¬ q.1=k:=λz=>e (h1.trans z)
      have b:atKey (q::qs) k=atKey qs k:=by simp[atKey,ybz,e']
      rw[zaT e,b];exact ih
theorem KT.repl {kvs:List (List Key×V)}{xs:List (List Key×Addr×Value)}(r:KT H kvs xs)(k:List Key){y:V}{u:Value}(ry:RelV y u) :
    KT H (kvs.map λkv=>if kv.1=k then (kv.1,y) else kv) (xs.map (putAt k u)):=by
  induction r with
  | nil=>exact .nil
  | @cons p q ps qs h t ih=>
    rw[yap,yap];refine .cons ?_ ih;obtain ⟨h1,h2,h3⟩:=h;unfold putAt;by_cases e:p.1=k
    · rw[if_pos e,if_pos (h1.symm.trans e)];exact ⟨h1,h2,ry⟩
    · rw[if_neg e,if_neg (λz=>e (h1.trans z))];exact ⟨h1,h2,h3⟩
theorem KT.put {kvs:List (List Key×V)}{xs:List (List Key×Addr×Value)}(r:KT H kvs xs)(k:List Key){b:Addr}{y:V}{u:Value}(hb:H b=some (.tup (k.map kV)))(ry:RelV y u) :
    KT H (putK kvs k y) (storedH xs k b u):=by
  have e:(kvs.any λkv=>decide (kv.1=k))=(atKey xs k).isSome:=by
    rw[ze3,(r.val k).isSome_eq,Option.isSome_map]
  unfold putK storedH;rw[e];by_cases q:(atKey xs k).isSome=true
  · rw[if_pos q,if_pos q];exact r.repl k ry
  · rw[if_neg q,if_neg q];exact Paired.snoc r ⟨rfl,hb,ry⟩
theorem KT.keeps {H':Hp}{kvs:List (List Key×V)}{xs:List (List Key×Addr×Value)}(r:KT H kvs xs)(ht:∀ b ys,H b=some (.tup ys)->H' b=some (.tup ys)):KT H' kvs xs:=
  Paired.mapP r λ_ _ z=>⟨z.1,ht _ _ z.2.1,z.2.2⟩
section
variable {P:Program}{w:World}{H:Hp}{h:Heap}{a:Addr}
theorem ztb (ok:HOk P w H h)(e:Rd H a u):zbw P w H h a u:=e.ok ok
theorem zkt {kvs:List (Key×V)}(ok:HOk P w H h)(e:Rd H a (.dK kvs)):kvs.length<=sizeLine/\(a==sysModules)=false/\∃ vs,KV kvs vs/\h.DictOf (zaQ P w) a vs:=
  show zbw P w H h a (.dK kvs) from ztb ok e
theorem zsw {kvs:List (Key×V)}(ok:HOk P w H h)(e:H a=some (.dK kvs)):kvs.length<=sizeLine/\(a==sysModules)=false/\∃ vs,KV kvs vs/\h.DictOf (zaQ P w) a vs:=zkt ok (.inl e)
theorem zhA {ks:List Key}(ok:HOk P w H h)(e:H a=some (.tup (ks.map kV))):(tupleKind (zaQ P w)).is h ks a:=by
  obtain ⟨_,its,r,o,h1,h2,n,h3⟩:=(show zbw P w H h a (.tup (ks.map kV)) from ok a _ e);exact ⟨o,its.toArray,n,h1,h2,h3,by simpa using zjp r⟩
theorem zks {kvs:List (List Key×V)}(ok:HOk P w H h)(e:Rd H a (.dT kvs)):kvs.length<=sizeLine/\(a==sysModules)=false/\
    ∃ xs,KT H kvs xs/\h.DictOfH (tupleKind (zaQ P w)) a xs:=by
  obtain ⟨z,y,xs,r,o,es,ep,h1,h2,h3,h4,h5⟩:=(show zbw P w H h a (.dT kvs) from ztb ok e);refine ⟨z,y,xs,r,o,es,ep,h1,h2,h3,h4,λx hx=>?_,h5⟩;have all:∀{l:List (List Key×V)} {m:List (List Key×Addr×Value)},KT H l m->∀ x∈m,(tupleKind (zaQ P w)).is h x.1 x.2.1:=by
    intro l m q
    induction q with
    | nil=>intro x hx;exact nomatch hx
    | @cons p q ps qs hq t ih=>
      intro x hx;rcases yag.mp hx with e|hx
      · subst e
        exact zhA ok (by rw[<-hq.1];exact hq.2.1)
      · exact ih x hx
  exact all r x hx
theorem zuA {kvs:List (List Key×V)}(ok:HOk P w H h)(e:H a=some (.dT kvs)):kvs.length<=sizeLine/\(a==sysModules)=false/\
    ∃ xs,KT H kvs xs/\h.DictOfH (tupleKind (zaQ P w)) a xs:=zks ok (.inl e)
end
def DGet (H:Hp)(a:Addr)(y:V)(r:Option V):Prop:=
  (∃ kvs k,Rd H a (.dK kvs)/\y=kV k/\r=valV kvs k)\/∃ kvs k b,Rd H a (.dT kvs)/\y=.ref b/\H b=some (.tup (k.map kV))/\r=valV kvs k
def DPut (H:Hp)(a:Addr)(y v:V)(H':Hp):Prop:=
  (∃ kvs k,H a=some (.dK kvs)/\y=kV k/\kvs.length<sizeLine/\H'=upd H a (.dK (putK kvs k v)))\/
  ∃ kvs k b,H a=some (.dT kvs)/\y=.ref b/\H b=some (.tup (k.map kV))/\kvs.length<sizeLine/\H'=upd H a (.dT (putK kvs k v))
theorem DGet.k {H:Hp}{a:Addr}{kvs:List (Key×V)}{k:Key}(e:H a=some (.dK kvs)):DGet H a (kV k) (valV kvs k):=.inl ⟨kvs,k,.inl e,rfl,rfl⟩
theorem DGet.t {H:Hp}{a b:Addr}{kvs:List (List Key×V)}{k:List Key}(e:H a=some (.dT kvs))(eb:H b=some (.tup (k.map kV))):DGet H a (.ref b) (valV kvs k):=.inr ⟨kvs,k,b,.inl e,rfl,eb,rfl⟩
theorem DPut.k {H:Hp}{a:Addr}{kvs:List (Key×V)}{k:Key}(e:H a=some (.dK kvs))(hl:kvs.length<sizeLine):DPut H a (kV k) v (upd H a (.dK (putK kvs k v))):=.inl ⟨kvs,k,e,rfl,hl,rfl⟩
theorem DPut.t {H:Hp}{a b:Addr}{kvs:List (List Key×V)}{k:List Key}(e:H a=some (.dT kvs))(eb:H b=some (.tup (k.map kV)))(hl:kvs.length<sizeLine) :
    DPut H a (.ref b) v (upd H a (.dT (putK kvs k v))):=.inr ⟨kvs,k,b,e,rfl,eb,hl,rfl⟩
section
variable {X:Cx}{pins:List (Addr×Obj)}{U:St}{H:Hp}{s:Shared}{a:Addr}{y v:V}{u r:Value}{o:Option V}{A:Around}{E:Value->Shared->Prop}
theorem Inv.big (I:Inv X pins U H s):sysModules<s.heap.objs.size:=by
  have h:mainGlobals<s.heap.objs.size:=(I.mod.glob.keeps I.bk).lt;exact Nat.lt_trans .(i) h
theorem zoI {Q:Value->Shared->Prop}(hu:A.units+1<cLine)(I:Inv X pins U H s)(g:DGet H a y (some v))(ry:RelV y u)(h:∀ w' s',Inv X pins U H s'->RelV v w'->Q w' s') :
    wpAny .(d) A (getItem (.ref a) u) Q E s:=by
  rcases g with ⟨kvs,k,e,ey,l⟩|⟨kvs,k,b,e,ey,eb,l⟩
  · subst ey
    obtain ⟨z,hd,vs,rel,dd⟩:=zkt I.hok e;obtain ⟨w',hw,rw'⟩:=RelO.some_of (v:=v) (o:=valueAt vs k) (by rw[l];exact rel.val k);exact wpAny_getItem_of (zjo ry) dd.mapOf hw (h w' _ (I.tok _) rw')
  · subst ey
    cases (show u=Value.ref b from ry)
    obtain ⟨z,hd,xs,rel,dd⟩:=zks I.hok e;obtain ⟨w',hw,rw'⟩:=RelO.some_of (v:=v) (o:=(atKey xs k).map (·.2)) (by rw[l];exact rel.val k);obtain ⟨p,hp,hp2⟩:=ybq.mp hw;refine wpAny_getItem_heap (tupleKind_room_in1 hu) (zhA I.hok eb) dd hp ?_;rw[hp2];exact h w' _ (I.tok _) rw'
theorem d_in {Q:Value->Shared->Prop}(hu:A.units+1<cLine)(I:Inv X pins U H s)(g:DGet H a y o)(ry:RelV y u)(h:∀ s',Inv X pins U H s'->Q (.bool o.isSome) s') :
    wpAny .(d) A (compareOp .In u (.ref a)) Q E s:=by
  rcases g with ⟨kvs,k,e,ey,l⟩|⟨kvs,k,b,e,ey,eb,l⟩
  · subst ey
    obtain ⟨z,hd,vs,rel,dd⟩:=zkt I.hok e;refine wpAny_in_of (zjo ry) hd dd.mapOf ?_;rw[<-(rel.val k).isSome_eq,<-l];exact h _ (I.tok _)
  · subst ey
    cases (show u=Value.ref b from ry)
    obtain ⟨z,hd,xs,rel,dd⟩:=zks I.hok e;refine wpAny_in_heap (tupleKind_room_in1 hu) (zhA I.hok eb) hd dd ?_;have q:=(rel.val k).isSome_eq;rw[Option.isSome_map]at q;rw[<-q,<-l];exact h _ (I.tok _)
theorem zsx {Q:Value->Shared->Prop}(hu:A.units+1<cLine)(I:Inv X pins U H s)(g:DGet H a y o)(ry:RelV y u)(h:∀ s',Inv X pins U H s'->Q (.bool (!o.isSome)) s') :
    wpAny .(d) A (compareOp .NotIn u (.ref a)) Q E s:=by
  rcases g with ⟨kvs,k,e,ey,l⟩|⟨kvs,k,b,e,ey,eb,l⟩
  · subst ey
    obtain ⟨z,hd,vs,rel,dd⟩:=zkt I.hok e;refine wpAny_notIn_of (zjo ry) hd dd.mapOf ?_;rw[<-(rel.val k).isSome_eq,<-l];exact h _ (I.tok _)
  · subst ey
    cases (show u=Value.ref b from ry)
    obtain ⟨z,hd,xs,rel,dd⟩:=zks I.hok e;refine wpAny_notIn_heap (tupleKind_room_in1 hu) (zhA I.hok eb) hd dd ?_;have q:=(rel.val k).isSome_eq;rw[Option.isSome_map]at q;rw[<-q,<-l];exact h _ (I.tok _)
theorem zkv {h':Heap}{t':Nat}(I:Inv X pins U H s)(mu:Mut (H a))(hs:Heap.SameBut a s.heap h')(he:∃ q,h'.get? a=some q)(new:zbw X.prog X.w (upd H a ob) h' a ob) :
    Inv X pins U (upd H a ob) { s with heap:=h',toks:=t' }:=
  I.write (x:=a) (e:=a) mu (.inl rfl) (λb q hb z=>(hs.2 b hb).trans z) he new
theorem zrd {h':Heap}{kvs:List (Key×V)}{vs:List (Key×Value)}(z:kvs.length<=sizeLine)(hd:(a==sysModules)=false)(rel:KV kvs vs)(dd:h'.DictOf (zaQ P w) a vs) :
    zbw P w H' h' a (.dK kvs):=⟨z,hd,vs,rel,dd⟩
theorem zoH {Q:Unit->Shared->Prop}(hu:A.units+1<cLine)(I:Inv X pins U H s)(g:DPut H a y v H')(ry:RelV y u)(rv:RelV v r)(h:∀ s',Inv X pins U H' s'->Q () s') :
    wpAny .(d) A (setItem (.ref a) u r) Q E s:=by
  rcases g with ⟨kvs,k,e,ey,l,eH⟩|⟨kvs,k,b,e,ey,eb,l,eH⟩
  · subst ey eH
    obtain ⟨z,hd,vs,rel,dd⟩:=zsw I.hok e;have hz:vs.length<=sizeLine:=by rw[<-rel.length];exact z
    have hl:(putK kvs k v).length<=sizeLine:=by have:=zdN kvs k v;lia
    refine wpAny_setItem_pairs (hsz:=hz) (zjo ry) dd λh' dd' hs=>h _ ?_;have he:∃ q,h'.get? a=some q:=let ⟨q,_,_,hq,_⟩:=dd';⟨q,hq⟩;exact zkv I (by rw[e];exact True.intro) hs he (zrd hl hd (rel.put k rv) dd')
  · subst ey eH
    cases (show u=Value.ref b from ry)
    obtain ⟨z,hd,xs,rel,dd⟩:=zuA I.hok e;have hz:xs.length<=sizeLine:=by rw[<-Paired.length rel];exact z
    have hl:(putK kvs k v).length<=sizeLine:=by have:=zdN kvs k v;lia
    refine wpAny_setItem_heap (hsz:=hz) (tupleKind_room_in1 hu) (zhA I.hok eb) dd λh' dd' hs=>h _ ?_;obtain ⟨q,es,ep,hq,h2,h3,h4,_,h5⟩:=dd';refine zkv I (by rw[e];exact True.intro) hs ⟨q,hq⟩ ⟨hl,hd,_,(rel.put k eb rv).keeps λc ys ec=>?_,q,es,ep,hq,h2,h3,h4,h5⟩;rw[zag (ztB ec e nofun)];exact ec
end
def NoSl (i:Expr):Prop:=∀ ov iv,subscripted i false ov iv=operate [ov,iv] (getItem ov iv)
theorem zrv {prog:Program}{w:World}{A:Around}{E:Value->Shared->Prop}{s:Shared}{env:Env}{value:Expr}{pos:Pos}{T id:String}{Q:Value->Shared->Prop}
    (hl:typeLookup (.type T) "__getitem__" = pure (some (.builtin id))) (hs:NoSl slice)
    (h:wpAny .(j) A (eval value env) (λo s₁=>wpAny .(j) A (eval slice env) (λi s₂=>s₂.TypeIs o T/\wpAny .(j) A (getItem o i) Q E s₂) E s₁) E s) :
    wpAny .(j) A (eval (.Subscript value slice pos) env) Q E s:=by
  refine Subscript_ (wpAny_mono h (λo s₁ h₁=>wpAny_mono h₁ (λi s₂ h₂=>?_) λ_ _ x=>x) λ_ _ x=>x);obtain ⟨hT,h₂⟩:=h₂;unfold subscriptTail;refine wpAny_bind ?_;rw[getitemInPython_of_ne hT.not_modules];refine wpAny_bind (wpAny_specialOf hT hl ?_);have fin:wpAny .(j) A (subscripted slice false o i) (λr s₃=>wpAny .(j) A (letTemporaryGo value o r >>= λ_=>pure r) Q E s₃) E s₂:=by
    rw[hs o i];exact wpAny_operating (wpAny_mono h₂ (λr s₃ h₃=>wpAny_bind (wpAny_letTemporaryGo (wpAny_pure h₃))) λ_ _ x=>x)
  first
    | exact wpAny_pure (wpAny_bind fin)
    | exact wpAny_bind (wpAny_pure (wpAny_bind fin))
    | exact wpAny_bind fin
theorem zku {a:Addr}(I:Inv X pins U H s)(g:DGet H a y o):s.TypeIs (.ref a) "dict":=by
  rcases g with ⟨kvs,k,e,_,_⟩|⟨kvs,k,b,e,_,_,_⟩
  · obtain ⟨_,_,vs,_,dd⟩:=zkt I.hok e
    exact dd.typeIs
  · obtain ⟨_,_,xs,_,dd⟩:=zks I.hok e
    exact dd.typeIs
def zuk (td ty:TE):TE:=λU H Q=>td U H λx H1=>ty U H1 λy H2=>∃ a v,x=.ref a/\DGet H2 a y (some v)/\Q v H2
def zun (td ty tv:TE):TS:=λD U H=>tv U H λv H1=>td U H1 λx H2=>ty U H2 λy H3=>∃ a H4,x=.ref a/\DPut H3 a y v H4/\D.nx U H4
section
variable {X:Cx}{o i e value:Expr}{pos pos' tpos:Pos}{td ty tv:TE}
theorem zdL (hu:X.A.units+1<cLine)(ho:PE X o td)(hi:PE X i ty)(hs:NoSl i):PE X (.Subscript o i pos) (zuk td ty):=by
  intro pins s U H Q I h;refine zrv PySem.F.slot_dict_getitem.lookup hs (thn (ho pins s U H _ I h) λu s1 zq0=>?_);obtain ⟨x,H1,I1,rx,q1⟩:=zq0;refine thn (hi pins s1 U H1 _ I1 q1) λiv s2 zq1=>?_;obtain ⟨y,H2,I2,ry,a,v,ex,g,q2⟩:=zq1;subst ex;obtain rfl:u=Value.ref a:=rx;exact ⟨zku I2 g,zoI hu I2 g ry λw' s3 I3 rw'=>⟨v,H2,I3,rw',q2⟩⟩
theorem zd5 (hu:X.A.units+1<cLine)(ho:PE X o td)(hi:PE X i ty)(hv:PE X value tv)(hs:swapsWith value (some (.Subscript o i pos')) pos.line X.env=pure false) :
    PS X (.Assign [.Subscript o i pos'] value pos) (zun td ty tv):=by
  intro pins s U H D I h;refine wpAny_Assign_Subscript (thn (hv pins s U H _ I h) λr s1 zq0=>?_) hs;obtain ⟨v,H1,I1,rv,q1⟩:=zq0;refine thn (ho pins s1 U H1 _ I1 q1) λu s2 zq1=>?_;obtain ⟨x,H2,I2,rx,q2⟩:=zq1;refine thn (hi pins s2 U H2 _ I2 q2) λiv s3 zq2=>?_;obtain ⟨y,H3,I3,ry,a,H4,ex,g,q3⟩:=zq2;subst ex;obtain rfl:u=Value.ref a:=rx;exact zoH hu I3 g ry rv λs4 I4=>⟨U,H4,I4,q3⟩
end
theorem zlB (h:Heap)(hb:sysModules<h.objs.size):zbw P w H (h.push { cls:=.type "dict",data:=.dict #[] }) h.objs.size (.dK []):=
  ⟨yaG _,beq_eq_false_iff_ne.mpr (Ne.symm (yat hb)),[],.nil,Heap.DictOf.new h⟩
theorem zqi (h:Heap)(hb:sysModules<h.objs.size):zbw P w H (h.push { cls:=.type "dict",data:=.dict #[] }) h.objs.size (.dT []):=
  ⟨yaG _,beq_eq_false_iff_ne.mpr (Ne.symm (yat hb)),[],.nil,_,#[],0,yaI _ rfl,⟨rfl,rfl,rfl⟩,rfl,rfl,ybj⟩
def zsS:TE:=λ_ H Q=>∀ p,H p=none->Q (.ref p) (upd H p (.dK []))
def zsR:TE:=λ_ H Q=>∀ p,H p=none->Q (.ref p) (upd H p (.dT []))
section
variable {X:Cx}{pos:Pos}
theorem zlh:PE X (.Dict [] [] pos) zsS:=λpins s U H Q I h=>
  wpAny_Dict_empty ⟨.ref s.heap.objs.size,_,I.laid (a:=s.heap.objs.size) (o:=.dK []) (t':=s.toks) (λ_ _ q=>yak _ q) (yaa _) (zlB s.heap I.big),rfl,h _ (I.hok.fresh (yaa _))⟩
theorem zlg:PE X (.Dict [] [] pos) zsR:=λpins s U H Q I h=>
  wpAny_Dict_empty ⟨.ref s.heap.objs.size,_,I.laid (a:=s.heap.objs.size) (o:=.dT []) (t':=s.toks) (λ_ _ q=>yak _ q) (yaa _) (zqi s.heap I.big),rfl,h _ (I.hok.fresh (yaa _))⟩
end
def zmL:List (TE×TE)->St->Hp->(List (V×V)->Hp->Prop)->Prop
  | [],_,H,Q=>Q [] H
  | (tk,tv)::r,U,H,Q=>tk U H λx H1=>tv U H1 λy H2=>zmL r U H2 λps H3=>Q ((x,y)::ps) H3
abbrev VV:List (V×V)->List (Value×Value)->Prop:=Paired λp q=>RelV p.1 q.1/\RelV p.2 q.2
def PPs (X:Cx)(pos:Pos)(keys:List (Option Expr))(values:List Expr)(trs:List (TE×TE)):Prop:=
  ∀(pins:List (Addr×Obj)) (s:Shared) (U:St) (H:Hp) (Q:List (V×V)->Hp->Prop),Inv X pins U H s->zmL trs U H Q->
    wpAny .(d) X.A (evalPairs (pairTrees keys values X.env pos)) (λvs s'=>∃ ps H',Inv X pins U H' s'/\VV ps vs/\Q ps H') X.xe s
theorem zne :PPs X pos [] [] []:=λpins s U H Q I h=>pairTrees_nil_walk ⟨[],H,I,.nil,h⟩
theorem zgs {k:Expr}(hk:PE X k tk)(hv:PE X v tv)(hr:PPs X pos ks vs trs) :
    PPs X pos (some k::ks) (v::vs) ((tk,tv)::trs):=λpins s U H Q I h=>
  pairTrees_cons_walk (thn (hk pins s U H _ I h) λu s1 ⟨x,H1,I1,rx,q1⟩=>thn (hv pins s1 U H1 _ I1 q1) λw2 s2 ⟨y,H2,I2,ry,q2⟩=>
    thn (hr pins s2 U H2 _ I2 q2) λws s3 ⟨ps,H3,I3,rel,q3⟩=>⟨(x,y)::ps,H3,I3,.cons ⟨rx,ry⟩ rel,q3⟩)
def zd8 (kvs more:List (Key×V)):List (Key×V):=more.foldl (λacc kv=>putK acc kv.1 kv.2) kvs
theorem KV.merge:∀{more:List (Key×V)} {rs:List (Key×Value)} {kvs:List (Key×V)} {vs:List (Key×Value)},KV more rs->KV kvs vs->KV (zd8 kvs more) (merged vs rs):=by
  intro more rs kvs vs r;unfold KV at r
  induction r generalizing kvs vs with
  | nil=>intro q;exact q
  | @cons p q ps qs h t ih=>
    intro r0;have e:KV (putK kvs p.1 p.2) (stored vs q.1 q.2):=by
      have:=r0.put p.1 h.2;rw[<-h.1];exact this
    exact ih e
theorem zfz:∀(more kvs:List (Key×V)),(zd8 kvs more).length<=kvs.length+more.length
  | [],kvs=>by show kvs.length<=kvs.length+0;lia
  | p::r,kvs=>by
    have h1:=zfz r (putK kvs p.1 p.2);have h2:=zdN kvs p.1 p.2;show (zd8 (putK kvs p.1 p.2) r).length<=_;rw[yaM];lia
theorem zhI :∀{kvs:List (Key×V)} {ws:List (Value×Value)},VV (kvs.map λkv=>(kV kv.1,kv.2)) ws->∃ rs,Carries (zaQ P w) ws rs/\KV kvs rs
  | [],_,r=>by rw[ybB]at r;cases r;exact ⟨[],True.intro,.nil⟩
  | p::kvs,_,r=>by
    rw[yap]at r;cases r with
    | @cons a b as bs h t=>
      obtain ⟨rs,c,q⟩:=zhI (P:=P) (w:=w) t;obtain ⟨b1,b2⟩:=b;exact ⟨(p.1,b2)::rs,⟨zjo h.1,rfl,c⟩,.cons ⟨rfl,h.2⟩ q⟩
def zuj (trs:List (TE×TE)):TE:=λU H Q=>∀ p,H p=none->zmL trs U (upd H p (.dK [])) λps H2=>H2 p=some (.dK [])/\∃ kvs:List (Key×V),ps=kvs.map (λkv=>(kV kv.1,kv.2))/\kvs.length<=15/\Q (.ref p) (upd H2 p (.dK (zd8 [] kvs)))
theorem znl (h:PPs X pos keys values trs)(hall:keys.all (·.isSome)=true)(hl:keys.length=values.length)(h0:keys≠[])
    (h15:keys.length<=15):PE X (.Dict keys values pos) (zuj trs):=by
  intro pins s U H Q I q;have hn:=I.hok.fresh (yaa s.heap.objs.size);have I1:=I.laid (a:=s.heap.objs.size) (o:=.dK []) (h':=s.heap.push { cls:=.type "dict",data:=.dict #[] }) (t':=s.toks) (λ_ _ q=>yak _ q) (yaa _) (zlB s.heap I.big);refine wpAny_Dict_walk (knd:=zaQ X.prog X.w) hall hl h0 h15 (thn (h pins _ U _ _ I1 (q _ hn)) λws s2 zq0=>?_);obtain ⟨ps,H2,I2,rel,e,kvs,ep,lk,q2⟩:=zq0;subst ep;obtain ⟨rs,c,rk⟩:=zhI (P:=X.prog) (w:=X.w) rel;obtain ⟨z,hd,vs0,r0,dd⟩:=zsw I2.hok e;cases r0
  refine ⟨rs,c,dd,λh' dd' hs=>⟨.ref s.heap.objs.size,_,?_,rfl,q2⟩⟩;have hz:(zd8 [] kvs).length<=sizeLine:=by
    have h1:=zfz kvs [];rw[ybi]at h1;rw[sizeLine_eq];lia
  have he:∃ q,h'.get? s.heap.objs.size=some q:=let ⟨q,_,_,hq,_⟩:=dd';⟨q,hq⟩;exact zkv I2 (by rw[e];exact True.intro) hs he (zrd hz hd (rk.merge .nil) dd')
structure M2 (X:Cx)(o:Expr)(m:Str)(apos:Pos)(e f:Expr)(cpos:Pos):Prop where
  base:attributeBase o m X.env (eval o X.env)=eval o X.env
  few:((backTo cpos (starEach [e,f] X.env)).all (λx=>!x.1) && (backToKw cpos (keywordEach [] X.env)).all (λx=>x.1.isSome)
    && decide (([e,f]:List Expr).length+([]:List Keyword).length+(if ([]:List Keyword).isEmpty then 0 else 1)<30))=true
  line:(apos.endLine==cpos.line)=true
  trees:backTo cpos (starEach [e,f] X.env)=[(false,eval e X.env),(false,eval f X.env)]
def IsD (H:Hp)(a:Addr):Prop:=(∃ kvs,Rd H a (.dK kvs))\/∃ kvs,Rd H a (.dT kvs)
theorem ztS {a:Addr}(I:Inv X pins U H s)(d:IsD H a) :
    s.TypeIs (.ref a) "dict"/\(∀ b,Value.ref a=.ref b->∃ ob,s.heap.get? b=some ob/\ob.dict=none)/\(a==sysModules)=false:=by
  rcases d with ⟨kvs,e⟩|⟨kvs,e⟩
  · obtain ⟨_,hd,vs,_,dd⟩:=zkt I.hok e
    refine ⟨dd.typeIs,λb q=>?_,hd⟩;cases q
    obtain ⟨ob,_,_,h1,h2,_⟩:=dd;exact ⟨ob,h1,h2.2.1⟩
  · obtain ⟨_,hd,xs,_,dd⟩:=zks I.hok e
    refine ⟨dd.typeIs,λb q=>?_,hd⟩;cases q
    obtain ⟨ob,_,_,h1,h2,_⟩:=dd;exact ⟨ob,h1,h2.2.1⟩
section
variable {X:Cx}{pins:List (Addr×Obj)}{U:St}{H:Hp}{s:Shared}{a:Addr}{y d:V}{u r:Value}{o:Option V}{A:Around}{E:Value->Shared->Prop}
theorem zt2 {Q:Value->Shared->Prop}(hu:A.units+1<cLine)(I:Inv X pins U H s)(g:DGet H a y o)(ry:RelV y u)(rd:RelV d r)(h:∀ w' s',Inv X pins U H s'->RelV (o.getD d) w'->Q w' s') :
    wpAny .(d) A (call (.builtin "dict.get") [.ref a,u,r]) Q E s:=by
  rcases g with ⟨kvs,k,e,ey,l⟩|⟨kvs,k,b,e,ey,eb,l⟩
  · subst ey
    obtain ⟨z,hd,vs,rel,dd⟩:=zkt I.hok e;refine call_meetsIn PySem.F.slot_dict_get dd.typeIs PySem.F.entry_dict_get (PySem.F.args_dict_get_3 _ _ _) (meets_dict_get_default (zaQ X.prog X.w) a (zjo ry) hd r) ⟨_,dd.mapOf,h _ _ (I.tok _) ?_⟩;rw[l];exact (rel.val k).getD rd
  · subst ey
    cases (show u=Value.ref b from ry)
    obtain ⟨z,hd,xs,rel,dd⟩:=zks I.hok e;refine call_meetsIn PySem.F.slot_dict_get dd.typeIs PySem.F.entry_dict_get (PySem.F.args_dict_get_3 _ _ _) (meetsH_dict_get_default (tupleKind (zaQ X.prog X.w)) a b hd r) ⟨tupleKind_room_in1 hu,k,xs,zhA I.hok eb,dd,h _ _ (I.tok _) ?_⟩;rw[l];exact (rel.val k).getD rd
end
def zsT (td ty tx:TE):TE:=λU H Q=>td U H λx H1=>∃ a,x=.ref a/\IsD H1 a/\ty U H1 λy H2=>tx U H2 λz H3=>∃ o,DGet H3 a y o/\Q (o.getD z) H3
section
variable {X:Cx}{o e f:Expr}{apos cpos:Pos}{td ty tx:TE}
theorem zpu (hu:X.A.units+1<cLine)(ho:PE X o td)(he:PE X e ty)(hf:PE X f tx)(m:M2 X o "get" apos e f cpos):PE X (.Call (.Attribute o "get" apos) [e,f] [] cpos) (zsT td ty tx):=by
  intro pins s U H Q I h;refine wpAny_Call_method m.base m.few m.line PySem.F.plainAttrs_dict PySem.F.slot_dict_get PySem.F.type_dict_get (thn (ho pins s U H _ I h) λu s1 zq0=>?_);obtain ⟨x,H1,I1,rx,a,ex,d,q1⟩:=zq0;subst ex;obtain rfl:u=Value.ref a:=rx;obtain ⟨t1,t2,_⟩:=ztS I1 d;refine ⟨t1,t2,?_⟩;rw[m.trees];refine Calls.callWith_builtin rfl (Calls.evalArgs_plain (Calls.spliced_cons (thn (he pins s1 U H1 _ I1 q1) λiv s2 ⟨y,H2,I2,ry,q2⟩=>
    Calls.spliced_cons (thn (hf pins s2 U H2 _ I2 q2) λfv s3 ⟨z,H3,I3,rz,ov,g,q3⟩=>Calls.spliced_nil ?_))))
  exact zt2 hu I3 g ry rz λw' s4 I4 rw'=>⟨_,H3,I4,rw',q3⟩
end
end L2
namespace Att
open PySem PySem.W PySem.Calls PyProof.Rows
theorem zg0 {P:Params}{h:Heap}:∀(ns:List Int) (vs:List Value),WellAll P h vs (ns.map WData.int)->IntsAre vs ns:=by
  intro ns
  induction ns with
  | nil=>
    intro vs w;rw[ybB]at w;cases w
    exact .nil
  | cons n ns ih=>
    intro vs w;rw[yap]at w;cases w with
    | cons a b=>
      cases a
      exact .cons _ _ (ih _ b)
theorem zm6 {l:OpenLaw}{n:Nat}(hn:l.most=some n){P:Params}{h:Heap}{args:List WData}{vals:List Value}
    (hpre:l.row.toRowW.claim.pre args=true) (hwl:WellAll P h vals args) :
    ∃ a vs ns,vals=[Value.ref a]/\args=[WData.list (ns.map WData.int)]/\h.get? a=some { cls:=.type "list",data:=.seq vs.toArray }/\IntsAre vs ns/\ns.length<=n:=by
  have hsh:WShape.hasAll [] args [.list .int]=true:=(pre_splitW hpre).1;have hc:l.pre.holds [] { args:=args }=true:=(pre_splitW hpre).2;obtain ⟨d,r,rfl,h1,h2⟩:=hasAllW_cons hsh;obtain rfl:=hasAllW_nil h2;obtain ⟨xs,rfl,h3⟩:=hasW_list h1;obtain ⟨ns,rfl⟩:=items_int h3;have hlen:ns.length<=n:=by
    unfold OpenLaw.pre at hc;have h4:(WTm.not (.lt (.lit (.int (n:Int))) (.len (.arg 0)))).holds [] { args:=[.list (ns.map .int)] }=true:=by
      have h4:=(holds_andW hc).1;rw[hn]at h4;exact h4
    have h5:=condW_of h4 (w_not (w_lt w_lit (w_len_list (w_arg rfl))));rw[yab]at h5;refine ybr λq=>?_;have q':(n:Int)<((ns.length:Nat):Int):=by lia
    first
      | (rw[yai q']at h5;exact absurd h5 (by decide))
      | (simp at h5;lia)
  cases hwl with
  | cons w1 w2=>
    cases w2
    cases w1 with
    | list ho hall=>exact ⟨_,_,ns,rfl,rfl,ho,zg0 ns _ hall,hlen⟩
theorem znf (l:OpenLaw)(args:List WData):l.row.toRowW.claim.post args (.bool true) args=true:=
  postW_of (r:=l.row.toRowW) (X:=(true==true))
    (show WShape.has [] (.bool true) .bool=true by first|rfl|decide|simp[WShape.has,WShape.arms,WShape.armsAll])
    (show (WTm.eq .res (.lit (.bool true))).value [] { args:=args,res:=some (.bool true),after:=args }=some (.bool (true==true)) from w_eq_bool (w_res rfl) w_lit) rfl
theorem attach_call {l:OpenLaw}{n:Nat}{q:Program}{loose:List Str}{XP:(Str->Option Value)->Heap->Prop}{YP:World->Heap->Prop}{d:DefRec}
    (hn:l.most=some n) (hdf:d.params.defaults=[])
    (call:∀(w:World) (s₀ s₁:Shared) (mg mb:Str->Option Value) (fa:Addr) (o:Obj) (pm cd doc:Value) (a:Addr) (vs:List Value) (ns:List Int),
      Ground q loose [] XP w s₀ mg mb s₁.heap->YP w s₁.heap->
      s₁.heap.get? fa=some o->o.data=.func (docDef d.name d.params d.body d.scope pm cd doc)->s₁.heap.CodeRec cd d.name->mg d.name=some (.ref fa)->
      s₁.heap.get? a=some { cls:=.type "list",data:=.seq vs.toArray }->IntsAre vs ns->ns.length<=n->s₁.gens=#[]->
      codeAny (model l.prog w) callerA (.call (.ref fa) ⟨[.ref a],[]⟩) (λr s'=>r=.ok (.ret (.bool true))/\OldK s₁.heap s'.heap/\s'.os=s₁.os/\AllBare s'.gens) s₁) :
    WalkO q loose XP YP l.row.toRowW d [] (λf vs=>PySem.call f vs):=by
  intro w s₀ s₁ mg mb G Y fa o pm cd doc dV kV ho hd hcd hD hmg hg args vals as hpre hlay hrd hwl hlo;obtain rfl:dV=.none:=Dflts.none hD hdf;obtain rfl:kV=.none:=Dflts.noKw hD;obtain ⟨a,vs,ns,rfl,rfl,hobj,hints,hlen⟩:=zm6 hn hpre hwl;refine enter_call (codeAny_mono (call w s₀ s₁ mg mb fa o pm cd doc a vs ns G Y ho (fd_plain hd) hcd hmg hobj hints hlen hg) λr s' hq=>?_);obtain ⟨rfl,h2,h3,h4⟩:=hq;exact ⟨.inl ⟨.bool true,.bool true,[],rfl,λ_=>rfl,.bool true,znf l _,λ_=>⟨List.Pairwise.nil,λ_ hm=>(nomatch hm)⟩⟩,h2,h3,h4⟩
end Att
namespace L2
open PySem PySem.Spec PyProof.Rows
theorem ziM:∀{vs:List Value} {ns:List Int},IntsAre vs ns->Vals (ns.map V.int) vs
  | _,_,.nil=>.nil
  | _,_,.cons n t h=>.cons ⟨t,rfl⟩ (ziM h)
end L2
namespace L2
open PySem PySem.Spec PyProof.Rows
def zdQ (s:Stmt)(j:Nat):Stmt:=match s with
  | .ClassDef _ _ _ body _ _ _ _ _ _ _=>body.getD j (.Pass ⟨0,0,0,0⟩)
  | _=>.Pass ⟨0,0,0,0⟩
def zcf (s:Stmt):Arguments:=match s with
  | .FunctionDef _ a _ _ _ _ _ _ _ _=>a
  | _=>{ posonlyargs:=[],args:=[],vararg:=none,kwonlyargs:=[],kw_defaults:=[],kwarg:=none,defaults:=[] }
def zbk (s:Stmt):List Stmt:=match s with
  | .FunctionDef _ _ b _ _ _ _ _ _ _=>b
  | _=>[]
def zah (s:Stmt):Scope:=match s with
  | .FunctionDef _ _ _ _ _ _ sc _ _ _=>sc
  | _=>{ kind:=.function,names:=[],isGenerator:=false,isCoroutine:=false }
abbrev CX0:CXT:=λ_ _ _ _ _ _=>False
abbrev E0:XK:=λ_ _ _=>False
theorem znn :zhg CX0 X E0:=λ_ _ _ _ _ _ _ h=>h.elim
structure Fun (K:Frag)(x qual:Str)(st:Stmt)(f:Addr)(fd:FuncData):Prop where
  ex:∃(oc:Value) (od:Option Addr) (kV doc pm:Value) (an:Option Addr) (cdv ct:Value) (osl:Array (Option Value)),
    fd=fnOf x qual (zcf st) (zbk st) (zah st) .none kV doc pm an cdv ct/\K.lookup f=some ⟨oc,od,.func fd,osl⟩/\codeIn K cdv qual=true
  kp:keepIn K (.ref f)=true
section
variable {P:Program}{w:World}{K:Frag}{mg:Str->Option Value}{base:Heap}
theorem Fun.ok {st:Stmt}{f:Addr}{fd:FuncData}{N:List Str}{k:Nat}{sp:Sp}(F:Fun K x qual st f fd)(S:zap N ps (zah st))(len:∀ vs H Q E,sp vs H Q E->vs.length=ps.length)
    (hbody:∀(cdv:Value) (A:Around) (outer:List Env) (s:Shared) (H:Hp) (vs:List V) (Q:VK) (E:XK),Room k (A.deeper (envOfC qual (zah st) s.heap.objs.size f cdv))->sp vs H Q E->
      ∃ t,PSs (cxOf CX0 P w K mg base N qual (zah st) f cdv A outer s H E).nox (zbk st) t/\t { nx:=λ_ H'=>Q .non H',rt:=Q } (zcV N vs) H):FnOk P w K mg base CX0 (k+1) f fd ps sp:=by
  obtain ⟨oc,od,kV,doc,pm,an,cdv,ct,osl,rfl,lk,hcd⟩:=F.ex;refine zsq lk hcd S len λA outer s H vs Q E hr hsp=>?_;obtain ⟨t,h,q⟩:=hbody cdv A outer s H vs Q E hr hsp;exact ⟨t,h.nox,q⟩
theorem Fun.binds {st:Stmt}{f:Addr}{fd:FuncData}{ps:List Str}(F:Fun K x qual st f fd)
    (h:∀(kV doc pm:Value) (an:Option Addr) (cdv ct:Value) (us:List Value),us.length=ps.length->bindArgs (fnOf x qual (zcf st) (zbk st) (zah st) .none kV doc pm an cdv ct) ⟨us,[]⟩=pure (ps.zip us)):zdY K fd ps []:=by
  obtain ⟨oc,od,kV,doc,pm,an,cdv,ct,osl,rfl,lk,hcd⟩:=F.ex;exact .all (h kV doc pm an cdv ct)
theorem zg1 {x qual:Str}{st:Stmt}{f:Addr}{oc:Value}{od an:Option Addr}{osl:Array (Option Value)}{kV doc pm cdv ct:Value}(l:K.lookup f=some ⟨oc,od,.func (fnOf x qual (zcf st) (zbk st) (zah st) .none kV doc pm an cdv ct),osl⟩)
    (c:codeIn K cdv qual=true) (k:keepIn K (.ref f)=true):Fun K x qual st f (fnOf x qual (zcf st) (zbk st) (zah st) .none kV doc pm an cdv ct):=⟨⟨oc,od,kV,doc,pm,an,cdv,ct,osl,rfl,l,c⟩,k⟩
end
theorem zdq {k:Nat}(hr:Room k A):A.units+1<cLine:=ya6 (yco (by decide:1<=64) _) hr.units
theorem zao {n:Nat}(h:n<=1000):n<sizeLine:=ya6 h .(i)
section
variable {X:Cx}
theorem pv (i:Nat){x:Str}{pos:Pos}(hN:X.N[i]?=some x:=by rfl)(hv:Vis X.env.scope x:=by first|exact Or.inl rfl|exact Or.inr (Or.inl rfl)|exact Or.inr (Or.inr rfl))(hd:(x==("__debug__" : Str))=false:=by decide)
    (hcd:(x==("__classdict__" : Str))=false:=by decide):PE X (.Name x pos) (tVar i):=zti hN hv hd hcd
end
theorem iteF {A B:Prop}(h:B):if false=true then A else B:=by
  rw[if_neg yaD];exact h
theorem iteT {A B:Prop}(h:A):if true=true then A else B:=by
  rw[if_pos rfl];exact h
theorem ite2 {c A B:Prop}[Decidable c](h1:c->A)(h2:¬ c->B):if c then A else B:=by
  by_cases h:c
  · rw[if_pos h]
    exact h1 h
  · rw[if_neg h]
    exact h2 h
theorem zjq {c A B:Prop}[Decidable c](hc:c)(h:B):if (!decide c)=true then A else B:=by
  rw[yai hc];exact iteF h
def Same (H H':Hp):Prop:=∀ b o,H b=some o->H' b=some o
theorem Same.trans (a:Same H H1)(b:Same H1 H2):Same H H2:=λc o h=>b c o (a c o h)
theorem Same.free (e:Same H H'){l:Addr}(h:H' l=Option.none):H l=Option.none:=by
  cases q:H l with
  | none=>rfl
  | some o=>
    rw[e l o q]at h;cases h
theorem Same.seq {K:Frag}{a:Addr}(e:Same H H')(h:SqL K H a xs):SqL K H' a xs:=by
  rcases h with (h|⟨o,h⟩)|h
  · exact .inl (.inl (e _ _ h))
  · exact .inl (.inr ⟨o,e _ _ h⟩)
  · exact .inr h
end L2
namespace Tim
open PySem PyProof.Rows
section
variable {prog:Program}{w:World}{A:Around}{E:Value->Shared->Prop}{s:Shared}{κ:KeyKind}{kd:SortKind}{a₀:Array Keyed}
def LtG (prog:Program)(w:World)(A:Around)(s:Shared)(κ:KeyKind)(kd:SortKind):Prop:=
 ∀(E:Value->Shared->Prop) (x y:Value) (a b:κ.α) (Q:Bool->Shared->Prop),κ.keyOf x=some a->κ.keyOf y=some b->Q (κ.blt a b) s->wpAny .(j) A (keyLt' kd x y) Q E s
def ky (κ:KeyKind)(p:Keyed):κ.α:=(κ.keyOf p.1).getD κ.dflt
def Keyd (κ:KeyKind)(p:Keyed):Prop:=∃ a,κ.keyOf p.1=some a
structure TB (κ:KeyKind)(kd:SortKind)(n:Nat)(st:SortSt):Prop where
 kind:kindOf st=kd
 keys:∀ p∈(arrOf st).toList,Keyd κ p
 failed:failedOf st=none
 size:(arrOf st).size=n
def kAt (κ:KeyKind)(xs:Array Keyed)(i:Nat):κ.α:=match xs[i]? with
 | some p=>ky κ p
 | none=>κ.dflt
theorem zkl {xs:Array Keyed}{i:Nat}(h:i<xs.size):kAt κ xs i=ky κ xs[i]:=by
 unfold kAt;rw[Array.getElem?_eq_getElem h]
def Up (κ:KeyKind)(xs:Array Keyed)(lo hi:Nat):Prop:=∀ i j,lo<=i->i<=j->j<hi->κ.kle (kAt κ xs i) (kAt κ xs j)
end
end Tim
namespace Tim
open PySem PyProof.Rows
section
variable {M:Model}{A:Around}{E:Value->Shared->Prop}{s:Shared}{st:SortSt}{n hint:Nat}{p:Nat->Bool}
abbrev C2:=Option (Option Nat)×Nat×Nat
end
end Tim
namespace Tim
open PySem PyProof.Rows
section
variable {κ:KeyKind}
def le (κ:KeyKind)(x y:Keyed):Prop:=κ.kle (ky κ x) (ky κ y)
abbrev SL (κ:KeyKind)(l:List Keyed):Prop:=l.Pairwise (le κ)
theorem zsd {xs:Array Keyed}(h:Up κ xs 0 xs.size):SL κ xs.toList:=by
 rw[SL,ya0];intro i j hi hj hij;have hi':i<xs.size:=by simpa using hi
 have hj':j<xs.size:=by simpa using hj
 have:=h i j (yaG _) .(a) hj';rw[zkl hi',zkl hj']at this;simpa [le] using this
variable {a b out:Array Keyed}{ia ib:Nat}
end
end Tim
namespace Tim
open PySem PyProof.Rows
section
variable {κ:KeyKind}
def back (xs:Array Keyed)(lo:Nat)(m:Array Keyed):Array Keyed:=m.toList.zipIdx.foldl (λa (q:Keyed×Nat)=>a.setIfInBounds (lo+q.2) q.1) xs
end
end Tim
namespace Tim
open PySem PyProof.Rows
section
variable {prog:Program}{w:World}{A:Around}{E:Value->Shared->Prop}{s:Shared}{κ:KeyKind}{kd:SortKind}
def zhh (a:Addr)(h h':Heap):Prop:=∀ b o,b≠a->h.get? b=some o->h'.get? b=some o
def keyV (κ:KeyKind)(v:Value):κ.α:=(κ.keyOf v).getD κ.dflt
theorem zjR:∀ vs:List Value,vs.zip vs=vs.map λv=>(v,v)
 | []=>rfl
 | v::vs=>by rw[ycp,zjR vs,yap]
theorem zlj {vs:List Value}{p:Keyed}(h:p∈(pairsOf vs).toList):p.1=p.2/\p.1∈vs:=by
 have e:(pairsOf vs).toList=vs.zip vs:=by
  unfold pairsOf;simp
 rw[e]at h;rw[zjR]at h;obtain ⟨v,hv,rfl⟩:=yaE.mp h;exact ⟨rfl,hv⟩
theorem znp (vs:List Value):(pairsOf vs).toList.map (·.2)=vs:=by
 have e:(pairsOf vs).toList=vs.zip vs:=by
  unfold pairsOf;simp
 rw[e,zjR,ybd];have z:((λx:Keyed=>x.2) ∘ λv:Value=>(v,v))=id:=rfl
 first
  | rw[z,List.map_id]
  | exact List.map_id vs
theorem ztm {vs:List Value}{xs:Array Keyed}(hp:xs.Perm (pairsOf vs))(hU:Up κ xs 0 (pairsOf vs).size) :
  (xs.toList.map (·.2)).Perm vs/\(xs.toList.map (·.2)).Pairwise (λx y=>κ.kle (keyV κ x) (keyV κ y)):=by
 have hpl:=ycq.mp hp;refine ⟨?_,?_⟩
 .have:=hpl.map (·.2);rwa[znp]at this
 .have hs:SL κ xs.toList:=zsd (by rw[hp.size_eq];exact hU);refine ybR.mpr (hs.imp_of_mem λ{a b} ha hb hab=>?_);have ea:=(zlj (hpl.mem_iff.mp ha)).1;have eb:=(zlj (hpl.mem_iff.mp hb)).1;unfold le ky at hab;unfold keyV;rw[<-ea,<-eb];exact hab
theorem zkk {h:Heap}{a:Addr}{vs out:List Value}{n:Nat}(ho:h.get? a=some (seqObj "list" vs.toArray n)):zhh a h (sortedHeap h a vs out.toArray)/\∃ c,(sortedHeap h a vs out.toArray).get? a=some (seqObj "list" out.toArray c):=by
 unfold sortedHeap;refine ⟨λb o hb e=>(ybo _ _ (Ne.symm hb)).trans (yak _ (yak _ ((ybo _ _ (Ne.symm hb)).trans e))),?_⟩;exact ⟨_,get?_update_seq (yak _ (yak _ (get?_update_seq ho (λ_=>#[])))) λ_=>out.toArray⟩
end
end Tim
namespace L2
open PySem PySem.Spec PyProof.Rows
structure DF (K:Frag)(mg:Str->Option Value)(x:Str)(st:Stmt)(ps:List Str):Prop where
 ex:∃ f fd,Fun K x x st f fd/\zdY K fd ps []/\mg x=some (.ref f)
structure FC (P:Program)(w:World)(K:Frag)(mg:Str->Option Value)(base:Heap)(k:Nat)(x:Str)(ps:List Str)(sp:Sp):Prop where
 ex:∃ f fd,FnOk P w K mg base CX0 k f fd ps sp/\zdY K fd ps []/\keepIn K (.ref f)=true/\mg x=some (.ref f)/\∃ oc od osl,K.lookup f=some ⟨oc,od,.func fd,osl⟩
theorem FC.at {w:World}{K:Frag}{mg:Str->Option Value}{base:Heap}{k:Nat}{f:Addr}{fd:FuncData}{oc:Value}{od:Option Addr}{osl:Array (Option Value)}(F:FC P w K mg base k x ps sp)(m:mg x=some (.ref f))(l:K.lookup f=some ⟨oc,od,.func fd,osl⟩):FnOk P w K mg base CX0 k f fd ps sp:=by
 obtain ⟨f',fd',ok,_,_,m',oc',od',osl',l'⟩:=F.ex;rw[m]at m';cases m'
 rw[l]at l';cases l'
 exact ok
theorem DF.ok {w:World}{K:Frag}{mg:Str->Option Value}{base:Heap}{st:Stmt}{N:List Str}{k:Nat}{sp:Sp}(D:DF K mg x st ps)(S:zap N ps (zah st))(len:∀ vs H Q E,sp vs H Q E->vs.length=ps.length)
  (hbody:∀(f:Addr) (cdv:Value) (A:Around) (outer:List Env) (s:Shared) (H:Hp) (vs:List V) (Q:VK) (E:XK),Room k (A.deeper (envOfC x (zah st) s.heap.objs.size f cdv))->sp vs H Q E->
   ∃ t,PSs (cxOf CX0 P w K mg base N x (zah st) f cdv A outer s H E).nox (zbk st) t/\t { nx:=λ_ H'=>Q .non H',rt:=Q } (zcV N vs) H):FC P w K mg base (k+1) x ps sp:=by
 obtain ⟨f,fd,F,b,m⟩:=D.ex;exact ⟨f,fd,F.ok S len λcdv A outer s H vs Q E hr h=>hbody f cdv A outer s H vs Q E hr h,b,F.kp,m,by
  obtain ⟨oc,od,kV,doc,pm,an,cdv,ct,osl,rfl,lk,hcd⟩:=F.ex;exact ⟨oc,od,osl,lk⟩⟩
theorem zax {X:Cx}{k:Nat}{e:Expr}{es:List Expr}{t:TA}{p pos:Pos}(F:FC X.prog X.w X.K X.mg X.base j x ps sp)(hr:Room k X.A)(ha:PA X (e::es) t)(hjk:j<=k:=by decide)(hg:Gl X x:=by rfl)
  (hdb:(x==("__debug__" : Str))=false:=by decide) (he:starEach (e::es) X.env=(false,eval e X.env)::starEach es X.env:=by rfl) (hpl:(backTo pos (starEach es X.env)).any (·.1)=false:=by rfl):PE X (.Call (.Name x p) (e::es) [] pos) (zsX sp [] E0 t):=by
 obtain ⟨f,fd,ok,b,kp,m,_⟩:=F.ex;exact zrN ok (hr.mono hjk) hg m kp b .nil znn ha hdb he hpl
def zud (t u:TS):TS:=λD U H=>∃ M:St->Hp->Prop,t { D with nx:=M } U H/\∀ U' H',M U' H'->u D U' H'
theorem zaN {st:Stmt}{rest:List Stmt}{t:TS}(h1:PS X st t)(h2:PSs X rest u):PSs X (st::rest) (zud t u):=by
 intro pins s U H D I h;obtain ⟨M,h,hM⟩:=h;refine wpAny_execs_cons (thn (h1 pins s U H { D with nx:=M } I h) λf s1 q=>?_);cases f with
 | next=>
  obtain ⟨U',H',I',q⟩:=q;exact h2 pins s1 U' H' D I' (hM U' H' q)
 | ret v=>exact q
 | brk=>exact q
 | cont=>exact q
def zuC (i j:Int):Prop:=0<j/\j<2^4000
section
variable {X:Cx}
def kitO (a b:String):Option Bool:=if (Value.type a==Value.type b)=true then some true else if PySem.W.kitMeta b=true then (PySem.fastBuiltinMro a).map (·.contains (.type b)) else none
theorem zsf {K:Frag}{a:String}:kitOne K (.type a) (.type b)=kitO a b:=rfl
def rIsi (K:Frag):List V->Hp->VK->Prop:=λxs H Q=>∃ x n t b,xs=[x,.ty n]/\TyOf K H x (.type t)/\kitO t n=some b/\Q (.bl b) H
theorem zqq:zdg X (.builtin "isinstance") (rIsi X.K):=by
 intro pins s U H xs us Q I r h;obtain ⟨x,n,t,b,e,ty,ki,q⟩:=h;subst e;obtain ⟨u,w',e,r1,r2⟩:=zhl r;subst e;cases r2
 exact zog I r1 ty (zsf.trans ki) λtk=>⟨.bl b,H,I.tok tk,rfl,q⟩
theorem ztH:kitO "int" "int" = some true:=by decide +kernel
theorem ztI:kitO "int" "bool" = some false:=by decide +kernel
theorem zq7:kitO "list" "list" = some true:=by decide +kernel
theorem ztJ:kitO "bool" "bool" = some true:=by decide +kernel
def zrF:V->List V->Hp->VK->Prop:=λx xs H Q=>∃ i,x=.int i/\xs=[]/\Q (.int (Builtin.Int.intBits i:Nat)) H
theorem zim:MtR X "int.bit_length" zrF:=by
 intro pins s U H x xs v us Q I rx rv h;obtain ⟨i,rfl,rfl,q⟩:=h;obtain ⟨t,rfl⟩:=rx;cases rv
 exact call_int_bit_length ⟨.int _,H,I.tok _,⟨_,rfl⟩,q⟩
end
theorem zof {c A B:Prop}[Decidable c](hc:¬ c)(h:B):if decide c=true then A else B:=by
 rw[yan hc];exact iteF h
theorem ztR {c A B:Prop}[Decidable c](hc:c)(h:A):if decide c=true then A else B:=by
 rw[yai hc];exact iteT h
def zdP (L:Addr)(a l:Int):HO:=.dK [(.inr "script",.ref L),(.inr "at",.int a),(.inr "left",.int l)]
def Keep (d:Addr)(H H':Hp):Prop:=∀ b o,b≠d->H b=some o->H' b=some o
theorem Keep.refl (d:Addr)(H:Hp):Keep d H H:=λ_ _ _ h=>h
theorem Keep.trans (a:Keep d H H1)(b:Keep d H1 H2):Keep d H H2:=λc o n h=>b c o n (a c o n h)
theorem Same.keep (s:Same H H'):Keep d H H':=λb o _ h=>s b o h
structure LS (K:Frag)(L d:Addr)(H:Hp):Prop where
 ex:∃(ns:List Int) (a l:Int),H d=some (zdP L a l)/\SqL K H L (ns.map V.int)
theorem zga {K:Frag}{H:Hp}{d:Addr}{a:Int}(hd:H d=some (zdP L' a l))(k:Keep d H H')(h:SqL K H L xs):SqL K H' L xs:=by
 have ne:∀ o,H L=some o->(∀ kvs,o≠.dK kvs)->L≠d:=λo e n z=>by
  rw[z,hd]at e;cases e
  exact n _ rfl
 rcases h with (h|⟨o,h⟩)|h
 .exact .inl (.inl (k L _ (ne _ h nofun) h))
 .exact .inl (.inr ⟨o,k L _ (ne _ h nofun) h⟩)
 .exact .inr h
theorem LS.set {K:Frag}{d L:Addr}{H:Hp}{ns:List Int}{a l:Int}(hd:H d=some (zdP L a l))(h:SqL K H L (ns.map V.int)):LS K L d (upd H d (zdP L a' l'))/\Keep d H (upd H d (zdP L a' l')):=by
 have k:Keep d H (upd H d (zdP L a' l')):=λb o n e=>by rw[zag n];exact e
 exact ⟨⟨ns,a',l',zab,zga hd k h⟩,k⟩
theorem LS.same {K:Frag}{L:Addr}(s:LS K L d H)(k:Same H H'):LS K L d H':=by
 obtain ⟨ns,a,l,e,q⟩:=s.ex;exact ⟨ns,a,l,k _ _ e,k.seq q⟩
theorem zak {H:Hp}{p:Addr}(h:H p=none)(o:HO):Same H (upd H p o):=λb u q=>by rw[zag (zac q h)];exact q
theorem LS.put {K:Frag}{L p:Addr}{H2:Hp}{o:HO}(s:LS K L d H0)(hp:H0 p=none)(k:∀ b o,b≠d->b≠p->H0 b=some o->H2 b=some o)(s2:LS K L d H2):LS K L d (upd H2 p o):=by
 obtain ⟨ns,a,l,e,q⟩:=s.ex;obtain ⟨ns2,a2,l2,e2,_⟩:=s2.ex;have hdp:d≠p:=zac e hp;have go:∀ u,H0 L=some u->(∀ kvs,u≠.dK kvs)->upd H2 p o L=some u:=λu hu hn=>by
  have h1:L≠p:=zac hu hp;have h2:L≠d:=λz=>by
   rw[z,e]at hu;cases hu
   exact hn _ rfl
  rw[zag h1];exact k L u h2 h1 hu
 refine ⟨ns,a2,l2,by rw[zag hdp];exact e2,?_⟩;rcases q with (h|⟨ob,h⟩)|h
 .exact .inl (.inl (go _ h nofun))
 .exact .inl (.inr ⟨ob,go _ h nofun⟩)
 .exact .inr h
section
variable {H:Hp}{d L:Addr}{a l:Int}
theorem zeN {x y:Str}(h:x≠y):(Sum.inr x:Key)≠Sum.inr y:=λz=>h (Sum.inr.inj z)
theorem zmc (h:H d=some (zdP L a l)):DGet H d (.str "script") (some (.ref L)):=.inl ⟨_,.inr "script",.inl h,rfl,by rw[za8 rfl]⟩
theorem ztU (h:H d=some (zdP L a l)):DGet H d (.str "at") (some (.int a)):=.inl ⟨_,.inr "at",.inl h,rfl,by rw[zaT (zeN (show ("script" : Str) ≠ "at" by decide +kernel)),za8 rfl]⟩
theorem ziv (h:H d=some (zdP L a l)):DGet H d (.str "left") (some (.int l)):=.inl ⟨_,.inr "left",.inl h,rfl,by rw[zaT (zeN (show ("script" : Str) ≠ "left" by decide +kernel)),zaT (zeN (show ("at" : Str) ≠ "left" by decide +kernel)),za8 rfl]⟩
theorem zqU {k:Key}{kvs kvs':List (Key×V)}(h:H d=some (.dK kvs))(hl:kvs.length<sizeLine)(e:putK kvs k v=kvs'):DPut H d (kV k) v (upd H d (.dK kvs')):=by
 subst e;exact DPut.k h hl
theorem ztg (h:H d=some (zdP L a l)):DPut H d (.str "at") (.int a') (upd H d (zdP L a' l)):=
 zqU (k:=.inr "at") h (by show 3 < sizeLine;decide) (by
  unfold putK;rw[if_pos (by simp)];simp only[yap,ybB,if_neg (zeN (show ("script" : Str) ≠ "at" by decide +kernel)),if_neg (zeN (show ("left" : Str) ≠ "at" by decide +kernel)),if_true])
theorem zlc (h:H d=some (zdP L a l)):DPut H d (.str "left") (.int l') (upd H d (zdP L a l')):=
 zqU (k:=.inr "left") h (by show 3 < sizeLine;decide) (by
  unfold putK;rw[if_pos (by simp)];simp only[yap,ybB,if_neg (zeN (show ("script" : Str) ≠ "left" by decide +kernel)),if_neg (zeN (show ("at" : Str) ≠ "left" by decide +kernel)),if_true])
end
def ze8 (K:Frag):Sp:=λvs H Q _=>∃(d L:Addr) (m:Int),vs=[.ref d,.int m]/\(0<m/\m<1073741824)/\LS K L d H/\∀(v:Int) (H':Hp),0<=v->v<m->Keep d H H'->LS K L d H'->Q (.int v) H'
def zmU:Sp:=λvs H Q _=>∃ c k:Int,vs=[.int c,.int k]/\∀ v:Int,Q (.int v) H
def zm3 (K:Frag):Sp:=λvs H Q _=>∃(L:Addr) (ns:List Int),vs=[.ref L]/\SqL K H L (ns.map V.int)/\∀(d:Addr) (H':Hp),H d=none->Same H H'->LS K L d H'->Q (.ref d) H'
theorem zt4 {ns:List Int}{k:Int}(h:0<ns.length):∃ v:Int,atI (ns.map V.int) (k%(((ns.map V.int).length:Nat):Int))=some (.int v):=by
 have e:(ns.map V.int).length=ns.length:=yab _;have h1:(0:Int)<(((ns.map V.int).length:Nat):Int):=by rw[e];lia
 have z0:=yb7 k (Int.ne_of_gt h1);have z1:=yb8 k h1;generalize hj:k%(((ns.map V.int).length:Nat):Int)=j at z0 z1;rw[e]at z1;have hk:j.toNat<ns.length:=by lia
 obtain ⟨n,rfl⟩:∃ n:Nat,j=(n:Int):=⟨j.toNat,by lia⟩;have hn:n<ns.length:=by lia
 exact ⟨ns[n],za5 (by rw[yam,yac hn];rfl)⟩
end L2
namespace L2
open PySem PySem.Spec PyProof.Rows PySem.SeqAt
def Ext (H H':Hp):Prop:=∀ b o,H b=some o->(∀ kvs,o≠.dK kvs)->H' b=some o
theorem Same.ext (s:Same H H'):Ext H H':=λb o h _=>s b o h
theorem Keep.ext {L:Addr}{a l:Int}(k:Keep d H H')(h:H d=some (zdP L a l)):Ext H H':=λb o e n=>k b o (λz=>by
 rw[z,h]at e;cases e
 exact n _ rfl) e
theorem LS.ext {K:Frag}{L:Addr}(s:LS K L d H)(k:Keep d H H'):Ext H H':=by
 obtain ⟨ns,a,l,e,_⟩:=s.ex;exact k.ext e
theorem LS.of_new {K:Frag}{L:Addr}(s:LS K L d H){p:Addr}(hp:H p=none)(o:HO):LS K L d (upd H p o):=s.same (zak hp o)
theorem SqL.ext {K:Frag}{a:Addr}(e:Ext H H')(h:SqL K H a xs):SqL K H' a xs:=by
 rcases h with (h|⟨o,h⟩)|h
 .exact .inl (.inl (e _ _ h nofun))
 .exact .inl (.inr ⟨o,e _ _ h nofun⟩)
 .exact .inr h
theorem SqT.ext {K:Frag}{a:Addr}(e:Ext H H')(h:SqT K H a xs):SqT K H' a xs:=by
 rcases h with (h|⟨o,h⟩)|h
 .exact .inl (.inl (e _ _ h nofun))
 .exact .inl (.inr ⟨o,e _ _ h nofun⟩)
 .exact .inr h
class Rep (α:Type) where
 dec:DecidableEq α
 depth:Nat
 has:Frag->Hp->α->V->Prop
 mono:∀{K:Frag} {H H':Hp} {a:α} {v:V},Ext H H'->has K H a v->has K H' a v
 inj:∀{X:Cx} {pins:List (Addr×Obj)} {U:St} {H:Hp} {s:Shared} {a b:α} {v:V},Inv X pins U H s->has X.K H a v->has X.K H b v->a=b
 rc:∀{X:Cx} {pins:List (Addr×Obj)} {U:St} {H:Hp} {s:Shared} {A:Around} {a b:α} {x y:V} {u v:Value},Inv X pins U H s->A.units+depth<cLine->has X.K H a x->has X.K H b y->RelV x u->RelV y v->RcAt A s u v (dec a b).decide
 rn:∀{X:Cx} {pins:List (Addr×Obj)} {U:St} {H:Hp} {s:Shared} {A:Around} {a b:α} {x y:V} {u v:Value},Inv X pins U H s->A.units+depth<cLine->has X.K H a x->has X.K H b y->RelV x u->RelV y v->RcNeAt A s u v (!(dec a b).decide)
 eq:∀{X:Cx} {pins:List (Addr×Obj)} {U:St} {H:Hp} {s:Shared} {A:Around} {a b:α} {x y:V} {u v:Value},Inv X pins U H s->A.units+depth<cLine->has X.K H a x->has X.K H b y->RelV x u->RelV y v->EqAt A s u v (dec a b).decide
instance (priority:=low) repDec {α:Type} [Rep α]:DecidableEq α:=Rep.dec
theorem zkA {i j:Int}:(i==j)=(Int.instDecidableEq i j).decide:=by
 by_cases h:i=j
 .subst h;simp
 .rw[beq_eq_false_iff_ne.mpr h];exact (yan h).symm
instance:Rep Int where
 dec:=Int.instDecidableEq
 depth:=0
 has:=λ_ _ i v=>v=.int i
 mono:=λ_ h=>h
 inj:=λ_ h1 h2=>V.int.inj (h1.symm.trans h2)
 rc:=λ_ _ h1 h2 r1 r2=>by
  subst h1 h2;obtain ⟨t,rfl⟩:=r1;obtain ⟨t',rfl⟩:=r2;rw[<-zkA];exact RcAt.int_int _ _ _ _
 rn:=λ_ _ h1 h2 r1 r2=>by
  subst h1 h2;obtain ⟨t,rfl⟩:=r1;obtain ⟨t',rfl⟩:=r2;rw[<-zkA];exact RcNeAt.int_int _ _ _ _
 eq:=λ_ _ h1 h2 r1 r2=>by
  subst h1 h2;obtain ⟨t,rfl⟩:=r1;obtain ⟨t',rfl⟩:=r2;rw[<-zkA];exact EqAt.int_int _ _ _ _
theorem pImp {α β:Type}{R S:α->β->Prop}(h:∀ a b,R a b->S a b){as:List α}{bs:List β}(p:Paired R as bs):Paired S as bs:=by
 induction p with
 | nil=>exact .nil
 | cons a _ ih=>exact .cons (h _ _ a) ih
theorem pApp {α β:Type}{R:α->β->Prop}{as cs:List α}{bs ds:List β}(p:Paired R as bs)(q:Paired R cs ds):Paired R (as++cs) (bs++ds):=by
 induction p with
 | nil=>exact q
 | cons a _ ih=>exact .cons a ih
def zam {α:Type}[Rep α](K:Frag)(H:Hp):List α->List V->Prop:=Paired (Rep.has K H)
section
variable {α:Type}[Rep α]{K:Frag}{H H':Hp}
theorem zam.mono (e:Ext H H'){as:List α}{xs:List V}(h:zam K H as xs):zam K H' as xs:=pImp (λ_ _=>Rep.mono e) h
theorem zam.length {as:List α}{xs:List V}(h:zam K H as xs):as.length=xs.length:=Paired.length h
theorem zam.get:∀{as:List α} {xs:List V} {i:Nat} {x:V},zam K H as xs->xs[i]?=some x->∃ a,as[i]?=some a/\Rep.has K H a x
 | _,_,_,_,.nil,e=>by simp at e
 | _,_,0,_,.cons h _,e=>by simp at e;subst e;exact ⟨_,rfl,h⟩
 | _,_,i+1,x,.cons _ t,e=>by
  obtain ⟨a,h1,h2⟩:=zam.get (i:=i) (x:=x) t (by simpa using e);exact ⟨a,by simpa using h1,h2⟩
theorem zam.append {as bs:List α}{xs ys:List V}(h:zam K H as xs)(g:zam K H bs ys):zam K H (as++bs) (xs++ys):=pApp h g
theorem zam.one {a:α}{x:V}(h:Rep.has K H a x):zam K H [a] [x]:=.cons h .nil
theorem zam.ints:∀{ns:List Int},zam K H ns (ns.map V.int)
 | []=>.nil
 | _::_=>.cons rfl zam.ints
theorem zam.toInts {ns:List Int}{xs:List V}(h:zam K H ns xs):xs=ns.map V.int:=by
 unfold zam at h
 induction h with
 | nil=>rfl
 | cons h _ ih=>
  have e:_=V.int _:=h;rw[e,ih];rfl
theorem zam.inj {s:Shared}(I:Inv X pins U H s){as bs:List α}{xs:List V}(h:zam X.K H as xs)(g:zam X.K H bs xs):as=bs:=by
 unfold zam at h g
 induction h generalizing bs with
 | nil=>cases g;rfl
 | cons h _ ih=>
  cases g with
  | cons h' t'=>rw[Rep.inj I h h',ih t']
end
theorem zfS {α:Type}[DecidableEq α]:∀(as bs:List α),as.length=bs.length->((List.range as.length).all λj=>decide (as[j]?=bs[j]?))=decide (as=bs):=by
 intro as bs hl;by_cases h:as=bs
 .subst h;simp
 .rw[yan h,List.all_eq_false]
  false_or_by_contra
  rename_i z;apply h;apply ybe;intro i;by_cases hi:i<as.length
  .false_or_by_contra
   rename_i q;exact z ⟨i,yaT.mpr hi,by simpa using q⟩
  .rw[yaV .(a),yaV .(a)]
section
variable {α:Type}[r:Rep α]
theorem zdp {A:Around}:A.in1.units<=A.units+1:=by
 first
  | exact yaa _
  | (unfold Around.in1;simp)
theorem zgt {A:Around}{as bs:List α}{xs ys:List V}{us vs:List Value}(I:Inv X pins U H s)(hu:A.units+Rep.depth α<cLine)
  (h1:zam X.K H as xs) (h2:zam X.K H bs ys) (r1:Vals xs us) (r2:Vals ys vs):∀ j (q1:j<us.toArray.size) (q2:j<vs.toArray.size),EqAt A s us.toArray[j] vs.toArray[j] (decide (as[j]?=bs[j]?)):=by
 intro j q1 q2;have l1:=r1.length;have l2:=r2.length;have m1:=h1.length;have m2:=h2.length;have j1:j<us.length:=by simpa using q1
 have j2:j<vs.length:=by simpa using q2
 obtain ⟨a,ea,ha⟩:=h1.get (i:=j) (yac .(a));obtain ⟨b,eb,hb⟩:=h2.get (i:=j) (yac .(a));obtain ⟨u,eu,ru⟩:=r1.get (i:=j) (yac .(a));obtain ⟨v,ev,rv⟩:=r2.get (i:=j) (yac .(a));have gu:us.toArray[j]=u:=by
  have:us[j]?=some us[j]:=yac j1;rw[eu]at this;simpa using (yae this).symm
 have gv:vs.toArray[j]=v:=by
  have:vs[j]?=some vs[j]:=yac j2;rw[ev]at this;simpa using (yae this).symm
 rw[gu,gv,ea,eb];have e:decide (some a=some b)=(Rep.dec a b).decide:=by
  by_cases z:a=b
  .subst z;simp
  .rw[yan (λq=>z (yae q))];exact (yan z).symm
 rw[e];exact Rep.eq I hu ha hb ru rv
end
def hasL {α:Type}[Rep α](K:Frag)(H:Hp)(as:List α)(v:V):Prop:=∃ a xs,v=.ref a/\SqL K H a xs/\zam K H as xs
section
variable {α:Type}[r:Rep α]{X:Cx}{pins:List (Addr×Obj)}{U:St}{H:Hp}{s:Shared}{A:Around}{as bs:List α}{x y:V}{u v:Value}
theorem zqa (I:Inv X pins U H s)(h1:hasL X.K H as x)(h2:hasL X.K H bs x):as=bs:=by
 obtain ⟨a,xs,rfl,q1,h1⟩:=h1;obtain ⟨b,ys,e,q2,h2⟩:=h2;cases e
 rw[I.list_inj q2 q1]at h2;exact h1.inj I h2
theorem zom (I:Inv X pins U H s)(hu:A.units+(Rep.depth α+1)<cLine)(h1:hasL X.K H as x)(h2:hasL X.K H bs y)(r1:RelV x u)(r2:RelV y v):RcAt A s u v (decide (as=bs)):=by
 obtain ⟨a,xs,rfl,q1,h1⟩:=h1;obtain ⟨b,ys,rfl,q2,h2⟩:=h2;cases r1
 cases r2
 obtain ⟨us,ru,pu,_⟩:=I.list q1;obtain ⟨vs,rv,pv,_⟩:=I.list q2;have l1:=ru.length;have l2:=rv.length;have m1:=h1.length;have m2:=h2.length;have hin:A.in1.units+Rep.depth α<cLine:=ya6 (ybC zdp _) .(a);by_cases hl:as.length=bs.length
 .have e:=zfS as bs hl;rw[<-e];have z:as.length=us.toArray.size:=by simp;lia
  rw[z];exact RcAt.lists pu.isList pv.isList (by simp;lia) .(a) (zgt I hin h1 h2 ru rv)
 .rw[yan (λz=>hl (by rw[z]))];exact RcAt.lists_lengths pu.isList pv.isList (by simp;lia) .(a)
theorem zsl (I:Inv X pins U H s)(hu:A.units+(Rep.depth α+1)<cLine)(h1:hasL X.K H as x)(h2:hasL X.K H bs y)(r1:RelV x u)(r2:RelV y v):RcNeAt A s u v (!decide (as=bs)):=by
 obtain ⟨a,xs,rfl,q1,h1⟩:=h1;obtain ⟨b,ys,rfl,q2,h2⟩:=h2;cases r1
 cases r2
 obtain ⟨us,ru,pu,_⟩:=I.list q1;obtain ⟨vs,rv,pv,_⟩:=I.list q2;have l1:=ru.length;have l2:=rv.length;have m1:=h1.length;have m2:=h2.length;have hin:A.in1.units+Rep.depth α<cLine:=ya6 (ybC zdp _) .(a);by_cases hl:as.length=bs.length
 .have e:=zfS as bs hl;rw[<-e];have z:as.length=us.toArray.size:=by simp;lia
  rw[z];exact RcNeAt.lists pu.isList pv.isList (by simp;lia) .(a) (zgt I hin h1 h2 ru rv)
 .rw[yan (λz=>hl (by rw[z])),Bool.not_false];exact RcNeAt.lists_lengths pu.isList pv.isList (by simp;lia) .(a)
theorem zsm (I:Inv X pins U H s)(hu:A.units+(Rep.depth α+1)<cLine)(h1:hasL X.K H as x)(h2:hasL X.K H bs y)(r1:RelV x u)(r2:RelV y v):EqAt A s u v (decide (as=bs)):=by
 have rc:=zom (A:=A) I hu h1 h2 r1 r2;obtain ⟨a,xs,rfl,q1,h1⟩:=h1;obtain ⟨b,ys,rfl,q2,h2⟩:=h2;cases r1
 cases r2
 by_cases hab:a=b
 .subst hab;rw[I.list_inj q2 q1]at h2;rw[yai (h1.inj I h2)];exact EqAt.same _
 .exact EqAt.of_refs hab rc
end
instance {α:Type} [Rep α]:Rep (List α) where
 dec:=inferInstance
 depth:=Rep.depth α+1
 has:=hasL
 mono:=λe ⟨a,xs,h1,h2,h3⟩=>⟨a,xs,h1,h2.ext e,h3.mono e⟩
 inj:=λI h1 h2=>zqa I h1 h2
 rc:=λI hu h1 h2 r1 r2=>zom I hu h1 h2 r1 r2
 rn:=λI hu h1 h2 r1 r2=>zsl I hu h1 h2 r1 r2
 eq:=λI hu h1 h2 r1 r2=>zsm I hu h1 h2 r1 r2
def hasP {α β:Type}[Rep α][Rep β](K:Frag)(H:Hp)(p:α×β)(v:V):Prop:=∃ a x y,v=.ref a/\H a=some (.tup [x,y])/\Rep.has K H p.1 x/\Rep.has K H p.2 y
section
variable {α β:Type}[ra:Rep α][rb:Rep β]{X:Cx}{pins:List (Addr×Obj)}{U:St}{H:Hp}{s:Shared}{A:Around}{p q:α×β}{x y:V}{u v:Value}
theorem zlw (I:Inv X pins U H s)(h1:hasP X.K H p x)(h2:hasP X.K H q x):p=q:=by
 obtain ⟨a,x1,x2,rfl,q1,e1,e2⟩:=h1;obtain ⟨b,y1,y2,e,q2,f1,f2⟩:=h2;cases e
 have z:=I.tuple_inj (SqT.of q2) (SqT.of q1);cases z
 have g1:=Rep.inj I e1 f1;have g2:=Rep.inj I e2 f2;obtain ⟨p1,p2⟩:=p;obtain ⟨s1,s2⟩:=q;cases g1
 cases g2
 rfl
theorem zol (I:Inv X pins U H s)(hu:A.units+(Rep.depth α+Rep.depth β+1)<cLine)(h1:hasP X.K H p x)(h2:hasP X.K H q y)(r1:RelV x u)(r2:RelV y v):RcAt A s u v (decide (p=q)):=by
 obtain ⟨a,x1,x2,rfl,q1,e1,e2⟩:=h1;obtain ⟨b,y1,y2,rfl,q2,f1,f2⟩:=h2;cases r1
 cases r2
 obtain ⟨us,ru,pu,_⟩:=I.tuple (SqT.of q1);obtain ⟨vs,rv,pv,_⟩:=I.tuple (SqT.of q2);obtain ⟨u1,u2,rfl,ru1,ru2⟩:=zhl ru;obtain ⟨v1,v2,rfl,rv1,rv2⟩:=zhl rv;have hin:∀ n,n<=Rep.depth α+Rep.depth β->A.in1.units+n < cLine:=λn hn=>ya6 (ybC zdp _) (by lia);have c1:=Rep.eq (A:=A.in1) I (hin _ (by lia)) e1 f1 ru1 rv1;have c2:=Rep.eq (A:=A.in1) I (hin _ (by lia)) e2 f2 ru2 rv2;have:=RcAt.tuples (A:=A) (s:=s) (l:=a) (b:=b) (items:=#[u1,u2]) (items2:=#[v1,v2]) (e:=λj=>if j=0 then (Rep.dec p.1 q.1).decide else (Rep.dec p.2 q.2).decide) pu pv (by lia) (by
  intro j h1 h2;have h1':j<2:=h1;have z:j=0\/j=1:=by lia
  rcases z with rfl|rfl
  .exact c1
  .exact c2)
 have e:((List.range (min (#[u1,u2]:Array Value).size (#[v1,v2]:Array Value).size)).all (λj=>if j=0 then (Rep.dec p.1 q.1).decide else (Rep.dec p.2 q.2).decide)&&(#[u1,u2]:Array Value).size==(#[v1,v2]:Array Value).size)=decide (p=q):=by
  obtain ⟨p1,p2⟩:=p;obtain ⟨s1,s2⟩:=q;show (((List.range 2).all λj=>if j=0 then (Rep.dec p1 s1).decide else (Rep.dec p2 s2).decide)&&true)=_
  rw[show List.range 2=[0,1] from rfl];simp only[yb5,List.all_nil,Bool.and_true,if_true];rw[if_neg .(i)];by_cases z1:p1=s1
  .by_cases z2:p2=s2
   .subst z1 z2;simp
   .subst z1;simp[z2]
  .simp[z1]
 rw[e]at this;exact this
theorem zsj (I:Inv X pins U H s)(hu:A.units+(Rep.depth α+Rep.depth β+1)<cLine)(h1:hasP X.K H p x)(h2:hasP X.K H q y)(r1:RelV x u)(r2:RelV y v):RcNeAt A s u v (!decide (p=q)):=by
 obtain ⟨a,x1,x2,rfl,q1,e1,e2⟩:=h1;obtain ⟨b,y1,y2,rfl,q2,f1,f2⟩:=h2;cases r1
 cases r2
 obtain ⟨us,ru,pu,_⟩:=I.tuple (SqT.of q1);obtain ⟨vs,rv,pv,_⟩:=I.tuple (SqT.of q2);obtain ⟨u1,u2,rfl,ru1,ru2⟩:=zhl ru;obtain ⟨v1,v2,rfl,rv1,rv2⟩:=zhl rv;have hin:∀ n,n<=Rep.depth α+Rep.depth β->A.in1.units+n < cLine:=λn hn=>ya6 (ybC zdp _) (by lia);have c1:=Rep.eq (A:=A.in1) I (hin _ (by lia)) e1 f1 ru1 rv1;have c2:=Rep.eq (A:=A.in1) I (hin _ (by lia)) e2 f2 ru2 rv2;have:=RcNeAt.tuples (A:=A) (s:=s) (l:=a) (b:=b) (items:=#[u1,u2]) (items2:=#[v1,v2]) (e:=λj=>if j=0 then (Rep.dec p.1 q.1).decide else (Rep.dec p.2 q.2).decide) pu pv (by lia) (by
  intro j h1 h2;have h1':j<2:=h1;have z:j=0\/j=1:=by lia
  rcases z with rfl|rfl
  .exact c1
  .exact c2)
 have e:((List.range (min (#[u1,u2]:Array Value).size (#[v1,v2]:Array Value).size)).all (λj=>if j=0 then (Rep.dec p.1 q.1).decide else (Rep.dec p.2 q.2).decide)&&(#[u1,u2]:Array Value).size==(#[v1,v2]:Array Value).size)=decide (p=q):=by
  obtain ⟨p1,p2⟩:=p;obtain ⟨s1,s2⟩:=q;show (((List.range 2).all λj=>if j=0 then (Rep.dec p1 s1).decide else (Rep.dec p2 s2).decide)&&true)=_
  rw[show List.range 2=[0,1] from rfl];simp only[yb5,List.all_nil,Bool.and_true,if_true];rw[if_neg .(i)];by_cases z1:p1=s1
  .by_cases z2:p2=s2
   .subst z1 z2;simp
   .subst z1;simp[z2]
  .simp[z1]
 rw[e]at this;exact this
theorem zsk (I:Inv X pins U H s)(hu:A.units+(Rep.depth α+Rep.depth β+1)<cLine)(h1:hasP X.K H p x)(h2:hasP X.K H q y)(r1:RelV x u)(r2:RelV y v):EqAt A s u v (decide (p=q)):=by
 have rc:=zol (A:=A) I hu h1 h2 r1 r2;have h1':=id h1;have h2':=id h2;obtain ⟨a,x1,x2,rfl,q1,e1,e2⟩:=h1;obtain ⟨b,y1,y2,rfl,q2,f1,f2⟩:=h2;cases r1
 cases r2
 by_cases hab:a=b
 .subst hab;rw[yai (zlw I h1' h2')];exact EqAt.same _
 .exact EqAt.of_refs hab rc
end
instance {α β:Type} [Rep α] [Rep β]:Rep (α×β) where
 dec:=inferInstance
 depth:=Rep.depth α+Rep.depth β+1
 has:=hasP
 mono:=λe ⟨a,x,y,h1,h2,h3,h4⟩=>⟨a,x,y,h1,e _ _ h2 nofun,Rep.mono e h3,Rep.mono e h4⟩
 inj:=λI h1 h2=>zlw I h1 h2
 rc:=λI hu h1 h2 r1 r2=>zol I hu h1 h2 r1 r2
 rn:=λI hu h1 h2 r1 r2=>zsj I hu h1 h2 r1 r2
 eq:=λI hu h1 h2 r1 r2=>zsk I hu h1 h2 r1 r2
theorem huD {k:Nat}{α:Type}[Rep α](hr:Room k A)(h:Rep.depth α<=64:=by decide):A.units+Rep.depth α<cLine:=ya6 (yco h _) hr.units
def rEqD (α:Type)[Rep α](K:Frag):R2:=λx y H Q=>∃ a b:α,Rep.has K H a x/\Rep.has K H b y/\Q (.bl (decide (a=b))) H
def rNeD (α:Type)[Rep α](K:Frag):R2:=λx y H Q=>∃ a b:α,Rep.has K H a x/\Rep.has K H b y/\Q (.bl (!decide (a=b))) H
section
variable {X:Cx}
theorem ztq (α:Type)[Rep α](hu:X.A.units+Rep.depth α<cLine):OpR X (compareOp .Eq) (rEqD α X.K):=by
 intro pins s U H x y v u Q I rx ry h;obtain ⟨a,b,ha,hb,q⟩:=h;refine Rep.rc I hu ha hb rx ry X.prog X.w X.xe _ ⟨.bl _,H,I,rfl,?_⟩;have e:(Rep.dec a b).decide=decide (a=b):=rfl;rw[e];exact q
theorem zfU (α:Type)[Rep α](hu:X.A.units+Rep.depth α<cLine):OpR X (compareOp .NotEq) (rNeD α X.K):=by
 intro pins s U H x y v u Q I rx ry h;obtain ⟨a,b,ha,hb,q⟩:=h;refine Rep.rn I hu ha hb rx ry X.prog X.w X.xe _ ⟨.bl _,H,I,rfl,?_⟩;have e:(Rep.dec a b).decide=decide (a=b):=rfl;rw[e];exact q
end
end L2
namespace L2
open PySem PySem.Spec PyProof.Rows
section
variable {X:Cx}{pins:List (Addr×Obj)}{U:St}{H:Hp}{s:Shared}{h':Heap}
theorem Inv.turnedNew {t':Nat}{fp:List Addr}{p:Addr}(I:Inv X pins U H s)(k:∀ b ob,b∉fp->s.heap.get? b=some ob->h'.get? b=some ob)(hf:∀ b∈fp,FpOk X pins H b)
  (hp:s.heap.objs.size<=p) (new:zbw X.prog X.w (upd H p o) h' p o):Inv X pins U (upd H p o) { s with heap:=h',toks:=t' }:=by
 have hn:H p=none:=I.hok.fresh hp;have nfp:∀ b u,H b=some u->b∉fp:=λb u e z=>by rw[(hf b z).1]at e;cases e
 have nep:∀ b ob,s.heap.get? b=some ob->b≠p:=λb ob e=>yat (yaB (yaf e) hp);refine I.step (g':=s.gens) (d':=s.drawn) (ch:=fp) (λb hb=>?_) (λb ob _ _ hc e _=>k b ob hc e) (λb ob _ _ hc e _=>⟨ob.slots,k b ob hc e⟩) (λb ob _ e n=>by rw[zag (nep b ob e)];exact n)
  (λb ob hc e=>⟨ob,k b ob hc e⟩) (λb xs e=>by rw[zag (zac e hn)];exact e) (λb ob u e=>by rw[zag (zac e hn)];exact e) (λb ps e=>⟨#[],by rw[zag (zac e hn),e];simp⟩) (λm hm=>?_) (λb u e=>?_) I.bare
 .obtain ⟨_,h2,_,h4,h5,h6⟩:=hf b hb;exact ⟨h4,h2,h5,h6⟩
 .obtain ⟨ob,es,ep,ho,r⟩:=hm;exact ⟨ob,es,ep,k _ ob (λz=>(hf _ z).2.1 rfl) ho,r⟩
 .by_cases hb:b=p
  .subst hb;rw[zab]at e;cases e;exact new
  .rw[zag hb]at e;refine (I.hok b u e).stay (λc v hc q=>k c v ?_ q) (λc q=>by rw[zag (zac q hn)];exact q) λc xs q=>by rw[zag (zac q hn)];exact q
   rcases hc with z|z
   .rw[z];exact nfp b u e
   .exact nfp c _ z
theorem zmG {h:Heap}{p:Addr}{x y:V}{u v:Value}(rx:RelV x u)(ry:RelV y v)(e:h.get? p=some { cls:=.type "tuple",data:=.seq #[u,v] }):zbw P w H h p (.tup [x,y]):=
 ⟨by show 2<=sizeLine;decide,[u,v],.cons rx (.cons ry .nil),_,e,rfl,0,rfl⟩
end
def Ite (K:Frag)(a:Addr):It:=
 ⟨λi H=>∃ xs x,SqL K H a xs/\xs[i]?=some x,λi H x H'=>∃ p y,x=.ref p/\H p=none/\(∀ xs,SqL K H a xs->xs[i]?=some y)/\H'=upd H p (.tup [.int i,y]),λi H=>∃ xs,SqL K H a xs/\xs.length<=i⟩
theorem zmD {K:Frag}{es:List Expr}{k0}{pos:Pos}(a it e:Addr)(hne:e≠it):Turn P w K (.Tuple es k0 pos) (Ite K a) [e,it] e (λi h=>(∃ old,IsEnum h e it i old)/\h.IsListIter it a i) where
 mem:=by simp
 obj:=λi h st b hb=>by
  obtain ⟨⟨old,he⟩,o,ho,c,d⟩:=st;rcases yag.mp hb with z|z
  .subst z;exact ⟨_,he,λv z=>by cases z⟩
  .have z:=yaq.mp z;subst z;exact ⟨o,ho,λv z=>by rw[d]at z;cases z⟩
 keep:=λi h h' st k=>by
  obtain ⟨⟨old,he⟩,hi⟩:=st;exact ⟨⟨old,k e .(h) _ he⟩,hi.at λo q=>k it .(h) o q⟩
 item:=by
  intro X hP hw hK hc i pins s U H E I hf st hg;subst hP hw hK;obtain ⟨⟨old,he⟩,hi⟩:=st;obtain ⟨xs,x,hq,hx⟩:=hg;obtain ⟨its,rv,p,hz⟩:=I.list hq;obtain ⟨u,hu,ru⟩:=rv.get hx;refine wpAny_pyNext_enum_item he hi p.isList (x:=u) (by simpa using hu) hne λh1 he1 hi1 ht1 _ k1=>?_;refine ⟨_,rfl,wpAny_letOwnedTupleGo_enum (s:={ s with heap:=h1,toks:=s.toks+1 }) he1 λh2 he2 sb=>?_⟩;have np:s.heap.objs.size≠e:=ybm (yaf he);have ht2:h2.get? s.heap.objs.size=some { cls:=.type "tuple",data:=.seq #[.int i s.toks,u] }:=(sb.2 _ np).trans ht1;have I2:Inv X pins U (upd H s.heap.objs.size (.tup [.int i,x])) { s with heap:=h2,toks:=s.toks+1 }:=
   I.turnedNew (fp:=[e,it]) (λb ob hb q=>(sb.2 b (λz=>hb (by simp[z]))).trans (k1 b ob (λz=>hb (by simp[z])) (λz=>hb (by simp[z])) q)) hf (yaa _) (zmG ⟨_,rfl⟩ ru ht2)
  refine ⟨.ref s.heap.objs.size,_,I2,rfl,⟨_,x,rfl,I.hok.fresh (yaa _),λys hy=>by rw[I.list_inj hy hq];exact hx,rfl⟩,⟨⟨u,?_⟩,?_⟩,λb hb=>?_⟩
  .have z:IsEnum h2 e it ((i:Int)+1) u:=he2;exact z
  .exact hi1.at λo q=>(sb.2 it (Ne.symm hne)).trans q
  .have z:=(hf b hb).1;rw[zag ?_]
   .exact z
   .rcases yag.mp hb with q|q
    .rw[q];exact Ne.symm np
    .rw[yaq.mp q];obtain ⟨o,ho,_⟩:=hi;exact yat (yaf ho)
 done:=by
  intro X hP hw hK hc i pins s U H E I hf st hg;subst hP hw hK;obtain ⟨⟨old,he⟩,hi⟩:=st;obtain ⟨xs,hq,hx⟩:=hg;obtain ⟨its,rv,p,hz⟩:=I.list hq;obtain ⟨f0,f1,f2,f3,f4,f5⟩:=hf it .(h);have hl:=rv.length;exact wpAny_pyNext_enum_end (I.ok.hd hc) he hi p.isList (by simp;lia) λh' eb=>⟨rfl,I.turned (t':=s.toks) (λb o hb q=>eb b o hb q) f0 f1 f3 f4 f5⟩
 self:=λ_ _ _ _ _ st h=>by
  obtain ⟨⟨old,he⟩,_⟩:=st;exact wpAny_pyIter_enum he h
def zuv (K:Frag)(ta:TA):TI:=λU H R=>ta U H λvs H1=>∃ a,vs=[.ref a]/\(∃ xs,SqL K H1 a xs)/\R (Ite K a) H1
section
variable {X:Cx}
theorem zd6 {es:List Expr}{k0}{tp:Pos}{a:Expr}{p pos:Pos}(hg:Gl X "enumerate")(hm:X.mg "enumerate" = none)(ha:PA X [a] ta)(hs:starEach [a] X.env=[(false,eval a X.env)]:=by rfl):PI X (.Tuple es k0 tp) (.Call (.Name "enumerate" p) [a] [] pos) (zuv X.K ta):=by
 intro pins s U H R I h;refine Call_ (zfZ I hg hm boot_enumerate (PyProof.Rows.callWith_type1 (thn (ha pos pins s U H _ I h) λus s1 zq0=>?_) hs rfl));obtain ⟨vs,H1,I1,r1,q1⟩:=zq0;obtain ⟨l,e,⟨xs,hq⟩,q⟩:=q1;subst e;cases r1 with
 | cons r rr=>
  cases rr
  cases r
  obtain ⟨its,rv,pl,hz⟩:=I1.list hq;refine call_enumerate_list pl.isList λh' he hi _ hk=>?_;have I2:Inv X pins U H1 { s1 with heap:=h' }:=I1.kept (t':=s1.toks) hk;refine wpAny_pyIter_enum (s:={ s1 with heap:=h' }) he ⟨_,[s1.heap.objs.size+1,s1.heap.objs.size],_,_,H1,rfl,I2,zmD l s1.heap.objs.size (s1.heap.objs.size+1) (Nat.succ_ne_self _),⟨⟨_,he⟩,hi⟩,λb hb=>?_,q⟩;have hb':s1.heap.objs.size<=b:=by
   rcases yag.mp hb with z|z
   .rw[z];exact ybh _
   .rw[yaq.mp z];exact yaa _
  exact I1.fpOk hb' (I1.hok.fresh hb')
end
theorem ziw {K:Frag}{a:Addr}{g:TG}{tb:TS}{D:Ends}{U:St}{H:Hp}(Pv:Nat->St->Hp->Prop)(h0:Pv 0 U H)(hl:∀ i U H,i<=xs.length->Pv i U H->SqL K H a xs)
  (hs:∀ i x U H p,xs[i]?=some x->Pv i U H->H p=none->g (.ref p) U (upd H p (.tup [.int i,x])) λU2 H2=>tb { D with nx:=Pv (i+1),ct:=Pv (i+1),bk:=D.nx } U2 H2) (hd:∀ U H,Pv xs.length U H->D.nx U H) :
  ∃ W:Nat->Nat->St->Hp->Prop,(∃ m,W 0 m U H)/\∀ i m U H,W i m U H->((Ite K a).stop i H/\D.nx U H)\/((Ite K a).go i H/\∃ N:St->Hp->Prop,(∀ U' H',N U' H'->∃ m',m'<m/\W (i+1) m' U' H')/\∀ x H',(Ite K a).yld i H x H'->g x U H' λU2 H2=>tb { D with nx:=N,ct:=N,bk:=D.nx } U2 H2):=by
 refine ⟨λi m U H=>i+m=xs.length/\Pv i U H,⟨xs.length,by lia,h0⟩,λi m U H zq0=>?_⟩;obtain ⟨e,pv⟩:=zq0;have hS:=hl i U H .(a) pv;by_cases hi:i<xs.length
 .refine .inr ⟨⟨xs,xs[i],hS,yac hi⟩,Pv (i+1),λU' H' q=>⟨m-1,by lia,by lia,q⟩,λx H' y=>?_⟩;obtain ⟨p,z,rfl,hp,hz,rfl⟩:=y;exact hs i z U H p (hz xs hS) pv hp
 .have:i=xs.length:=by lia
  subst this;exact .inl ⟨⟨xs,hS,yaa _⟩,hd U H pv⟩
def Itz (K:Frag)(a b:Addr):It:=
 ⟨λi H=>∃ xs ys x y,SqL K H a xs/\SqL K H b ys/\xs[i]?=some x/\ys[i]?=some y,λi H x H'=>∃ p y z,x=.ref p/\H p=none/\(∀ xs,SqL K H a xs->xs[i]?=some y)/\(∀ xs,SqL K H b xs->xs[i]?=some z)/\H'=upd H p (.tup [y,z]),λi H=>∃ xs ys,SqL K H a xs/\SqL K H b ys/\(xs.length<=i\/ys.length<=i)⟩
theorem zpa {K:Frag}{es:List Expr}{k0}{pos:Pos}{a b z TI TO i1 i2:Addr}(D:ZipApart z TI TO i1 i2 a b):Turn P w K (.Tuple es k0 pos) (Itz K a b) [z,TI,TO,i1,i2] z
  (λi h=>IsZip h z TI TO .none/\IsPair h TI (.ref i1) (.ref i2)/\(∃ u v,IsPair h TO u v)/\h.IsListIter i1 a i/\h.IsListIter i2 b i) where
 mem:=by simp
 obj:=λi h st c hc=>by
  obtain ⟨hz,hTI,⟨u,v,hTO⟩,⟨o1,e1,_,d1⟩,⟨o2,e2,_,d2⟩⟩:=st;simp only[yag,yaz,or_false]at hc;rcases hc with rfl|rfl|rfl|rfl|rfl
  .exact ⟨_,hz,λv q=>by cases q⟩
  .exact ⟨_,hTI,λv q=>by cases q⟩
  .exact ⟨_,hTO,λv q=>by cases q⟩
  .exact ⟨o1,e1,λv q=>by rw[d1]at q;cases q⟩
  .exact ⟨o2,e2,λv q=>by rw[d2]at q;cases q⟩
 keep:=λi h h' st k=>by
  obtain ⟨hz,hTI,⟨u,v,hTO⟩,h1,h2⟩:=st;exact ⟨k z .(h) _ hz,k TI .(h) _ hTI,⟨u,v,k TO .(h) _ hTO⟩,h1.at λo q=>k i1 .(h) o q,h2.at λo q=>k i2 .(h) o q⟩
 item:=by
  intro X hP hw hK hc i pins s U H E I hf st hg;subst hP hw hK;obtain ⟨hz,hTI,⟨u0,v0,hTO⟩,h1,h2⟩:=st;obtain ⟨xs,ys,x,y,hqa,hqb,hx,hy⟩:=hg;obtain ⟨its,rv,p,_⟩:=I.list hqa;obtain ⟨jts,rw',p',_⟩:=I.list hqb;obtain ⟨u,hu,ru⟩:=rv.get hx;obtain ⟨v,hv,rv'⟩:=rw'.get hy;refine wpAny_pyNext_zip_item D hz hTI hTO h1 h2 p.isList p'.isList (x:=u) (y:=v) (by simpa using hu) (by simpa using hv) λh1' hz1 hTO1 hi1 hi2 ht1 _ k1=>?_;refine ⟨_,rfl,wpAny_letOwnedTupleGo_zip (s:={ s with heap:=h1' }) hz1 λh2' hz2 sb=>?_⟩;have np:s.heap.objs.size≠z:=ybm (yaf hz);have ht2:h2'.get? s.heap.objs.size=some { cls:=.type "tuple",data:=.seq #[u,v] }:=(sb.2 _ np).trans ht1;have I2:Inv X pins U (upd H s.heap.objs.size (.tup [x,y])) { s with heap:=h2',toks:=s.toks }:=
   I.turnedNew (fp:=[z,TI,TO,i1,i2]) (λc ob hb q=>(sb.2 c (λr=>hb (by simp[r]))).trans (k1 c ob (λr=>hb (by simp[r])) (λr=>hb (by simp[r])) (λr=>hb (by simp[r])) (λr=>hb (by simp[r])) q)) hf (yaa _) (zmG ru rv' ht2)
  refine ⟨.ref s.heap.objs.size,_,I2,rfl,⟨_,x,y,rfl,I.hok.fresh (yaa _),λys hy'=>by rw[I.list_inj hy' hqa];exact hx,λys hy'=>by rw[I.list_inj hy' hqb];exact hy,rfl⟩,⟨hz2,(sb.2 _ D.TIz).trans (k1 TI _ D.TIz D.TITO D.TIi1 D.TIi2 hTI),⟨_,_,(sb.2 _ D.TOz).trans hTO1⟩,hi1.at λo q=>(sb.2 i1 D.i1z).trans q,hi2.at λo q=>(sb.2 i2 D.i2z).trans q⟩,λc hb=>?_⟩;have zf:=(hf c hb).1;have lt:c<s.heap.objs.size:=by
   simp only[yag,yaz,or_false]at hb;obtain ⟨o1,e1,_⟩:=h1;obtain ⟨o2,e2,_⟩:=h2;rcases hb with rfl|rfl|rfl|rfl|rfl
   .exact yaf hz
   .exact yaf hTI
   .exact yaf hTO
   .exact yaf e1
   .exact yaf e2
  rw[zag (yat lt)];exact zf
 done:=by
  intro X hP hw hK hc i pins s U H E I hf st hg;subst hP hw hK;obtain ⟨hz,hTI,⟨u0,v0,hTO⟩,h1,h2⟩:=st;obtain ⟨xs,ys,hqa,hqb,hend⟩:=hg;obtain ⟨its,rv,p,_⟩:=I.list hqa;obtain ⟨jts,rw',p',_⟩:=I.list hqb;have l1:=rv.length;have l2:=rw'.length;refine wpAny_pyNext_zip_end (I.ok.hd hc) D hz hTI hTO h1 h2 p.isList p'.isList (by
   rcases hend with q|q
   .left;simp;lia
   .right;simp;lia) λh' kk=>⟨rfl,?_⟩
  refine I.step (g':=s.gens) (d':=s.drawn) (t':=s.toks) (ch:=[z,TI,TO,i1,i2]) (λc hb=>?_) (λc ob _ _ hn q _=>kk c ob (λr=>hn (by simp[r])) (λr=>hn (by simp[r])) (λr=>hn (by simp[r])) (λr=>hn (by simp[r])) q)
   (λc ob _ _ hn q _=>⟨ob.slots,kk c ob (λr=>hn (by simp[r])) (λr=>hn (by simp[r])) (λr=>hn (by simp[r])) (λr=>hn (by simp[r])) q⟩) (λ_ _ _ _ n=>n)
   (λc ob hn q=>⟨ob,kk c ob (λr=>hn (by simp[r])) (λr=>hn (by simp[r])) (λr=>hn (by simp[r])) (λr=>hn (by simp[r])) q⟩) (λ_ _ q=>q) (λ_ _ _ q=>q) (λc ps q=>⟨#[],by rw[q];simp⟩) (λm hm=>?_) (λc u e=>?_) I.bare
  .obtain ⟨_,q2,_,q4,q5,q6⟩:=hf c hb;exact ⟨q4,q2,q5,q6⟩
  .obtain ⟨ob,es,ep,ho,r⟩:=hm;have nL:∀ c∈[z,TI,TO,i1,i2],X.env.locals≠c:=λc hc=>Ne.symm (hf c hc).2.1;exact ⟨ob,es,ep,kk _ ob (nL z .(h)) (nL TO .(h)) (nL i1 .(h)) (nL i2 .(h)) ho,r⟩
  .have nf:∀ c' u,H c'=some u->∀ q∈[z,TI,TO,i1,i2],c'≠q:=λc' u e q hq r=>by rw[r,(hf q hq).1]at e;cases e
   refine (I.hok c u e).stay (λc' v hc' q=>?_) (λ_ q=>q) λ_ _ q=>q;have go:∀ u',H c'=some u'->h'.get? c'=some v:=λu' e'=>kk c' v (nf c' _ e' z .(h)) (nf c' _ e' TO .(h)) (nf c' _ e' i1 .(h)) (nf c' _ e' i2 .(h)) q;rcases hc' with r|r
   .exact go u (by rw[r];exact e)
   .exact go _ r
 self:=λ_ _ _ _ _ st h=>wpAny_pyIter_zip st.1 h
theorem zmr {l l' n:Nat}(hl:l<n)(hl':l'<n):ZipApart (n+4) (n+2) (n+3) n (n+1) l l':=by
 constructor<;>(intro z;have z':(_:Nat)=_:=z;lia)
theorem zsJ {n c:Nat}(h:c∈[n+4,n+2,n+3,n,n+1]):n<=c:=by
 simp only[yag,yaz,or_false]at h;lia
def iZip (K:Frag)(ta:TA):TI:=λU H R=>ta U H λvs H1=>∃ a b,vs=[.ref a,.ref b]/\(∃ xs,SqL K H1 a xs)/\(∃ xs,SqL K H1 b xs)/\R (Itz K a b) H1
section
variable {X:Cx}
theorem zqV {es:List Expr}{k0}{tp:Pos}{a b:Expr}{p pos:Pos}(hg:Gl X "zip")(hm:X.mg "zip" = none)(ha:PA X [a,b] ta)(hs:starEach [a,b] X.env=[(false,eval a X.env),(false,eval b X.env)]:=by rfl)(hs2:starEach [b] X.env=[(false,eval b X.env)]:=by rfl):PI X (.Tuple es k0 tp) (.Call (.Name "zip" p) [a,b] [] pos) (iZip X.K ta):=by
 intro pins s U H R I h;refine Call_ (zfZ I hg hm boot_zip (PyProof.Rows.callWith_type1 (thn (ha pos pins s U H _ I h) λus s1 zq0=>?_) (by rw[hs,hs2]) (by rw[hs2];rfl)));obtain ⟨vs,H1,I1,r1,q1⟩:=zq0;obtain ⟨l,l',e,⟨xs,hq⟩,⟨ys,hq'⟩,q⟩:=q1;subst e;cases r1 with
 | cons r rr=>
  cases rr with
  | cons r' rr=>
   cases rr
   cases r
   cases r'
   obtain ⟨its,rv,pl,hz⟩:=I1.list hq;obtain ⟨jts,rv',pl',hz'⟩:=I1.list hq';have hl:l<s1.heap.objs.size:=by obtain ⟨o,_,e,_⟩:=pl;exact yaf e
   have hl':l'<s1.heap.objs.size:=by obtain ⟨o,_,e,_⟩:=pl';exact yaf e
   refine call_zip_2 pl.isList pl'.isList λh' hz hTI hTO hi hi' _ hk=>?_;have I2:Inv X pins U H1 { s1 with heap:=h' }:=I1.kept (t':=s1.toks) hk;refine wpAny_pyIter_zip (s:={ s1 with heap:=h' }) hz ⟨_,[s1.heap.objs.size+4,s1.heap.objs.size+2,s1.heap.objs.size+3,s1.heap.objs.size,s1.heap.objs.size+1],_,_,H1,rfl,I2,zpa (zmr hl hl'),⟨hz,hTI,⟨_,_,hTO⟩,hi,hi'⟩,λc hb=>?_,q⟩;have hb':s1.heap.objs.size<=c:=zsJ hb;exact I1.fpOk hb' (I1.hok.fresh hb')
end
end L2
namespace L2
open PySem PySem.Spec PyProof.Rows
def zcg (X:Cx)(N:List Str)(scope:Scope)(cl:List (Str×Addr))(C:Addr)(s₂:Shared)(H₂:Hp)(fp:List Addr):Cx:=
 { X with N:=N,s₀:=s₂,H₀:=H₂,env:=compEnvC scope cl C X.env,outer:=X.stack,stack:=X.stack,ex:=fp,fn:=λ_=>false,xe:=λ_ _=>False }
structure zhj (scope:Scope)(env:Env)(cl:List (Str×Addr)):Prop where
 eq:closureFor scope env=pure cl
 sub:∀ x c,cl.lookup x=some c->env.cells.lookup x=some c
 has:∀ x,(x,NameKind.free)∈scope.names->∃ c,cl.lookup x=some c
theorem zg9 {env:Env}:∀(names:List (Str×NameKind)) (cs:List (Str×Addr)),(∀ x,(x,NameKind.free)∈names->∃ c,env.cells.lookup x=some c)->(∀ x c,cs.lookup x=some c->env.cells.lookup x=some c)->
  ∃ cl:List (Str×Addr),(forIn names cs (λ(x:Str×NameKind) (r:List (Str×Addr))=>if (x.2==NameKind.free)=true then (do let c <-cellOf env x.1;pure (ForInStep.yield ((x.1,c)::r))) else pure (ForInStep.yield r)):Sem (List (Str×Addr)))=pure cl/\
   (∀ x c,cl.lookup x=some c->env.cells.lookup x=some c)/\(∀ x c,cs.lookup x=some c->∃ c',cl.lookup x=some c')/\∀ x,(x,NameKind.free)∈names->∃ c,cl.lookup x=some c
 | [],cs,_,h2=>⟨cs,by rw[List.forIn_nil],h2,λx c e=>⟨c,e⟩,λ_ z=>nomatch z⟩
 | (n,k)::r,cs,h1,h2=>by
  by_cases hk:k=.free
  .subst hk;obtain ⟨c,hc⟩:=h1 n yau;have hn:∀ x c',((n,c)::cs).lookup x=some c'->env.cells.lookup x=some c':=λx c' e=>by
    rw[ya1]at e;cases hx:x==n with
    | true=>
     rw[hx]at e;cases e
     rw[eq_of_beq hx];exact hc
    | false=>
     rw[hx]at e;exact h2 x c' e
   obtain ⟨cl,e,s1,s2,s3⟩:=zg9 r ((n,c)::cs) (λx hx=>h1 x (yar _ hx)) hn;have here:∃ c',cl.lookup n=some c':=s2 n c (by rw[ya1,beq_self_eq_true]);refine ⟨cl,?_,s1,λx c' q=>?_,λx hx=>?_⟩
   .rw[List.forIn_cons,if_pos (by rfl)];have q:cellOf env n=pure c:=by unfold cellOf;rw[hc]
    rw[q];simp only[pure_bind];exact e
   .cases hxn:x==n with
    | true=>rw[eq_of_beq hxn];exact here
    | false=>exact s2 x c' (by rw[ya1,hxn];exact q)
   .rcases yag.mp hx with z|z
    .cases z;exact here
    .exact s3 x z
  .obtain ⟨cl,e,s1,s2,s3⟩:=zg9 r cs (λx hx=>h1 x (yar _ hx)) h2;refine ⟨cl,?_,s1,s2,λx hx=>?_⟩
   .have hb:(k==NameKind.free)=false:=by simpa using hk
    rw[List.forIn_cons,if_neg (by rw[hb];exact yaD)];simp only[pure_bind];exact e
   .rcases yag.mp hx with z|z
    .cases z;exact absurd rfl hk
    .exact s3 x z
theorem zfE {scope:Scope}{env:Env}(h:∀ x,(x,NameKind.free)∈scope.names->∃ c,env.cells.lookup x=some c):∃ cl,zhj scope env cl:=by
 obtain ⟨cl,e,s1,_,s3⟩:=zg9 scope.names [] h (λ_ _ z=>nomatch z);refine ⟨cl,?_,s1,s3⟩;unfold closureFor;exact (by simpa using e)
theorem zcP {env:Env}:∀{names:List (Str×NameKind)} {x:Str},names.lookup x=some .free->
  (names.map λ(n,k)=>if (k==NameKind.free&&env.scope.kind == .function&&env.kindOf n==some .cell) then (n,NameKind.cell) else (n,k)).lookup x=some .cell\/
  (names.map λ(n,k)=>if (k==NameKind.free&&env.scope.kind == .function&&env.kindOf n==some .cell) then (n,NameKind.cell) else (n,k)).lookup x=some .free
 | [],_,h=>by simp at h
 | (n,k)::r,x,h=>by
  have ih:=@zcP env r x;show List.lookup x ((if (k==NameKind.free&&env.scope.kind == .function&&env.kindOf n==some .cell)=true then (n,NameKind.cell) else (n,k))::_)=_\/List.lookup x ((if (k==NameKind.free&&env.scope.kind == .function&&env.kindOf n==some .cell)=true then (n,NameKind.cell) else (n,k))::_)=_
  cases hx:x==n with
  | true=>
   simp only[ya1,hx]at h;cases h
   by_cases hc:(NameKind.free==NameKind.free&&env.scope.kind == .function&&env.kindOf n==some .cell)=true
   .rw[if_pos hc];left;simp only[ya1,hx]
   .rw[if_neg hc];right;simp only[ya1,hx]
  | false=>
   simp only[ya1,hx]at h;by_cases hc:(k==NameKind.free&&env.scope.kind == .function&&env.kindOf n==some .cell)=true
   .rw[if_pos hc];simp only[ya1,hx];exact ih h
   .rw[if_neg hc];simp only[ya1,hx];exact ih h
theorem zeS {env:Env}:∀{names:List (Str×NameKind)} {x:Str} {k':NameKind},(names.map λ(n,k)=>if (k==NameKind.free&&env.scope.kind == .function&&env.kindOf n==some .cell) then (n,NameKind.cell) else (n,k)).lookup x=some k'->k'=.cell\/k'=.free->
  (∀ y∈names,y.2≠.cell)->(x,NameKind.free)∈names
 | [],_,_,h,_,_=>by simp at h
 | (n,k)::r,x,k',h,hk,hc=>by
  have ih:=@zeS env r x k';have h':List.lookup x ((if (k==NameKind.free&&env.scope.kind == .function&&env.kindOf n==some .cell)=true then (n,NameKind.cell) else (n,k))::r.map λ(n,k)=>if (k==NameKind.free&&env.scope.kind == .function&&env.kindOf n==some .cell) then (n,NameKind.cell) else (n,k))=some k':=h
  cases hx:x==n with
  | true=>
   have e:=eq_of_beq hx;subst e;by_cases hf:k=.free
   .subst hf;exact yau
   .have hb:(k==NameKind.free)=false:=by simpa using hf
    rw[if_neg (by rw[hb];simp),ya1,hx]at h';cases h'
    rcases hk with z|z
    .exact absurd z (hc (x,k) yau)
    .exact absurd z hf
  | false=>
   refine yar _ (ih ?_ hk λy hy=>hc y (yar _ hy));by_cases hcd:(k==NameKind.free&&env.scope.kind == .function&&env.kindOf n==some .cell)=true
   .rw[if_pos hcd,ya1,hx]at h';exact h'
   .rw[if_neg hcd,ya1,hx]at h';exact h'
def zfT (own:Nat)(cap:List Nat)(U:St):St:=List.replicate own none++cap.map λi=>(U[i]?).getD none
structure zlF (X:Cx)(scope:Scope)(N:List Str)(own:Nat)(cap:List Nat):Prop where
 kind:scope.kind=.function
 nocell:(scope.names.all λy=>y.2 != .cell)=true
 locs:(scope.names.all λy=>y.2 != .local||scope.names.lookup y.1==some .local)=true
 frees:(scope.names.all λy=>y.2 != .free||(X.env.kindOf y.1==some .cell||X.env.kindOf y.1==some .free))=true
 len:N.length=own+cap.length
 caps:((List.range cap.length).all λj=>(N[own+j]?==X.N[cap[j]!]?)&&(match N[own+j]? with|some x=>scope.names.lookup x==some .free&&(X.env.kindOf x==some .cell||X.env.kindOf x==some .free)|none=>false))=true
section
variable {prog:Program}{w:World}{A:Around}{R:Result->Shared->Prop}{s:Shared}
theorem zkw {elt target iter:Expr}{ifs:List Expr}{scope:Scope}{pos:Pos}{it acc:Value}{env:Env}(I:Nat->Shared->Prop)
  (turn:∀ n s,I n s->wpAny (model prog w) A (pyNext it) (λr s₁=>match r with
   | none=>R (.ok .next) s₁
   | some v=>wpAny (model prog w) A (letOwnedTupleGo target it v) (λ_ s₁'=>wpAny (model prog w) A (assign target env v) (λ_ s₂=>
     wpAny (model prog w) A (forIn ifs true λc r=>if r=true then do let ok <-isTrue c env (eval c env);pure (ForInStep.yield ok) else pure (ForInStep.yield r)) (λok s₃=>
      if ok=true then wpAny (model prog w) A (eval elt env) (λx s₄=>
       wpAny (model prog w) A (call (.builtin "list.append") [acc,x]) (λ_ s₅=>∃ m,m<n/\I m s₅) (λ_ _=>False) s₄) (λ_ _=>False) s₃
      else ∃ m,m<n/\I m s₃) (λ_ _=>False) s₂) (λ_ _=>False) s₁') (λ_ _=>False) s₁) (λ_ _=>False) s)
  (n:Nat) (h:I n s) :
  codeAny .(j) A (.compLoop (.ListComp elt [⟨target,iter,ifs,0⟩] scope pos) 0 it acc env) R s:=by
 refine codeAny_loop rfl I (λn s hI=>?_) n h;show wpAny _ A ((compTurn (.ListComp elt [⟨target,iter,ifs,0⟩] scope pos) 0 it acc env).onRaise (λx=>do noteFrame x env;theTreesLotGoes x)) _ _ s
 refine wpAny_noted ?_;rw[compTurn_list];refine wpAny_bind (wpAny_standAt (wpAny_bind (wpAny_mono (turn n s hI) (λr s₁ h₁=>?_) λ_ _ h'=>h'.elim)));cases r with
 | none=>exact wpAny_pure h₁
 | some v=>
  refine wpAny_bind (wpAny_mono h₁ (λ_ s₁' h₁'=>?_) λ_ _ h'=>h'.elim);refine wpAny_bind (wpAny_mono h₁' (λ_ s₂ h₂=>wpAny_bind (wpAny_mono h₂ (λok s₃ h₃=>?_) λ_ _ h'=>h'.elim)) λ_ _ h'=>h'.elim);cases ok with
  | true=>
   simp only[if_true]at h₃ ⊢;exact wpAny_bind (wpAny_bind (wpAny_mono h₃ (λx s₄ h₄=>wpAny_bind (wpAny_mono h₄ (λ_ s₅ h₅=>wpAny_pure (wpAny_pure ⟨rfl,h₅⟩)) λ_ _ h'=>h'.elim)) λ_ _ h'=>h'.elim))
  | false=>
   simp only[ybS,if_false]at h₃ ⊢;exact wpAny_pure ⟨rfl,h₃⟩
end
section
variable {X:Cx}
def PTs (X:Cx)(ifs:List Expr)(t:TT):Prop:=
 ∀(pins:List (Addr×Obj)) (s:Shared) (U:St) (H:Hp) (Q:Bool->Hp->Prop),Inv X pins U H s->t U H Q->
  wpAny .(d) X.A (forIn ifs true λc r=>if r=true then do let ok <-isTrue c X.env (eval c X.env);pure (ForInStep.yield ok) else pure (ForInStep.yield r)) (TP X pins U Q) X.xe s
def tYes:TT:=λ_ H Q=>Q true H
theorem zcb:PTs X [] tYes:=λ_ _ _ H _ I h=>wpAny_tests_nil ⟨H,I,h⟩
theorem zeU {t:TT}(h:PT X c t):PTs X [c] t:=λpins s U H Q I q=>wpAny_tests_one (h pins s U H Q I q)
theorem zp6 {C:Addr}{fp:List Addr}{h₁:Heap}{tk:Nat}{D:Addr}
  (I:Inv X pins U H s) (c:zlF X scope N own cap) (hcl:zhj scope X.env cl) (f:∀ b∈fp,FpOk X pins H b) (hD:s.heap.objs.size<=D) (hC:s.heap.objs.size<=C) (hCD:D≠C)
  (kp:∀ b o,s.heap.get? b=some o->h₁.get? b=some o) (hnew:h₁.get? D=some { cls:=.type "list",data:=.seq #[] }) (hns:∃ m,h₁.Ns C m) (hfp:∀ b∈fp,b<s.heap.objs.size) (hcalm:X.calm=true) :
  Inv (zcg X N scope cl C s H fp) pins (zfT own cap U) (upd H D (.lst [])) { s with heap:=h₁,toks:=tk }:=by
 have hfr:H D=none:=I.hok.fresh hD;have hfrC:H C=none:=I.hok.fresh hC;have sz:∀ b o,s.heap.get? b=some o->b≠D/\b≠C:=λb o e=>⟨yat (yaB (yaf e) hD),yat (yaB (yaf e) hC)⟩;have cells:∀ x cc,cl.lookup x=some cc->∃ v,s.heap.IsCell cc v:=λx cc e=>I.cell x cc (hcl.sub x cc e);have cellne:∀ x cc,cl.lookup x=some cc->cc≠D/\cc≠C:=λx cc e=>by
  obtain ⟨v,o,ho,_⟩:=cells x cc e;exact sz cc o ho
 have ok:(zcg X N scope cl C s H fp).Ok:=by
  refine ⟨I.ok.mod,c.kind,I.ok.glob,I.ok.blt,hC,λx y cc e1 e2=>I.ok.inj x y cc (hcl.sub x cc e1) (hcl.sub y cc e2),λx hx=>?_,(λx cc z _=>nomatch z),I.ok.hd,I.ok.frames,.inl rfl,λb hb=>?_,λb o e=>I.bs b o e,?_,λb o e hb=>?_,λb hb z=>?_,I.stack,λb hb=>I.stkFree b hb⟩
  .have hm:(x,NameKind.free)∈scope.names:=by
    rcases hx with z|z
    .exact zeS (env:=X.env) (names:=scope.names) (x:=x) (k':=.cell) z (.inl rfl) λy hy q=>by
      have:=yaW.mp c.nocell y hy;rw[q]at this;exact absurd this .(i)
    .exact zeS (env:=X.env) (names:=scope.names) (x:=x) (k':=.free) z (.inr rfl) λy hy q=>by
      have:=yaW.mp c.nocell y hy;rw[q]at this;exact absurd this .(i)
   exact hcl.has x hm
  .exact ⟨yat (yaB (hfp b hb) hC),λx cc e z=>(f b hb).2.2.2.2.1 x cc (hcl.sub x cc e) z⟩
  .exact yax I.ok.bsz I.sz
  .obtain ⟨_,_,_,h4,_⟩:=f b hb;rcases h4 with z|z
   .exact I.ok.noex b o e z
   .exact absurd (yaB (yaf e) (yax I.ok.bsz z)) (yaO _)
  .obtain ⟨_,h2,h3,_⟩:=f b hb;rcases yag.mp (I.stkSub b z) with q|q
   .exact h2 q
   .exact h3 q
 have hokN:zbw X.prog X.w (upd H D (.lst [])) h₁ D (.lst []):=⟨yaG _,[],0,.nil,hnew⟩;refine ⟨ok,I.os.symm ▸ rfl,I.bare,Un.laid kp hD hfr,?_,λx cc e=>?_,?_,λx cc e=>?_,λp hp=>?_,I.hok.laid kp hD hokN,?_⟩
 .obtain ⟨m,hm⟩:=hns;refine ⟨m,hm,λi x v e1 e2 e3=>?_⟩;have hi:own<=i:=by
   false_or_by_contra
   rename_i z;unfold zfT at e2;rw[yba (by rw[yby];lia),List.getElem?_replicate]at e2;split at e2<;>cases e2
  obtain ⟨j,rfl⟩:∃ j,i=own+j:=⟨i-own,by lia⟩;have hj:j<cap.length:=by
   have:=(yaj.mp e1).1;have z:=c.len;have this':own+j<N.length:=this;lia
  have hc:=yaW.mp c.caps j (yaT.mpr hj);have e1':N[own+j]?=some x:=e1;rw[e1']at hc;simp only[ybb,beq_iff_eq,Bool.or_eq_true]at hc;obtain ⟨hN,hf,hk⟩:=hc;have e2':U[cap[j]!]?=some (some v):=by
   unfold zfT at e2;rw[ya4 (by rw[yby];lia),yby,show own+j-own=j by lia,yam]at e2;have g:cap[j]! = cap[j]:=by simp[hj]
   rw[yac hj,ybA]at e2;rw[g];have e2:=yae e2;cases q:U[cap[j]]? with
   | none=>rw[q]at e2;cases e2
   | some z=>rw[q]at e2;exact congrArg some e2
  obtain ⟨m0,_,hl⟩:=I.loc;obtain ⟨u,ru,lk⟩:=hl (cap[j]!) x v hN.symm e2' (by
   rcases hk with z|z
   .exact .inr (.inl z)
   .exact .inr (.inr z))
  refine ⟨u,ru,.inr ⟨zcP (env:=X.env) hf,?_⟩⟩;rcases lk with ⟨z,_⟩|⟨_,cc,ec,ic⟩
  .rcases hk with q|q
   .rw[q]at z;cases z
   .rw[q]at z;cases z
  ·obtain ⟨c',hc'⟩:=hcl.has x (by
    have:(x,NameKind.free)∈scope.names:=by
     have hlk:=hf;obtain ⟨l1,l2,hs,hno⟩:=List.lookup_eq_some_iff.mp hlk;rw[hs];exact yaZ _ yau
    exact this)
   have:=hcl.sub x c' hc';rw[ec]at this;cases this
   obtain ⟨o,ho,hd⟩:=ic;exact ⟨cc,hc',o,kp cc o ho,hd⟩
 .obtain ⟨v,o,ho,hd⟩:=cells x cc e;exact ⟨v,o,kp cc o ho,hd⟩
 .show upd H D (.lst []) C=none;rw[zag (Ne.symm hCD)];exact hfrC
 .show upd H D (.lst []) cc=none;rw[zag (cellne x cc e).1];exact I.freeC x cc (hcl.sub x cc e)
 .obtain ⟨e,n,ne,nf,d⟩:=I.pin p hp;refine ⟨kp _ _ e,?_,(sz _ _ e).2,λz=>?_,d⟩
  .show upd H D (.lst []) p.1=none;rw[zag (sz _ _ e).1];exact n
  .rcases yag.mp (I.stkSub p.1 z) with q|q
   .exact ne q
   .exact nf q
 .show (zfT own cap U).length=N.length;unfold zfT;rw[yah,yby,yab,c.len]
def zsU (own:Nat)(cap:List Nat)(wi:TI)(g:TG)(ts:TT)(te:TE):TE:=λU H Q=>wi U H λJ H1=>∀ D,H1 D=none->∃ W:Nat->Nat->St->Hp->Prop,(∃ m,W 0 m (zfT own cap U) (upd H1 D (.lst [])))/\∀ i m U H,W i m U H->
 (J.stop i H/\Q (.ref D) H)\/(J.go i H/\∀ x H',J.yld i H x H'->g x U H' λU2 H2=>ts U2 H2 λb H3=>if b=true then te U2 H3 λy H4=>∃ xs,H4 D=some (.lst xs)/\xs.length<sizeLine/\∃ m',m'<m/\W (i+1) m' U2 (upd H4 D (.lst (xs++[y]))) else ∃ m',m'<m/\W (i+1) m' U2 H3)
theorem zjD {fp:List Addr}{iter:Expr}{pos:Pos}{ts:TT}{Q:VK}
  {E:Value->Shared->Prop} {RR:Value->Addr->Result->Shared->Prop}
  (hcalm:X.calm=true) (c:zlF X scope N own cap) (hcl:zhj scope X.env cl)
  (hg:∀ cl C s₂ H₂ fp,PG (zcg X N scope cl C s₂ H₂ fp) tg g) (hts:∀ cl C s₂ H₂ fp,PTs (zcg X N scope cl C s₂ H₂ fp) ifs ts) (he:∀ cl C s₂ H₂ fp,PE (zcg X N scope cl C s₂ H₂ fp) elt te)
  (I2:Inv X pins U H2 s2) (T:Turn X.prog X.w X.K tg J fp it tn) (st2:tn 0 s2.heap) (f2:∀ b∈fp,FpOk X pins H2 b)
  (rd:∀ D,H2 D=none->∃ W:Nat->Nat->St->Hp->Prop,(∃ m,W 0 m (zfT own cap U) (upd H2 D (.lst [])))/\∀ i m U H,W i m U H->
   (J.stop i H/\Q (.ref D) H)\/(J.go i H/\∀ x H',J.yld i H x H'->g x U H' λU2 H2=>ts U2 H2 λb H3=>if b=true then te U2 H3 λy H4=>∃ xs,H4 D=some (.lst xs)/\xs.length<sizeLine/\∃ m',m'<m/\W (i+1) m' U2 (upd H4 D (.lst (xs++[y]))) else ∃ m',m'<m/\W (i+1) m' U2 H3))
  (hRR:∀ D C s' H',Inv X pins U H' s'->(∃ m,s'.heap.Ns C m)->FpOk X pins H' C->Q (.ref D) H'->RR (.ref D) C (.ok .next) s') :
  wpAny (model X.prog X.w) X.A (newList []) (λacc s₃=>wpAny (model X.prog X.w) X.A (newFunctionEnv scope X.env.globals cl [] X.env.qual none .none (some X.env)) (λcenv s₄=>
   codeAny (model X.prog X.w) X.A (.compStart (.ListComp elt [⟨tg,iter,ifs,0⟩] scope pos) 0 (.ref it) acc { cenv with scope:=relabel scope X.env }) (RR acc cenv.locals) s₄) E s₃) E s2:=by
 have hcell:∀ y∈scope.names,y.2≠.cell:=λy hy q=>by
  have:=yaW.mp c.nocell y hy;rw[q]at this;exact absurd this .(i)
 have hfp:∀ b∈fp,b<s2.heap.objs.size:=λb hb=>by
  obtain ⟨o,e,_⟩:=T.obj 0 _ st2 b hb;exact yaf e
 refine wpAny_newObj_type (wpAny_newFunctionEnv hcell (by intro y hy;simp at hy) (λh₁ hns₁ hsb₁=>?_) c.kind);dsimp only at hns₁ hsb₁ ⊢;generalize hHH:s2.heap.push { cls:=.type "list",dict:=none,data:=.seq ([]:List Value).toArray }=HH at hns₁ hsb₁ ⊢;have hC:HH.objs.size=s2.heap.objs.size+1:=by rw[<-hHH,yb1]
 have hDC:s2.heap.objs.size≠HH.objs.size:=by rw[hC];exact yat (yb2 _)
 have hCle:s2.heap.objs.size<=HH.objs.size:=by rw[hC];exact ybh _
 have old:∀ b o,s2.heap.get? b=some o->h₁.get? b=some o:=λb o e=>hsb₁.extBut b o (yat (by rw[hC];exact Nat.lt_succ_of_lt (yaf e))) (yak _ (hHH ▸ yak _ e));have hnew:h₁.get? s2.heap.objs.size=some { cls:=.type "list",data:=.seq #[] }:=hsb₁.extBut _ _ hDC (yak _ (hHH ▸ yaI _ rfl));have I3:∀ tk,Inv (zcg X N scope cl HH.objs.size s2 H2 fp) pins (zfT own cap U) (upd H2 s2.heap.objs.size (.lst [])) { s2 with heap:=h₁,toks:=tk }:=λtk=>
  zp6 I2 c hcl f2 (yaa _) hCle hDC old hnew ⟨_,hns₁⟩ hfp hcalm
 obtain ⟨W,⟨m0,w0⟩,turn⟩:=rd s2.heap.objs.size (I2.hok.fresh (yaa _));have st3:tn 0 h₁:=T.keep _ _ _ st2 λb _ o e=>old b o e;have fr3:∀ b∈fp,upd H2 s2.heap.objs.size (.lst []) b=none:=λb hb=>by rw[zag (yat (hfp b hb))];exact (f2 b hb).1
 have stat:∀{H':Hp},(∀ b∈fp,H' b=none)->∀ b∈fp,FpOk (zcg X N scope cl HH.objs.size s2 H2 fp) pins H' b:=λhn b hb=>by
  obtain ⟨_,h2,h3,_,h5,h6⟩:=f2 b hb;refine ⟨hn b hb,yat (yaB (hfp b hb) hCle),λz=>?_,.inl hb,λx cc e=>h5 x cc (hcl.sub x cc e),h6⟩;rcases yag.mp (I2.stkSub b z) with q|q
  .exact h2 q
  .exact h3 q
 have loop:∀ s₃:Shared,s₃={ s2 with heap:=h₁,toks:=s2.toks+([]:List (Str×Value)).length }->
   codeAny .(d) X.A (.compLoop (.ListComp elt [⟨tg,iter,ifs,0⟩] scope pos) 0 (.ref it) (.ref s2.heap.objs.size) (compEnvC scope cl HH.objs.size X.env)) (RR (.ref s2.heap.objs.size) HH.objs.size) s₃:=by
  rintro s₃ rfl;refine zkw (λn s'=>∃ i U' H',Inv (zcg X N scope cl HH.objs.size s2 H2 fp) pins U' H' s'/\tn i s'.heap/\(∀ b∈fp,H' b=none)/\W i n U' H') ?_ m0 ⟨0,_,_,I3 _,st3,fr3,w0⟩;rintro n s3 ⟨i,U3,H3,J3,t3,fr,w3⟩;rcases turn i n U3 H3 w3 with ⟨stop,qn⟩|⟨go,step⟩
  .refine thn (T.done (zcg X N scope cl HH.objs.size s2 H2 fp) rfl rfl rfl hcalm i pins s3 U3 H3 (λ_ _=>False) J3 (stat fr) t3 stop) λr s4 zq0=>?_;obtain ⟨hr,I4⟩:=zq0;subst hr;obtain ⟨mm,hmm,_⟩:=I4.loc;refine hRR _ _ s4 H3 (I2.call' I4.os I4.base I4.hok I4.bare λb hb=>?_) ⟨mm,hmm⟩ (I2.fpOk hCle I4.free) qn;obtain ⟨_,h2,_,h4,h5,h6⟩:=f2 b hb;exact ⟨h4,h2,h5,h6⟩
  .refine thn (T.item (zcg X N scope cl HH.objs.size s2 H2 fp) rfl rfl rfl hcalm i pins s3 U3 H3 (λ_ _=>False) J3 (stat fr) t3 go) λr s4 zq0=>?_;obtain ⟨u,hr,h4⟩:=zq0;subst hr;refine thn h4 λ_ s5 zq0=>?_;obtain ⟨x,H5,I5,r5,y5,st5,fr5⟩:=zq0;have I5':=I5.pinned (stat fr5) (T.obj _ _ st5);have back:∀{U7:St} {H7:Hp} {s7:Shared} {m':Nat},Inv (zcg X N scope cl HH.objs.size s2 H2 fp) (pins++zi7 fp s5.heap) U7 H7 s7->W (i+1) m' U7 H7->∃ i U' H',Inv (zcg X N scope cl HH.objs.size s2 H2 fp) pins U' H' s7/\tn i s7.heap/\(∀ b∈fp,H' b=none)/\W i m' U' H':=λ{U7 H7 s7 m'} I7 w7=>by
    refine ⟨i+1,U7,H7,I7.unpinned,T.keep _ _ _ st5 λb hb o e=>(I7.pin (b,o) (yaZ _ (yaZ _ (zeG hb e)))).1,λb hb=>?_,w7⟩;obtain ⟨o,e,d⟩:=T.obj _ _ st5 b hb;exact (I7.pin (b,o) (yaZ _ (yaZ _ (zeG hb e)))).2.1
   refine thn (hg cl HH.objs.size s2 H2 fp _ s5 U3 H5 x u _ I5' r5 (step x H5 y5)) λ_ s6 zq0=>?_;obtain ⟨U6,H6,I6,q6⟩:=zq0;refine thn (hts cl HH.objs.size s2 H2 fp _ s6 U6 H6 _ I6 q6) λb s7 zq0=>?_;obtain ⟨H7,I7,q7⟩:=zq0;cases b with
   | false=>
    rw[if_neg yaD]at q7 ⊢;obtain ⟨m',hm,w7⟩:=q7;exact ⟨m',hm,back I7 w7⟩
   | true=>
    rw[if_pos rfl]at q7 ⊢;refine thn (he cl HH.objs.size s2 H2 fp _ s7 U6 H7 _ I7 q7) λv s8 zq0=>?_;obtain ⟨y,H8,I8,r8,q8⟩:=zq0;obtain ⟨xs,hx,hz,m',hm,w8⟩:=q8;refine thn (za4 (X:=zcg X N scope cl HH.objs.size s2 H2 fp) _ s8 U6 H8 (.ref s2.heap.objs.size) [y] (.ref s2.heap.objs.size) [v] (λ_ H9=>H9=upd H8 s2.heap.objs.size (.lst (xs++[y]))) I8 rfl (.cons r8 .nil) ⟨_,xs,y,rfl,rfl,hx,hz,rfl⟩) λ_ s9 zq0=>?_;obtain ⟨_,H9,I9,_,e9⟩:=zq0;subst e9;exact ⟨m',hm,back I9 w8⟩
 refine codeAny_compStart_list (loop _ rfl) ?_;exact T.self _ 0 _ _ _ st3 (loop _ rfl)
theorem zbN {pos:Pos}{ts:TT}(hcalm:X.calm=true)(hi:PI X tg iter wi)(c:zlF X scope N own cap)
  (hg:∀ cl C s₂ H₂ fp,PG (zcg X N scope cl C s₂ H₂ fp) tg g) (hts:∀ cl C s₂ H₂ fp,PTs (zcg X N scope cl C s₂ H₂ fp) ifs ts) (he:∀ cl C s₂ H₂ fp,PE (zcg X N scope cl C s₂ H₂ fp) elt te)
  (hs:∀ x,foldedSetIterable iter X.env x=pure x:=by intro _;rfl):PE X (.ListComp elt [⟨tg,iter,ifs,0⟩] scope pos) (zsU own cap wi g ts te):=by
 intro pins s U H Q I h;obtain ⟨cl,hcl⟩:=zfE (scope:=scope) (env:=X.env) λx hx=>I.ok.has x (by
  have:=yaW.mp c.frees _ hx;simpa using this)
 rw[eval_ListComp];refine wpAny_comprehension_free (use:=none) rfl hs hcl.eq c.kind (λx hx hl=>by
  have:=yaW.mp c.locs x hx;rw[hl]at this;simpa using this) (thn (hi pins s U H _ I h) λv s1 h1=>thn h1 λitv s2 h2=>?_)
 obtain ⟨it,fp,tn,J,H2,e,I2,T,st2,f2,rd⟩:=h2;subst e;refine zjD (RR:=λacc C=>compPost .(d) X.A X.xe none (EP X pins U Q) acc C) hcalm c hcl hg hts he I2 T st2 f2 rd ?_;intro D C s' H' I' hm fC q;obtain ⟨m,hm⟩:=hm;obtain ⟨f0,f1,f2,f3,f4,f5⟩:=fC;exact ⟨m,hm,λh' hsb=>⟨.ref D,H',I'.turned (t':=s'.toks) (λb o hb e=>(hsb.2 b hb).trans e) f0 f1 f3 f4 f5,rfl,q⟩⟩
theorem zgJ {i:Nat}{x:Str}{pos pos' spos:Pos}{ts:TT}(hN:X.N.Nodup)(hxi:X.N[i]?=some x)(hx:X.env.scope.names.lookup x=some .local)(hcalm:X.calm=true)(hi:PI X tg iter wi)(c:zlF X scope N own cap)
  (hg:∀ cl C s₂ H₂ fp,PG (zcg X N scope cl C s₂ H₂ fp) tg g) (hts:∀ cl C s₂ H₂ fp,PTs (zcg X N scope cl C s₂ H₂ fp) ifs ts) (he:∀ cl C s₂ H₂ fp,PE (zcg X N scope cl C s₂ H₂ fp) elt te)
  (hsw:swapsWith (.ListComp elt [⟨tg,iter,ifs,0⟩] scope pos) (some (.Name x pos')) spos.line X.env=pure true:=by rfl)
  (hs:∀ x,foldedSetIterable iter X.env x=pure x:=by intro _;rfl):PS X (.Assign [.Name x pos'] (.ListComp elt [⟨tg,iter,ifs,0⟩] scope pos) spos) (tAsg (zsU own cap wi g ts te) (zko i)):=by
 intro pins s U H D I h;obtain ⟨cl,hcl⟩:=zfE (scope:=scope) (env:=X.env) λx hx=>I.ok.has x (by
  have:=yaW.mp c.frees _ hx;simpa using this)
 rw[exec_Assign_Name_used _ _ _ _ hsw];refine wpAny_bind (wpAny_standAt (wpAny_bind ?_));show wpAny _ X.A (do let _ <-comprehension (.ListComp elt [⟨tg,iter,ifs,0⟩] scope pos) scope X.env _ (newList []) false (eval iter X.env) (some (assign (.Name x pos') X.env))) _ _ s
 refine wpAny_bind (wpAny_mono (wpAny_comprehension_free (use:=some (assign (.Name x pos') X.env)) (Q:=λ_ s'=>SP X pins D .next s') rfl hs hcl.eq c.kind (λx hx hl=>by
  have:=yaW.mp c.locs x hx;rw[hl]at this;simpa using this) (thn (hi pins s U H _ I h) λv s1 h1=>thn h1 λitv s2 h2=>?_)) (λ_ s' hq=>wpAny_pure (wpAny_pure hq)) λ_ _ e=>e)
 obtain ⟨it,fp,tn,J,H2,e,I2,T,st2,f2,rd⟩:=h2;subst e;refine zjD (RR:=λacc C=>compPost .(d) X.A X.xe (some (assign (.Name x pos') X.env)) (λ_ s'=>SP X pins D .next s') acc C) (Q:=λx H1=>zko i x U H1 D.nx) hcalm c hcl hg hts he I2 T st2 f2 rd ?_;intro Dd C s' H' I' hm fC q;obtain ⟨m,hm⟩:=hm;have hne:∀ a,(a=X.env.locals\/X.env.cells.lookup x=some a)->a≠C:=λa z=>by
  obtain ⟨f0,f1,f2,f3,f4,f5⟩:=fC;rcases z with z|z
  .rw[z];exact Ne.symm f1
  .exact f4 x a z
 show wpAny _ X.A (assign (.Name x pos') X.env (.ref Dd)) _ _ _;refine wpAny_assign_Name (ziU I' hN hxi (.inl hx) (v:=.ref Dd) rfl (λs'' I'' hch=>?_) (.inr hx));obtain ⟨a,hsb,ha⟩:=hch;refine ⟨m,hm.sameBut hsb (Ne.symm (hne a ha)),λh' hs'=>?_⟩;obtain ⟨f0,f1,f2,f3,f4,f5⟩:=fC;exact ⟨_,H',I''.turned (t':=s''.toks) (λb o hb e=>(hs'.2 b hb).trans e) f0 f1 f3 f4 f5,q⟩
end
end L2
namespace L2
open PySem PySem.Spec PyProof.Rows PySem.SeqAt
class Srt (α:Type)[Rep α] where
 blt:α->α->Bool
 irrefl:∀ a,blt a a=false
 trans:∀ a b c,blt a b=true->blt b c=true->blt a c=true
 negTrans:∀ a b c,blt a c=true->blt a b=true\/blt b c=true
 total:∀ a b,blt a b=false->blt b a=false->a=b
 kd:SortKind
 one:α
 lt:∀{X:Cx} {pins:List (Addr×Obj)} {U:St} {H:Hp} {s:Shared} {A:Around} {a b:α} {x y:V} {u v:Value} {Q:Bool->Shared->Prop} {E:Value->Shared->Prop},Inv X pins U H s->Rep.has X.K H a x->Rep.has X.K H b y->RelV x u->RelV y v->Q (blt a b) s->wpAny .(d) A (keyLt' kd u v) Q E s
 kind:∀{X:Cx} {pins:List (Addr×Obj)} {U:St} {H:Hp} {s:Shared} {A:Around} {as:List α} {xs:List V} {us:List Value} {Q:SortKind->Shared->Prop} {E:Value->Shared->Prop},Inv X pins U H s->zam X.K H as xs->Vals xs us->2<=us.length->Q kd s->wpAny .(d) A (keyKind' us.toArray) Q E s
section
variable {α:Type}[Rep α][Srt α]
noncomputable def srtKind (α:Type)[Rep α][Srt α](K:Frag)(H:Hp):PyProof.Rows.KeyKind where
 α:=α
 blt:=Srt.blt
 irrefl:=Srt.irrefl
 trans:=Srt.trans
 negTrans:=Srt.negTrans
 total:=Srt.total
 keyOf:=λu=>open Classical in if h:∃ a:α,∃ x,RelV x u/\Rep.has K H a x then some (Classical.choose h) else none
 dflt:=Srt.one
theorem zp4 {a:α}{x:V}{u:Value}(I:Inv X pins U H s)(r:RelV x u)(h:Rep.has X.K H a x):(srtKind α X.K H).keyOf u=some a:=by
 have e:∃ a:α,∃ x,RelV x u/\Rep.has X.K H a x:=⟨a,x,r,h⟩;unfold srtKind;dsimp only;rw[dif_pos e];obtain ⟨y,ry,hy⟩:=Classical.choose_spec e;have z:=ry.inj r;subst z;exact congrArg some (Rep.inj I hy h)
theorem zhB {K:Frag}{a:α}{u:Value}(h:(srtKind α K H).keyOf u=some a):∃ x,RelV x u/\Rep.has K H a x:=by
 unfold srtKind at h;dsimp only at h;split at h
 .rename_i e;cases h
  exact Classical.choose_spec e
 .cases h
def zd1 (as:List α):List α:=as.mergeSort λa b=>!Srt.blt b a
theorem zb2 (as:List α):(zd1 as).Perm as:=List.mergeSort_perm _ _
theorem zfa {as:List α}{a:α}:a∈zd1 as↔a∈as:=(zb2 as).mem_iff
theorem zd0 (as:List α):(zd1 as).length=as.length:=(zb2 as).length_eq
theorem zoT {a b:α}(h:Srt.blt a b=true):Srt.blt b a=false:=by
 cases e:Srt.blt b a with
 | false=>rfl
 | true=>
  have:=Srt.trans _ _ _ h e;rw[Srt.irrefl]at this;cases this
theorem zk3 (as:List α):(zd1 as).Pairwise λa b=>Srt.blt b a=false:=by
 have h:=List.pairwise_mergeSort (le:=λa b:α=>!Srt.blt b a) (λa b c h1 h2=>by
  simp only[ybT]at h1 h2 ⊢;cases e:Srt.blt c a with
  | false=>rfl
  | true=>
   rcases Srt.negTrans c b a e with z|z
   .rw[h2]at z;cases z
   .rw[h1]at z;cases z) (λa b=>by
  cases e:Srt.blt b a with
  | false=>rfl
  | true=>rw[zoT e];rfl) as
 exact h.imp λ{a b} z=>by simpa using z
theorem zk4 {as bs:List α}(hp:bs.Perm as)(hs:bs.Pairwise λa b=>Srt.blt b a=false):bs=zd1 as:=
 List.Perm.eq_of_pairwise (λa b _ _ h1 h2=>Srt.total a b h2 h1) hs (zk3 as) (hp.trans (zb2 as).symm)
theorem zfJ {as:List α}(hn:as.Nodup):(zd1 as).Pairwise λa b=>Srt.blt a b=true:=by
 have h1:=zk3 as;have h2:(zd1 as).Nodup:=(zb2 as).nodup_iff.mpr hn;refine (h1.and h2).imp λ{a b} z=>?_;cases e:Srt.blt a b with
 | true=>rfl
 | false=>exact absurd (Srt.total a b e z.1) z.2
theorem zjk {K:Frag}:∀{out:List Value},(∀ v∈out,∃ a:α,∃ x,RelV x v/\Rep.has K H a x/\(srtKind α K H).keyOf v=some a)->
  ∃(ws:List V) (bs:List α),Vals ws out/\zam K H bs ws/\bs=out.map (Tim.keyV (srtKind α K H))
 | [],_=>⟨[],[],.nil,.nil,rfl⟩
 | v::out,h=>by
  obtain ⟨ws,bs,h1,h2,h3⟩:=zjk (out:=out) λu hu=>h u (yar _ hu);obtain ⟨a,x,r,e,k⟩:=h v yau;refine ⟨x::ws,a::bs,.cons r h1,.cons e h2,?_⟩;rw[yap,<-h3];have z:Tim.keyV (srtKind α K H) v=a:=by
   unfold Tim.keyV;rw[k];rfl
  rw[z];rfl
theorem zn8 (I:Inv X pins U H s):∀{as:List α} {xs:List V} {us:List Value},zam X.K H as xs->Vals xs us->us.map (Tim.keyV (srtKind α X.K H))=as/\∀ v∈us,∃ a:α,∃ x,RelV x v/\Rep.has X.K H a x/\(srtKind α X.K H).keyOf v=some a
 | _,_,_,.nil,.nil=>⟨rfl,λ_ z=>nomatch z⟩
 | _,_,_,.cons e t,.cons r q=>by
  obtain ⟨h1,h2⟩:=zn8 I t q;have k:=zp4 I r e;refine ⟨?_,λv hv=>?_⟩
  .rw[yap,h1];unfold Tim.keyV;rw[k];rfl
  .rcases yag.mp hv with z|z
   .subst z;exact ⟨_,_,r,e,k⟩
   .exact h2 v z
end
instance:Srt Int where
 blt:=λa b=>decide (a<b)
 irrefl:=λa=>by simp
 trans:=λa b c h1 h2=>by
  simp only[decide_eq_true_eq]at *;lia
 negTrans:=λa b c h=>by
  simp only[decide_eq_true_eq]at *;lia
 total:=λa b h1 h2=>by
  simp only[decide_eq_false_iff_not]at *;lia
 kd:=oneType'
 one:=0
 lt:=λ{X pins U H s A a b x y u v Q E} _ h1 h2 r1 r2 q=>by
  have h1:x=.int a:=h1;have h2:y=.int b:=h2;subst h1 h2;obtain ⟨t,rfl⟩:=r1;obtain ⟨t',rfl⟩:=r2;exact PySem.W.kat_lt_int q
 kind:=λ{X pins U H s A as xs us Q E} _ h r hl q=>by
  have e:=zam.toInts h;subst e;have hi:IntsAre us as:=by
   clear q hl
   induction as generalizing us with
   | nil=>cases r;exact .nil
   | cons a as ih=>
    cases r with
    | cons r1 r2=>
     obtain ⟨t,rfl⟩:=r1;exact .cons a t (ih (by first|exact zam.ints|assumption) r2)
  match us,hl,hi with
  | v₁::v₂::rest,_,hi=>
   rw[keyKind_ints hi];exact wpAny_pure q
def pLt (a b:Int×Int):Bool:=decide (a.1<b.1)||(decide (a.1=b.1)&&decide (a.2<b.2))
theorem zcs {a:Int×Int}:pLt a b=true↔a.1<b.1\/(a.1=b.1/\a.2<b.2):=by
 unfold pLt;simp
theorem zj4 {a:Int×Int}:pLt a b=false↔¬ (a.1<b.1\/(a.1=b.1/\a.2<b.2)):=by
 rw[<-zcs];simp
theorem zig {a:Int×Int}{x:V}{u:Value}(I:Inv X pins U H s)(h:Rep.has X.K H a x)(r:RelV x u) :
  ∃(p:Addr) (o:Obj) (n:Nat) (t t':Tok),u=.ref p/\s.heap.get? p=some o/\o.cls=.type "tuple"/\o.data=.seq #[.int a.1 t,.int a.2 t'] n:=by
 obtain ⟨p,x1,x2,rfl,q,e1,e2⟩:=(show hasP X.K H a x from h);have e1:x1=.int a.1:=e1;have e2:x2=.int a.2:=e2;subst e1 e2;cases r
 obtain ⟨us,ru,pu,_⟩:=I.tuple (SqT.of q);obtain ⟨u1,u2,rfl,⟨t,rfl⟩,⟨t',rfl⟩⟩:=zhl ru;obtain ⟨o,ho,hc,n,hd⟩:=pu;exact ⟨p,o,n,t,t',rfl,ho,hc,hd⟩
theorem zqY {prog:Program}{w:World}{A:Around}{E:Value->Shared->Prop}{s:Shared}{x y:Int}{t u:Tok}{Q:Bool->Shared->Prop}(b:Bool)(h:Q (decide (x<y)) s):wpAny .(j) A (oneLt' b (.int x t) (.int y u)) Q E s:=by
 cases b with
 | true=>
  rw[<-keyLt'_oneType];exact PySem.W.kat_lt_int h
 | false=>exact PySem.W.kat_one _ _ (lt_int h)
instance:Srt (Int×Int) where
 blt:=pLt
 irrefl:=λa=>by rw[zj4];lia
 trans:=λa b c h1 h2=>by
  rw[zcs]at *;lia
 negTrans:=λa b c h=>by
  rw[zcs]at *;rw[zcs];lia
 total:=λa b h1 h2=>by
  rw[zj4]at *;obtain ⟨a1,a2⟩:=a;obtain ⟨b1,b2⟩:=b;have:a1=b1/\a2=b2:=by dsimp only at *;lia
  rw[this.1,this.2]
 kd:=tuples' true
 one:=(0,0)
 lt:=λ{X pins U H s A a b x y u v Q E} I h1 h2 r1 r2 q=>by
  obtain ⟨p,o,n,t1,t2,rfl,ho,hc,hd⟩:=zig I h1 r1;obtain ⟨p',o',n',t3,t4,rfl,ho',hc',hd'⟩:=zig I h2 r2;refine PySem.W.kat_lt ho hd ho' hd' ?_;show PySem.W.KatLex X.prog X.w A true _ Q [(.int a.1 t1,.int b.1 t3),(.int a.2 t2,.int b.2 t4)] 0 s;refine PySem.W.kat_cons (EqAt.int_int a.1 t1 b.1 t3 _ _ _ _ (PySem.W.kat_go (λe=>PySem.W.kat_yes ?_) (λe=>PySem.W.kat_no ?_)))
  .have e1:a.1=b.1:=eq_of_beq e;refine PySem.W.kat_cons (EqAt.int_int a.2 t2 b.2 t4 _ _ _ _ (PySem.W.kat_go (λe=>PySem.W.kat_yes (PySem.W.kat_nil ?_)) (λe=>PySem.W.kat_no (zqY _ ?_))))
   .have e2:a.2=b.2:=eq_of_beq e;have z:pLt a b=false:=by rw[zj4];lia
    rw[z]at q;exact q
   .have z:pLt a b=decide (a.2<b.2):=by
     unfold pLt;rw[yan (by lia:¬ a.1<b.1),yai e1];rfl
    rw[z]at q;exact q
  .have e1:¬ a.1=b.1:=λz=>by rw[z]at e;simp at e
   refine zqY _ ?_;have z:pLt a b=decide (a.1<b.1):=by
    unfold pLt;rw[yan e1];simp
   rw[z]at q;exact q
 kind:=λ{X pins U H s A as xs us Q E} I h r hl q=>by
  have go:∀{as:List (Int×Int)} {xs:List V} {us:List Value},zam X.K H as xs->Vals xs us->∃ fs,PySem.W.KatTups s.heap us fs/\fs.length=us.length/\∀ v∈fs,∃ i t,v=Value.int i t:=by
   intro as
   induction as with
   | nil=>
    intro xs us h r;cases h
    cases r
    exact ⟨[],.nil,rfl,λ_ z=>nomatch z⟩
   | cons a as ih=>
    intro xs us h r;cases h with
    | cons h1 h2=>
     cases r with
     | cons r1 r2=>
      obtain ⟨fs,f1,f2,f3⟩:=ih h2 r2;obtain ⟨p,o,n,t,t',rfl,ho,hc,hd⟩:=zig I h1 r1;refine ⟨.int a.1 t::fs,PySem.W.KatTups.cons ho hc hd rfl f1,by rw[yaM,yaM,f2],λv hv=>?_⟩;rcases yag.mp hv with z|z
      .exact ⟨_,_,z⟩
      .exact f3 v z
  obtain ⟨fs,f1,f2,f3⟩:=go h r;refine PySem.W.kat_kind (T:=.type "int") f1 .(a) (λv hv=>?_) .(i) ?_
  .obtain ⟨i,t,rfl⟩:=f3 v hv;exact PySem.W.Looks.of_pure rfl
  .exact q
end L2
namespace L2
open PySem PySem.Spec PyProof.Rows
section
variable {X:Cx}
theorem zc9 {i:Int}{pos:Pos}(hg:Gl X x)(hm:∃ t,X.mg x=some (.int i t))(hd:(x==("__debug__" : Str))=false:=by decide):PE X (.Name x pos) (tC (.int i)):=by
 obtain ⟨t,e⟩:=hm;exact zrM hg e ⟨t,rfl⟩ hd
end
theorem zbR {K:Frag}{a:Addr}{g:TG}{ts:TT}{te:TE}{U:St}{H:Hp}{Q:Hp->Prop}(Pv:Nat->St->Hp->Prop)(h0:Pv 0 U H)(hl:∀ i U H,i<=xs.length->Pv i U H->SqL K H a xs)
  (hs:∀ i m x U H,xs[i]?=some x->i+m=xs.length->Pv i U H->g x U H λU2 H2=>ts U2 H2 λb H3=>if b=true then te U2 H3 λy H4=>∃ zs,H4 D=some (.lst zs)/\zs.length<sizeLine/\∃ m',m'<m/\(i+1+m'=xs.length/\Pv (i+1) U2 (upd H4 D (.lst (zs++[y])))) else ∃ m',m'<m/\(i+1+m'=xs.length/\Pv (i+1) U2 H3))
  (hd:∀ U H,Pv xs.length U H->Q H) :
  ∃ W:Nat->Nat->St->Hp->Prop,(∃ m,W 0 m U H)/\∀ i m U H,W i m U H->((Itl K a).stop i H/\Q H)\/((Itl K a).go i H/\∀ x H',(Itl K a).yld i H x H'->g x U H' λU2 H2=>ts U2 H2 λb H3=>if b=true then te U2 H3 λy H4=>∃ xs,H4 D=some (.lst xs)/\xs.length<sizeLine/\∃ m',m'<m/\W (i+1) m' U2 (upd H4 D (.lst (xs++[y]))) else ∃ m',m'<m/\W (i+1) m' U2 H3):=by
 refine ⟨λi m U H=>i+m=xs.length/\Pv i U H,⟨xs.length,by lia,h0⟩,λi m U H zq0=>?_⟩;obtain ⟨e,pv⟩:=zq0;have hS:=hl i U H .(a) pv;by_cases hi:i<xs.length
 .refine .inr ⟨⟨xs,xs[i],hS,yac hi⟩,λx H' y=>?_⟩;obtain ⟨e1,y⟩:=y;subst e1;exact hs i m x U _ (y xs hS) e pv
 .have:i=xs.length:=by lia
  subst this;exact .inl ⟨⟨xs,hS,yaa _⟩,hd U H pv⟩
theorem zdr {lo:Int}{n:Nat}{g:TG}{ts:TT}{te:TE}{U:St}{H:Hp}{Q:Hp->Prop}(Pv:Nat->St->Hp->Prop)(h0:Pv 0 U H)
  (hs:∀ i m U H,i+m=n->i<n->Pv i U H->g (.int (lo+i)) U H λU2 H2=>ts U2 H2 λb H3=>if b=true then te U2 H3 λy H4=>∃ zs,H4 D=some (.lst zs)/\zs.length<sizeLine/\∃ m',m'<m/\(i+1+m'=n/\Pv (i+1) U2 (upd H4 D (.lst (zs++[y])))) else ∃ m',m'<m/\(i+1+m'=n/\Pv (i+1) U2 H3))
  (hd:∀ U H,Pv n U H->Q H) :
  ∃ W:Nat->Nat->St->Hp->Prop,(∃ m,W 0 m U H)/\∀ i m U H,W i m U H->((Itr lo n).stop i H/\Q H)\/((Itr lo n).go i H/\∀ x H',(Itr lo n).yld i H x H'->g x U H' λU2 H2=>ts U2 H2 λb H3=>if b=true then te U2 H3 λy H4=>∃ xs,H4 D=some (.lst xs)/\xs.length<sizeLine/\∃ m',m'<m/\W (i+1) m' U2 (upd H4 D (.lst (xs++[y]))) else ∃ m',m'<m/\W (i+1) m' U2 H3):=by
 refine ⟨λi m U H=>i+m=n/\Pv i U H,⟨n,by lia,h0⟩,λi m U H zq0=>?_⟩;obtain ⟨e,pv⟩:=zq0;by_cases hi:i<n
 .refine .inr ⟨hi,λx H' y=>?_⟩;obtain ⟨e1,y⟩:=y;subst e1 y;exact hs i m U _ e hi pv
 .have:i=n:=by lia
  subst this;exact .inl ⟨yaa _,hd U H pv⟩
end L2
namespace L2
open PySem PySem.Spec PyProof.Rows
def metI (ns:List Int):List Int:=firstMet (λi=>ns.getD i 0) ns.length
theorem zlO:∀ ns:List Int,(List.range ns.length).map (λi=>ns.getD i 0)=ns:=λns=>by
 apply ybe;intro i;rw[yam];by_cases h:i<ns.length
 .rw[ya7 h,ybA,yad,yac h];rfl
 .rw[yaV (by rw[yaL];lia),yaV .(a)];rfl
theorem zg5:∀(ns U:List Int),(U++ns).Nodup->ns.foldl step_dedup U=U++ns
 | [],U,_=>by simp
 | n::ns,U,h=>by
  have hn:¬ (U.any (· == n))=true:=λz=>by
   obtain ⟨x,hx,e⟩:=List.any_eq_true.mp z;have e:=eq_of_beq e;subst e;rw[ya2]at h;exact h.2.2 x hx x yau rfl
  rw[List.foldl_cons];have e:step_dedup U n=U++[n]:=by
   unfold step_dedup;rw[if_neg hn]
  rw[e,zg5 ns (U++[n]) (by rw[ybs];exact h),ybs];rfl
theorem zhz {ns:List Int}(h:ns.Nodup):metI ns=ns:=by
 unfold metI firstMet;rw[zlO];exact zg5 ns [] h
theorem zcW:∀{ns:List Int} {us:List Value},Vals (ns.map V.int) us->IntsAre us ns
 | [],_,.nil=>.nil
 | n::_,_,.cons ⟨t,e⟩ q=>by
  subst e;exact .cons n t (zcW q)
def zup (K:Frag):List V->Hp->VK->Prop:=λxs H Q=>∃(p:Addr) (ns:List Int),xs=[.ref p]/\SqL K H p (ns.map V.int)/\ns.length<=1000/\
 ∀ l,H l=none->Q (.ref l) (upd H l (.set (λk=>(metI ns).any (· == k)) (metI ns).length))
section
variable {X:Cx}
theorem zoR (hc:X.calm=true):zdg X (.type "set") (zup X.K):=by
 intro pins s U H xs us Q I r h;obtain ⟨p,ns,rfl,hq,hz,q⟩:=h;obtain ⟨u,rfl,rx⟩:=zgD r;cases rx
 obtain ⟨its,rv,pl,_⟩:=I.list hq;have hl:=rv.length;rw[yab]at hl;refine call_set_list (ns:=ns) (I.ok.hd hc) pl.isList (by simpa using zcW rv) (by unfold scanBound;simp only[yav];lia) λh' tk hS hk=>?_;have e:its.toArray.size=ns.length:=by simp only[yav];lia
 rw[e]at hS;exact ⟨.ref s.heap.objs.size,_,I.laid (a:=s.heap.objs.size) (o:=.set _ _) (t':=tk) (λb o eb=>hk b o (yaf eb) eb) (yaa _) hS,rfl,q _ (I.hok.fresh (yaa _))⟩
theorem zmn:zdg X (.builtin "len") (λxs H Q=>∃ p S n,xs=[.ref p]/\H p=some (.set S n)/\n<=1000/\Q (.int (n:Nat)) H):=by
 intro pins s U H xs us Q I r h;obtain ⟨p,S,n,rfl,hp,hn,q⟩:=h;obtain ⟨u,rfl,rx⟩:=zgD r;cases rx
 have ok:s.heap.SetOf (intKind X.prog X.w) p S n:=I.hok p _ hp;obtain ⟨o,ho,hex,es,ep,t,hd,_,_,hm,hf⟩:=ok.objOf;subst hm;exact call_len_set ho hex hd hf .(a) ⟨.int _,H,I.tok _,⟨_,rfl⟩,q⟩
end
end L2
namespace L2
theorem zdn {i:Nat}{x:V}{U:St}{H:Hp}{A B:St->Hp->Prop}(h:A (U.set i (some x)) H):zko i x U H λU2 H2=>tYes U2 H2 λb H3=>if b=true then A U2 H3 else B U2 H3:=by
 show (if true=true then A (U.set i (some x)) H else B (U.set i (some x)) H)
 rw[if_pos rfl];exact h
end L2
namespace L2
open PySem PySem.Spec PyProof.Rows
section
variable {X:Cx}
theorem zoQ (hc:X.calm=true):zdg X (.builtin "sum") (λxs H Q=>∃(p:Addr) (ns:List Int),xs=[.ref p]/\SqL X.K H p (ns.map V.int)/\Q (.int ns.sum) H):=by
 intro pins s U H xs us Q I r h;obtain ⟨p,ns,rfl,hq,q⟩:=h;obtain ⟨u,rfl,rx⟩:=zgD r;cases rx
 obtain ⟨its,rv,pl,_⟩:=I.list hq;have hi:=zcW rv;obtain ⟨xs,hx⟩:=hi.allInts.items;have hl':s.heap.IsList p (intItems xs):=hx ▸ pl.isList;refine sum_intListG (I.ok.hd hc) hl' λh' tk t' hk=>?_;have e1:ns=xs.toList.map (·.1):=by
  rw[<-nums_intItems,<-hx];exact (show numsOf its.toArray.toList=ns from hi.numsOf).symm
 have e2:preSum (numAt xs) xs.size=ns.sum:=by
  rw[preSum_eq,yas .(h),e1]
 rw[e2];exact ⟨.int _,H,Inv.kept (t':=tk) I hk,⟨t',rfl⟩,q⟩
def tRev (K:Frag)(te:TE)(th:TO):TE:=λU H Q=>te U H λx H1=>th U H1 λu H2=>∃ a xs,x=.ref a/\u=some (-1)/\SqL K H2 a xs/\∀ p,H2 p=none->Q (.ref p) (upd H2 p (.lst xs.reverse))
theorem Vals.rev:∀{xs:List V} {us:List Value},Vals xs us->Vals xs.reverse us.reverse
 | _,_,.nil=>.nil
 | _,_,.cons r t=>by
  rw[ybD,ybD];exact Vals.append (Vals.rev t) (.cons r .nil)
theorem zrJ {st:Expr}{p2 pos:Pos}(he:PE X e te)(hu:PO X (some st) th):PE X (.Subscript e (.Slice none none (some st) p2) pos) (tRev X.K te th):=by
 intro pins s U H Q I h;refine Subscript_ (thn (he pins s U H _ I h) λv s1 zq0=>?_);obtain ⟨x,H1,I1,r1,q1⟩:=zq0;refine wpAny_Slice ?_;rw[evalPart_none];refine wpAny_pure (wpAny_pure ?_);refine thn (hu pins s1 U H1 _ I1 q1) λvu s3 zq0=>?_;obtain ⟨u,H3,I3,pu,q3⟩:=zq0;obtain ⟨a,xs,rfl,rfl,hq,q⟩:=q3;cases r1
 have I4:Inv X pins U H3 { s3 with heap:=s3.heap.push { cls:=.type "slice",data:=.fields #[.none,.none,vu] } }:=I3.kept (t':=s3.toks) λb ob q=>yak _ q;obtain ⟨its,r,ht,hz⟩:=I4.list hq;have hlen:=r.length;show wpAny .(d) X.A (subscriptTail e (.Slice none none (some st) p2) (.ref a) (.ref s3.heap.objs.size)) (EP X pins U Q) X.xe { s3 with heap:=s3.heap.push { cls:=.type "slice",data:=.fields #[.none,.none,vu] } };refine tail_any (T := "list") (ops:=[.ref a,.ref s3.heap.objs.size]) ht.isList.typeIs slot_list_getitem.lookup ?_ (by with_unfolding_all rfl)
 refine wpAny_getItem_list_slice ht.isList (Heap.IsSliceOf.new ..) .none .none pu .(h) ?_ (by rw[yav]<;>lia)
 rw[PySem.W.krv_pick];refine ⟨.ref _,_,I4.laid (t':=s3.toks) (o:=.lst xs.reverse) (λb ob q=>yak _ q) (yaa _) ?_,rfl,q _ (I4.hok.fresh (yaa _))⟩;exact ⟨by rw[ybE];exact hz,_,0,Vals.rev r,yaI _ rfl⟩
end
end L2
namespace L2
open PySem PySem.Spec PyProof.Rows
section
variable {X:Cx}{K:Frag}
theorem zal (h:X.K=K:=by rfl):zdg X (.builtin "len") (λxs H Q=>∃ p ys,xs=[.ref p]/\(SqL K H p ys\/SqT K H p ys)/\Q (.int ys.length) H):=by
 subst h;exact zjJ
theorem zfF (h:X.K=K:=by rfl):zdg X (.builtin "isinstance") (rIsi K):=by
 subst h;exact zqq
theorem zat (h:X.K=K:=by rfl):IxR X (rIxL K):=by
 subst h;exact zsg
theorem zay (h:X.K=K:=by rfl):IxR X (rIxT K):=by
 subst h;exact ztQ
theorem zbq (h:X.K=K:=by rfl):zdg X (.type "list") (λxs H Q=>∃ p ys,xs=[.ref p]/\(SqL K H p ys\/SqT K H p ys)/\∀ l,H l=none->Q (.ref l) (upd H l (.lst ys))):=by
 subst h;exact zjI
end
end L2
namespace L2
open PySem PySem.Spec PyProof.Rows
theorem zgB {c:TT}{tb:TS}{D:Ends}{U:St}{H:Hp}(Pv Pe:St->Hp->Prop)(μ:St->Hp->Nat)(h0:Pv U H)
  (hs:∀ U H,Pv U H->c U H λb H1=>if b=true then tb { D with nx:=λU' H'=>Pv U' H'/\μ U' H'<μ U H,ct:=λU' H'=>Pv U' H'/\μ U' H'<μ U H,bk:=D.nx } U H1 else Pe U H1)
  (mono:∀ U H Q Q',(∀ b H1,Q b H1->Q' b H1)->c U H Q->c U H Q') (he:∀ U H,Pe U H->D.nx U H):zmK c tb D U H:=by
 refine zo4 Pv μ h0 (λU H p=>mono U H _ _ (λb H1 q=>?_) (hs U H p)) mono;cases b with
 | true=>exact q
 | false=>exact he _ _ q
def zsI (c:TT):Prop:=∀ U H Q Q',(∀ b H1,Q b H1->Q' b H1)->c U H Q->c U H Q'
theorem ziT {a:TT}(ha:zsI a)(hb:zsI b):zsI (tAnd a b):=λU H Q Q' m h=>ha U H _ _ (λc H1 q=>by
 cases c with
 | false=>exact m _ _ q
 | true=>exact hb U H1 Q Q' m q) h
section
variable {X:Cx}{K:Frag}
theorem zfL (h:X.K=K:=by rfl):OpR X (compareOp .In) (rIn K false):=by
 subst h;exact znu
theorem zcB (h:X.K=K:=by rfl):OpR X (compareOp .NotIn) (rIn K true):=by
 subst h;exact zjb
theorem zj2 {k:Nat}{t:TGs}{n:Nat}{pos:Pos}(hc:X.calm=true)(h:PGs X es t)(hK:X.K=K:=by rfl)
  (hn:(assignEach es X.env).length=n:=by rfl) (hst:(assignEach es X.env).findIdx? (·.1)=none:=by rfl):PG X (.Tuple es k pos) (gTup K n t):=by
 subst hK;exact zgN hc h hn hst
theorem zhX (h:X.K=K:=by rfl):SlR X (rSlL K):=by
 subst h;exact zrB
end
theorem zqj {K:Frag}{a:Addr}{xs ys:List V}{g:TG}{ts:TT}{te:TE}{U:St}{H:Hp}{Q:Hp->Prop}(hlen:xs.length=ys.length)(Pv:Nat->St->Hp->Prop)(h0:Pv 0 U H)(hl:∀ i U H,i<=xs.length->Pv i U H->SqL K H a xs/\SqL K H b ys)
  (hs:∀ i m x y U H r,xs[i]?=some x->ys[i]?=some y->i+m=xs.length->Pv i U H->H r=none->g (.ref r) U (upd H r (.tup [x,y])) λU2 H2=>ts U2 H2 λb H3=>if b=true then te U2 H3 λy H4=>∃ zs,H4 D=some (.lst zs)/\zs.length<sizeLine/\∃ m',m'<m/\(i+1+m'=xs.length/\Pv (i+1) U2 (upd H4 D (.lst (zs++[y])))) else ∃ m',m'<m/\(i+1+m'=xs.length/\Pv (i+1) U2 H3))
  (hd:∀ U H,Pv xs.length U H->Q H) :
  ∃ W:Nat->Nat->St->Hp->Prop,(∃ m,W 0 m U H)/\∀ i m U H,W i m U H->((Itz K a b).stop i H/\Q H)\/((Itz K a b).go i H/\∀ x H',(Itz K a b).yld i H x H'->g x U H' λU2 H2=>ts U2 H2 λb H3=>if b=true then te U2 H3 λy H4=>∃ xs,H4 D=some (.lst xs)/\xs.length<sizeLine/\∃ m',m'<m/\W (i+1) m' U2 (upd H4 D (.lst (xs++[y]))) else ∃ m',m'<m/\W (i+1) m' U2 H3):=by
 refine ⟨λi m U H=>i+m=xs.length/\Pv i U H,⟨xs.length,by lia,h0⟩,λi m U H zq0=>?_⟩;obtain ⟨e,pv⟩:=zq0;obtain ⟨hS,hS'⟩:=hl i U H .(a) pv;by_cases hi:i<xs.length
 .refine .inr ⟨⟨xs,ys,xs[i],ys[i]' .(a),hS,hS',yac hi,yac .(a)⟩,λx H' y=>?_⟩;obtain ⟨p,z,z',rfl,hp,hz,hz',rfl⟩:=y;exact hs i m z z' U H p (hz xs hS) (hz' ys hS') e pv hp
 .have:i=xs.length:=by lia
  subst this;exact .inl ⟨⟨xs,ys,hS,hS',.inl (yaa _)⟩,hd U H pv⟩
end L2
namespace L2
open PySem PySem.Spec PyProof.Rows
section
variable {X:Cx}
theorem zoS (hc:X.calm=true):zdg X (.builtin "min") (λxs H Q=>∃(p:Addr) (ns:List Int),xs=[.ref p]/\SqL X.K H p (ns.map V.int)/\0<ns.length/\∀ M,M∈ns->(∀ a,a∈ns->M<=a)->Q (.int M) H):=by
 intro pins s U H xs us Q I r h;obtain ⟨p,ns,rfl,hq,hne,q⟩:=h;obtain ⟨u,rfl,rx⟩:=zgD r;cases rx
 obtain ⟨its,rv,pl,_⟩:=I.list hq;have hi:=zcW rv;obtain ⟨xs,hx⟩:=hi.allInts.items;have hl':s.heap.IsList p (intItems xs):=hx ▸ pl.isList;have e1:ns=xs.toList.map (·.1):=by
  rw[<-nums_intItems,<-hx];exact (show numsOf its.toArray.toList=ns from hi.numsOf).symm
 have hsz:0<xs.size:=by
  rw[e1,yab,ybl]at hne;exact hne
 refine min_intList (I.ok.hd hc) hl' hsz λv h' tk hv hk=>?_;obtain ⟨t,rfl⟩:=intItems_at hv;obtain ⟨h1,h2⟩:=argBest_lt (numAt xs) (xs.size-1);refine ⟨.int _,H,Inv.kept (t':=tk) I hk,⟨t,rfl⟩,q _ ?_ λa ha=>?_⟩
 .rw[e1,numAt_eq];rw[yad,yac (by rw[yab,ybl];lia)];exact yaA _
 .rw[e1]at ha;obtain ⟨j,hj,rfl⟩:=mem_getD ha;rw[yab,ybl]at hj;rw[<-numAt_eq];exact h2 j .(a)
end
theorem zfD {K:Frag}{a:Addr}{g:TG}{ts:TT}{te:TE}{U:St}{H:Hp}{Q:Hp->Prop}(Pv:Nat->St->Hp->Prop)(h0:Pv 0 U H)(hl:∀ i U H,i<=xs.length->Pv i U H->SqT K H a xs)
  (hs:∀ i m x U H,xs[i]?=some x->i+m=xs.length->Pv i U H->g x U H λU2 H2=>ts U2 H2 λb H3=>if b=true then te U2 H3 λy H4=>∃ zs,H4 D=some (.lst zs)/\zs.length<sizeLine/\∃ m',m'<m/\(i+1+m'=xs.length/\Pv (i+1) U2 (upd H4 D (.lst (zs++[y])))) else ∃ m',m'<m/\(i+1+m'=xs.length/\Pv (i+1) U2 H3))
  (hd:∀ U H,Pv xs.length U H->Q H) :
  ∃ W:Nat->Nat->St->Hp->Prop,(∃ m,W 0 m U H)/\∀ i m U H,W i m U H->((Itt K a).stop i H/\Q H)\/((Itt K a).go i H/\∀ x H',(Itt K a).yld i H x H'->g x U H' λU2 H2=>ts U2 H2 λb H3=>if b=true then te U2 H3 λy H4=>∃ xs,H4 D=some (.lst xs)/\xs.length<sizeLine/\∃ m',m'<m/\W (i+1) m' U2 (upd H4 D (.lst (xs++[y]))) else ∃ m',m'<m/\W (i+1) m' U2 H3):=by
 refine ⟨λi m U H=>i+m=xs.length/\Pv i U H,⟨xs.length,by lia,h0⟩,λi m U H zq0=>?_⟩;obtain ⟨e,pv⟩:=zq0;have hS:=hl i U H .(a) pv;by_cases hi:i<xs.length
 .refine .inr ⟨⟨xs,xs[i],hS,yac hi⟩,λx H' y=>?_⟩;obtain ⟨e1,y⟩:=y;subst e1;exact hs i m x U _ (y xs hS) e pv
 .have:i=xs.length:=by lia
  subst this;exact .inl ⟨⟨xs,hS,yaa _⟩,hd U H pv⟩
end L2
namespace L2
open PySem PySem.Spec PyProof.Rows
def Itv (K:Frag)(a:Addr)(n:Nat):It:=
 ⟨λi H=>i<n/\∃ xs,SqL K H a xs/\xs.length=n,λi H x H'=>H'=H/\∀ xs,SqL K H a xs->xs.length=n->xs.reverse[i]?=some x,λi _=>i=n⟩
theorem zpb {K:Frag}(a it:Addr)(n:Nat):Turn P w K tg (Itv K a n) [it] it (λi h=>h.IsRevIter it a ((n:Int)-1-(i:Int))) where
 mem:=by simp
 obj:=λi h st b hb=>by
  have e:b=it:=by simpa using hb
  subst e;obtain ⟨o,e,c,d⟩:=st;exact ⟨o,e,λv z=>by rw[d]at z;cases z⟩
 keep:=λi h h' st k=>st.at λo e=>k it .(h) o e
 item:=by
  intro X hP hw hK hc i pins s U H E I hf st hg;subst hP hw hK;obtain ⟨hi,xs,hq,hn⟩:=hg;obtain ⟨its,rv,p,hz⟩:=I.list hq;have hx:xs[n-1-i]?=some (xs[n-1-i]' .(a)):=yac .(a);obtain ⟨u,hu,ru⟩:=rv.get hx;obtain ⟨f0,f1,f2,f3,f4,f5⟩:=hf it .(h);have e1:(n:Int)-1-(i:Int)=((n-1-i:Nat):Int):=by lia
  rw[e1]at st;refine wpAny_pyNext_rev_item st p.isList (x:=u) (by simpa using hu) λh' st' sb=>?_;have e2:((n-1-i:Nat):Int)-1=(n:Int)-1-((i+1:Nat):Int):=by lia
  rw[e2]at st';have I1:Inv X pins U H { s with heap:=h' }:=I.turned (t':=s.toks) (λb o hb e=>(sb.2 b hb).trans e) f0 f1 f3 f4 f5;obtain ⟨o,e,c,d⟩:=id st';refine ⟨u,rfl,zqe (s:={ s with heap:=h' }) e c d .(i) ⟨xs[n-1-i]' .(a),H,I1,ru,⟨rfl,λys hy hyn=>?_⟩,st',λb hb=>(hf b hb).1⟩⟩;rw[I.list_inj hy hq,ycr .(a),show xs.length-1-i=n-1-i by lia];exact hx
 done:=by
  intro X hP hw hK hc i pins s U H E I hf st hg;subst hP hw hK;have hi:i=n:=hg;subst hi;obtain ⟨f0,f1,f2,f3,f4,f5⟩:=hf it .(h);have e1:(i:Int)-1-(i:Int) = -1:=by lia
  rw[e1]at st;exact wpAny_pyNext_rev_end (I.ok.hd hc) st λh' eb=>⟨rfl,I.turned (t':=s.toks) (λb o hb e=>eb b o hb e) f0 f1 f3 f4 f5⟩
 self:=λ_ _ _ _ _ st h=>wpAny_pyIter_revIter st h
def iRev (K:Frag)(ta:TA):TI:=λU H R=>ta U H λvs H1=>∃ a xs,vs=[.ref a]/\SqL K H1 a xs/\R (Itv K a xs.length) H1
section
variable {X:Cx}
theorem zj1 {a:Expr}{p pos:Pos}(hg:Gl X "reversed")(hm:X.mg "reversed" = none)(ha:PA X [a] ta)(hs:starEach [a] X.env=[(false,eval a X.env)]:=by rfl):PI X tg (.Call (.Name "reversed" p) [a] [] pos) (iRev X.K ta):=by
 intro pins s U H R I h;refine Call_ (zfZ I hg hm boot_reversed (PyProof.Rows.callWith_type1 (thn (ha pos pins s U H _ I h) λus s1 zq0=>?_) hs rfl));obtain ⟨vs,H1,I1,r1,q1⟩:=zq0;obtain ⟨l,xs,e,hq,q⟩:=q1;subst e;cases r1 with
 | cons r rr=>
  cases rr
  cases r
  obtain ⟨its,rv,pl,hz⟩:=I1.list hq;have hl:=rv.length;refine call_reversed_list pl.isList ?_;have I2:Inv X pins U H1 { s1 with heap:=s1.heap.push (revObj l ((its.toArray.size:Int)-1)) }:=I1.kept (t':=s1.toks) λb o e=>yak _ e;have hr:(s1.heap.push (revObj l ((its.toArray.size:Int)-1))).IsRevIter s1.heap.objs.size l (((xs.length:Nat):Int)-1-((0:Nat):Int)):=by
   refine ⟨_,yaI _ rfl,rfl,?_⟩;have:(its.toArray.size:Int)-1=((xs.length:Nat):Int)-1-((0:Nat):Int):=by
    rw[yav,hl];lia
   rw[this];rfl
  refine wpAny_pyIter_revIter (s:={ s1 with heap:=s1.heap.push (revObj l ((its.toArray.size:Int)-1)) }) hr ⟨_,[s1.heap.objs.size],_,_,H1,rfl,I2,zpb l s1.heap.objs.size xs.length,hr,λb hb=>?_,q⟩;have e:b=s1.heap.objs.size:=by simpa using hb
  subst e;exact I1.fpOk (yaa _) (I1.hok.fresh (yaa _))
end
theorem zsp {K:Frag}{a:Addr}{g:TG}{tb:TS}{D:Ends}{U:St}{H:Hp}(Pv:Nat->St->Hp->Prop)(h0:Pv 0 U H)(hl:∀ i U H,i<=xs.length->Pv i U H->SqL K H a xs)
  (hs:∀ i x U H,xs.reverse[i]?=some x->Pv i U H->g x U H λU2 H2=>tb { D with nx:=Pv (i+1),ct:=Pv (i+1),bk:=D.nx } U2 H2) (hd:∀ U H,Pv xs.length U H->D.nx U H) :
  ∃ W:Nat->Nat->St->Hp->Prop,(∃ m,W 0 m U H)/\∀ i m U H,W i m U H->((Itv K a xs.length).stop i H/\D.nx U H)\/((Itv K a xs.length).go i H/\∃ N:St->Hp->Prop,(∀ U' H',N U' H'->∃ m',m'<m/\W (i+1) m' U' H')/\∀ x H',(Itv K a xs.length).yld i H x H'->g x U H' λU2 H2=>tb { D with nx:=N,ct:=N,bk:=D.nx } U2 H2):=by
 refine ⟨λi m U H=>i+m=xs.length/\Pv i U H,⟨xs.length,by lia,h0⟩,λi m U H zq0=>?_⟩;obtain ⟨e,pv⟩:=zq0;have hS:=hl i U H .(a) pv;by_cases hi:i<xs.length
 .refine .inr ⟨⟨hi,xs,hS,rfl⟩,Pv (i+1),λU' H' q=>⟨m-1,by lia,by lia,q⟩,λx H' y=>?_⟩;obtain ⟨e1,y⟩:=y;subst e1;exact hs i x U _ (y xs hS rfl) pv
 .have:i=xs.length:=by lia
  subst this;exact .inl ⟨rfl,hd U H pv⟩
end L2
namespace L2
open PySem PySem.Spec PyProof.Rows
theorem zna {k:Key}{u:Value}(h:(zaQ P w).is k u=true):RelV (kV k) u:=by
 rw[zl2]at h;rcases zbd h with ⟨i,t,rfl,rfl⟩|⟨x,t,rfl,rfl⟩
 .exact ⟨t,rfl⟩
 .exact ⟨t,rfl⟩
section
variable {X:Cx}
theorem zmm (hc:X.calm=true):zdg X (.type "list") (λxs H Q=>∃(p:Addr) (kvs:List (Key×V)),xs=[.ref p]/\H p=some (.dK kvs)/\∀ l,H l=none->Q (.ref l) (upd H l (.lst (kvs.map λkv=>kV kv.1)))):=by
 intro pins s U H xs us Q I r h;obtain ⟨p,kvs,rfl,hq,q⟩:=h;obtain ⟨u,rfl,rx⟩:=zgD r;cases rx
 obtain ⟨hz,hne,vs,rel,o,es,ep,h1,h2,h3,h4,h5,h6⟩:=zsw I.hok hq;have hlen:kvs.length=vs.length:=rel.length;refine PySem.W.kdl_call (PySem.W.kdl_dict (knd:=zaQ X.prog X.w) (kvs:=vs) (ep:=ep) hne) (I.ok.hd hc) ⟨o,es,h1,h2,h3,h4,h5,h6⟩ .(a) λh' tk acc c k e hi=>?_;have hv:Vals (kvs.map λkv=>kV kv.1) acc.toList:=by
  obtain ⟨g1,g2⟩:=hi;have key:∀(m:Nat) (kvs:List (Key×V)) (vs:List (Key×Value)) (us:List Value),KV kvs vs->us.length=vs.length->(∀(i:Nat) (v:Value),us[i]?=some v->∃ k x,vs[i]?=some (k,x)/\(zaQ X.prog X.w).is k v=true)->Vals (kvs.map λkv=>kV kv.1) us:=by
   intro m kvs
   induction kvs with
   | nil=>
    intro vs us r hl _;cases r
    have:us=[]:=yb9 hl;subst this;exact .nil
   | cons kv kvs ih=>
    intro vs us r hl hh;cases r with
    | cons a b=>
     cases us with
     | nil=>cases hl
     | cons v us=>
      refine .cons ?_ (ih _ us b (Nat.succ.inj hl) λi v e=>?_)
      .obtain ⟨k,x,e1,e2⟩:=hh 0 v rfl;cases e1
       have h9:=zna e2;have a1:kv.1=k:=a.1;rw[<-a1]at h9;exact h9
      .have:=hh (i+1) v (by simpa using e);simpa using this
  refine key 0 kvs vs acc.toList rel (by rw[ybl];exact g1) λi v e=>?_;exact g2 i v (by rw[<-Array.getElem?_toList];exact e)
 refine ⟨.ref s.heap.objs.size,_,I.laid (a:=s.heap.objs.size) (o:=.lst (kvs.map λkv=>kV kv.1)) (t':=tk) k (yaa _) ⟨?_,acc.toList,c,hv,by rw[Array.toArray_toList];exact e⟩,rfl,q _ (I.hok.fresh (yaa _))⟩;rw[yab];lia
end
end L2
namespace L2
open PySem PySem.Spec PyProof.Rows
def iSeq (K:Frag)(tl:TE):TI:=λU H R=>tl U H λx H1=>∃ a,x=.ref a/\((∃ xs,SqL K H1 a xs)/\R (Itl K a) H1\/(∃ xs,SqT K H1 a xs)/\R (Itt K a) H1)
section
variable {X:Cx}{tg:Expr}
theorem zth (hl:PE X l tl):PI X tg l (iSeq X.K tl):=by
 intro pins s U H R I h;refine thn (hl pins s U H _ I h) λv s1 zq0=>?_;obtain ⟨x,H1,I1,r1,a,e,q1⟩:=zq0;subst e;cases r1
 have new:∀ b∈[s1.heap.objs.size],FpOk X pins H1 b:=λb hb=>by
  rw[yaq.mp hb];exact I1.fpOk (yaa _) (I1.hok.fresh (yaa _))
 rcases q1 with ⟨⟨xs,hq⟩,q⟩|⟨⟨xs,hq⟩,q⟩
 .obtain ⟨its,rv,p,hz⟩:=I1.list hq;exact wpAny_pyIter_list p.isList ⟨s1.heap.objs.size,[s1.heap.objs.size],_,_,H1,rfl,Inv.kept (t':=s1.toks) I1 (λb o e=>yak _ e),ziP a _,⟨_,yaI _ rfl,rfl,rfl⟩,new,q⟩
 .obtain ⟨its,rv,p,hz⟩:=I1.tuple hq;exact wpAny_pyIter_tuple (show s1.heap.IsTuple a its.toArray from p) ⟨s1.heap.objs.size,[s1.heap.objs.size],_,_,H1,rfl,Inv.kept (t':=s1.toks) I1 (λb o e=>yak _ e),zho a _,⟨_,yaI _ rfl,rfl,rfl⟩,new,q⟩
end
end L2
namespace L2
open PySem PySem.Spec PyProof.Rows
section
variable {X:Cx}
theorem zfR:zdg X (.builtin "isinstance") (λxs H Q=>∃ a p,xs=[.ref a,.ref p]/\H p=some (.tup [.ty "list",.ty "tuple"])/\((∃ ys,H a=some (.lst ys))\/∃ ys,H a=some (.tup ys))/\Q (.bl true) H):=by
 intro pins s U H xs us Q I r h;obtain ⟨a,p,rfl,hp,ha,q⟩:=h;obtain ⟨u,w',rfl,r1,r2⟩:=zhl r;cases r1
 cases r2
 obtain ⟨_,its,rv,⟨oc,od,odt,osl⟩,h1,h2,n,h3⟩:=(show zbw X.prog X.w H s.heap p (.tup [.ty "list",.ty "tuple"]) from I.hok p _ hp);have h2:oc=.type "tuple":=h2;have h3:odt=.seq its.toArray n:=h3;subst h2 h3;obtain ⟨c1,c2,rfl,e1,e2⟩:=zhl rv;have e1:c1=.type "list":=e1;have e2:c2=.type "tuple":=e2;subst e1 e2;have fin:∀ tk,(λv s'=>∃ x H',Inv X pins U H' s'/\RelV x v/\Q x H') (Value.bool true) { s with toks:=tk }:=λtk=>⟨.bl true,H,I.tok tk,rfl,q⟩;rcases ha with ⟨ys,ha⟩|⟨ys,ha⟩
 .obtain ⟨_,_,n,_,g1⟩:=(show zbw X.prog X.w H s.heap a (.lst ys) from I.hok a _ ha);exact PySem.W.kia_tup PySem.W.kitx_list I.kIn ⟨_,g1,rfl⟩ h1 (b:=true) (by rfl) nofun fin
 .obtain ⟨_,_,_,o,g1,g2,_⟩:=(show zbw X.prog X.w H s.heap a (.tup ys) from I.hok a _ ha);exact PySem.W.kia_tup PySem.W.kitx_tuple I.kIn ⟨o,g1,g2⟩ h1 (b:=true) (by rfl) nofun fin
end
end L2
namespace HT
open PySem PySem.Spec PyProof.Rows
section
variable {prog:Program}{w:World}{A:Around}{E:Value->Shared->Prop}{s:Shared}
theorem getItem_tuple_all {t sl:Addr}{items:Array Value}{vl vu:Value}{lo hi:Option Int}{Q:Value->Shared->Prop}(ht:IsTup s.heap t items)(hs:s.heap.IsSliceOf sl vl vu .none)(pl:IsPart vl lo)(pu:IsPart vu hi)
  (hw:sIx items.size 0 lo=0/\sIx items.size items.size hi=items.size) (h:Q (.ref t) s):wpAny .(j) A (getItem (.ref t) (.ref sl)) Q E s:=by
 obtain ⟨os,hos,hcs,hds⟩:=id hs;have hTs:s.TypeIs (.ref sl) "slice":=⟨os,hos,hcs⟩;unfold getItem
 try with_reducible refine wpAny_holding ?_
 first|refine wpAny_bind (wpAny_pure ?_)|skip
 refine wpAny_bind (wpAny_sequenceKey ht.typeIs .(i) ?_);refine wpAny_bind (wpAny_callSpecial?_slot (name:=Str.ofString "__getitem__") ht.typeIs PyProof.Rows.slot_tuple_getitem (wpAny_call_entry PyProof.Rows.slot_tuple_getitem ht.typeIs entry_tuple_getitem ?_ (args_tuple_getitem _ _)));show wpAny _ _ (Builtin.Tuple.tupleItemsOf (.ref t) >>= _) _ _ s;refine wpAny_bind (tupleItemsOf_ ht ?_);refine wpAny_bind (wpAny_typeOf hTs ?_);rw[if_pos .(i)];refine wpAny_bind (zdV hs pl pu ?_);have yes:(((sIx items.size 0 lo:Nat):Int)==0&&(1:Int)==1&&(sIx items.size items.size hi-sIx items.size 0 lo)==items.size)=true:=by
  rw[hw.1,hw.2];simp
 show wpAny _ _ (if (((sIx items.size 0 lo:Nat):Int)==0&&(1:Int)==1&&(sIx items.size items.size hi-sIx items.size 0 lo)==items.size)=true then _ else _) _ _ s
 rw[if_pos yes];refine wpAny_bind ?_;unfold Builtin.Tuple.tupleIsExact;refine wpAny_bind (wpAny_typeOf ht.typeIs ?_);refine wpAny_pure ?_;rw[if_pos .(i)];exact wpAny_bind (wpAny_rule (wpAny_pure ⟨_,rfl,wpAny_pure h⟩))
end
end HT
namespace L2
open PySem PySem.Spec PyProof.Rows
section
variable {X:Cx}
def rSlX (K:Frag):V->Option Int->Option Int->Hp->VK->Prop:=λx lo hi H Q=>∃ a xs,x=.ref a/\SqT K H a xs/\
 ((HT.sIx xs.length 0 lo=0/\HT.sIx xs.length xs.length hi=xs.length)->Q (.ref a) H)/\(¬ (HT.sIx xs.length 0 lo=0/\HT.sIx xs.length xs.length hi=xs.length)->∀ p,H p=none->Q (.ref p) (upd H p (.tup (cutV xs lo hi))))
theorem zrA:SlR X (rSlX X.K):=by
 intro pins s U H x v vl vu lo hi sl Q I rx hs pl pu h;obtain ⟨a,xs,e,hx,q1,q2⟩:=h;by_cases hw:HT.sIx xs.length 0 lo=0/\HT.sIx xs.length xs.length hi=xs.length
 .subst e;cases rx
  obtain ⟨its,r,ht,hz⟩:=I.tuple hx;have hlen:its.toArray.size=xs.length:=by rw[yav];exact r.length.symm
  refine ⟨"tuple",_,PyProof.Rows.slot_tuple_getitem.lookup,ht.typeIs,?_⟩;exact HT.getItem_tuple_all ht hs pl pu (by rw[hlen];exact hw) ⟨.ref a,H,I,rfl,q1 hw⟩
 .exact zs8 pins s U H x v vl vu lo hi sl Q I rx hs pl pu ⟨a,xs,e,hx,hw,q2 hw⟩
theorem zcj {K:Frag}(h:X.K=K:=by rfl):SlR X (rSlX K):=by
 subst h;exact zrA
def ztd (K:Frag):R2:=λx y H Q=>∃ a b xs ys,x=.ref a/\y=.ref b/\SqT K H a xs/\SqT K H b ys/\ys≠[]/\xs.length+ys.length<=sizeLine/\
 (xs=[]->Q (.ref b) H)/\(xs≠[]->∀ p,H p=none->Q (.ref p) (upd H p (.tup (xs++ys))))
theorem zgT:OpR X (binaryOp .Add) (ztd X.K):=by
 intro pins s U H x y v u Q I rx ry h;obtain ⟨a,b,xs,ys,e1,e2,ha,hb,hy,hz,q1,q2⟩:=h;by_cases hx:xs=[]
 .subst e1 e2;cases rx
  cases ry
  obtain ⟨its,r1,p1,_⟩:=I.tuple ha;obtain ⟨its2,r2,p2,_⟩:=I.tuple hb;obtain ⟨⟨cls,dd,data,sl⟩,ho,hc,n,hd⟩:=id p1;obtain ⟨⟨cls2,dd2,data2,sl2⟩,ho2,hc2,n2,hd2⟩:=id p2;simp only at hc hd hc2 hd2;subst hc hd hc2 hd2;have hv:its=[]:=r1.nil_iff.mpr hx;exact concat_meets ⟨_,ho,rfl⟩ ⟨_,ho2,rfl⟩ noFill_tuple_add seq_tuple_add PySem.F.slot_tuple_add PySem.F.entry_tuple_add (PySem.F.args_tuple_add_2 _ _)
   (tuple_addW0 a b its.toArray its2.toArray n n2 dd dd2 sl sl2 (by simp[hv])) ⟨ho,ho2,.ref b,H,I,rfl,q1 hx⟩
 .exact zgU pins s U H x y v u Q I rx ry ⟨a,b,xs,ys,e1,e2,ha,hb,hx,hz,λz=>absurd z hy,λ_=>q2 hx⟩
end
end L2
namespace L2
open PySem PySem.Spec PyProof.Rows PySem.SeqAt
def hasO (o:Option Int)(v:V):Prop:=match o with
 | none=>v=.non
 | some i=>v=.int i
instance:Rep (Option Int) where
 dec:=inferInstance
 depth:=0
 has:=λ_ _ o v=>hasO o v
 mono:=λ_ h=>h
 inj:=λ{_ _ _ _ _ a b v} _ h1 h2=>by
  cases a<;>cases b
  .rfl
  .have h1:v=.non:=h1;have h2:v=.int _:=h2;rw[h1]at h2;cases h2
  .have h1:v=.int _:=h1;have h2:v=.non:=h2;rw[h1]at h2;cases h2
  .have h1:v=.int _:=h1;have h2:v=.int _:=h2;rw[V.int.inj (h1.symm.trans h2)]
 rc:=λ{_ _ _ _ _ _ a b x y u v} _ _ h1 h2 r1 r2=>by
  cases a with
  | none=>
   have h1:x=.non:=h1;subst h1;obtain rfl:u=.none:=r1;cases b with
   | none=>
    have h2:y=.non:=h2;subst h2;obtain rfl:v=.none:=r2;exact RcAt.none_none
   | some j=>
    have h2:y=.int j:=h2;subst h2;obtain ⟨t,rfl⟩:=r2;exact RcAt.none_int _ _
  | some i=>
   have h1:x=.int i:=h1;subst h1;obtain ⟨t,rfl⟩:=r1;cases b with
   | none=>
    have h2:y=.non:=h2;subst h2;obtain rfl:v=.none:=r2;exact RcAt.int_none _ _
   | some j=>
    have h2:y=.int j:=h2;subst h2;obtain ⟨t',rfl⟩:=r2;have e:decide (some i=some j)=(i==j):=by
     by_cases z:i=j
     .subst z;simp
     .rw[yan (λq=>z (yae q)),beq_eq_false_iff_ne.mpr z]
    have:=RcAt.int_int (A:=‹Around›) (s:=‹Shared›) i t j t';rw[<-e]at this;exact this
 rn:=λ{_ _ _ _ _ _ a b x y u v} _ _ h1 h2 r1 r2=>by
  cases a with
  | none=>
   have h1:x=.non:=h1;subst h1;obtain rfl:u=.none:=r1;cases b with
   | none=>
    have h2:y=.non:=h2;subst h2;obtain rfl:v=.none:=r2;exact RcNeAt.none_none
   | some j=>
    have h2:y=.int j:=h2;subst h2;obtain ⟨t,rfl⟩:=r2;exact RcNeAt.none_int _ _
  | some i=>
   have h1:x=.int i:=h1;subst h1;obtain ⟨t,rfl⟩:=r1;cases b with
   | none=>
    have h2:y=.non:=h2;subst h2;obtain rfl:v=.none:=r2;exact RcNeAt.int_none _ _
   | some j=>
    have h2:y=.int j:=h2;subst h2;obtain ⟨t',rfl⟩:=r2;have e:decide (some i=some j)=(i==j):=by
     by_cases z:i=j
     .subst z;simp
     .rw[yan (λq=>z (yae q)),beq_eq_false_iff_ne.mpr z]
    have:=RcNeAt.int_int (A:=‹Around›) (s:=‹Shared›) i t j t';rw[<-e]at this;exact this
 eq:=λ{_ _ _ _ _ _ a b x y u v} _ _ h1 h2 r1 r2=>by
  cases a with
  | none=>
   have h1:x=.non:=h1;subst h1;obtain rfl:u=.none:=r1;cases b with
   | none=>
    have h2:y=.non:=h2;subst h2;obtain rfl:v=.none:=r2;exact EqAt.same _
   | some j=>
    have h2:y=.int j:=h2;subst h2;obtain ⟨t,rfl⟩:=r2;exact EqAt.none_int _ _
  | some i=>
   have h1:x=.int i:=h1;subst h1;obtain ⟨t,rfl⟩:=r1;cases b with
   | none=>
    have h2:y=.non:=h2;subst h2;obtain rfl:v=.none:=r2;exact EqAt.int_none _ _
   | some j=>
    have h2:y=.int j:=h2;subst h2;obtain ⟨t',rfl⟩:=r2;have e:decide (some i=some j)=(i==j):=by
     by_cases z:i=j
     .subst z;simp
     .rw[yan (λq=>z (yae q)),beq_eq_false_iff_ne.mpr z]
    have:=EqAt.int_int (A:=‹Around›) (s:=‹Shared›) i t j t';rw[<-e]at this;exact this
structure Tup (α:Type) where
 l:List α
theorem Tup.ext' {α:Type}{a b:Tup α}(h:a.l=b.l):a=b:=by
 cases a
 cases b
 cases h
 rfl
instance {α:Type} [DecidableEq α]:DecidableEq (Tup α):=λa b=>if h:a.l=b.l then .isTrue (Tup.ext' h) else .isFalse λz=>h (by rw[z])
def hasT {α:Type}[Rep α](K:Frag)(H:Hp)(t:Tup α)(v:V):Prop:=∃ a xs,v=.ref a/\SqT K H a xs/\zam K H t.l xs
section
variable {α:Type}[r:Rep α]{X:Cx}{pins:List (Addr×Obj)}{U:St}{H:Hp}{s:Shared}{A:Around}{as bs:Tup α}{x y:V}{u v:Value}
theorem zlv (I:Inv X pins U H s)(h1:hasT X.K H as x)(h2:hasT X.K H bs x):as=bs:=by
 obtain ⟨a,xs,rfl,q1,h1⟩:=h1;obtain ⟨b,ys,e,q2,h2⟩:=h2;cases e
 rw[I.tuple_inj q2 q1]at h2;exact Tup.ext' (h1.inj I h2)
theorem zmF {as bs:List α}(n m:Nat)(hn:as.length=n)(hm:bs.length=m):((List.range (min n m)).all (λj=>decide (as[j]?=bs[j]?))&&n==m)=decide (as=bs):=by
 by_cases hl:as.length=bs.length
 .have e:=zfS as bs hl;have z:min n m=as.length:=by lia
  rw[z,e,beq_iff_eq.mpr (by lia:n=m),Bool.and_true]
 .rw[yan (λz=>hl (by rw[z])),beq_eq_false_iff_ne.mpr (by lia:n≠m),ybp]
theorem zoD:decide (as=bs)=decide (as.l=bs.l):=by
 by_cases h:as.l=bs.l
 .rw[yai h,yai (Tup.ext' h)]
 .rw[yan h,yan (λz=>h (by rw[z]))]
theorem zok (I:Inv X pins U H s)(hu:A.units+(Rep.depth α+1)<cLine)(h1:hasT X.K H as x)(h2:hasT X.K H bs y)(r1:RelV x u)(r2:RelV y v):RcAt A s u v (decide (as=bs)):=by
 obtain ⟨a,xs,rfl,q1,h1⟩:=h1;obtain ⟨b,ys,rfl,q2,h2⟩:=h2;cases r1
 cases r2
 obtain ⟨us,ru,pu,_⟩:=I.tuple q1;obtain ⟨vs,rv,pv,_⟩:=I.tuple q2;have l1:=ru.length;have l2:=rv.length;have m1:=h1.length;have m2:=h2.length;have hin:A.in1.units+Rep.depth α<cLine:=ya6 (ybC zdp _) .(a);have:=RcAt.tuples (A:=A) (s:=s) (l:=a) (b:=b) (items:=us.toArray) (items2:=vs.toArray) (e:=λj=>decide (as.l[j]?=bs.l[j]?)) pu pv .(a) (zgt I hin h1 h2 ru rv);rw[zmF (as:=as.l) (bs:=bs.l) us.toArray.size vs.toArray.size (by simp;lia) (by simp;lia),<-zoD]at this;exact this
theorem zsh (I:Inv X pins U H s)(hu:A.units+(Rep.depth α+1)<cLine)(h1:hasT X.K H as x)(h2:hasT X.K H bs y)(r1:RelV x u)(r2:RelV y v):RcNeAt A s u v (!decide (as=bs)):=by
 obtain ⟨a,xs,rfl,q1,h1⟩:=h1;obtain ⟨b,ys,rfl,q2,h2⟩:=h2;cases r1
 cases r2
 obtain ⟨us,ru,pu,_⟩:=I.tuple q1;obtain ⟨vs,rv,pv,_⟩:=I.tuple q2;have l1:=ru.length;have l2:=rv.length;have m1:=h1.length;have m2:=h2.length;have hin:A.in1.units+Rep.depth α<cLine:=ya6 (ybC zdp _) .(a);have:=RcNeAt.tuples (A:=A) (s:=s) (l:=a) (b:=b) (items:=us.toArray) (items2:=vs.toArray) (e:=λj=>decide (as.l[j]?=bs.l[j]?)) pu pv .(a) (zgt I hin h1 h2 ru rv);rw[zmF (as:=as.l) (bs:=bs.l) us.toArray.size vs.toArray.size (by simp;lia) (by simp;lia),<-zoD]at this;exact this
theorem zsi (I:Inv X pins U H s)(hu:A.units+(Rep.depth α+1)<cLine)(h1:hasT X.K H as x)(h2:hasT X.K H bs y)(r1:RelV x u)(r2:RelV y v):EqAt A s u v (decide (as=bs)):=by
 have rc:=zok (A:=A) I hu h1 h2 r1 r2;have h1':=id h1;have h2':=id h2;obtain ⟨a,xs,rfl,q1,h1⟩:=h1;obtain ⟨b,ys,rfl,q2,h2⟩:=h2;cases r1
 cases r2
 by_cases hab:a=b
 .subst hab;rw[yai (zlv I h1' h2')];exact EqAt.same _
 .exact EqAt.of_refs hab rc
end
instance {α:Type} [Rep α]:Rep (Tup α) where
 dec:=inferInstance
 depth:=Rep.depth α+1
 has:=hasT
 mono:=λe ⟨a,xs,h1,h2,h3⟩=>⟨a,xs,h1,h2.ext e,h3.mono e⟩
 inj:=λI h1 h2=>zlv I h1 h2
 rc:=λI hu h1 h2 r1 r2=>zok I hu h1 h2 r1 r2
 rn:=λI hu h1 h2 r1 r2=>zsh I hu h1 h2 r1 r2
 eq:=λI hu h1 h2 r1 r2=>zsi I hu h1 h2 r1 r2
end L2
namespace L2
open PySem PySem.Spec PyProof.Rows
section
variable {X:Cx}{K:Frag}
theorem zbt (h:X.K=K:=by rfl):zdg X (.type "tuple") (λxs H Q=>∃ p ys,xs=[V.ref p]/\((SqL K H p ys/\∀ l,H l=none->Q (.ref l) (upd H l (.tup ys)))\/(SqT K H p ys/\Q (.ref p) H))):=by
 subst h;exact ziB
end
end L2
namespace L2
open PySem PySem.Spec PyProof.Rows
section
variable {X:Cx}{K:Frag}{tg:Expr}
theorem zni (hl:PE X l tl)(h:X.K=K:=by rfl):PI X tg l (iTup K tl):=by
 subst h;exact zhv hl
end
end L2
namespace L2
open PySem PySem.Spec PyProof.Rows
structure ziJ (scope:Scope)(ps caps:List Str):Prop where
 kind:scope.kind=.function
 co:scope.isCoroutine=false
 gen:scope.isGenerator=false
 nocell:∀ x∈scope.names,x.2≠.cell
 par:∀ x∈ps,scope.names.lookup x=some .local
 cap:∀ x∈caps,scope.names.lookup x=some .free
 nd:(ps++caps).Nodup
def zhm (P:Program)(w:World)(K:Frag)(mg:Str->Option Value)(base:Heap)(N:List Str)(qual:Str)(scope:Scope)(f:Addr)(cd:Value)(cl:List (Str×Addr))(A:Around)(outer:List Env)(s:Shared)(H:Hp):Cx where
 prog:=P
 w:=w
 K:=K
 mg:=mg
 base:=base
 A:=A.deeper (PySem.W.envX qual scope s.heap.objs.size f cd cl)
 N:=N
 s₀:=s
 H₀:=H
 env:=PySem.W.envX qual scope s.heap.objs.size f cd cl
 outer:=outer
 stack:=PySem.W.envX qual scope s.heap.objs.size f cd cl::outer
 ex:=[]
 calm:=true
 fn:=λ_=>false
 pn:=[]
 xe:=λ_ _=>False
def zmk (c:Addr)(q:Str):Heap->Prop:=λh=>h.CodeRec (.ref c) q
def zeQ (H:Hp)(c:Addr)(q:Str):Prop:=H c=some (.ext (zmk c q))
theorem zmj (h1 h2:Heap)(x:zmk c q h1)(k:∀ o,h1.get? c=some o->h2.get? c=some o):zmk c q h2:=by
 obtain ⟨c',o,vs,t,e,ho,r⟩:=x;cases e
 exact ⟨c,o,vs,t,rfl,k o ho,r⟩
theorem zeQ.rec {w:World}{h:Heap}{c:Addr}(x:zeQ H c q)(ok:HOk P w H h):h.CodeRec (.ref c) q:=(ok c _ x).1
theorem zhu {x:Str}{u:Value}:∀{ps:List Str} {us:List Value} {i:Nat},ps.Nodup->ps[i]?=some x->us[i]?=some u->(ps.zip us).reverse.lookup x=some u
 | [],_,_,_,e,_=>by simp at e
 | _::_,[],_,_,_,e=>by simp at e
 | p::ps,v::us,0,hn,e1,e2=>by
  have e1:p=x:=by simpa using e1
  have e2:v=u:=by simpa using e2
  subst e1 e2;rw[ycp,ybD,List.lookup_append];have z:(ps.zip us).reverse.lookup p=none:=by
   rw[List.lookup_eq_none_iff];intro y hy;have:=ybQ (ybU.mp hy);simp only[beq_eq_false_iff_ne,ne_eq,bne_iff_ne];intro q;rw[yaK]at hn
   first
    | exact hn.1 (q ▸ this.1)
    | (rw[q]at hn;exact hn.1 this.1)
  rw[z];simp
 | p::ps,v::us,i+1,hn,e1,e2=>by
  rw[yaK]at hn;have ih:=zhu (ps:=ps) (us:=us) (i:=i) hn.2 (by simpa using e1) (by simpa using e2);rw[ycp,ybD,List.lookup_append,ih];rfl
def zjW (n:Nat)(tb:TE)(vcs:List V)(c:Addr)(q:Str):Sp:=λvs H Q _=>vs.length=n/\zeQ H c q/\tb (vs.map some++vcs.map some) H Q
theorem zq6 {K:Frag}{base:Heap}{k:Nat}{f c:Addr}{name qual:Str}{params:Arguments}{body:Expr}{cl:List (Str×Addr)}{pm ctv:Value}{vcs:List V}
  (S:ziJ scope ps caps) (hf:base.get? f=some (PySem.W.kla_obj name qual params body scope cl pm c ctv)) (hlen:vcs.length=caps.length)
  (hcap:∀(j:Nat) (x:Str) (v:V),caps[j]?=some x->vcs[j]?=some v->∃ a u,cl.lookup x=some a/\base.IsCell a (some u)/\RelV v u)
  (hcell:∀ x a,cl.lookup x=some a->∃ v,base.IsCell a v) (hinj:∀ x y a,cl.lookup x=some a->cl.lookup y=some a->x=y) (hhas:∀ x,scope.names.lookup x=some .free->∃ a,cl.lookup x=some a)
  (hb:∀(A:Around) (outer:List Env) (s:Shared) (H:Hp),Room k (A.deeper (PySem.W.envX qual scope s.heap.objs.size f (.ref c) cl))->PE (zhm P w K mg base (ps++caps) qual scope f (.ref c) cl A outer s H) body tb) :
  FnOk P w K mg base CX0 (k+1) f (PySem.W.kla_fn name qual params body scope cl pm (.ref c) ctv) ps (zjW ps.length tb vcs c qual):=by
 refine ⟨λvs H Q E h=>h.1,λA outer s H args us vs Q E hr e0 hbind r hsp=>?_⟩;obtain ⟨hl,hc,hq⟩:=hsp;have bk:∀ b o,base.get? b=some o->s.heap.get? b=some o:=λb o e=>(e0.bs b o e).1;have hul:us.length=ps.length:=by rw[<-r.length];exact hl
 refine PySem.W.kla_callFunE hr.depth (bk _ _ hf) rfl S.co S.gen rfl (hc.rec e0.hok) ?_;refine hbind _ _ _ _ ?_;refine wpAny_newFunctionEnv S.nocell (λy hy=>S.par _ (ybQ hy).1) (λh1 hns hsb=>⟨(e0.mod.nolimit.keeps bk).fresh _ hsb,?_⟩) S.kind;show codeAny _ _ (.expr body (PySem.W.envX qual scope s.heap.objs.size f (.ref c) cl)) _ _;have hk:∀ b o,s.heap.get? b=some o->h1.get? b=some o:=λb o e=>hsb.extBut b o (yat (yaf e)) (yak _ e);have cellK:∀ a v,base.IsCell a v->h1.IsCell a v/\H a=none:=λa v ⟨o,ho,hd⟩=>⟨⟨o,hk _ _ (bk _ _ ho),hd⟩,(e0.bs _ _ ho).2⟩;have ndps:ps.Nodup:=(ya2.mp S.nd).1;have noA:∀ b:Addr,b∉([]:List Addr):=λb z=>absurd z .(h);have I:Inv (zhm P w K mg base (ps++caps) qual scope f (.ref c) cl A outer s H) [] (vs.map some++vcs.map some) H { s with heap:=h1,toks:=s.toks+(ps.zip us).length }:=by
  refine ⟨⟨e0.mod,S.kind,rfl,rfl,yaa _,hinj,λy hy=>?_,λy a z _=>(by cases z),λ_=>hr.hd,Around.frames_deeper e0.frames,.inr ⟨rfl,rfl⟩,λb z=>absurd z (noA b),e0.bs,e0.bsz,λb _ _=>noA b,λb z=>absurd z (noA b),e0.funs,e0.frf⟩,
   rfl,e0.bare,Un.kept hk,⟨_,hns,λi y v h1' h2 h3=>?_⟩,λy a h=>?_,e0.hok.fresh (yaa _),λy a h=>?_,λp hp=>absurd (show p∈([]:List (Addr×Obj)) from hp) (by simp),e0.hok.kept hk,?_⟩
  .have hy:scope.names.lookup y=some .cell\/scope.names.lookup y=some .free:=hy;rcases hy with hy|hy
   .exact absurd rfl (S.nocell _ (PySem.mem_of_lookup hy))
   .exact hhas y hy
  .have h1':(ps++caps)[i]?=some y:=h1';by_cases hi:i<ps.length
   .rw[yba hi]at h1';rw[yba (by rw[yab];lia),yam]at h2;cases e:vs[i]? with
    | none=>rw[e]at h2;cases h2
    | some v'=>
     rw[e]at h2;cases h2
     obtain ⟨u,hu,ru⟩:=r.get e;exact ⟨u,ru,.inl ⟨S.par y (yaN h1'),zhu ndps h1' hu⟩⟩
   .rw[ya4 .(a)]at h1';rw[ya4 (by rw[yab];lia),yab,yam]at h2;cases e:vcs[i-vs.length]? with
    | none=>rw[e]at h2;cases h2
    | some v'=>
     rw[e]at h2;cases h2
     rw[hl]at e;obtain ⟨a,u,e1,e2,ru⟩:=hcap _ _ _ h1' e;exact ⟨u,ru,.inr ⟨.inr (S.cap y (yaN h1')),a,e1,(cellK _ _ e2).1⟩⟩
  .obtain ⟨v,z⟩:=hcell y a h;exact ⟨v,(cellK _ _ z).1⟩
  .obtain ⟨v,z⟩:=hcell y a h;exact (cellK _ _ z).2
  .show (vs.map some++vcs.map some).length=(ps++caps).length;rw[yah,yah,yab,yab,hl,hlen]
 refine PySem.W.kla_codeExpr (wpAny_mono (hb A outer s H (hr.deeper _) [] _ _ H Q I hq) (λu s' hu=>?_) λ_ _ z=>(show False from z).elim);obtain ⟨v,H',J,rv,q⟩:=hu;exact ⟨v,H',J.os,J.bare,J.base,J.hok,rv,q⟩
end L2
namespace L2
open PySem PySem.Spec PyProof.Rows
def Gro (Pt:Addr)(H H':Hp):Prop:=∀ b o,b≠Pt->H b=some o->H' b=some o
theorem Gro.refl (Pt:Addr)(H:Hp):Gro Pt H H:=λ_ _ _ h=>h
structure zaF (H:Hp)(Pt:Addr)(pos:Pos)(q:Str):Prop where
 ex:∃ tab:Array Value,H Pt=some (.tbl tab)/\TriplesOk tab.toList/\(codeAmong pos tab.toList=none\/∃ c,codeAmong pos tab.toList=some (.ref c)/\zeQ H c q)
theorem zaF.ext (x:zaF H Pt pos q)(e:Ext H H'):zaF H' Pt pos q:=by
 obtain ⟨tab,h1,h2,h3⟩:=x.ex;refine ⟨tab,e _ _ h1 nofun,h2,?_⟩;rcases h3 with h3|⟨c,h3,h4⟩
 .exact .inl h3
 .exact .inr ⟨c,h3,e _ _ h4 nofun⟩
theorem zaF.gro (x:zaF H Pt pos q)(e:Gro P2 H H')(hne:Pt≠P2)(h2:∃ tab,H P2=some (.tbl tab)):zaF H' Pt pos q:=by
 obtain ⟨tab,h1,h3,h4⟩:=x.ex;refine ⟨tab,e _ _ hne h1,h3,?_⟩;rcases h4 with h4|⟨c,h4,h5⟩
 .exact .inl h4
 .refine .inr ⟨c,h4,e _ _ (λz=>?_) h5⟩;obtain ⟨tab2,y⟩:=h2;rw[<-z,show H c=_ from h5]at y;cases y
def BMAt (mg:Str->Option Value)(base:Heap):Prop:=∃ bm o,mg "__builtins__" = some (.ref bm)/\bm≠builtinsNs/\bm≠mainGlobals/\base.get? bm=some o/\o.cls=.type "module"/\o.dict=some builtinsNs/\o.data=.plain
section
variable {X:Cx}{pins:List (Addr×Obj)}{U:St}{H:Hp}{s:Shared}{params:Arguments}{body:Expr}{scope:Scope}{lpos:Pos}{c Pt:Addr}{Q:Value->Shared->Prop}
theorem zly {c':Addr}{q:Str}{tab more:Array Value}{h':Heap}{tk:Nat}(I:Inv X pins U H s)(hP:H Pt=some (.tbl tab))(hx:∀ b o,b≠Pt->s.heap.get? b=some o->h'.get? b=some o)(hge:s.heap.objs.size<=c')
  (hrec:h'.CodeRec (.ref c') q) (htb:h'.get? Pt=some (PySem.W.tabObj (tab++more))):Inv X pins U (upd (upd H Pt (.tbl (tab++more))) c' (.ext (zmk c' q))) { s with heap:=h',toks:=tk }:=by
 have hfr:H c'=none:=I.hok.fresh hge;have nPc:Pt≠c':=zac hP hfr;have low:∀ b u,H b=some u->b≠c':=λb u e=>zac e hfr;have lows:∀ b o,s.heap.get? b=some o->b≠c':=λb o e=>yat (yaB (yaf e) hge);have nP:∀ b,H b=none->b≠Pt:=λb n z=>by rw[z,hP]at n;cases n
 refine I.un (t':=tk) ⟨λb o e n _ _=>hx b o (nP b n) e,λb o e n _ _=>⟨o.slots,hx b o (nP b n) e⟩,λb o e n _=>?_,λb o e _=>?_,λb xs e=>?_,λb o u e=>?_,λb ps e=>?_⟩ λa o e=>?_
 .rw[zag (lows b o e),zag (nP b n)];exact n
 .by_cases z:b=Pt
  .exact ⟨_,by rw[z];exact htb⟩
  .exact ⟨o,hx b o z e⟩
 .rw[zag (low b _ e),zag (λz=>by rw[z,hP]at e;cases e)]
  exact e
 .rw[zag (low b _ e),zag (λz=>by rw[z,hP]at e;cases e)]
  exact e
 .by_cases z:b=Pt
  .rw[z,hP]at e;cases e
   exact ⟨more,by rw[z,zag nPc,zab]⟩
  .exact ⟨#[],by rw[zag (low b _ e),zag z,e];simp⟩
 .by_cases z:a=c'
  .subst z;rw[zab]at e;cases e
   obtain ⟨c2,o2,vs,t,e2,ho2,r2⟩:=id hrec;cases e2
   exact ⟨hrec,⟨o2,ho2⟩,λh1 h2 x k=>zmj h1 h2 x k⟩
  .rw[zag z]at e;by_cases y:a=Pt
   .subst y;rw[zab]at e;cases e
    exact htb
   .rw[zag y]at e;refine (I.hok a o e).stay (λb u hb q=>hx b u ?_ q) (λb q=>?_) λb xs q=>?_
    .rcases hb with rfl|hb
     .exact y
     .intro z2;rw[z2,hP]at hb;cases hb
    .rw[zag (low b _ q),zag (λz2=>by rw[z2,hP]at q;cases q)]
     exact q
    .rw[zag (low b _ q),zag (λz2=>by rw[z2,hP]at q;cases q)]
     exact q
theorem zlp (I:Inv X pins U H s)(hdef:defaultsOf params X.env=([],[]))(hfr:∀ x,(x,NameKind.free)∈scope.names->(X.env.kindOf x=some .cell\/X.env.kindOf x=some .free))(hcode:X.env.code=.ref c)(hC:codeHdIn X.K c Pt=true)(hBM:BMAt X.mg X.base)
  (hT:zaF H Pt lpos .(f))
  (h:∀(f c':Addr) (cl:List (Str×Addr)) (pm ctv:Value) (H':Hp) (s':Shared),zhj scope X.env cl->Inv X pins U H' s'->s'.heap.get? f=some (PySem.W.kla_obj "<lambda>" (X.env.qual ++ "<lambda>") params body scope cl pm c' ctv)->H' f=none->s.heap.objs.size<=f->
   Gro Pt H H'->zaF H' Pt lpos (X.env.qual ++ "<lambda>")->zeQ H' c' (X.env.qual ++ "<lambda>")->Q (.ref f) s') :
  wpAny .(d) X.A (eval (.Lambda params body scope lpos) X.env) Q X.xe s:=by
 obtain ⟨cl,hcl⟩:=zfE (scope:=scope) (env:=X.env) λx hx=>I.ok.has x (hfr x hx);obtain ⟨tab,hP,ht,hor⟩:=hT.ex;have hPo:s.heap.get? Pt=some (PySem.W.tabObj tab):=I.hok Pt _ hP;have C:PySem.W.CodeHd s.heap c Pt:=(PySem.W.codeHd_of_K I.ok.mod.kin hC).keeps I.bk;have hgl:=I.mod.glob.keeps I.bk;have hgP:mainGlobals≠Pt:=λz=>by
  obtain ⟨o,es,ep,e,_⟩:=I.mod.glob;have:=(I.bs _ _ e).2;rw[z,hP]at this;cases this
 have hb:s.heap.BuiltinsAt X.mg Pt:=by
  obtain ⟨bm,o,b1,b2,b3,b4,b5⟩:=hBM;refine ⟨bm,o,b1,b2,b3,λz=>?_,I.bk _ _ b4,b5⟩;have:=(I.bs _ _ b4).2;rw[z,hP]at this;cases this
 refine PySem.W.kla_eval hdef ?_;rcases hor with hnone|⟨c',hsome,hca⟩
 .refine PySem.W.kla_makeFunction (clos:=cl) hcl.eq I.ok.glob hgl hcode C hPo ht hnone hgP hb λc' ctv h' tk hx hge hlt hrec htb=>?_;have hx':∀ o2 b o,b≠Pt->s.heap.get? b=some o->(h'.push o2).get? b=some o:=λo2 b o n e=>yak _ (hx b o n e);have I':=zly (c':=c') (q:=X.env.qual ++ "<lambda>") (tk:=tk) I hP (hx' _) hge (hrec.push (PySem.W.kla_obj "<lambda>" .(f) params body scope cl ((X.mg "__name__").getD .none) c' ctv)) (yak _ htb);have hsz:s.heap.objs.size<=h'.objs.size:=yaU (ya6 hge hlt);have nPc:Pt≠c':=zac hP (I.hok.fresh hge);have eT:(tab++#[rawInt lpos.line,rawInt lpos.col,.ref c']).toList=tab.toList++[rawInt lpos.line,rawInt lpos.col,.ref c']:=by simp
  have hTI:zaF (upd (upd H Pt (.tbl (tab++#[rawInt lpos.line,rawInt lpos.col,.ref c']))) c' (.ext (zmk c' (X.env.qual ++ "<lambda>")))) Pt lpos .(f):=
   ⟨_,by rw[zag nPc,zab],by rw[eT];exact TriplesOk_snoc _ _ _ _ ht,.inr ⟨c',by rw[eT];exact codeAmong_snoc _ ht hnone,zab⟩⟩
  refine h h'.objs.size c' cl _ ctv _ _ hcl I' (yaI _ rfl) ?_ hsz ?_ hTI zab
  .rw[zag (ybm hlt),zag (λz=>?_)]
   .exact I.hok.fresh hsz
   .have:=yaf hPo;rw[<-z]at this;exact absurd this (Nat.not_lt.mpr hsz)
  .intro b o n e;rw[zag (zac e (I.hok.fresh hge)),zag n];exact e
 .refine PySem.W.kla_makeFunctionHit (clos:=cl) hcl.eq I.ok.glob hgl hcode C hPo ht hsome hb λctv h' tk hk hsz=>?_;exact h h'.objs.size c' cl _ ctv H _ hcl (I.kept (t':=tk) λb o e=>yak _ (hk b o e)) (yaI _ rfl) (I.hok.fresh hsz) hsz (Gro.refl _ _) hT hca
end
end L2
namespace L2
open PySem PySem.Spec PyProof.Rows
def zch (X:Cx)(s:Shared)(H:Hp):Heap:=PySem.W.hideAll s.heap (trk s.heap H++frs X.stack)
theorem zeY {h b1 b2:Heap}:∀{l:List Env},h.FunFrames b1 l->(∀ b∈frs l,b2.get? b=none)->h.FunFrames b2 l
 | [],_,_=>trivial
 | env::l,⟨h1,⟨L,o,h2,h3,h4,h5⟩,h6⟩,k=>by
  have m:∀ b∈frs l,b∈frs (env::l):=λb hb=>by
   unfold frs;rw[ybx,h2];exact yar _ hb
  refine ⟨h1,⟨L,o,h2,k L ?_,h4,h5⟩,zeY h6 λb hb=>k b (m b hb)⟩;unfold frs;rw[ybx,h2];exact yau
section
variable {X:Cx}{pins:List (Addr×Obj)}{U:St}{H:Hp}{s:Shared}
theorem zdt {b:Addr}{o:Obj}(e:s.heap.get? b=some o)(n:H b=none)(hf:b∉frs X.stack):(zch X s H).get? b=some o:=
 PySem.W.hideAll_get _ e λhm=>by
  rcases yaw.mp hm with z|z
  .have q:(H b).isSome=true:=(yaY.mp z).2;rw[n]at q;cases q
  .exact hf z
theorem zjd {b:Addr}{o:Obj}(e:(zch X s H).get? b=some o):s.heap.get? b=some o/\H b=none/\b∉frs X.stack:=by
 have e1:=PySem.W.of_hideAll _ e;have hm:b∉trk s.heap H++frs X.stack:=λz=>by
  unfold zch at e;rw[PySem.W.hideAll_none _ z]at e;cases e
 rw[yaw,not_or]at hm;refine ⟨e1,?_,hm.2⟩;cases q:H b with
 | none=>rfl
 | some u=>exact absurd (yaY.mpr ⟨yaT.mpr (yaf e1),by rw[q];rfl⟩) hm.1
theorem zhJ (I:Inv X pins U H s):∀ b o,X.base.get? b=some o->(zch X s H).get? b=some o:=λb o e=>by
 obtain ⟨h1,h2⟩:=I.bs b o e;refine zdt h1 h2 λz=>?_;have:=(I.stack.mem z).1;rw[e]at this;cases this
theorem zhc (I:Inv X pins U H s):Env0 X.prog X.w X.K X.mg (zch X s H) X.A X.stack s H:=by
 have sub:=zhJ I;refine ⟨I.ok.frames,⟨I.mod.kin.keeps sub,I.mod.glob.keeps sub,?_,I.mod.nolimit.keeps sub⟩,λb o e=>⟨(zjd e).1,(zjd e).2.1⟩,ybP (PySem.W.hideAll_size _ _),zeY I.stack λb hb=>PySem.W.hideAll_none _ (yaZ _ hb),I.stkFree,I.hok,I.bare⟩;obtain ⟨mb,h1,h2⟩:=I.mod.blt;exact ⟨mb,h1.keeps sub,h2⟩
end
structure FV (P:Program)(w:World)(K:Frag)(mg:Str->Option Value)(base:Heap)(k:Nat)(f:Addr)(ps:List Str)(sp:Sp):Prop where
 ex:∃ fd,FnOk P w K mg base CX0 k f fd ps sp/\zdY K fd ps []/\PySem.W.FnAt f base
section
variable {X:Cx}
def zsW (X:Cx)(kr:Nat)(tf:TE)(t:TA):TE:=λU H Q=>tf U H λx H1=>∃ f k ps sp,x=.ref f/\FV X.prog X.w X.K X.mg X.base k f ps sp/\k<=kr/\t U H1 λvs H2=>sp vs H2 Q E0
theorem zic {x:Str}{e:Expr}{es:List Expr}{t:TA}{p pos:Pos}(hr:Room kr X.A)(hf:PE X (.Name x p) tf)(ha:PA X (e::es) t)
  (he:starEach (e::es) X.env=(false,eval e X.env)::starEach es X.env:=by rfl) (hpl:(backTo pos (starEach es X.env)).any (·.1)=false:=by rfl):PE X (.Call (.Name x p) (e::es) [] pos) (zsW X kr tf t):=by
 intro pins s U H Q I h;refine wpAny_Call_Name_kw (thn (hf pins s U H _ I h) λu s1 zq0=>?_);obtain ⟨x1,H1,I1,r1,q1⟩:=zq0;obtain ⟨f,k,ps,sp,rfl,hF,hk,q⟩:=q1;cases r1
 obtain ⟨fd,ok,bd,oc,od,fd2,sl,ho⟩:=hF.ex;refine PySem.W.callWith_F ⟨oc,od,fd2,sl,I1.bk _ _ ho⟩ (thn (ha pos pins s1 U H1 _ I1 q) λus s2 zq0=>?_) he hpl;obtain ⟨vs,H2,I2,r,q2⟩:=zq0;refine ⟨⟨oc,od,fd2,sl,I2.bk _ _ ho⟩,?_⟩;exact zk7 ok (hr.mono hk) bd .nil znn I2 r (by rw[yaC];exact q2)
structure ziK (X:Cx)(params:Arguments)(body:Expr)(scope:Scope)(ps caps:List Str)(cap:List Nat):Prop where
 sc:ziJ scope ps caps
 frees:∀ x,(x,NameKind.free)∈scope.names->(X.env.kindOf x=some .cell\/X.env.kindOf x=some .free)
 capAt:∀(j:Nat) (x:Str),caps[j]?=some x->∃ i:Nat,cap[j]?=some i/\X.N[i]?=some x/\(X.env.kindOf x=some .cell\/X.env.kindOf x=some .free)
 dflt:defaultsOf params X.env=([],[])
 binds:∀(cl:List (Str×Addr)) (pm cdv ct:Value) (us:List Value),us.length=ps.length->bindArgs (PySem.W.kla_fn "<lambda>" .(f) params body scope cl pm cdv ct) ⟨us,[]⟩=pure (ps.zip us)
 own:∀ x,X.fn x=true
theorem zuz {f c':Addr}{pm ctv:Value}{vcs:List V}{k n:Nat}(I:Inv X pins U H s)(L:ziK X params body scope ps caps cap)(hcl:zhj scope X.env cl)
  (ho:s.heap.get? f=some (PySem.W.kla_obj "<lambda>" .(f) params body scope cl pm c' ctv)) (hn:H f=none) (hfr:∀ b∈frs X.stack,b<n) (hge:n<=f)
  (hv:vcs.length=caps.length) (hvs:∀(j i:Nat) (v:V),cap[j]?=some i->vcs[j]?=some v->U[i]?=some (some v))
  (hb:∀(base:Heap) (f:Addr) (cd:Value) (cl:List (Str×Addr)) (A:Around) (outer:List Env) (s:Shared) (H:Hp),Room k (A.deeper (PySem.W.envX .(f) scope s.heap.objs.size f cd cl))->PE (zhm X.prog X.w X.K X.mg base (ps++caps) .(f) scope f cd cl A outer s H) body tb) :
  FV X.prog X.w X.K X.mg (zch X s H) (k+1) f ps (zjW ps.length tb vcs c' .(f)):=by
 have nf:f∉frs X.stack:=λz=>absurd (yaB (hfr f z) hge) (yaO _);have hbf:=zdt (X:=X) ho hn nf;have cellB:∀ x a v,X.env.cells.lookup x=some a->s.heap.IsCell a v->(zch X s H).IsCell a v:=λx a v e ⟨o,h1,h2⟩=>by
  refine ⟨o,zdt h1 (I.freeC x a e) λz=>?_,h2⟩;rcases yag.mp (I.stkSub a z) with y|y
  .exact I.cne x a e y
  .obtain ⟨_,o2,h3,_⟩:=I.ok.funs.mem y;exact absurd (yaB (yaf h3) (I.ok.cab x a (L.own x) e)) (yaO _)
 refine ⟨_,zq6 L.sc hbf hv (λj x v h1 h2=>?_) (λx a e=>?_) (λx y a h1 h2=>I.ok.inj x y a (hcl.sub x a h1) (hcl.sub y a h2)) (λx e=>?_) (λA outer s H hr=>hb _ f _ cl A outer s H hr),.all (L.binds cl pm (.ref c') ctv),⟨_,_,_,_,hbf⟩⟩
 ·obtain ⟨i,e1,e2,e3⟩:=L.capAt j x h1;obtain ⟨m,hm,hl⟩:=I.loc;obtain ⟨u,ru,lk⟩:=hl i x v e2 (hvs j i v e1 h2) (by
   rcases e3 with z|z
   .exact .inr (.inl z)
   .exact .inr (.inr z))
  rcases lk with ⟨z,_⟩|⟨_,a,e4,e5⟩
  .rcases e3 with y|y
   .rw[y]at z;cases z
   .rw[y]at z;cases z
  .obtain ⟨a',e6⟩:=hcl.has x (PySem.mem_of_lookup (L.sc.cap x (yaN h1)));have e7:=hcl.sub x a' e6;rw[e4]at e7;cases e7
   exact ⟨a,u,e6,cellB x a _ e4 e5,ru⟩
 .obtain ⟨v,z⟩:=I.cell x a (hcl.sub x a e);exact ⟨v,cellB x a v (hcl.sub x a e) z⟩
 .exact hcl.has x (PySem.mem_of_lookup e)
def zpe (X:Cx)(n kf:Nat)(ps:List Str)(cap:List Nat)(Pt:Addr)(lpos:Pos)(tb te:TE)(spH:Heap->Sp):TE:=λU H Q=>te U H λx1 H1=>zaF H1 Pt lpos .(f)/\∃ vcs:List V,vcs.length=n/\(∀(j i:Nat) (v:V),cap[j]?=some i->vcs[j]?=some v->U[i]?=some (some v))/\
 ∀(base:Heap) (f c':Addr) (H2:Hp),Gro Pt H1 H2->zaF H2 Pt lpos .(f)->zeQ H2 c' .(f)->FV X.prog X.w X.K X.mg base kf f ps (zjW ps.length tb vcs c' .(f))->spH base [x1,.ref f] H2 Q E0
theorem zlQ {q1 q2:Str}{lpos p pos:Pos}{spH:Heap->Sp}{k:Nat}{c Pt:Addr}
  (F:∀ base,FC X.prog X.w X.K X.mg base j x [q1,q2] (spH base)) (hr:Room k X.A) (h1:PE X e1 te) (L:ziK X params body scope ps caps cap) (hcode:X.env.code=.ref c) (hC:codeHdIn X.K c Pt=true) (hBM:BMAt X.mg X.base)
  (hb:∀(base:Heap) (f:Addr) (cd:Value) (cl:List (Str×Addr)) (A:Around) (outer:List Env) (s:Shared) (H:Hp),Room kf (A.deeper (PySem.W.envX .(f) scope s.heap.objs.size f cd cl))->PE (zhm X.prog X.w X.K X.mg base (ps++caps) .(f) scope f cd cl A outer s H) body tb)
  (hjk:j<=k:=by decide) (hg:Gl X x:=by rfl) (hdb:(x==("__debug__" : Str))=false:=by decide) (he:starEach [e1,.Lambda params body scope lpos] X.env=(false,eval e1 X.env)::starEach [.Lambda params body scope lpos] X.env:=by rfl)
  (he2:starEach [.Lambda params body scope lpos] X.env=[(false,eval (.Lambda params body scope lpos) X.env)]:=by rfl) (hpl:(backTo pos (starEach [.Lambda params body scope lpos] X.env)).any (·.1)=false:=by rfl) :
  PE X (.Call (.Name x p) [e1,.Lambda params body scope lpos] [] pos) (zpe X caps.length (kf+1) ps cap Pt lpos tb te spH):=by
 intro pins s U H Q I h;obtain ⟨g,fd,_,_,kp,m,oc,od,osl,lk⟩:=(F X.base).ex;refine wpAny_Call_Name_kw (zdO I hg m ?_ hdb);refine PySem.W.callWith_K (h₀:=X.base) I.ok.mod.kin kp ?_ he hpl;rw[he];show wpAny _ _ (spliced ((false,eval e1 X.env)::backTo pos (starEach [.Lambda params body scope lpos] X.env))) _ _ s;refine Calls.spliced_cons (thn (h1 pins s U H _ I h) λu s1 zq0=>?_);obtain ⟨x1,H1,I1,r1,q1⟩:=zq0;obtain ⟨hT,vcs,hv,hvs,q⟩:=q1;rw[he2];show wpAny _ _ (spliced ((false,eval (.Lambda params body scope lpos) X.env)::[])) _ _ s1;refine Calls.spliced_cons (zlp I1 L.dflt L.frees hcode hC hBM hT λf c' cl pm ctv H2 s2 hcl I2 ho hn hge hgr hT2 hca=>?_);refine Calls.spliced_nil ⟨I2.kIn,?_⟩;have hF:=zuz (k:=kf) (n:=s1.heap.objs.size) I2 L hcl ho hn (λb hb=>by
  obtain ⟨_,o,e,_⟩:=I1.stack.mem hb;exact yaf e) hge hv hvs hb
 have hsp:=q (zch X s2 H2) f c' H2 hgr hT2 hca hF;obtain ⟨g2,fd2,ok,bd,_,m2,_⟩:=(F (zch X s2 H2)).ex;rw[m]at m2;cases m2
 have r2:Vals [x1,.ref f] [u,.ref f]:=.cons r1 (.cons rfl .nil);refine wpAny_call (codeAny_mono (ok.run X.A X.stack s2 H2 ⟨[u,.ref f],[]⟩ [u,.ref f] [x1,.ref f] Q E0 (hr.mono hjk) (zhc I2) (bd s2 [u,.ref f] I2.kIn rfl) r2 hsp) λr s' hq=>?_);cases r with
 | error e=>exact False.elim hq
 | ok fl=>
  cases fl with
  | ret u=>exact I2.after hq
  | next=>exact False.elim hq
  | brk=>exact False.elim hq
  | cont=>exact False.elim hq
end
end L2
namespace L2
open PySem PySem.Spec PyProof.Rows
theorem znZ {K:Frag}{mg mb:Str->Option Value}{k:Nat}{fa a:Addr}{x:Str}{s₁:Shared}{vs:List Value}{ns:List Int}{tabs:List (Addr×Addr)}
  (KX:K.In s₁.heap) (hns:s₁.heap.Ns mainGlobals mg) (hb:s₁.heap.Ns builtinsNs mb) (hbb:∀ x:Str,x ≠ "__name__"->mb x=bootBuiltins x) (hlim:s₁.heap.NoLimit) (hg:s₁.gens=#[]) (hBM:BMAt mg s₁.heap)
  (hT:PySem.W.TabsAt tabs s₁.heap) (hKT:∀ q∈tabs,K.lookup q.2=none)
  (ha:s₁.heap.get? a=some { cls:=.type "list",data:=.seq vs.toArray }) (hi:IntsAre vs ns) (hl:ns.length<=sizeLine) (hr:Room k callerA)
  (F:∀ base:Heap,K.In base->base.Ns mainGlobals mg->BMAt mg base->FnOk P w K mg base CX k fa fd [x] sp) (hbind:∀(s:Shared) (u:Value),BindsTo s fd ⟨[u],[]⟩ [(x,u)])
  (hsp:∀ H:Hp,(∀ q∈tabs,H q.2=some (.tbl #[]))->SqL K H a (ns.map V.int)->sp [.ref a] H (λv _=>v=.bl true) λ_ _ _=>False)
  (hCX:∀ H e s',CX [] H s₁ (λ_ _ _=>False) e s'->False) :
  codeAny (model P w) callerA (.call (.ref fa) ⟨[.ref a],[]⟩) (λr s'=>r=.ok (.ret (.bool true))/\OldK s₁.heap s'.heap/\s'.os=s₁.os/\AllBare s'.gens) s₁:=by
 have rv:=ziM hi;have lenV:=hi.length;have tabO:∀ b,b∈tabs.map (·.2)->s₁.heap.get? b=some (PySem.W.tabObj #[])/\isCodeTable s₁.heap b/\K.lookup b=none:=λb hm=>by
  obtain ⟨q,hq,rfl⟩:=yaE.mp hm;exact ⟨(hT q hq).2,((hT q hq).1.tab (hT q hq).2).isCodeTable,hKT q hq⟩
 have nat:a∉tabs.map (·.2):=λz=>by
  have:=(tabO a z).1;rw[ha]at this;cases this
 have core:∀ Hs:Hp,(∀ b,Hs b=none\/(b=a/\Hs b=some (.frz { cls:=.type "list",data:=.seq vs.toArray } (.lst (ns.map V.int)))))->(∀ H:Hp,(∀ b,b∉tabs.map (·.2)->H b=Hs b)->SqL K H a (ns.map V.int))->(Hs a≠none->K.lookup a=none)->
   codeAny (model P w) callerA (.call (.ref fa) ⟨[.ref a],[]⟩) (λr s'=>r=.ok (.ret (.bool true))/\OldK s₁.heap s'.heap/\s'.os=s₁.os/\AllBare s'.gens) s₁:=by
  intro Hs hO hS hK;obtain ⟨H,hH⟩:∃ H:Hp,H=λb=>if b∈tabs.map (·.2) then some (.tbl #[]) else Hs b:=⟨_,rfl⟩
  have H1:∀ b,b∈tabs.map (·.2)->H b=some (.tbl #[]):=λb z=>by rw[hH];exact if_pos z
  have H2:∀ b,b∉tabs.map (·.2)->H b=Hs b:=λb z=>by rw[hH];exact if_neg z
  have cases3:∀ b,H b=none\/(b=a/\H b=some (.frz { cls:=.type "list",data:=.seq vs.toArray } (.lst (ns.map V.int))))\/(b∈tabs.map (·.2)/\H b=some (.tbl #[])):=λb=>by
   by_cases z:b∈tabs.map (·.2)
   .exact .inr (.inr ⟨z,H1 b z⟩)
   .rcases hO b with y|⟨y1,y2⟩
    .exact .inl ((H2 b z).trans y)
    .exact .inr (.inl ⟨y1,(H2 b z).trans y2⟩)
  have hok:HOk P w H s₁.heap:=λb u e=>by
   rcases cases3 b with y|⟨y1,y2⟩|⟨y1,y2⟩
   .rw[y]at e;cases e
   .rw[y2]at e;cases e
    subst y1;exact ⟨ha,by rw[yab];exact hl,vs,_,rv,ha⟩
   .rw[y2]at e;cases e
    exact (tabO b y1).1
  have base_of:∀{b:Addr} {o:Obj},s₁.heap.get? b=some o->H b=none->(hidT s₁.heap H).get? b=some o:=λe n=>zp9 e n;have noD:∀{b:Addr} {o:Obj},s₁.heap.get? b=some o->(∀ xs n,o.data≠.seq xs n)->(∀ xs,o.data≠.fields xs)->H b=none:=λ{b o} e d1 d2=>by
   rcases cases3 b with y|⟨y1,y2⟩|⟨y1,y2⟩
   .exact y
   .subst y1;rw[ha]at e;cases e
    exact absurd rfl (d1 _ _)
   .rw[(tabO b y1).1]at e;cases e
    exact absurd rfl (d2 _)
  have nsK:∀{b:Addr} {m:Str->Option Value},s₁.heap.Ns b m->(hidT s₁.heap H).Ns b m:=λ{b m} ⟨o,es,ep,e,d,r⟩=>⟨o,es,ep,base_of e (noD e (λ_ _ z=>by rw[d]at z;cases z) (λ_ z=>by rw[d]at z;cases z)),d,r⟩
  have hKb:K.In (hidT s₁.heap H):=λb o e=>base_of (KX b o e) (by
   rcases cases3 b with y|⟨y1,y2⟩|⟨y1,y2⟩
   .exact y
   .subst y1;rw[hK (by rw[<-H2 b nat,y2];exact λz=>nomatch z)]at e;cases e
   .rw[(tabO b y1).2.2]at e;cases e)
  have hM:Mod K mg (hidT s₁.heap H):=⟨hKb,nsK hns,⟨mb,nsK hb,hbb⟩,let ⟨mc,h1,h2⟩:=hlim;⟨mc,nsK h1,h2⟩⟩;have hBMb:BMAt mg (hidT s₁.heap H):=by
   obtain ⟨bm,o,b1,b2,b3,b4,b5,b6,b7⟩:=hBM;exact ⟨bm,o,b1,b2,b3,base_of b4 (noD b4 (λ_ _ z=>by rw[b7]at z;cases z) (λ_ z=>by rw[b7]at z;cases z)),b5,b6,b7⟩
  have e0:Env0 P w K mg (hidT s₁.heap H) callerA [] s₁ H:=⟨rfl,hM,λb o e=>zr7 e,ybP (zoj _ _),trivial,λb hb=>absurd (show b∈([]:List Addr) from hb) .(h),hok,.of_eq hg⟩;refine codeAny_mono ((F _ hKb (nsK hns) hBMb).run callerA [] s₁ H ⟨[.ref a],[]⟩ [.ref a] [.ref a] _ _ hr e0 (hbind s₁ (.ref a)) (.cons rfl .nil) (hsp H (λq hq=>H1 _ (List.mem_map_of_mem hq)) (hS H H2))) λr s' h=>?_;cases r with
  | error e=>exact (hCX H e s' h).elim
  | ok fl=>
   cases fl with
   | next=>exact False.elim h
   | brk=>exact False.elim h
   | cont=>exact False.elim h
   | ret u=>
    obtain ⟨v,H',os,bare,un,hok',r',q⟩:=h;have q':v=.bl true:=q;subst q';obtain rfl:u=Value.bool true:=r';have keep:∀ b o,H b=none->s₁.heap.get? b=some o->s'.heap.get? b=some o:=λb o n e=>un.keep b o e n (by intro z;exact absurd (show b∈([]:List Addr) from z) .(h)) .(h);have frz:∀ b o,b=a->H b=some (.frz { cls:=.type "list",data:=.seq vs.toArray } (.lst (ns.map V.int)))->s₁.heap.get? b=some o->s'.heap.get? b=some o:=λb o y1 y2 e=>by
     obtain ⟨e1,_⟩:=hok b _ y2;obtain ⟨e2,_⟩:=hok' b _ (un.frzs b _ _ y2);rw[e]at e1;cases e1
     exact e2
    have tbl:∀ b,H b=some (.tbl #[])->∃ ps,s'.heap.get? b=some (PySem.W.tabObj ps):=λb y=>by
     obtain ⟨more,e⟩:=un.tbls b _ y;exact ⟨_,hok' b _ e⟩
    refine ⟨rfl,⟨λb o e=>?_,λb o e=>?_⟩,os,bare⟩
    .rcases cases3 b with y|⟨y1,y2⟩|⟨y1,y2⟩
     .exact .inl (keep b o y e)
     .exact .inl (frz b o y1 y2 e)
     .obtain ⟨ps,hp⟩:=tbl b y2;obtain ⟨t1,t2,_⟩:=tabO b y1;rw[e]at t1;cases t1
      exact .inr (.inl ⟨t2,rfl,#[],ps,rfl,by rw[Array.empty_append];exact hp⟩)
    .rcases cases3 b with y|⟨y1,y2⟩|⟨y1,y2⟩
     .exact ⟨o,keep b o y e⟩
     .exact ⟨o,frz b o y1 y2 e⟩
     .obtain ⟨ps,hp⟩:=tbl b y2;exact ⟨_,hp⟩
 cases hk:K.lookup a with
 | some o=>
  have e:=KX a o hk;rw[ha]at e;cases e
  exact core (λ_=>none) (λ_=>.inl rfl) (λH _=>.inr ⟨_,vs.toArray,_,hk,rfl,rfl,rfl,by rw[yav,lenV];exact hl,by simpa using rv⟩) λz=>absurd rfl z
 | none=>
  refine core (λb=>if b=a then some (.frz { cls:=.type "list",data:=.seq vs.toArray } (.lst (ns.map V.int))) else none) (λb=>?_) (λH h=>.inl (.inr ⟨{ cls:=.type "list",data:=.seq vs.toArray },by rw[h a nat];exact if_pos rfl⟩)) λ_=>hk
  by_cases z:b=a
  .exact .inr ⟨z,if_pos z⟩
  .exact .inl (if_neg z)
theorem zo6 {l:OpenLaw}{n k:Nat}{q:Program}{loose:List Str}{XP:(Str->Option Value)->Heap->Prop}{YP:World->Heap->Prop}{d:DefRec}{K:Params->Frag}{sp:World->Sp}{x:Str}{tabs:List (Addr×Addr)}
  (hn:l.most=some n) (hn2:n<=sizeLine) (hdf:d.params.defaults=[]) (hr:Room k callerA)
  (hY:∀(w:World) (h:Heap),YP w h->(K w.params).In h) (hYT:∀(w:World) (h:Heap),YP w h->∀ q∈tabs,h.get? q.2=some (PySem.W.tabObj #[]))
  (hC:∀(w:World),∀ q∈tabs,codeHdIn (K w.params) q.1 q.2=true/\(K w.params).lookup q.2=none)
  (F:∀(w:World) (mg:Str->Option Value) (fa:Addr) (h:Heap),(K w.params).In h->h.Ns mainGlobals mg->mg d.name=some (.ref fa)->
   ∃ fd:FuncData,(∀(s:Shared) (u:Value),BindsTo s fd ⟨[u],[]⟩ [(x,u)])/\
    ∀ base:Heap,(K w.params).In base->base.Ns mainGlobals mg->BMAt mg base->FnOk l.prog w (K w.params) mg base CX0 k fa fd [x] (sp w))
  (hsp:∀(w:World) (H:Hp) (a:Addr) (ns:List Int),ns.length<=n->(∀ q∈tabs,H q.2=some (.tbl #[]))->SqL (K w.params) H a (ns.map V.int)->sp w [.ref a] H (λv _=>v=.bl true) λ_ _ _=>False) :
  PySem.W.WalkO q loose XP YP l.row.toRowW d [] (λf vs=>PySem.call f vs):=by
 refine Att.attach_call hn hdf λw s₀ s₁ mg mb fa o pm cd doc a vs ns G Y ho hd hcd hmg hobj hints hlen hg=>?_;have KX:=hY w _ Y;obtain ⟨fd,hb,hF⟩:=F w mg fa _ KX G.T.g hmg;have hBM:BMAt mg s₁.heap:=by
  obtain ⟨bm,ob,b1,b2,b3,b4,b5,b6⟩:=G.T.bmain;refine ⟨bm,ob,b1,b2,λz=>?_,b3,b4,b5,b6⟩;obtain ⟨o,es,ep,e,hd,_⟩:=G.T.g;rw[z,e]at b3;cases b3
  rw[hd]at b6;cases b6
 exact znZ (tabs:=tabs) KX G.T.g G.T.b G.T.builtins G.T.nolimit hg hBM (λq hq=>⟨PySem.W.codeHd_of_K KX (hC w q hq).1,hYT w _ Y q hq⟩) (λq hq=>(hC w q hq).2) hobj hints (yax hlen hn2) hr hF hb (λH hO hS=>hsp w H a ns hlen hO hS) λH e s' z=>z
structure DFT (K:Frag)(mg:Str->Option Value)(x:Str)(st:Stmt)(ps:List Str)(c Pt:Addr):Prop where
 ex:∃(f:Addr) (oc:Value) (od:Option Addr) (kV dc pm:Value) (an:Option Addr) (ct:Value) (osl:Array (Option Value)),K.lookup f=some ⟨oc,od,.func (fnOf x x (zcf st) (zbk st) (zah st) .none kV dc pm an (.ref c) ct),osl⟩/\
  codeIn K (.ref c) x=true/\keepIn K (.ref f)=true/\mg x=some (.ref f)/\zdY K (fnOf x x (zcf st) (zbk st) (zah st) .none kV dc pm an (.ref c) ct) ps []
 hd:codeHdIn K c Pt=true
theorem DFT.ok {w:World}{K:Frag}{mg:Str->Option Value}{base:Heap}{st:Stmt}{N:List Str}{k:Nat}{sp:Sp}{c:Addr}(D:DFT K mg x st ps c Pt)(S:zap N ps (zah st))(len:∀ vs H Q E,sp vs H Q E->vs.length=ps.length)
  (hbody:∀(f:Addr) (A:Around) (outer:List Env) (s:Shared) (H:Hp) (vs:List V) (Q:VK) (E:XK),Room k (A.deeper (envOfC x (zah st) s.heap.objs.size f (.ref c)))->sp vs H Q E->
   ∃ t,PSs (cxOf CX0 P w K mg base N x (zah st) f (.ref c) A outer s H E).nox (zbk st) t/\t { nx:=λ_ H'=>Q .non H',rt:=Q } (zcV N vs) H):FC P w K mg base (k+1) x ps sp:=by
 obtain ⟨f,oc,od,kV,dc,pm,an,ct,osl,lk,hcd,kp,m,bd⟩:=D.ex;refine ⟨f,_,zsq lk hcd S len λA outer s H vs Q E hr hsp=>?_,bd,kp,m,oc,od,osl,lk⟩;obtain ⟨t,h,q⟩:=hbody f A outer s H vs Q E hr hsp;exact ⟨t,h.nox,q⟩
theorem zpc {K:Frag}{x:Str}{c Pt f:Addr}{oc:Value}{od:Option Addr}{fd:FuncData}{sl:Array (Option Value)}(a:nsIn K mainGlobals x=some (some (.ref f)))(l:K.lookup f=some ⟨oc,od,.func fd,sl⟩)(t:tabIn K x=some (c,Pt)):fd.code=.ref c:=by
 unfold tabIn at t;rw[a]at t;dsimp only at t;rw[l]at t;dsimp only at t;split at t
 .rename_i c2 hc;split at t
  .split at t
   .cases t
    exact hc
   .cases t
  .cases t
 .cases t
end L2
namespace L2
open PySem PySem.Spec PyProof.Rows
theorem zjl {X:Cx}{params:Arguments}{body:Expr}{osc:Scope}{N:List Str}{cap:List Nat}(sc:ziJ scope ps caps)
  (h1:∀ p∈scope.names,p.2=NameKind.free->osc.names.lookup p.1=some NameKind.cell) (h2:∀ p∈caps.zip cap,N[p.2]?=some p.1/\osc.names.lookup p.1=some NameKind.cell) (hl:caps.length=cap.length)
  (ho:X.env.scope=osc) (hN:X.N=N) (d:defaultsOf params X.env=([],[]))
  (b:∀(cl:List (Str×Addr)) (pm cdv ct:Value) (us:List Value),us.length=ps.length->bindArgs (PySem.W.kla_fn "<lambda>" .(f) params body scope cl pm cdv ct) ⟨us,[]⟩=pure (ps.zip us))
  (o:∀ x,X.fn x=true):ziK X params body scope ps caps cap:=by
 have hk:∀ x,X.env.kindOf x=osc.names.lookup x:=λx=>by
  unfold Env.kindOf;rw[ho]
 refine ⟨sc,λx hx=>.inl ?_,λj x hj=>?_,d,b,o⟩
 .rw[hk];exact h1 (x,.free) hx rfl
 .have hj':=(yaj.mp hj).1;have hc:cap[j]?=some (cap[j]' .(a)):=yac _;have hz:(caps.zip cap)[j]?=some (x,cap[j]' .(a)):=by
   rw[List.getElem?_zip_eq_some];exact ⟨hj,hc⟩
  obtain ⟨a1,a2⟩:=h2 _ (yaN hz);refine ⟨_,hc,?_,.inl ?_⟩
  .rw[hN];exact a1
  .rw[hk];exact a2
end L2
namespace L2
open PySem PySem.Spec PyProof.Rows
structure Sub (K:Frag)(mg:Str->Option Value)(b1 b2:Heap):Prop where
 mod:Mod K mg b1
 get:∀ b o,b1.get? b=some o->b2.get? b=some o
 size:b1.objs.size<=b2.objs.size
section
variable {P:Program}{w:World}{K:Frag}{mg:Str->Option Value}{b1 b2:Heap}{k:Nat}{f:Addr}{ps:List Str}{sp:Sp}
theorem FnOk.lift {fd:FuncData}(F:FnOk P w K mg b1 CX k f fd ps sp)(S:Sub K mg b1 b2):FnOk P w K mg b2 CX k f fd ps sp:=
 ⟨F.len,λA outer s H args us vs Q E hr e0=>F.run A outer s H args us vs Q E hr ⟨e0.frames,S.mod,λb o e=>e0.bs b o (S.get b o e),yax S.size e0.bsz,zeY e0.funs (λb hb=>by
  cases q:b1.get? b with
  | none=>rfl
  | some o=>
   have z:=(e0.funs.mem hb).1;rw[S.get b o q]at z;exact nomatch z),e0.frf,e0.hok,e0.bare⟩⟩
theorem FV.lift (F:FV P w K mg b1 k f ps sp)(S:Sub K mg b1 b2):FV P w K mg b2 k f ps sp:=by
 obtain ⟨fd,ok,bd,oc,od,fd2,sl,ho⟩:=F.ex;exact ⟨fd,FnOk.lift ok S,bd,oc,od,fd2,sl,S.get _ _ ho⟩
theorem BMAt.lift (h:BMAt mg b1)(S:Sub K mg b1 b2):BMAt mg b2:=by
 obtain ⟨bm,o,h1,h2,h3,h4,h5⟩:=h;exact ⟨bm,o,h1,h2,h3,S.get _ _ h4,h5⟩
end
def zsV (P:Program)(w:World)(K:Frag)(mg:Str->Option Value)(base:Heap)(kr:Nat)(tf:TE)(t:TA):TE:=λU H Q=>tf U H λx H1=>∃ f k ps sp,x=.ref f/\FV P w K mg base k f ps sp/\k<=kr/\t U H1 λvs H2=>sp vs H2 Q E0
theorem zpw (P:Program)(w:World)(K:Frag)(mg:Str->Option Value)(base:Heap){X:Cx}{x:Str}{e:Expr}{es:List Expr}{t:TA}{p pos:Pos}(hr:Room kr X.A)(hf:PE X (.Name x p) tf)(ha:PA X (e::es) t)
  (h1:X.prog=P:=by rfl) (h2:X.w=w:=by rfl) (h3:X.K=K:=by rfl) (h4:X.mg=mg:=by rfl) (h5:X.base=base:=by rfl)
  (he:starEach (e::es) X.env=(false,eval e X.env)::starEach es X.env:=by rfl) (hpl:(backTo pos (starEach es X.env)).any (·.1)=false:=by rfl):PE X (.Call (.Name x p) (e::es) [] pos) (zsV P w K mg base kr tf t):=by
 subst h1 h2 h3 h4 h5;exact zic hr hf ha he hpl
section
variable {X:Cx}{pins:List (Addr×Obj)}{U:St}{H:Hp}{s:Shared}
theorem zdu (I:Inv X pins U H s):Sub X.K X.mg X.base (zch X s H):=⟨I.ok.mod,zhJ I,yax I.env0.bsz (ybP (PySem.W.hideAll_size _ _).symm)⟩
def zo2 (X:Cx)(n kf:Nat)(ps:List Str)(cap:List Nat)(Pt:Addr)(lpos:Pos)(tb:Heap->TE)(U:St)(H1:Hp)(q:Heap->Addr->Hp->Prop):Prop:=zaF H1 Pt lpos .(f)/\∃ vcs:List V,vcs.length=n/\(∀(j i:Nat) (v:V),cap[j]?=some i->vcs[j]?=some v->U[i]?=some (some v))/\
 ∀(base:Heap) (f c':Addr) (H2:Hp),Gro Pt H1 H2->zaF H2 Pt lpos .(f)->zeQ H2 c' .(f)->Sub X.K X.mg X.base base->FV X.prog X.w X.K X.mg base kf f ps (zjW ps.length (tb base) vcs c' .(f))->q base f H2
theorem zq9 {f c':Addr}{pm ctv:Value}{vcs:List V}{k n:Nat}(I:Inv X pins U H s)(L:ziK X params body scope ps caps cap)(hcl:zhj scope X.env cl)
  (ho:s.heap.get? f=some (PySem.W.kla_obj "<lambda>" .(f) params body scope cl pm c' ctv)) (hn:H f=none) (hfr:∀ b∈frs X.stack,b<n) (hge:n<=f)
  (hv:vcs.length=caps.length) (hvs:∀(j i:Nat) (v:V),cap[j]?=some i->vcs[j]?=some v->U[i]?=some (some v))
  (hb:∀(f:Addr) (cd:Value) (cl:List (Str×Addr)) (A:Around) (outer:List Env) (s1:Shared) (H1:Hp),Room k (A.deeper (PySem.W.envX .(f) scope s1.heap.objs.size f cd cl))->PE (zhm X.prog X.w X.K X.mg (zch X s H) (ps++caps) .(f) scope f cd cl A outer s1 H1) body tb) :
  FV X.prog X.w X.K X.mg (zch X s H) (k+1) f ps (zjW ps.length tb vcs c' .(f)):=by
 have nf:f∉frs X.stack:=λz=>absurd (yaB (hfr f z) hge) (yaO _);have hbf:=zdt (X:=X) ho hn nf;have cellB:∀ x a v,X.env.cells.lookup x=some a->s.heap.IsCell a v->(zch X s H).IsCell a v:=λx a v e ⟨o,h1,h2⟩=>by
  refine ⟨o,zdt h1 (I.freeC x a e) λz=>?_,h2⟩;rcases yag.mp (I.stkSub a z) with y|y
  .exact I.cne x a e y
  .obtain ⟨_,o2,h3,_⟩:=I.ok.funs.mem y;exact absurd (yaB (yaf h3) (I.ok.cab x a (L.own x) e)) (yaO _)
 refine ⟨_,zq6 L.sc hbf hv (λj x v h1 h2=>?_) (λx a e=>?_) (λx y a h1 h2=>I.ok.inj x y a (hcl.sub x a h1) (hcl.sub y a h2)) (λx e=>?_) (λA outer s H hr=>hb f _ cl A outer s H hr),.all (L.binds cl pm (.ref c') ctv),⟨_,_,_,_,hbf⟩⟩
 ·obtain ⟨i,e1,e2,e3⟩:=L.capAt j x h1;obtain ⟨m,hm,hl⟩:=I.loc;obtain ⟨u,ru,lk⟩:=hl i x v e2 (hvs j i v e1 h2) (by
   rcases e3 with z|z
   .exact .inr (.inl z)
   .exact .inr (.inr z))
  rcases lk with ⟨z,_⟩|⟨_,a,e4,e5⟩
  .rcases e3 with y|y
   .rw[y]at z;cases z
   .rw[y]at z;cases z
  .obtain ⟨a',e6⟩:=hcl.has x (PySem.mem_of_lookup (L.sc.cap x (yaN h1)));have e7:=hcl.sub x a' e6;rw[e4]at e7;cases e7
   exact ⟨a,u,e6,cellB x a _ e4 e5,ru⟩
 .obtain ⟨v,z⟩:=I.cell x a (hcl.sub x a e);exact ⟨v,cellB x a v (hcl.sub x a e) z⟩
 .exact hcl.has x (PySem.mem_of_lookup e)
theorem zlo {tb:Heap->TE}{c Pt:Addr}{Qv:List Value->Shared->Prop}(I:Inv X pins U H s)
  (L:ziK X params body scope ps caps cap) (hcode:X.env.code=.ref c) (hC:codeHdIn X.K c Pt=true) (hBM:BMAt X.mg X.base)
  (hb:∀(base:Heap) (f:Addr) (cd:Value) (cl:List (Str×Addr)) (A:Around) (outer:List Env) (s:Shared) (H:Hp),Sub X.K X.mg X.base base->Room kf (A.deeper (PySem.W.envX .(f) scope s.heap.objs.size f cd cl))->PE (zhm X.prog X.w X.K X.mg base (ps++caps) .(f) scope f cd cl A outer s H) body (tb base))
  (hg:zo2 X caps.length (kf+1) ps cap Pt lpos tb U H q) (h:∀ f H2 s2,Inv X pins U H2 s2->q (zch X s2 H2) f H2->Qv [.ref f] s2):wpAny .(d) X.A (spliced [(false,eval (.Lambda params body scope lpos) X.env)]) Qv X.xe s:=by
 obtain ⟨hT,vcs,hv,hvs,q⟩:=hg;refine Calls.spliced_cons (zlp I L.dflt L.frees hcode hC hBM hT λf c' cl pm ctv H2 s2 hcl I2 ho hn hge hgr hT2 hca=>?_);have S:=zdu I2;have hF:=zq9 (k:=kf) (n:=s.heap.objs.size) (tb:=tb (zch X s2 H2)) I2 L hcl ho hn (λb hb=>by
  obtain ⟨_,o,e,_⟩:=I.stack.mem hb;exact yaf e) hge hv hvs (λf cd cl A outer s H hr=>hb _ f cd cl A outer s H S hr)
 exact Calls.spliced_nil (h f H2 s2 I2 (q _ f c' H2 hgr hT2 hca S hF))
theorem zoy {x:Str}{k:Nat}{g:Addr}{Q:VK}{us:List Value}{vs:List V}(I:Inv X pins U H s)(m:X.mg x=some (.ref g))(F:FC X.prog X.w X.K X.mg (zch X s H) j x qs sp)(hr:Room k X.A)(hjk:j<=k)(r:Vals vs us)(h:sp vs H Q E0) :
  wpAny .(d) X.A (call (.ref g) us) (EP X pins U Q) X.xe s:=by
 obtain ⟨g2,fd2,ok,bd,_,m2,_⟩:=F.ex;rw[m]at m2;cases m2
 refine wpAny_call (codeAny_mono (ok.run X.A X.stack s H ⟨us,[]⟩ us vs Q E0 (hr.mono hjk) (zhc I) (by simpa using bd s us I.kIn (by rw[yaC,<-r.length];exact ok.len _ _ _ _ h)) r h) λr s' hq=>?_);cases r with
 | error e=>exact False.elim hq
 | ok fl=>
  cases fl with
  | ret u=>exact I.after hq
  | next=>exact False.elim hq
  | brk=>exact False.elim hq
  | cont=>exact False.elim hq
end
section
variable {X:Cx}
def zmN (X:Cx)(n kf:Nat)(ps:List Str)(cap:List Nat)(Pt:Addr)(lpos:Pos)(tb:Heap->TE)(te:TE)(spH:Heap->Sp):TE:=λU H Q=>te U H λx1 H1=>zo2 X n kf ps cap Pt lpos tb U H1 λbase f H2=>spH base [x1,.ref f] H2 Q E0
theorem zj3 {lpos p pos:Pos}{tb:Heap->TE}{spH:Heap->Sp}{k:Nat}{c Pt:Addr}
  (F:∀ base,Sub X.K X.mg X.base base->FC X.prog X.w X.K X.mg base j x qs (spH base)) (hr:Room k X.A) (h1:PE X e1 te) (L:ziK X params body scope ps caps cap) (hcode:X.env.code=.ref c) (hC:codeHdIn X.K c Pt=true) (hBM:BMAt X.mg X.base)
  (hb:∀(base:Heap) (f:Addr) (cd:Value) (cl:List (Str×Addr)) (A:Around) (outer:List Env) (s:Shared) (H:Hp),Sub X.K X.mg X.base base->Room kf (A.deeper (PySem.W.envX .(f) scope s.heap.objs.size f cd cl))->PE (zhm X.prog X.w X.K X.mg base (ps++caps) .(f) scope f cd cl A outer s H) body (tb base))
  (hjk:j<=k:=by decide) (hg:Gl X x:=by rfl) (hdb:(x==("__debug__" : Str))=false:=by decide) (he:starEach [e1,.Lambda params body scope lpos] X.env=(false,eval e1 X.env)::starEach [.Lambda params body scope lpos] X.env:=by rfl)
  (he2:starEach [.Lambda params body scope lpos] X.env=[(false,eval (.Lambda params body scope lpos) X.env)]:=by rfl) (hpl:(backTo pos (starEach [.Lambda params body scope lpos] X.env)).any (·.1)=false:=by rfl) :
  PE X (.Call (.Name x p) [e1,.Lambda params body scope lpos] [] pos) (zmN X caps.length (kf+1) ps cap Pt lpos tb te spH):=by
 intro pins s U H Q I h;obtain ⟨g,fd,_,_,kp,m,oc,od,osl,lk⟩:=(F X.base ⟨I.ok.mod,λ_ _ e=>e,yaa _⟩).ex;refine wpAny_Call_Name_kw (zdO I hg m ?_ hdb);refine PySem.W.callWith_K (h₀:=X.base) I.ok.mod.kin kp ?_ he hpl;rw[he];show wpAny _ _ (spliced ((false,eval e1 X.env)::backTo pos (starEach [.Lambda params body scope lpos] X.env))) _ _ s;refine Calls.spliced_cons (thn (h1 pins s U H _ I h) λu s1 zq0=>?_);obtain ⟨x1,H1,I1,r1,q1⟩:=zq0;rw[he2];show wpAny _ _ (spliced [(false,eval (.Lambda params body scope lpos) X.env)]) _ _ s1;exact zlo I1 L hcode hC hBM hb q1 λf H2 s2 I2 hsp=>⟨I2.kIn,zoy I2 m (F _ (zdu I2)) hr hjk (vs:=[x1,.ref f]) (.cons r1 (.cons rfl .nil)) hsp⟩
def zlK (X:Cx)(n kf:Nat)(ps:List Str)(cap:List Nat)(Pt:Addr)(lpos:Pos)(tb:Heap->TE)(te te2:TE)(spH:Heap->Sp):TE:=λU H Q=>te U H λx1 H1=>te2 U H1 λx2 H2=>zo2 X n kf ps cap Pt lpos tb U H2 λbase f H3=>spH base [x1,x2,.ref f] H3 Q E0
theorem zi8 {lpos p pos:Pos}{tb:Heap->TE}{spH:Heap->Sp}{k:Nat}{c Pt:Addr}
  (F:∀ base,Sub X.K X.mg X.base base->FC X.prog X.w X.K X.mg base j x qs (spH base)) (hr:Room k X.A) (h1:PE X e1 te) (h2:PE X e2 te2) (L:ziK X params body scope ps caps cap) (hcode:X.env.code=.ref c) (hC:codeHdIn X.K c Pt=true) (hBM:BMAt X.mg X.base)
  (hb:∀(base:Heap) (f:Addr) (cd:Value) (cl:List (Str×Addr)) (A:Around) (outer:List Env) (s:Shared) (H:Hp),Sub X.K X.mg X.base base->Room kf (A.deeper (PySem.W.envX .(f) scope s.heap.objs.size f cd cl))->PE (zhm X.prog X.w X.K X.mg base (ps++caps) .(f) scope f cd cl A outer s H) body (tb base))
  (hjk:j<=k:=by decide) (hg:Gl X x:=by rfl) (hdb:(x==("__debug__" : Str))=false:=by decide) (he:starEach [e1,e2,.Lambda params body scope lpos] X.env=(false,eval e1 X.env)::starEach [e2,.Lambda params body scope lpos] X.env:=by rfl)
  (he2:starEach [e2,.Lambda params body scope lpos] X.env=[(false,eval e2 X.env),(false,eval (.Lambda params body scope lpos) X.env)]:=by rfl) (hpl:(backTo pos (starEach [e2,.Lambda params body scope lpos] X.env)).any (·.1)=false:=by rfl) :
  PE X (.Call (.Name x p) [e1,e2,.Lambda params body scope lpos] [] pos) (zlK X caps.length (kf+1) ps cap Pt lpos tb te te2 spH):=by
 intro pins s U H Q I h;obtain ⟨g,fd,_,_,kp,m,oc,od,osl,lk⟩:=(F X.base ⟨I.ok.mod,λ_ _ e=>e,yaa _⟩).ex;refine wpAny_Call_Name_kw (zdO I hg m ?_ hdb);refine PySem.W.callWith_K (h₀:=X.base) I.ok.mod.kin kp ?_ he hpl;rw[he];show wpAny _ _ (spliced ((false,eval e1 X.env)::backTo pos (starEach [e2,.Lambda params body scope lpos] X.env))) _ _ s;refine Calls.spliced_cons (thn (h1 pins s U H _ I h) λu s1 zq0=>?_);obtain ⟨x1,H1,I1,r1,q1⟩:=zq0;rw[he2];show wpAny _ _ (spliced ((false,eval e2 X.env)::[(false,eval (.Lambda params body scope lpos) X.env)])) _ _ s1;refine Calls.spliced_cons (thn (h2 pins s1 U H1 _ I1 q1) λu2 s2 zq0=>?_);obtain ⟨x2,H2,I2,r2,q2⟩:=zq0;exact zlo I2 L hcode hC hBM hb q2 λf H3 s3 I3 hsp=>⟨I3.kIn,zoy I3 m (F _ (zdu I3)) hr hjk (vs:=[x1,x2,.ref f]) (.cons r1 (.cons r2 (.cons rfl .nil))) hsp⟩
end
theorem zqh {K:Frag}{a:Addr}{xs ys:List V}{g:TG}{tb:TS}{D:Ends}{U:St}{H:Hp}(hlen:ys.length<=xs.length)(Pv:Nat->St->Hp->Prop)(h0:Pv 0 U H)(hl:∀ i U H,i<=ys.length->Pv i U H->SqL K H a xs/\SqL K H b ys)
  (hs:∀ i x y U H p,xs[i]?=some x->ys[i]?=some y->Pv i U H->H p=none->g (.ref p) U (upd H p (.tup [x,y])) λU2 H2=>tb { D with nx:=Pv (i+1),ct:=Pv (i+1),bk:=D.nx } U2 H2) (hd:∀ U H,Pv ys.length U H->D.nx U H) :
  ∃ W:Nat->Nat->St->Hp->Prop,(∃ m,W 0 m U H)/\∀ i m U H,W i m U H->((Itz K a b).stop i H/\D.nx U H)\/((Itz K a b).go i H/\∃ N:St->Hp->Prop,(∀ U' H',N U' H'->∃ m',m'<m/\W (i+1) m' U' H')/\∀ x H',(Itz K a b).yld i H x H'->g x U H' λU2 H2=>tb { D with nx:=N,ct:=N,bk:=D.nx } U2 H2):=by
 refine ⟨λi m U H=>i+m=ys.length/\Pv i U H,⟨ys.length,by lia,h0⟩,λi m U H zq0=>?_⟩;obtain ⟨e,pv⟩:=zq0;obtain ⟨hS,hS'⟩:=hl i U H .(a) pv;by_cases hi:i<ys.length
 .refine .inr ⟨⟨xs,ys,xs[i]' .(a),ys[i],hS,hS',yac .(a),yac hi⟩,Pv (i+1),λU' H' q=>⟨m-1,by lia,by lia,q⟩,λx H' y=>?_⟩;obtain ⟨p,z,z',rfl,hp,hz,hz',rfl⟩:=y;exact hs i z z' U H p (hz xs hS) (hz' ys hS') pv hp
 .have:i=ys.length:=by lia
  subst this;exact .inl ⟨⟨xs,ys,hS,hS',.inr (yaa _)⟩,hd U H pv⟩
end L2
namespace L2
open PySem PySem.Spec PyProof.Rows
def Oth (p1 p2:Pos):Prop:=(((p1.line:Int)==(p2.line:Int))&&((p1.col:Int)==(p2.col:Int)))=false
theorem zkF {c:Value}(ho:Oth p1 p2)(l:List Value)(h:TriplesOk l):codeAmong p2 (l++[rawInt p1.line,rawInt p1.col,c])=codeAmong p2 l:=by
 fun_induction TriplesOk l with
 | case1=>
  unfold Oth at ho;simp only[List.nil_append,codeAmong,rawInt];rw[ho];rfl
 | case2 a t b u x rest ih=>
  simp only[List.cons_append,codeAmong];rw[ih h]
 | case3 l h1 h2=>exact h.elim
section
variable {X:Cx}{pins:List (Addr×Obj)}{U:St}{H:Hp}{s:Shared}{params:Arguments}{body:Expr}{scope:Scope}{lpos:Pos}{c Pt:Addr}{Q:Value->Shared->Prop}
theorem zn1 (I:Inv X pins U H s)(hdef:defaultsOf params X.env=([],[]))(hfr:∀ x,(x,NameKind.free)∈scope.names->(X.env.kindOf x=some .cell\/X.env.kindOf x=some .free))(hcode:X.env.code=.ref c)(hC:codeHdIn X.K c Pt=true)(hBM:BMAt X.mg X.base)
  (hT:zaF H Pt lpos .(f))
  (h:∀(f c':Addr) (cl:List (Str×Addr)) (pm ctv:Value) (H':Hp) (s':Shared),zhj scope X.env cl->Inv X pins U H' s'->s'.heap.get? f=some (PySem.W.kla_obj "<lambda>" (X.env.qual ++ "<lambda>") params body scope cl pm c' ctv)->H' f=none->s.heap.objs.size<=f->
   Gro Pt H H'->zaF H' Pt lpos (X.env.qual ++ "<lambda>")->zeQ H' c' (X.env.qual ++ "<lambda>")->(∀ p2 q2,Oth lpos p2->zaF H Pt p2 q2->zaF H' Pt p2 q2)->Q (.ref f) s') :
  wpAny .(d) X.A (eval (.Lambda params body scope lpos) X.env) Q X.xe s:=by
 obtain ⟨cl,hcl⟩:=zfE (scope:=scope) (env:=X.env) λx hx=>I.ok.has x (hfr x hx);obtain ⟨tab,hP,ht,hor⟩:=hT.ex;have hPo:s.heap.get? Pt=some (PySem.W.tabObj tab):=I.hok Pt _ hP;have C:PySem.W.CodeHd s.heap c Pt:=(PySem.W.codeHd_of_K I.ok.mod.kin hC).keeps I.bk;have hgl:=I.mod.glob.keeps I.bk;have hgP:mainGlobals≠Pt:=λz=>by
  obtain ⟨o,es,ep,e,_⟩:=I.mod.glob;have:=(I.bs _ _ e).2;rw[z,hP]at this;cases this
 have hb:s.heap.BuiltinsAt X.mg Pt:=by
  obtain ⟨bm,o,b1,b2,b3,b4,b5⟩:=hBM;refine ⟨bm,o,b1,b2,b3,λz=>?_,I.bk _ _ b4,b5⟩;have:=(I.bs _ _ b4).2;rw[z,hP]at this;cases this
 refine PySem.W.kla_eval hdef ?_;rcases hor with hnone|⟨c',hsome,hca⟩
 .refine PySem.W.kla_makeFunction (clos:=cl) hcl.eq I.ok.glob hgl hcode C hPo ht hnone hgP hb λc' ctv h' tk hx hge hlt hrec htb=>?_;have hx':∀ o2 b o,b≠Pt->s.heap.get? b=some o->(h'.push o2).get? b=some o:=λo2 b o n e=>yak _ (hx b o n e);have I':=zly (c':=c') (q:=X.env.qual ++ "<lambda>") (tk:=tk) I hP (hx' _) hge (hrec.push (PySem.W.kla_obj "<lambda>" .(f) params body scope cl ((X.mg "__name__").getD .none) c' ctv)) (yak _ htb);have hsz:s.heap.objs.size<=h'.objs.size:=yaU (ya6 hge hlt);have nPc:Pt≠c':=zac hP (I.hok.fresh hge);have eT:(tab++#[rawInt lpos.line,rawInt lpos.col,.ref c']).toList=tab.toList++[rawInt lpos.line,rawInt lpos.col,.ref c']:=by simp
  have hTI:zaF (upd (upd H Pt (.tbl (tab++#[rawInt lpos.line,rawInt lpos.col,.ref c']))) c' (.ext (zmk c' (X.env.qual ++ "<lambda>")))) Pt lpos .(f):=
   ⟨_,by rw[zag nPc,zab],by rw[eT];exact TriplesOk_snoc _ _ _ _ ht,.inr ⟨c',by rw[eT];exact codeAmong_snoc _ ht hnone,zab⟩⟩
  refine h h'.objs.size c' cl _ ctv _ _ hcl I' (yaI _ rfl) ?_ hsz ?_ hTI zab ?_
  .rw[zag (ybm hlt),zag (λz=>?_)]
   .exact I.hok.fresh hsz
   .have:=yaf hPo;rw[<-z]at this;exact absurd this (Nat.not_lt.mpr hsz)
  .intro b o n e;rw[zag (zac e (I.hok.fresh hge)),zag n];exact e
  .intro p2 q2 ho x;obtain ⟨tab',x1,x2,x3⟩:=x.ex;rw[hP]at x1;cases x1
   refine ⟨_,by rw[zag nPc,zab],by rw[eT];exact TriplesOk_snoc _ _ _ _ ht,?_⟩;rw[eT,zkF ho _ ht];rcases x3 with x3|⟨c2,x3,x4⟩
   .exact .inl x3
   .refine .inr ⟨c2,x3,?_⟩;have m1:c2≠Pt:=λz=>by
     have y:H c2=_:=x4;rw[z,hP]at y;cases y
    show upd _ _ _ c2=_;rw[zag (zac x4 (I.hok.fresh hge)),zag m1];exact x4
 .refine PySem.W.kla_makeFunctionHit (clos:=cl) hcl.eq I.ok.glob hgl hcode C hPo ht hsome hb λctv h' tk hk hsz=>?_;exact h h'.objs.size c' cl _ ctv H _ hcl (I.kept (t':=tk) λb o e=>yak _ (hk b o e)) (yaI _ rfl) (I.hok.fresh hsz) hsz (Gro.refl _ _) hT hca λ_ _ _ x=>x
end
section
variable {X:Cx}{pins:List (Addr×Obj)}{U:St}{H:Hp}{s:Shared}
def zo1 (X:Cx)(n kf:Nat)(ps:List Str)(cap:List Nat)(Pt:Addr)(lpos:Pos)(tb:Heap->TE)(U:St)(H1:Hp)(q:Heap->Addr->Hp->Prop):Prop:=zaF H1 Pt lpos .(f)/\∃ vcs:List V,vcs.length=n/\(∀(j i:Nat) (v:V),cap[j]?=some i->vcs[j]?=some v->U[i]?=some (some v))/\
 ∀(base:Heap) (f c':Addr) (H2:Hp),Gro Pt H1 H2->zaF H2 Pt lpos .(f)->zeQ H2 c' .(f)->(∀ p2 q2,Oth lpos p2->zaF H1 Pt p2 q2->zaF H2 Pt p2 q2)->Sub X.K X.mg X.base base->FV X.prog X.w X.K X.mg base kf f ps (zjW ps.length (tb base) vcs c' .(f))->q base f H2
theorem zn0 {tb:Heap->TE}{c Pt:Addr}{Qv:List Value->Shared->Prop}(I:Inv X pins U H s)
  (L:ziK X params body scope ps caps cap) (hcode:X.env.code=.ref c) (hC:codeHdIn X.K c Pt=true) (hBM:BMAt X.mg X.base)
  (hb:∀(base:Heap) (f:Addr) (cd:Value) (cl:List (Str×Addr)) (A:Around) (outer:List Env) (s:Shared) (H:Hp),Sub X.K X.mg X.base base->Room kf (A.deeper (PySem.W.envX .(f) scope s.heap.objs.size f cd cl))->PE (zhm X.prog X.w X.K X.mg base (ps++caps) .(f) scope f cd cl A outer s H) body (tb base))
  (hg:zo1 X caps.length (kf+1) ps cap Pt lpos tb U H q) (h:∀ f H2 s2,Inv X pins U H2 s2->q (zch X s2 H2) f H2->Qv [.ref f] s2):wpAny .(d) X.A (spliced [(false,eval (.Lambda params body scope lpos) X.env)]) Qv X.xe s:=by
 obtain ⟨hT,vcs,hv,hvs,q⟩:=hg;refine Calls.spliced_cons (zn1 I L.dflt L.frees hcode hC hBM hT λf c' cl pm ctv H2 s2 hcl I2 ho hn hge hgr hT2 hca hot=>?_);have S:=zdu I2;have hF:=zq9 (k:=kf) (n:=s.heap.objs.size) (tb:=tb (zch X s2 H2)) I2 L hcl ho hn (λb hb=>by
  obtain ⟨_,o,e,_⟩:=I.stack.mem hb;exact yaf e) hge hv hvs (λf cd cl A outer s H hr=>hb _ f cd cl A outer s H S hr)
 exact Calls.spliced_nil (h f H2 s2 I2 (q _ f c' H2 hgr hT2 hca hot S hF))
end
section
variable {X:Cx}
def zmM (X:Cx)(n kf:Nat)(ps:List Str)(cap:List Nat)(Pt:Addr)(lpos:Pos)(tb:Heap->TE)(te te2:TE)(spH:Heap->Sp):TE:=λU H Q=>te U H λx1 H1=>te2 U H1 λx2 H2=>zo1 X n kf ps cap Pt lpos tb U H2 λbase f H3=>spH base [x1,x2,.ref f] H3 Q E0
theorem zgQ {lpos p pos:Pos}{tb:Heap->TE}{spH:Heap->Sp}{k:Nat}{c Pt:Addr}
  (F:∀ base,Sub X.K X.mg X.base base->FC X.prog X.w X.K X.mg base j x qs (spH base)) (hr:Room k X.A) (h1:PE X e1 te) (h2:PE X e2 te2) (L:ziK X params body scope ps caps cap) (hcode:X.env.code=.ref c) (hC:codeHdIn X.K c Pt=true) (hBM:BMAt X.mg X.base)
  (hb:∀(base:Heap) (f:Addr) (cd:Value) (cl:List (Str×Addr)) (A:Around) (outer:List Env) (s:Shared) (H:Hp),Sub X.K X.mg X.base base->Room kf (A.deeper (PySem.W.envX .(f) scope s.heap.objs.size f cd cl))->PE (zhm X.prog X.w X.K X.mg base (ps++caps) .(f) scope f cd cl A outer s H) body (tb base))
  (hjk:j<=k:=by decide) (hg:Gl X x:=by rfl) (hdb:(x==("__debug__" : Str))=false:=by decide) (he:starEach [e1,e2,.Lambda params body scope lpos] X.env=(false,eval e1 X.env)::starEach [e2,.Lambda params body scope lpos] X.env:=by rfl)
  (he2:starEach [e2,.Lambda params body scope lpos] X.env=[(false,eval e2 X.env),(false,eval (.Lambda params body scope lpos) X.env)]:=by rfl) (hpl:(backTo pos (starEach [e2,.Lambda params body scope lpos] X.env)).any (·.1)=false:=by rfl) :
  PE X (.Call (.Name x p) [e1,e2,.Lambda params body scope lpos] [] pos) (zmM X caps.length (kf+1) ps cap Pt lpos tb te te2 spH):=by
 intro pins s U H Q I h;obtain ⟨g,fd,_,_,kp,m,oc,od,osl,lk⟩:=(F X.base ⟨I.ok.mod,λ_ _ e=>e,yaa _⟩).ex;refine wpAny_Call_Name_kw (zdO I hg m ?_ hdb);refine PySem.W.callWith_K (h₀:=X.base) I.ok.mod.kin kp ?_ he hpl;rw[he];show wpAny _ _ (spliced ((false,eval e1 X.env)::backTo pos (starEach [e2,.Lambda params body scope lpos] X.env))) _ _ s;refine Calls.spliced_cons (thn (h1 pins s U H _ I h) λu s1 zq0=>?_);obtain ⟨x1,H1,I1,r1,q1⟩:=zq0;rw[he2];show wpAny _ _ (spliced ((false,eval e2 X.env)::[(false,eval (.Lambda params body scope lpos) X.env)])) _ _ s1;refine Calls.spliced_cons (thn (h2 pins s1 U H1 _ I1 q1) λu2 s2 zq0=>?_);obtain ⟨x2,H2,I2,r2,q2⟩:=zq0;exact zn0 I2 L hcode hC hBM hb q2 λf H3 s3 I3 hsp=>⟨I3.kIn,zoy I3 m (F _ (zdu I3)) hr hjk (vs:=[x1,x2,.ref f]) (.cons r1 (.cons r2 (.cons rfl .nil))) hsp⟩
end
end L2
namespace L2
open PySem PySem.Spec PyProof.Rows PySem.SeqAt
structure Tri (α β γ:Type) where
 a:α
 b:β
 c:γ
end L2
namespace L2
open PySem PySem.Spec PyProof.Rows
structure DM (K:Frag)(C:Addr)(m q:Str)(st:Stmt)(ps:List Str):Prop where
 ex:∃ f fd,Fun K m q st f fd/\zdY K fd ps []/\Meth K C m f
structure FM (P:Program)(w:World)(K:Frag)(mg:Str->Option Value)(base:Heap)(C:Addr)(k:Nat)(m:Str)(ps:List Str)(sp:Sp):Prop where
 ex:∃ f fd,FnOk P w K mg base CX0 k f fd ps sp/\zdY K fd ps []/\Meth K C m f/\∃ oc od osl,K.lookup f=some ⟨oc,od,.func fd,osl⟩
structure DI (K:Frag)(C:Addr)(q:Str)(st:Stmt)(ps:List Str):Prop where
 ex:∃ f fd,Fun K "__init__" q st f fd/\zdY K fd ps []/\Mk K C f
structure FI (P:Program)(w:World)(K:Frag)(mg:Str->Option Value)(base:Heap)(C:Addr)(k:Nat)(ps:List Str)(sp:Sp):Prop where
 ex:∃ f fd,FnOk P w K mg base CX0 k f fd ps sp/\zdY K fd ps []/\Mk K C f
section
variable {P:Program}{w:World}{K:Frag}{mg:Str->Option Value}{base:Heap}{C:Addr}{m q:Str}{st:Stmt}{N ps:List Str}{k:Nat}{sp:Sp}
theorem DM.ok (D:DM K C m q st ps)(S:zap N ps (zah st))(len:∀ vs H Q E,sp vs H Q E->vs.length=ps.length)
  (hbody:∀(f:Addr) (cdv:Value) (A:Around) (outer:List Env) (s:Shared) (H:Hp) (vs:List V) (Q:VK) (E:XK),Room k (A.deeper (envOfC q (zah st) s.heap.objs.size f cdv))->sp vs H Q E->
   ∃ t,PSs (cxOf CX0 P w K mg base N q (zah st) f cdv A outer s H E).nox (zbk st) t/\t { nx:=λ_ H'=>Q .non H',rt:=Q } (zcV N vs) H):FM P w K mg base C (k+1) m ps sp:=by
 obtain ⟨f,fd,F,b,me⟩:=D.ex;exact ⟨f,fd,F.ok S len λcdv A outer s H vs Q E hr h=>hbody f cdv A outer s H vs Q E hr h,b,me,by
  obtain ⟨oc,od,kV,doc,pm,an,cdv,ct,osl,rfl,lk,hcd⟩:=F.ex;exact ⟨oc,od,osl,lk⟩⟩
theorem DI.ok (D:DI K C q st ps)(S:zap N ps (zah st))(len:∀ vs H Q E,sp vs H Q E->vs.length=ps.length)
  (hbody:∀(f:Addr) (cdv:Value) (A:Around) (outer:List Env) (s:Shared) (H:Hp) (vs:List V) (Q:VK) (E:XK),Room k (A.deeper (envOfC q (zah st) s.heap.objs.size f cdv))->sp vs H Q E->
   ∃ t,PSs (cxOf CX0 P w K mg base N q (zah st) f cdv A outer s H E).nox (zbk st) t/\t { nx:=λ_ H'=>Q .non H',rt:=Q } (zcV N vs) H):FI P w K mg base C (k+1) ps sp:=by
 obtain ⟨f,fd,F,b,me⟩:=D.ex;exact ⟨f,fd,F.ok S len λcdv A outer s H vs Q E hr h=>hbody f cdv A outer s H vs Q E hr h,b,me⟩
end
section
variable {X:Cx}{j k:Nat}{C:Addr}{m x:Str}{ps:List Str}{sp:Sp}{o e:Expr}{es:List Expr}{ta:TE}{t:TA}{p pos apos:Pos}
theorem zgP {pl:Sem Bool}(F:FM X.prog X.w X.K X.mg X.base C j m ps sp)(c:Cls X.K C)(hr:Room k X.A)(he:PE X o ta)(ha:PA X (e::es) t)(hjk:j<=k:=by decide)
  (hst:starEach (e::es) X.env=(false,eval e X.env)::starEach es X.env:=by rfl) (hpl:(backTo pos (starEach es X.env)).any (·.1)=false:=by rfl)
  (ht:eval (.Call (.Attribute o m apos) (e::es) [] pos) X.env=(do
   let ov <-eval o X.env
   standAt apos.atName
   let (f,first) <-holding [ov] (getMethod ov m pl)
   callWith pos f first (backTo pos (starEach (e::es) X.env)) (backToKw pos (keywordEach [] X.env))):=by rfl) :
  PE X (.Call (.Attribute o m apos) (e::es) [] pos) (zpd C m sp [] E0 ta t):=by
 obtain ⟨f,fd,ok,b,me,_⟩:=F.ex;exact zrK he c me ok (hr.mono hjk) b .nil znn ha hst hpl ht
theorem zlf {pl:Sem Bool}(F:FM X.prog X.w X.K X.mg X.base C j m ps sp)(c:Cls X.K C)(hr:Room k X.A)(he:PE X o ta)(hjk:j<=k:=by decide)
  (ht:eval (.Call (.Attribute o m apos) [] [] pos) X.env=(do
   let ov <-eval o X.env
   standAt apos.atName
   let (f,first) <-holding [ov] (getMethod ov m pl)
   callWith pos f first (backTo pos (starEach [] X.env)) (backToKw pos (keywordEach [] X.env))):=by rfl) :
  PE X (.Call (.Attribute o m apos) [] [] pos) (zpd C m sp [] E0 ta tNil):=by
 obtain ⟨f,fd,ok,b,me,_⟩:=F.ex;exact zpt he c me ok (hr.mono hjk) b .nil znn ht
theorem zuq (F:FI X.prog X.w X.K X.mg X.base C j ps sp)(hr:Room k X.A)(hm:X.mg x=some (.ref C))(ha:PA X (e::es) t)(hjk:j+1<=k:=by decide)(hg:Gl X x:=by rfl)
  (hdb:(x==("__debug__" : Str))=false:=by decide) (he:starEach (e::es) X.env=(false,eval e X.env)::starEach es X.env:=by rfl) (hpl:(backTo pos (starEach es X.env)).any (·.1)=false:=by rfl) :
  PE X (.Call (.Name x p) (e::es) [] pos) (zsP C sp [] E0 t):=by
 obtain ⟨f,fd,ok,b,me⟩:=F.ex;exact zrL me ok (hr.mono hjk) hg hm b .nil znn ha hdb he hpl
end
end L2
namespace L2
open PySem PySem.Spec PyProof.Rows
section
variable {X:Cx}
theorem ztp (hu:X.A.units+1<cLine):OpR X (compareOp .In) (λx y H Q=>∃ a o,y=.ref a/\DGet H a x o/\Q (.bl o.isSome) H):=by
 intro pins s U H x y v u Q I rx ry h;obtain ⟨a,o,rfl,g,q⟩:=h;cases ry
 exact d_in hu I g rx λs' I'=>⟨.bl _,H,I',rfl,q⟩
end
end L2
namespace L2
open PySem PySem.Spec PyProof.Rows
section
variable {X:Cx}
theorem znt (hu:X.A.units+1<cLine):OpR X (compareOp .NotIn) (λx y H Q=>∃ a o,y=.ref a/\DGet H a x o/\Q (.bl (!o.isSome)) H):=by
 intro pins s U H x y v u Q I rx ry h;obtain ⟨a,o,rfl,g,q⟩:=h;cases ry
 exact zsx hu I g rx λs' I'=>⟨.bl _,H,I',rfl,q⟩
theorem zlV {A:Around}(hu:A.units+1<cLine)(hA:X.A=A:=by rfl):OpR X (compareOp .NotIn) (λx y H Q=>∃ a o,y=.ref a/\DGet H a x o/\Q (.bl (!o.isSome)) H):=by
 subst hA;exact znt hu
end
end L2
namespace L2
open PySem PySem.Spec PyProof.Rows
section
variable {X:Cx}
def zte (K:Frag):R2:=λx y H Q=>∃ a b xs ys,x=.ref a/\y=.ref b/\SqT K H a xs/\SqT K H b ys/\xs.length+ys.length<=sizeLine/\
 (xs=[]->Q (.ref b) H)/\(xs≠[]->(ys=[]->Q (.ref a) H)/\(ys≠[]->∀ p,H p=none->Q (.ref p) (upd H p (.tup (xs++ys)))))
theorem znw:OpR X (binaryOp .Add) (zte X.K):=by
 intro pins s U H x y v u Q I rx ry h;obtain ⟨a,b,xs,ys,e1,e2,ha,hb,hz,q1,q2⟩:=h;by_cases hx:xs=[]
 .subst e1 e2;cases rx
  cases ry
  obtain ⟨its,r1,p1,_⟩:=I.tuple ha;obtain ⟨its2,r2,p2,_⟩:=I.tuple hb;obtain ⟨⟨cls,dd,data,sl⟩,ho,hc,n,hd⟩:=id p1;obtain ⟨⟨cls2,dd2,data2,sl2⟩,ho2,hc2,n2,hd2⟩:=id p2;simp only at hc hd hc2 hd2;subst hc hd hc2 hd2;have hv:its=[]:=r1.nil_iff.mpr hx;exact concat_meets ⟨_,ho,rfl⟩ ⟨_,ho2,rfl⟩ noFill_tuple_add seq_tuple_add PySem.F.slot_tuple_add PySem.F.entry_tuple_add (PySem.F.args_tuple_add_2 _ _)
   (tuple_addW0 a b its.toArray its2.toArray n n2 dd dd2 sl sl2 (by simp[hv])) ⟨ho,ho2,.ref b,H,I,rfl,q1 hx⟩
 .exact zgU pins s U H x y v u Q I rx ry ⟨a,b,xs,ys,e1,e2,ha,hb,hx,hz,λz=>(q2 hx).1 z,λz=>(q2 hx).2 z⟩
end
end L2
namespace DictP
open PySem PySem.Spec PyProof.Rows
set_option maxRecDepth 100000
theorem zjj:typeLookup (.type "list") "keys" = pure none:=by rw[typeLookup_type,builtinLookup_eq_fast];kernel_rfl
section
variable {prog:Program}{w:World}{A:Around}{E:Value->Shared->Prop}{a:Addr}{o:Obj}{h:Heap}{g:Array GenState}{d:Drawn}{t:Nat}{os:OsState}{xs:Array Value}{n:Nat}{sl:Array (Option Value)}
theorem zl9 {tk:Tok}{Q:Fin->Shared->Prop}(hh:A.handled=none)(hx:h.get? a=some { cls:=.type "list",dict:=none,data:=.seq xs n,slots:=sl })
  (q:∀ h' t' e,(∀ b u,h.get? b=some u->h'.get? b=some u)->(⟨h',g,d,t',os⟩:Shared).TypeIs (.ref e) "AttributeError"->E (.ref e) ⟨h',g,d,t',os⟩) :
  wpAny .(j) A (Builtin.«object.__getattribute__» ⟨[.ref a,.str "keys" tk],[]⟩) Q E ⟨h,g,d,t,os⟩:=by
 have hT:(⟨h,g,d,t,os⟩:Shared).TypeIs (.ref a) "list":=⟨_,hx,rfl⟩;have f4:=zjj
 repeat (any_goals (first|assumption|wp_step))
 have hm:(Str.ofString (toString "'" ++ toString ((Manifest.find? "list").elim "list" λx=>x.tpName)++toString "' object has no attribute '")++Str.ofString "keys" ++ Str.ofString "'").length<=sizeLine:=by decide +kernel
 generalize (Str.ofString (toString "'" ++ toString ((Manifest.find? "list").elim "list" λx=>x.tpName)++toString "' object has no attribute '")++Str.ofString "keys" ++ Str.ofString "'")=msg at hm ⊢;unfold raiseAttrError;refine wpAny_bind (wpAny_mkStr (wpAny_bind ?_) hm);unfold newExc newTuple;refine wpAny_bind (wpAny_newObj_type ?_);refine wpAny_bind (m:=firstArgMember _ _) (wpAny_of_eq (a:=Value.none) (by rfl) ?_);refine wpAny_newObj_type ?_;refine wpAny_bind (wpAny_mkText ?_);have hX:=yaI (h.push { cls:=.type "tuple",data:=.seq #[Value.str msg t] }) (o:={ cls:=.type "AttributeError",data:=.fields (#[.ref h.objs.size,.none,.none,.none,.bool false,.none]++#[unsetMember,unsetMember]) }) rfl;have hk:∀ b u,h.get? b=some u->((h.push { cls:=.type "tuple",data:=.seq #[Value.str msg t] }).push { cls:=.type "AttributeError",data:=.fields (#[.ref h.objs.size,.none,.none,.none,.bool false,.none]++#[unsetMember,unsetMember]) }).get? b=some u:=λb u e=>yak _ (yak _ e);have hne:h.get? (h.push { cls:=.type "tuple",data:=.seq #[Value.str msg t] }).objs.size=none:=Heap.get?_none_of_le .(h);show wpAny .(j) A (noteAttr (.ref (h.push { cls:=.type "tuple",data:=.seq #[Value.str msg t] }).objs.size) (.ref a) (.str "keys" (t+1)) >>= λ_=>raiseNew (.ref (h.push { cls:=.type "tuple",data:=.seq #[Value.str msg t] }).objs.size)) Q E ⟨(h.push { cls:=.type "tuple",data:=.seq #[Value.str msg t] }).push { cls:=.type "AttributeError",data:=.fields (#[.ref h.objs.size,.none,.none,.none,.bool false,.none]++#[unsetMember,unsetMember]) },g,d,t+2,os⟩;generalize (h.push { cls:=.type "tuple",data:=.seq #[Value.str msg t] }).push { cls:=.type "AttributeError",data:=.fields (#[.ref h.objs.size,.none,.none,.none,.bool false,.none]++#[unsetMember,unsetMember]) }=h2 at hX hk ⊢;generalize (h.push { cls:=.type "tuple",data:=.seq #[Value.str msg t] }).objs.size=e at hX hne ⊢;generalize (Value.ref h.objs.size)=r0 at hX;unfold noteAttr;dsimp only;have hTe:(⟨h2,g,d,t+2,os⟩:Shared).TypeIs (.ref e) "AttributeError":=⟨_,hX,rfl⟩;refine wpAny_bind (wpAny_bind ?_);unfold lacksNameAndObj;dsimp only;refine wpAny_bind (wpAny_isInstance (T := "AttributeError") (b:=true) hTe (by rw[isSubtype_type];kernel_rfl) ?_);simp only[Bool.not_true,ybS,if_false];refine wpAny_bind (wpAny_load hX ?_);dsimp only;have i6:(#[r0,Value.none,Value.none,Value.none,Value.bool false,Value.none]++#[unsetMember,unsetMember])[6]?=some unsetMember:=by simp
 have i7:(#[r0,Value.none,Value.none,Value.none,Value.bool false,Value.none]++#[unsetMember,unsetMember])[7]?=some unsetMember:=by simp
 refine wpAny_ite_split (λz=>absurd z (by rw[i6,i7];decide)) (λ_=>?_);refine wpAny_ite_split (λz=>absurd z (by rw[i6,i7];decide)) (λ_=>?_);refine wpAny_pure ?_;rw[if_pos rfl];refine wpAny_bind (wpAny_rule (wpAny_bind (wpAny_typeOf hTe ?_)));dsimp only;unfold layMembers;refine wpAny_bind (wpAny_load hX ?_);dsimp only;refine wpAny_update (s:=⟨h2,g,d,t+2,os⟩) hX ?_;unfold raiseNew;refine wpAny_bind (wpAny_handled ?_);rw[hh]
 first
  | refine wpAny_throw ?_
  | refine wpAny_bind (wpAny_pure (wpAny_throw ?_))
 refine q _ _ e (λb u eb=>?_) ⟨_,Heap.get?_update_self _ hX (Obj.isFreed_of_fields (Obj.data_mapFields rfl _)),rfl⟩;have nb:b≠e:=λz=>by
  rw[z,hne]at eb;cases eb
 exact (ybo _ _ (Ne.symm nb)).trans (hk b u eb)
theorem zob {tk:Tok}{R:Result->Shared->Prop}(hh:A.handled=none)(hx:h.get? a=some { cls:=.type "list",dict:=none,data:=.seq xs n,slots:=sl })
  (q:∀ h' t' e,(∀ b u,h.get? b=some u->h'.get? b=some u)->(⟨h',g,d,t',os⟩:Shared).TypeIs (.ref e) "AttributeError"->R (.error (.ref e)) ⟨h',g,d,t',os⟩) :
  codeAny .(j) A (.call (.builtin "list.__getattribute__") ⟨[.ref a,.str "keys" tk],[]⟩) R ⟨h,g,d,t,os⟩:=
 codeAny_call_builtin F.slot_list_getattribute.plain F.entry_list_ga (F.slot_list_getattribute.check _ _ _ _ _ _ _ _ (show (⟨h,g,d,t,os⟩:Shared).TypeIs (.ref a) "list" from ⟨_,hx,rfl⟩) (F.args_list_getattribute_2 _ _) (zl9 (A:=A.in1) hh hx q))
theorem zn9 {Q:Option Value->Shared->Prop}(hh:A.handled=none)(hx:h.get? a=some { cls:=.type "list",dict:=none,data:=.seq xs n,slots:=sl })
  (q:∀ h' t',(∀ b u,h.get? b=some u->h'.get? b=some u)->Q none ⟨h',g,d,t',os⟩):wpAny .(j) A (getAttr? (.ref a) "keys") Q E ⟨h,g,d,t,os⟩:=by
 have hT:(⟨h,g,d,t,os⟩:Shared).TypeIs (.ref a) "list":=⟨_,hx,rfl⟩;have f2:=F.slot_list_getattribute.lookup;have f3:=F.slot_list_getattribute.bind (.ref a);have f5:typeLookup (.type "list") "__getattr__" = pure none:=by rw[typeLookup_type,builtinLookup_eq_fast];kernel_rfl
 unfold getAttr? getAttrBy?
 repeat (any_goals (first|assumption|wp_step))
 refine zob hh hx λh' t' e k ty=>?_;have su:isSubtype (.type "AttributeError") (.type "AttributeError")=pure true:=by rw[isSubtype_type];kernel_rfl
 show wpAny .(j) A (getattributeRaised (.ref a) (.str "keys" t) (.type "list") (.ref e) none false false) _ _ _;unfold getattributeRaised;refine wpAny_bind (wpAny_isInstance ty su ?_);rw[if_pos rfl];refine wpAny_bind (?_:wpAny _ _ (typeLookup (.type "list") "__getattr__") _ _ _);rw[f5];refine wpAny_pure ?_;show wpAny _ _ (throw (Value.ref e)) _ _ _;refine wpAny_throw ?_;show wpAny _ _ (do let b <-isInstance (.ref e) (.type "AttributeError");if b=true then pure none else throw (Value.ref e)) _ _ _
 refine wpAny_bind (wpAny_isInstance ty su ?_);exact wpAny_pure (q h' t' k)
end
end DictP
namespace DictP
open PySem PySem.Spec PyProof.Rows L2
set_option maxRecDepth 100000
theorem zjA:entryFor table "dict.update.loop" = some Builtin.«dict.update.loop»:=entryFor_of_tree (by kernel_rfl)
theorem zft:plainId "dict.update.loop" = true:=by decide +kernel
theorem zlL {K:Type}[DecidableEq K]{kvs:List (K×Value)}{k:K}{v:Value}(h:k∉kvs.map (·.1)):stored kvs k v=kvs++[(k,v)]:=by
 unfold stored;rw[if_neg λz=>?_];obtain ⟨kv,h1,h2⟩:=List.any_eq_true.mp z;exact h (yaE.mpr ⟨kv,h1,yaH h2⟩)
section
variable {prog:Program}{w:World}{A:Around}{R:Result->Shared->Prop}{I:Addr}{fp wr:List Addr}{G:Array GenState->Array GenState->Prop}{n:Nat}{P:Nat->Value->Prop}{St:Nat->Shared->Prop}
theorem zlS {h0:Heap}(W:WalksS prog w A.in1 I fp wr G n P St)(d:Addr)(hdf:d∉fp)(res:Value)(kvs:List (Key×Value))(hn:n=kvs.length)(hnd:(kvs.map (·.1)).Nodup)
  (hP:∀ i v,P i v->∃ tp key k val,v=.ref tp/\tp≠d/\tp∉wr/\h0.IsTuple tp #[key,val]/\(zaQ prog w).is k key=true/\kvs[i]?=some (k,val)) (hz:kvs.length<=sizeLine) :
  ∀(j i:Nat) (s:Shared) (tk:Tok),n-i=j->i<=n->St i s->(∀ b o,b≠d->b∉wr->h0.get? b=some o->s.heap.get? b=some o)->s.heap.DictOf (zaQ prog w) d (kvs.take i)->
   (∀ s',Moved (d::wr) G s s'->s'.heap.DictOf (zaQ prog w) d kvs->R (.ok (.ret res)) s')->codeAny .(j) A (.builtin "dict.update.loop" ⟨[.ref d,.ref I,.int i tk,res],[]⟩) R s:=by
 have hdw:d∉wr:=λh=>hdf (W.sub _ h);have up:∀ b∈wr,b∈d::wr:=λb hb=>yar _ hb;intro j
 induction j with
 | zero=>
  intro i s tk hj hi st hk hd q;have e:i=n:=by lia
  subst e;refine codeAny_builtin zjA ?_;rw[Around.under_plainId zft _];show wpAny _ A.in1 (pyNext (.ref I) >>= _) _ _ s;refine wpAny_bind (W.done s _ _ st λs' hm=>?_);refine wpAny_bind (?_:wpAny _ A.in1 (Builtin.Dict.addKeywords d []) _ _ s');refine wpAny_pure (wpAny_pure (q s' (hm.mono up) ?_));obtain ⟨o,es,ep,ho,r⟩:=hd;rw[hn,List.take_length]at r;exact ⟨o,es,ep,hm.heap d o hdw ho,r⟩
 | succ j ih=>
  intro i s tk hj hi st hk hd q;have hlt:i<n:=by lia
  refine codeAny_builtin zjA ?_;rw[Around.under_plainId zft _];show wpAny _ A.in1 (pyNext (.ref I) >>= _) _ _ s;refine wpAny_bind (W.item i s _ _ hlt st λv s' hPi st' hm=>?_);obtain ⟨tp,key,k,val,rfl,ntd,ntw,ht,hkey,hkv⟩:=hP i v hPi;obtain ⟨ot,o1,o2,nt,o3⟩:=ht;have g1:=hm.heap tp ot ntw (hk tp ot ntd ntw o1);have hd':s'.heap.DictOf (zaQ prog w) d (kvs.take i):=by
   obtain ⟨o,es,ep,ho,r⟩:=hd;exact ⟨o,es,ep,hm.heap d o hdw ho,r⟩
  obtain ⟨hik,hek⟩:=yaj.mp hkv;have hnew:k∉(kvs.take i).map (·.1):=λz=>by
   rw[ybV]at z;obtain ⟨m,hm1,hm2⟩:=List.mem_take_iff_getElem.mp z;have h2:m<(kvs.map (·.1)).length:=by lia
   have h3:i<(kvs.map (·.1)).length:=by rw[yab];exact hik
   have:=ya0.mp hnd m i h2 h3 .(a);apply this;rw[hm2,List.getElem_map,hek]
  refine wpAny_bind (wpAny_holding (wpAny_bind (wpAny_tryCatch ?_)));unfold Builtin.Dict.pairItems;refine wpAny_bind (wpAny_typeOf (T := "tuple") ⟨_,g1,o2⟩ ?_);rw[if_pos .(i)];unfold seqItems?;refine wpAny_bind (wpAny_bind (wpAny_load g1 ?_));rw[o3];refine wpAny_pure (wpAny_pure ?_);show wpAny _ A.in1 (holding [key,val] (dictSet d key val)) _ _ s';refine wpAny_holding (wpAny_dictSet_pairs hkey hd' (λh' hd2 sb=>?_) (by rw[yao];lia));rw[zlL hnew]at hd2;have tk1:kvs.take (i+1)=kvs.take i++[(k,val)]:=by
   rw[yaF hik,hek]
  rw[<-tk1]at hd2;refine wpAny_pure ⟨plainId_quiet zft _,ih (i+1) _ 0 .(a) hlt (W.frame _ s' _ _ st' (ybh _) λb hb o e=>?_) (λb o n1 n2 e=>?_) hd2 λs'' hm'' x3=>?_⟩
  .rw[sb.2 b (λh:b=d=>hdf (by rw[<-h];exact hb))];exact e
  .rw[sb.2 b n1];exact hm.heap b o n2 (hk b o n1 n2 e)
  .refine q s'' (Moved.trans W.gtrans ((hm.mono up).then_heap (ybh _) λb o hb e=>?_) hm'') x3;rw[sb.2 b (λh:b=d=>hb (by rw[h];exact yau))];exact e
end
end DictP
namespace DictP
open PySem PySem.Spec PyProof.Rows L2
set_option maxRecDepth 100000
section
variable {prog:Program}{w:World}{A:Around}{E:Value->Shared->Prop}{s:Shared}
theorem of_pairs {l:Addr}{items:Array Value}{nl:Nat}{sl:Array (Option Value)}{kvs:List (Key×Value)}{Q:Value->Shared->Prop}(hh:A.handled=none)(hl:s.heap.get? l=some { cls:=.type "list",dict:=none,data:=.seq items nl,slots:=sl })
  (hnd:(kvs.map (·.1)).Nodup) (hlen:items.size=kvs.length) (hz:kvs.length<=sizeLine)
  (hit:∀(i:Nat) v,items[i]?=some v->∃ tp key k val,v=.ref tp/\s.heap.IsTuple tp #[key,val]/\(zaQ prog w).is k key=true/\kvs[i]?=some (k,val))
  (q:∀ h' tk,h'.DictOf (zaQ prog w) s.heap.objs.size kvs->(∀ b o,s.heap.get? b=some o->h'.get? b=some o)->Q (.ref s.heap.objs.size) { s with heap:=h',toks:=tk }) :
  wpAny .(j) A (call (.type "dict") [.ref l]) Q E s:=by
 refine callType_codes (Q₁:=λobj s₁=>obj=.ref s.heap.objs.size/\s₁={ s with heap:=s.heap.push { cls:=.type "dict",data:=.dict #[] } }) F.kt_called_dict (F.kt_typeCall_dict_1 _) F.entry_dict_init (kt_code_dict_new _ ⟨rfl,rfl⟩) ?_;rintro obj s₁ ⟨rfl,rfl⟩;have hnew:(s.heap.push { cls:=.type "dict",data:=.dict #[] }).DictOf (zaQ prog w) s.heap.objs.size []:=Heap.DictOf.new s.heap;have hl1:=yak { cls:=.type "dict",data:=.dict #[] } hl;have hkp:∀ b o,s.heap.get? b=some o->(s.heap.push { cls:=.type "dict",data:=.dict #[] }).get? b=some o:=λb o e=>yak _ e;have hds:s.heap.objs.size<(s.heap.push { cls:=.type "dict",data:=.dict #[] }).objs.size:=by
  rw[yb1];exact yb2 _
 have hlS:l<s.heap.objs.size:=yaf hl;refine ⟨hnew.typeIs,F.args_dict_init_2 _ _,?_⟩;generalize s.heap.push { cls:=.type "dict",data:=.dict #[] }=h1 at hnew hl1 hkp hds ⊢;unfold Builtin.«dict.__init__»;refine wpAny_bind ?_;unfold Builtin.Dict.selfAndRest;refine wpAny_bind (wpAny_notOrdered_dict hnew.typeIs ?_);show wpAny _ _ (pure (s.heap.objs.size,[Value.ref l])) _ _ _;refine wpAny_pure ?_;show wpAny _ _ (Builtin.Dict.updateFrom "dict.__init__" s.heap.objs.size (.ref l) [] .none) _ _ _;unfold Builtin.Dict.updateFrom;refine wpAny_bind (wpAny_typeOf (T := "list") ⟨_,hl1,rfl⟩ ?_);rw[if_pos .(i)];refine wpAny_bind (zn9 (A:=_) hh hl1 λh2 t2 k2=>?_);rw[if_pos (show (none:Option Value).isNone=true from rfl)];refine wpAny_bind (wpAny_rule (wpAny_bind ?_));have hl2:=k2 _ _ hl1;have hL2:h2.IsList l items:=⟨_,hl2,rfl,nl,rfl⟩;refine wpAny_pyIter_list (s:=⟨h2,s.gens,s.drawn,t2,s.os⟩) hL2 ?_;refine wpAny_pure ⟨plainId_quiet zft _,?_⟩;have hd2:h2.DictOf (zaQ prog w) s.heap.objs.size []:=by
  obtain ⟨o,es,ep,ho,r⟩:=hnew;exact ⟨o,es,ep,k2 _ _ ho,r⟩
 have hdlt:s.heap.objs.size<h2.objs.size:=by
  obtain ⟨o,es,ep,ho,r⟩:=hd2;exact yaf ho
 have hne:l≠h2.objs.size:=yat (Nat.lt_trans hlS hdlt);have h3:A.in1.in1.handled=none:=by simp[hh]
 refine zlS (h0:=s.heap) ((Walks.list h3 _ l hne items).toS) s.heap.objs.size (λz=>?_) .none kvs hlen hnd (λi v hv=>?_) hz items.size 0 _ 0 .(a) (yaG _) ⟨⟨_,yaI _ rfl,rfl,rfl⟩,hL2.push _⟩ (λb o n1 n2 e=>yak _ (k2 _ _ (hkp _ _ e))) ?_ λs' hm hd'=>?_
 .simp only[yag,yaz,or_false]at z;rcases z with z|z
  .exact absurd hdlt (by rw[<-z];exact yaO _)
  .exact absurd hlS (by rw[<-z];exact yaO _)
 .obtain ⟨tp,key,k,val,e1,e2,e3,e4⟩:=hit i v hv;have htp:tp<s.heap.objs.size:=by
   obtain ⟨ot,o1,_⟩:=e2;exact yaf o1
  refine ⟨tp,key,k,val,e1,yat htp,λz=>?_,e2,e3,e4⟩;rw[yaq.mp z]at htp;exact absurd (Nat.lt_trans htp hdlt) (yaO _)
 .rw[yca];exact hd2.push _
 .refine ⟨rfl,?_⟩;rw[Moved.eq_with hm];refine q s'.heap s'.toks hd' λb o e=>hm.heap b o (λz=>?_) (yak _ (k2 _ _ (hkp _ _ e)));have hb:=yaf e;simp only[yag,yaz,or_false]at z;rcases z with z|z
  .rw[z]at hb;exact absurd hb (yaO _)
  .rw[z]at hb;exact absurd (Nat.lt_trans hb hdlt) (yaO _)
end
end DictP
namespace L2
open PySem PySem.Spec PyProof.Rows
def ztc (K:Frag):List V->Hp->VK->Prop:=λxs H Q=>∃(p:Addr) (zs:List V) (kvs:List (Key×V)),xs=[.ref p]/\SqL K H p zs/\Paired (λ(z:V) (kv:Key×V)=>∃ b,z=.ref b/\H b=some (.tup [kV kv.1,kv.2])) zs kvs/\(kvs.map (·.1)).Nodup/\
 ∀ d,H d=none->Q (.ref d) (upd H d (.dK kvs))
section
variable {X:Cx}
theorem zli (I:Inv X pins U H s):∀{zs:List V} {kvs:List (Key×V)} {us:List Value},Paired (λ(z:V) (kv:Key×V)=>∃ b,z=.ref b/\H b=some (.tup [kV kv.1,kv.2])) zs kvs->Vals zs us->
  ∃ ks:List (Key×Value),KV kvs ks/\∀(i:Nat) v,us[i]?=some v->∃ tp key k val,v=.ref tp/\s.heap.IsTuple tp #[key,val]/\(zaQ X.prog X.w).is k key=true/\ks[i]?=some (k,val)
 | _,_,_,.nil,.nil=>⟨[],.nil,λi v h=>by simp at h⟩
 | _::_,kv::_,_::_,.cons ⟨b,e1,e2⟩ t,.cons r q=>by
  subst e1;obtain ⟨ks,h1,h2⟩:=zli I t q;cases r
  obtain ⟨its,rv,p,_⟩:=I.tuple (SqT.of e2);cases rv with
  | cons r1 rv=>
   cases rv with
   | cons r2 rv=>
    cases rv
    refine ⟨(kv.1,_)::ks,.cons ⟨rfl,r2⟩ h1,λi v hv=>?_⟩;cases i with
    | zero=>
     simp only[List.getElem?_cons_zero,Option.some.injEq]at hv;subst hv;exact ⟨b,_,kv.1,_,rfl,p,zjo r1,rfl⟩
    | succ i=>
     rw[ycb]at hv ⊢;exact h2 i v hv
theorem zn6:∀{kvs:List (Key×V)} {ks:List (Key×Value)},KV kvs ks->ks.map (·.1)=kvs.map (·.1)
 | _,_,.nil=>rfl
 | _,_,.cons r t=>by
  rw[yap,yap,zn6 t,r.1]
theorem zmo (hc:X.calm=true):zdg X (.type "dict") (ztc X.K):=by
 intro pins s U H xs us Q I r h;obtain ⟨p,zs,kvs,rfl,hq,hp,hn,q⟩:=h;obtain ⟨u,rfl,rx⟩:=zgD r;cases rx
 obtain ⟨its,rv,pl,hz⟩:=I.list hq;obtain ⟨ks,hk,hit⟩:=zli I hp rv;have l1:=Paired.length hp;have l2:=rv.length;have l3:=Paired.length hk;obtain ⟨⟨oc,od,oda,osl⟩,n,e,e1,e2,e3⟩:=pl;simp only at e1 e2 e3;subst e1 e2 e3;refine DictP.of_pairs (kvs:=ks) (I.ok.hd hc) e (by rw[zn6 hk];exact hn) (by rw[yav];lia) .(a) (λi v hv=>hit i v (by simpa using hv)) λh' tk hd k=>?_;exact ⟨.ref s.heap.objs.size,_,I.laid (a:=s.heap.objs.size) (o:=.dK kvs) (t':=tk) k (yaa _) ⟨by lia,beq_eq_false_iff_ne.mpr (Ne.symm (yat I.big)),ks,hk,hd⟩,rfl,q _ (I.hok.fresh (yaa _))⟩
end
end L2
namespace Kas
open PySem PySem.W PyProof.Rows
def run {α:Type}(f:Nat->Nat->Bool):KasT α->α
 | .ret a=>a
 | .ask i j k=>run f (k (f i j))
theorem zer {α β:Type}(f:Nat->Nat->Bool)(g:α->KasT β):∀ t:KasT α,run f (t.bind g)=run f (g (run f t))
 | .ret _=>rfl
 | .ask i j k=>zer f g (k (f i j))
def Res {α:Type}(n:Nat)(P:α->Prop):KasT α->Prop
 | .ret a=>P a
 | .ask i j k=>i<n/\j<n/\∀ b,Res n P (k b)
theorem Res.bind {α β:Type}{n:Nat}{P:α->Prop}{P':β->Prop}{g:α->KasT β}(h2:∀ a,P a->Res n P' (g a)):∀{t:KasT α},Res n P t->Res n P' (t.bind g)
 | .ret a,h=>h2 a h
 | .ask _ _ _,h=>⟨h.1,h.2.1,λb=>Res.bind h2 (h.2.2 b)⟩
theorem Res.run {α:Type}{n:Nat}{P:α->Prop}(f:Nat->Nat->Bool):∀{t:KasT α},Res n P t->P (Kas.run f t)
 | .ret _,h=>h
 | .ask i j k,h=>Res.run (t:=k (f i j)) f (h.2.2 (f i j))
theorem wp_of {α:Type}{n:Nat}{P:α->Prop}{f:Nat->Nat->Bool}{cmp:Nat->Nat->(Bool->Shared->Prop)->Shared->Prop}{Q:α->Shared->Prop}{s:Shared}(hc:∀ i j C,i<n->j<n->C (f i j) s->cmp i j C s):∀{t:KasT α},Res n P t->Q (Kas.run f t) s->t.kasWp cmp Q s
 | .ret _,_,q=>q
 | .ask i j _,h,q=>hc i j _ h.1 h.2.1 (wp_of hc (h.2.2 (f i j)) q)
def Good (n:Nat)(p:Array Nat):Prop:=p.Perm (List.range n).toArray
theorem Good.size {n:Nat}{p:Array Nat}(h:Good n p):p.size=n:=by
 have:=h.size_eq;simpa using this
theorem Good.lt {n:Nat}{p:Array Nat}(h:Good n p)(hn:0<n)(k:Nat):p.getD k 0<n:=by
 by_cases c:k<p.size
 .have e:p.getD k 0=p[k]:=by simp[Array.getD,c]
  rw[e];have hm:p[k]∈(List.range n).toArray:=h.mem_iff.mp (Array.getElem_mem c);simpa using hm
 .have e:p.getD k 0=0:=by simp[Array.getD,c]
  rw[e];exact hn
theorem Good.rev {n:Nat}{p:Array Nat}(h:Good n p)(i j:Nat):Good n (kas_rev p i j):=(mirror_perm p i j _).trans h
theorem Good.bub {n:Nat}{p:Array Nat}(h:Good n p)(i j:Nat):Good n (bubble p i j):=(bubble_perm p i j).trans h
section
variable {n:Nat}(hn:0<n)
include hn
theorem zkE (h:Good n p):∀(f m:Nat),Res n (λ_=>True) (kas_asc p f m)
 | 0,_=>trivial
 | f+1,m=>⟨h.lt hn _,h.lt hn _,λb=>by
  cases b with
  | true=>exact trivial
  | false=>exact zkE h f (m+1)⟩
theorem zgz:∀(f:Nat) {p:Array Nat} (m q:Nat),Good n p->Res n (λr:Array Nat×Nat×Nat=>Good n r.1) (kas_desc f p m q)
 | 0,_,_,_,h=>h
 | f+1,p,m,q,h=>⟨h.lt hn _,h.lt hn _,λb=>by
  cases b with
  | true=>
   show Res n _ (if q>0 then kas_desc f (kas_rev p (m-(q+1)) m) (m+1) 0 else kas_desc f p (m+1) 0)
   split
   .exact zgz f _ _ (h.rev _ _)
   .exact zgz f _ _ h
  | false=>
   refine ⟨h.lt hn _,h.lt hn _,λc=>?_⟩;cases c with
   | true=>exact h
   | false=>exact zgz f _ _ h⟩
theorem zkP (h:Good n p)(m r:Nat):Res n (λx:Nat×Array Nat=>Good n x.2) (kas_tail3 m r p):=by
 refine Res.bind (λa _=>?_) (zkE hn (h.rev 0 m) (r-m) m);exact h.rev _ _
theorem zf2 (h:Good n p)(m r:Nat):Res n (λx:Nat×Array Nat=>Good n x.2) (kas_descPart m r p):=by
 refine Res.bind (λa ha=>?_) (zgz hn _ _ _ h);show Res n _ (if a.2.2>0 then _ else _)
 split
 .exact zkP hn (Good.rev ha _ _) _ _
 .exact zkP hn ha _ _
theorem zjC (h:Good n p)(r:Nat):Res n (λx:Nat×Array Nat=>Good n x.2) (kas_count r p):=by
 refine Res.bind (λa _=>?_) (zkE hn h _ _);show Res n _ (if (a==r)=true then _ else if a>1 then _ else _)
 split
 .exact h
 .split
  .refine ⟨h.lt hn _,h.lt hn _,λb=>?_⟩;cases b with
   | true=>exact h
   | false=>exact zf2 hn (h.rev _ _) _ _
  .exact zf2 hn h _ _
theorem zgM (h:Good n p)(k:Nat):∀(f l r:Nat),Res n (λ_=>True) (kas_place p k f l r)
 | 0,_,_=>trivial
 | f+1,l,r=>by
  show Res n _ (if l >= r then _ else _)
  split
  .exact trivial
  .refine ⟨h.lt hn _,h.lt hn _,λb=>?_⟩;cases b with
   | true=>exact zgM h k f _ _
   | false=>exact zgM h k f _ _
theorem zoV:∀(f:Nat) {p:Array Nat} (k:Nat),Good n p->Res n (Good n) (kas_bin f p k)
 | 0,_,_,h=>h
 | f+1,_,k,h=>Res.bind (λ_ _=>zoV f _ (h.bub _ _)) (zgM hn h k _ _ _)
theorem sort_res:Res n (Good n) (kas_sort n):=by
 refine Res.bind (λa ha=>?_) (zjC hn (p:=(List.range n).toArray) (Array.Perm.refl _) n);show Res n _ (if a.1<n then _ else _)
 split
 .exact zoV hn _ _ ha
 .exact ha
end
structure Ord (f:Nat->Nat->Bool):Prop where
 irr:∀ a,f a a=false
 tr:∀ a b c,f a b=true->f b c=true->f a c=true
 neg:∀ a b c,f a c=true->f a b=true\/f b c=true
def Up (f:Nat->Nat->Bool)(p:Array Nat)(k:Nat):Prop:=∀ i j,i<j->j<k->f (p.getD j 0) (p.getD i 0)=false
def Down (f:Nat->Nat->Bool)(p:Array Nat)(k:Nat):Prop:=∀ i j,i<j->j<k->f (p.getD i 0) (p.getD j 0)=false
section
variable {f:Nat->Nat->Bool}(O:Ord f)
include O
theorem not_lt {a b c:Nat}(h1:f a b=false)(h2:f b c=false):f a c=false:=by
 cases e:f a c with
 | false=>rfl
 | true=>
  rcases O.neg a b c e with z|z
  .rw[h1]at z;cases z
  .rw[h2]at z;cases z
theorem asym {a b:Nat}(h:f a b=true):f b a=false:=by
 cases e:f b a with
 | false=>rfl
 | true=>
  have:=O.tr a b a h e;rw[O.irr]at this;cases this
theorem zrk {p:Array Nat}{m:Nat}(h1:1<=m)(h:Up f p m)(e:f (p.getD m 0) (p.getD (m-1) 0)=false):Up f p (m+1):=λi j hij hj=>by
 by_cases c:j<m
 .exact h i j hij c
 .have:j=m:=by lia
  subst this;by_cases ci:i=j-1
  .rw[ci];exact e
  .exact not_lt O e (h i (j-1) .(a) .(a))
theorem zkD {p:Array Nat}:∀(fu m:Nat),1<=m->Up f p m->Up f p (run f (kas_asc p fu m))/\m<=run f (kas_asc p fu m)/\run f (kas_asc p fu m)<=m+fu/\(run f (kas_asc p fu m)<m+fu->f (p.getD (run f (kas_asc p fu m)) 0) (p.getD (run f (kas_asc p fu m)-1) 0)=true)
 | 0,m,_,h=>⟨h,yaa _,yaa _,λz=>absurd z (by show ¬ m<m+0;lia)⟩
 | fu+1,m,h1,h=>by
  have step:run f (kas_asc p (fu+1) m)=if f (p.getD m 0) (p.getD (m-1) 0)=true then m else run f (kas_asc p fu (m+1)):=by
   show run f (if f (p.getD m 0) (p.getD (m-1) 0)=true then .ret m else kas_asc p fu (m+1))=_
   split<;>rfl
  rw[step];cases e:f (p.getD m 0) (p.getD (m-1) 0) with
  | true=>exact ⟨h,yaa _,by rw[if_pos rfl];lia,λ_=>e⟩
  | false=>
   rw[if_neg .(i)];obtain ⟨a1,a2,a3,a4⟩:=zkD fu (m+1) .(a) (zrk O h1 h e);exact ⟨a1,by lia,by lia,λz=>a4 .(a)⟩
theorem zgL {p:Array Nat}{k:Nat}(h:Up f p k):∀(fu l r:Nat),l<=r->r<=k->r-l<=fu->(∀ i,i<l->f (p.getD k 0) (p.getD i 0)=false)->(∀ i,r<=i->i<k->f (p.getD k 0) (p.getD i 0)=true)->
  run f (kas_place p k fu l r)<=k/\(∀ i,i<run f (kas_place p k fu l r)->f (p.getD k 0) (p.getD i 0)=false)/\(∀ i,run f (kas_place p k fu l r)<=i->i<k->f (p.getD k 0) (p.getD i 0)=true)
 | 0,l,r,h1,h2,h3,h4,h5=>⟨by show l<=k;lia,h4,λi hi=>h5 i (by have:l<=i:=hi;lia)⟩
 | fu+1,l,r,h1,h2,h3,h4,h5=>by
  by_cases c:l >= r
  .have e:run f (kas_place p k (fu+1) l r)=l:=by
    show run f (if l >= r then _ else _)=l
    rw[if_pos c];rfl
   rw[e];exact ⟨by lia,h4,λi hi=>h5 i .(a)⟩
  .have e:run f (kas_place p k (fu+1) l r)=if f (p.getD k 0) (p.getD ((l+r)/2) 0)=true then run f (kas_place p k fu l ((l+r)/2)) else run f (kas_place p k fu ((l+r)/2+1) r):=by
    show run f (if l >= r then _ else _)=_
    rw[if_neg c];show run f (if f (p.getD k 0) (p.getD ((l+r)/2) 0)=true then _ else _)=_
    split<;>rfl
   rw[e];cases e2:f (p.getD k 0) (p.getD ((l+r)/2) 0) with
   | true=>
    rw[if_pos rfl];refine zgL h fu l _ .(a) .(a) .(a) h4 λi hi hk=>?_;by_cases ci:i=(l+r)/2
    .rw[ci];exact e2
    .rcases O.neg _ (p.getD i 0) _ e2 with z|z
     .exact z
     .rw[h _ i .(a) hk]at z;cases z
   | false=>
    rw[if_neg .(i)];refine zgL h fu _ r .(a) h2 .(a) (λi hi=>?_) h5;by_cases ci:i=(l+r)/2
    .rw[ci];exact e2
    .exact not_lt O e2 (h i _ .(a) .(a))
omit O in
theorem gd (q:Array Nat)(x:Nat):q.getD x 0=(q[x]?).getD 0:=by
 by_cases h:x<q.size
 .simp[Array.getD,h]
 .simp[Array.getD,h]
omit O in
theorem zos {p:Array Nat}{k d:Nat}(hk:k<p.size)(hd:d<=k)(j:Nat):(bubble p k d).getD j 0=if j=k-d then p.getD k 0 else if k-d<j/\j<=k then p.getD (j-1) 0 else p.getD j 0:=by
 rw[gd,getElem?_bubble hk d hd j,gd p k,gd p (j-1),gd p j];split
 .rfl
 .split<;>rfl
theorem zt3 {p:Array Nat}{k l:Nat}(hk:k<p.size)(h:Up f p k)(hl:l<=k)(h1:∀ i,i<l->f (p.getD k 0) (p.getD i 0)=false)(h2:∀ i,l<=i->i<k->f (p.getD k 0) (p.getD i 0)=true):Up f (bubble p k (k-l)) (k+1):=λi j hij hj=>by
 rw[zos hk .(a),zos hk .(a),show k-(k-l)=l by lia];by_cases cj:j=l
 .rw[if_pos cj,if_neg .(a),if_neg .(a)];exact h1 i .(a)
 .rw[if_neg cj];by_cases cj2:l<j/\j<=k
  .rw[if_pos cj2];by_cases ci:i=l
   .rw[if_pos ci];exact asym O (h2 (j-1) .(a) .(a))
   .rw[if_neg ci];by_cases ci2:l<i/\i<=k
    .rw[if_pos ci2];exact h (i-1) (j-1) .(a) .(a)
    .rw[if_neg ci2];exact h i (j-1) .(a) .(a)
  .rw[if_neg cj2,if_neg .(a),if_neg .(a)];exact h i j hij .(a)
theorem zoU:∀(fu:Nat) {p:Array Nat} (k:Nat),k+fu<=p.size->Up f p k->Up f (run f (kas_bin fu p k)) (k+fu)
 | 0,_,_,_,h=>h
 | fu+1,p,k,hz,h=>by
  have e:run f (kas_bin (fu+1) p k)=run f (kas_bin fu (bubble p k (k-run f (kas_place p k k 0 k))) (k+1)):=zer f _ _;rw[e];obtain ⟨a1,a2,a3⟩:=zgL O h k 0 k (yaG _) (yaa _) .(a) (λi hi=>absurd hi (ybF _)) (λi hi hk=>absurd hk .(a));have:=zoU fu (k+1) (by rw[bubble_size];lia) (zt3 O .(a) h a1 a2 a3);rw[show k+(fu+1)=k+1+fu by lia];exact this
omit O in
theorem zec {p:Array Nat}{i j:Nat}(hj:j<=p.size)(k:Nat):(kas_rev p i j).getD k 0=if i<=k/\k<j then p.getD (i+j-1-k) 0 else p.getD k 0:=by
 unfold kas_rev;rw[gd,getElem?_mirror_all hj k,gd p (i+j-1-k),gd p k];split<;>rfl
omit O in
theorem zgm (p:Array Nat)(i j:Nat):(kas_rev p i j).size=p.size:=mirror_size _ _ _ _
omit O in
theorem zta {p:Array Nat}{m:Nat}(hm:m<=p.size)(h:Down f p m):Up f (kas_rev p 0 m) m:=λi j hij hj=>by
 rw[zec hm,zec hm,if_pos .(a),if_pos .(a)];exact h _ _ .(a) .(a)
def zo3 (f:Nat->Nat->Bool)(p:Array Nat)(m q:Nat):Prop:=∀ i j,m-(q+1)<=i->i<m->m-(q+1)<=j->j<m->f (p.getD i 0) (p.getD j 0)=false
omit O in
theorem zk9 {p:Array Nat}{m q:Nat}(hm:m<=p.size)(hq:q+1<=m)(h:Down f p m)(hA:zo3 f p m q):Down f (kas_rev p (m-(q+1)) m) m:=λi j hij hj=>by
 rw[zec hm,zec hm];by_cases ci:m-(q+1)<=i/\i<m
 .rw[if_pos ci,if_pos .(a)];exact hA _ _ .(a) .(a) .(a) .(a)
 .rw[if_neg ci];split
  .exact h _ _ .(a) .(a)
  .exact h _ _ .(a) .(a)
theorem zg4 {m:Nat}(h1:1<=m)(h:Down f p m)(e:f (p.getD (m-1) 0) (p.getD m 0)=false):Down f p (m+1):=λi j hij hj=>by
 by_cases c:j<m
 .exact h i j hij c
 .have:j=m:=by lia
  subst this;by_cases ci:i=j-1
  .rw[ci];exact e
  .exact not_lt O (h i (j-1) .(a) .(a)) e
theorem zgy:∀(fu:Nat) {p:Array Nat} (m q:Nat),q+1<=m->m+fu<=p.size->Down f p m->zo3 f p m q->
  m<=(run f (kas_desc fu p m q)).2.1/\(run f (kas_desc fu p m q)).2.1<=m+fu/\(run f (kas_desc fu p m q)).2.2+1<=(run f (kas_desc fu p m q)).2.1/\(run f (kas_desc fu p m q)).1.size=p.size/\Down f (run f (kas_desc fu p m q)).1 (run f (kas_desc fu p m q)).2.1/\zo3 f (run f (kas_desc fu p m q)).1 (run f (kas_desc fu p m q)).2.1 (run f (kas_desc fu p m q)).2.2
 | 0,p,m,q,hq,hz,h,hA=>⟨yaa _,yaa _,hq,rfl,h,hA⟩
 | fu+1,p,m,q,hq,hz,h,hA=>by
  have one:∀{p':Array Nat},zo3 f p' (m+1) 0:=λ{p'} i j a b c d=>by
   have:i=j:=by lia
   subst this;exact O.irr _
  cases e:f (p.getD m 0) (p.getD (m-1) 0) with
  | true=>
   have st:run f (kas_desc (fu+1) p m q)=run f (if q>0 then kas_desc fu (kas_rev p (m-(q+1)) m) (m+1) 0 else kas_desc fu p (m+1) 0):=by
    show run f (if f (p.getD m 0) (p.getD (m-1) 0)=true then _ else _)=_
    rw[e,if_pos rfl]
   rw[st];by_cases cq:q>0
   .rw[if_pos cq];have hD:=zk9 .(a) hq h hA;have hl:f ((kas_rev p (m-(q+1)) m).getD (m-1) 0) ((kas_rev p (m-(q+1)) m).getD m 0)=false:=by
     rw[zec .(a),zec .(a),if_pos .(a),if_neg .(a)];exact not_lt O (hA _ (m-1) .(a) .(a) .(a) .(a)) (asym O e)
    obtain ⟨b1,b2,b3,b4,b5,b6⟩:=zgy fu (p:=kas_rev p (m-(q+1)) m) (m+1) 0 .(a) (by rw[zgm];lia) (zg4 O .(a) hD hl) one;exact ⟨by lia,by lia,b3,by rw[b4,zgm],b5,b6⟩
   .rw[if_neg cq];obtain ⟨b1,b2,b3,b4,b5,b6⟩:=zgy fu (p:=p) (m+1) 0 .(a) .(a) (zg4 O .(a) h (asym O e)) one;exact ⟨by lia,by lia,b3,b4,b5,b6⟩
  | false=>
   have st:run f (kas_desc (fu+1) p m q)=if f (p.getD (m-1) 0) (p.getD m 0)=true then (p,m,q) else run f (kas_desc fu p (m+1) (q+1)):=by
    show run f (if f (p.getD m 0) (p.getD (m-1) 0)=true then _ else _)=_
    rw[e,if_neg .(i)];show run f (if f (p.getD (m-1) 0) (p.getD m 0)=true then _ else _)=_
    split<;>rfl
   rw[st];cases e2:f (p.getD (m-1) 0) (p.getD m 0) with
   | true=>
    rw[if_pos rfl];exact ⟨yaa _,by show m<=_;lia,hq,rfl,h,hA⟩
   | false=>
    rw[if_neg .(i)];have hA2:zo3 f p (m+1) (q+1):=λi j a b c d=>by
     by_cases ci:i=m
     .by_cases cj:j=m
      .rw[ci,cj];exact O.irr _
      .rw[ci];exact not_lt O e (hA (m-1) j .(a) .(a) .(a) .(a))
     .by_cases cj:j=m
      .rw[cj];exact not_lt O (hA i (m-1) .(a) .(a) .(a) .(a)) e2
      .exact hA i j .(a) .(a) .(a) .(a)
    obtain ⟨b1,b2,b3,b4,b5,b6⟩:=zgy fu (p:=p) (m+1) (q+1) .(a) .(a) (zg4 O .(a) h e2) hA2;exact ⟨by lia,by lia,b3,b4,b5,b6⟩
theorem zkO {p:Array Nat}{m r:Nat}(h1:1<=m)(hm:m<=r)(hr:r<=p.size)(h:Down f p m):m<=(run f (kas_tail3 m r p)).1/\(run f (kas_tail3 m r p)).1<=r/\Up f (run f (kas_tail3 m r p)).2 (run f (kas_tail3 m r p)).1:=by
 have e:run f (kas_tail3 m r p)=(run f (kas_asc (kas_rev p 0 m) (r-m) m),kas_rev p 0 m):=zer f _ _;rw[e];obtain ⟨a1,a2,a3,_⟩:=zkD O (p:=kas_rev p 0 m) (r-m) m h1 (zta .(a) h);exact ⟨a2,by show run f _<=r;lia,a1⟩
theorem zf1 {p:Array Nat}{m r:Nat}(h1:1<=m)(hm:m+1<=r)(hr:r<=p.size)(h:Down f p (m+1)):1<=(run f (kas_descPart m r p)).1/\(run f (kas_descPart m r p)).1<=r/\Up f (run f (kas_descPart m r p)).2 (run f (kas_descPart m r p)).1:=by
 have e:run f (kas_descPart m r p)=run f (if (run f (kas_desc (r-(m+1)) p (m+1) 0)).2.2>0 then kas_tail3 (run f (kas_desc (r-(m+1)) p (m+1) 0)).2.1 r (kas_rev (run f (kas_desc (r-(m+1)) p (m+1) 0)).1 ((run f (kas_desc (r-(m+1)) p (m+1) 0)).2.1-((run f (kas_desc (r-(m+1)) p (m+1) 0)).2.2+1)) (run f (kas_desc (r-(m+1)) p (m+1) 0)).2.1) else kas_tail3 (run f (kas_desc (r-(m+1)) p (m+1) 0)).2.1 r (run f (kas_desc (r-(m+1)) p (m+1) 0)).1):=zer f _ _
 rw[e];obtain ⟨b1,b2,b3,b4,b5,b6⟩:=zgy O (r - (m+1)) (p:=p) (m+1) 0 (by lia) (by lia) h (λi j a b c d=>by
  have:i=j:=by lia
  subst this;exact O.irr _)
 generalize run f (kas_desc (r-(m+1)) p (m+1) 0)=t at b1 b2 b3 b4 b5 b6;split
 .obtain ⟨c1,c2,c3⟩:=zkO O (p:=kas_rev t.1 (t.2.1-(t.2.2+1)) t.2.1) (m:=t.2.1) (r:=r) .(a) .(a) (by rw[zgm,b4];exact hr) (zk9 (by rw[b4];lia) b3 b5 b6);exact ⟨by lia,c2,c3⟩
 .obtain ⟨c1,c2,c3⟩:=zkO O (p:=t.1) (m:=t.2.1) (r:=r) .(a) .(a) (by rw[b4];exact hr) b5;exact ⟨by lia,c2,c3⟩
theorem zoL {p:Array Nat}{r:Nat}(h1:1<=r)(hr:r<=p.size):1<=(run f (kas_count r p)).1/\(run f (kas_count r p)).1<=r/\Up f (run f (kas_count r p)).2 (run f (kas_count r p)).1:=by
 obtain ⟨a1,a2,a3,a4⟩:=zkD O (p:=p) (r-1) 1 (yaa _) (λi j hij hj=>absurd hj .(a));have e:run f (kas_count r p)=run f (if (run f (kas_asc p (r-1) 1)==r)=true then .ret (run f (kas_asc p (r-1) 1),p) else if run f (kas_asc p (r-1) 1)>1 then .ask (p.getD 0 0) (p.getD (run f (kas_asc p (r-1) 1)-1) 0) λc=>if c=true then .ret (run f (kas_asc p (r-1) 1),p) else kas_descPart (run f (kas_asc p (r-1) 1)) r (kas_rev p 0 (run f (kas_asc p (r-1) 1))) else kas_descPart (run f (kas_asc p (r-1) 1)) r p):=zer f _ _
 rw[e];generalize run f (kas_asc p (r-1) 1)=m at a1 a2 a3 a4;by_cases c:m=r
 .subst c;rw[if_pos .(h)];exact ⟨a2,yaa _,a1⟩
 .rw[if_neg (by simpa using c)];have hlt:=a4 .(a);by_cases c1:m>1
  .rw[if_pos c1];cases e2:f (p.getD 0 0) (p.getD (m-1) 0) with
   | true=>
    have st:run f (.ask (p.getD 0 0) (p.getD (m-1) 0) λc=>if c=true then .ret (m,p) else kas_descPart m r (kas_rev p 0 m))=(m,p):=by
     show run f (if f (p.getD 0 0) (p.getD (m-1) 0)=true then _ else _)=_
     rw[e2,if_pos rfl];rfl
    rw[st];exact ⟨a2,by show m<=r;lia,a1⟩
   | false=>
    have st:run f (.ask (p.getD 0 0) (p.getD (m-1) 0) λc=>if c=true then .ret (m,p) else kas_descPart m r (kas_rev p 0 m))=run f (kas_descPart m r (kas_rev p 0 m)):=by
     show run f (if f (p.getD 0 0) (p.getD (m-1) 0)=true then _ else _)=_
     rw[e2,if_neg .(i)]
    rw[st];have low:∀ i,i<m->f (p.getD i 0) (p.getD 0 0)=false:=λi hi=>by
     by_cases ci:i=0
     .rw[ci];exact O.irr _
     .exact a1 0 i .(a) hi
    have high:∀ j,j<m->f (p.getD (m-1) 0) (p.getD j 0)=false:=λj hj=>by
     by_cases cj:j=m-1
     .rw[cj];exact O.irr _
     .exact a1 j (m-1) .(a) .(a)
    have all:∀ i j,i<m->j<m->f (p.getD i 0) (p.getD j 0)=false:=λi j hi hj=>not_lt O (low i hi) (not_lt O e2 (high j hj));refine zf1 O a2 .(a) (by rw[zgm];exact hr) λi j hij hj=>?_;rw[zec .(a),zec .(a),if_pos .(a)];by_cases cj:j<m
    .rw[if_pos .(a)];exact all _ _ .(a) .(a)
    .rw[if_neg .(a),show j=m by lia];exact not_lt O (all _ (m-1) .(a) .(a)) (asym O hlt)
  .rw[if_neg c1];have hm1:m=1:=by lia
   subst hm1;refine zf1 O (yaa _) .(a) hr λi j hij hj=>?_;rw[show i=0 by lia,show j=1 by lia];exact asym O hlt
theorem sort_run {n:Nat}(hn:0<n):Up f (run f (kas_sort n)) n/\Good n (run f (kas_sort n)):=by
 refine ⟨?_,(sort_res hn).run f⟩;obtain ⟨a1,a2,a3⟩:=zoL O (p:=(List.range n).toArray) (r:=n) hn .(h);have g:=(zjC hn (p:=(List.range n).toArray) (Array.Perm.refl _) n).run f;have e:run f (kas_sort n)=run f (if (run f (kas_count n (List.range n).toArray)).1<n then kas_bin (n-max (run f (kas_count n (List.range n).toArray)).1 1) (run f (kas_count n (List.range n).toArray)).2 (max (run f (kas_count n (List.range n).toArray)).1 1) else .ret (run f (kas_count n (List.range n).toArray)).2):=zer f _ _
 rw[e];generalize run f (kas_count n (List.range n).toArray)=t at a1 a2 a3 g;have hs:=Good.size g;rw[Nat.max_eq_left a1];split
 .have:=zoU O (n-t.1) (p:=t.2) t.1 .(a) a3;rw[show t.1+(n-t.1)=n by lia]at this;exact this
 .show Up f t.2 n;rw[show n=t.1 by lia];exact a3
end
end Kas
namespace Tim
open PySem PySem.W PyProof.Rows
section
variable {prog:Program}{w:World}{A:Around}{E:Value->Shared->Prop}{s:Shared}{κ:KeyKind}{kd:SortKind}
theorem zmu {vs:List Value}(keys:∀ v∈vs,∃ k,κ.keyOf v=some k)(hO:LtG prog w A s κ kd)(h2:2<=vs.length)(h64:vs.length<64) :
  wpAny .(j) A (sortRuns'.run (SortSt.mk' kd (vs.toArray.zip vs.toArray) #[] 7 none)) (λr s'=>s'=s/\(arrOf r.2).Perm (pairsOf vs)/\failedOf r.2=none/\Up κ (arrOf r.2) 0 (pairsOf vs).size) E s:=by
 obtain ⟨f,hf⟩:∃ f:Nat->Nat->Bool,f=λi j=>κ.blt (keyV κ (vs.getD i .none)) (keyV κ (vs.getD j .none)):=⟨_,rfl⟩;have O:Kas.Ord f:=by
  subst hf;exact ⟨λa=>κ.irrefl _,λa b c=>κ.trans _ _ _,λa b c=>κ.negTrans _ _ _⟩
 have hn:0<vs.length:=by lia
 have hk:∀ i,i<vs.length->κ.keyOf (vs.getD i .none)=some (keyV κ (vs.getD i .none)):=λi hi=>by
  have e:vs.getD i .none=vs[i]:=by rw[yad,yac hi];rfl
  obtain ⟨k,hk⟩:=keys _ (yaA hi);rw[e];unfold keyV;rw[hk];rfl
 refine kat_run (ks:=vs) rfl h2 h64 (Q:=λst' s'=>s'=s/\(arrOf st').Perm (pairsOf vs)/\failedOf st'=none/\Up κ (arrOf st') 0 (pairsOf vs).size) (G:=λp s'=>s'=s/\Kas.Up f p vs.length/\Kas.Good vs.length p) (λp st' s' hp har hfl hG=>⟨hG.1,?_,hfl,?_⟩) (Kas.wp_of (n:=vs.length) (f:=f) (λi j C hi hj hC=>?_) (Kas.sort_res hn) ⟨rfl,Kas.sort_run O hn⟩)
 .rw[har];have hm:(p.map (kas_item (vs.toArray.zip vs.toArray))).Perm ((List.range vs.length).toArray.map (kas_item (vs.toArray.zip vs.toArray))):=by
   have h1:=(ycq.mp hG.2.2).map (kas_item (vs.toArray.zip vs.toArray));refine ycq.mpr ?_;rw[Array.toList_map,Array.toList_map];exact h1
  have hr:=kas_range (vs.toArray.zip vs.toArray);rw[show (vs.toArray.zip vs.toArray).size=vs.length by simp]at hr;rw[hr]at hm;exact hm
 .intro i j _ hij hj;rw[pairsOf_size]at hj;have hat:∀ x,x<vs.length->kAt κ (arrOf st') x=keyV κ (vs.getD (p.getD x 0) .none):=λx hx=>by
   have hxp:x<p.size:=by lia
   rw[zkl (by rw[har,Array.size_map];exact hxp)];have e:(arrOf st')[x]'(by rw[har,Array.size_map];exact hxp)=(vs.getD (p.getD x 0) .none,vs.getD (p.getD x 0) .none):=by
    have e1:(arrOf st')[x]?=some (kas_item (vs.toArray.zip vs.toArray) (p.getD x 0)):=by
     rw[har,Array.getElem?_map,Array.getElem?_eq_getElem hxp];show some (kas_item _ p[x])=_;have:p.getD x 0=p[x]:=by simp[Array.getD,hxp]
     rw[this]
    rw[kat_item rfl]at e1;exact (Array.getElem?_eq_some_iff.mp e1).2
   rw[e];rfl
  rw[hat i .(a),hat j hj];by_cases c:i=j
  .subst c;exact KeyOrd.kle_refl _
  .have:=hG.2.1 i j .(a) hj;subst hf;exact this
 .unfold kas_ask;subst hf;exact hO _ _ _ _ _ _ (hk i hi) (hk j hj) hC
theorem zpk {a:Addr}{vs:List Value}{n:Nat}{P:Fin->Shared->Prop}(ho:s.heap.get? a=some (seqObj "list" vs.toArray n))(hz:vs.length<=sizeLine)(h64:vs.length<64)(keys:∀ v∈vs,∃ k,κ.keyOf v=some k)
  (hlt:∀ h',zhh a s.heap h'->LtG prog w A { s with heap:=h' } κ kd)
  (hkd:∀(h':Heap) (E:Value->Shared->Prop) (Q:SortKind->Shared->Prop),zhh a s.heap h'->2<=vs.length->Q kd { s with heap:=h' }->wpAny .(j) A (keyKind' vs.toArray) Q E { s with heap:=h' })
  (h:∀ out:List Value,out.Perm vs->out.Pairwise (λx y=>κ.kle (keyV κ x) (keyV κ y))->P (.done (.ret .none)) { s with heap:=sortedHeap s.heap a vs out.toArray }) :
  wpAny .(j) A (Builtin.«list.sort» ⟨[.ref a],[]⟩) P E s:=by
 rw[list_sort_plain];have hlt0:a<s.heap.objs.size:=yaf ho;refine wpAny_bind (listItems_at ho rfl ?_);refine wpAny_bind (listUpdate_at ho rfl ?_ (by simpa using hz) (yaG _));obtain ⟨m,ho1⟩:∃ m,(s.heap.update a (Obj.mapSeq λ_=>#[])).get? a=some (seqObj "list" #[] m):=⟨_,get?_update_seq ho (λ_=>#[])⟩;refine wpAny_bind (seqEpoch_at ho1 rfl ?_);refine wpAny_bind (wpAny_newTuple ?_ (by simpa using hz));refine wpAny_bind (wpAny_newList ?_);refine wpAny_holding ?_;have z1:(s.heap.update a (Obj.mapSeq λ_=>#[])).objs.size=s.heap.objs.size:=by rw[Heap.size_update]
 have hk:zhh a s.heap (((s.heap.update a (Obj.mapSeq λ_=>#[])).push (seqObj "tuple" vs.toArray 0)).push (seqObj "list" #[] 0)):=λb o hb e=>
  yak _ (yak _ ((ybo _ _ (Ne.symm hb)).trans e))
 have ho6:(((s.heap.update a (Obj.mapSeq λ_=>#[])).push (seqObj "tuple" vs.toArray 0)).push (seqObj "list" #[] 0)).get? a=some (seqObj "list" #[] m):=yak _ (yak _ ho1);show wpAny (model prog w) A _ P E { s with heap:=((s.heap.update a (Obj.mapSeq λ_=>#[])).push (seqObj "tuple" vs.toArray 0)).push (seqObj "list" #[] 0) };dsimp only;have fin:∀ st':SortSt,(arrOf st').Perm (pairsOf vs)->failedOf st'=none->Up κ (arrOf st') 0 (pairsOf vs).size->wpAny (model prog w) A (do
   let touched:=(<-seqEpoch a) != m
   Builtin.List.listUpdate (.ref a) λ_=>(arrOf st').map (·.2)
   if let some e:=failedOf st' then rule "list.sort.comparison-raised";throw e
   if touched then rule "list.sort.modified";raiseError "ValueError" "list modified during sort"
   ret .none) P E { s with heap:=((s.heap.update a (Obj.mapSeq λ_=>#[])).push (seqObj "tuple" vs.toArray 0)).push (seqObj "list" #[] 0) }:=λst' hp hf hU=>by
  refine wpAny_bind (seqEpoch_at ho6 rfl ?_);refine wpAny_bind (listUpdate_at ho6 rfl ?_ (yaG _) (by
   refine yax (ybP ((Array.size_map ..).trans (hp.size_eq.trans (pairsOf_size _)))) ?_;lia))
  rw[hf];simp only[bne_self_eq_false,ybS,if_false];obtain ⟨o1,o2⟩:=ztm hp hU;have:=h _ o1 o2;have e:((arrOf st').toList.map (·.2)).toArray=(arrOf st').map (·.2):=by rw[<-Array.toList_map,Array.toArray_toList]
  rw[e]at this;exact wpAny_pure this
 by_cases h2:vs.toArray.size<2
 .rw[if_pos h2,if_pos h2];refine wpAny_bind (wpAny_pure ?_);rw[StateT.run_pure];refine wpAny_bind (wpAny_pure ?_);refine fin (SortSt.mk' general' (vs.toArray.zip vs.toArray) #[] 7 none) (Array.Perm.refl _) rfl ?_;intro i j q1 q2 q3;have:i=j:=by
   rw[pairsOf_size]at q3;simp at h2;lia
  subst this;exact KeyOrd.kle_refl _
 .rw[if_neg h2,if_neg h2];have h2':2<=vs.length:=by
   simp at h2;lia
  refine wpAny_bind (hkd _ _ _ hk h2' ?_);refine wpAny_bind (wpAny_mono (zmu keys (hlt _ hk) h2' h64) ?_ λ_ _ e=>e);rintro ⟨⟨⟩,st'⟩ s' ⟨rfl,hp,hf,hs⟩;exact fin st' hp hf hs
theorem zlM {l:Addr}{vs:List Value}{Q:Value->Shared->Prop}(hl:s.heap.IsList l vs.toArray)(hz:vs.length<=sizeLine)(h64:vs.length<64)(keys:∀ v∈vs,∃ k,κ.keyOf v=some k)
  (hlt:∀ h',(∀ b o,s.heap.get? b=some o->h'.get? b=some o)->LtG prog w A.in1.in1 { s with heap:=h' } κ kd)
  (hkd:∀(h':Heap) (E:Value->Shared->Prop) (Q:SortKind->Shared->Prop),(∀ b o,s.heap.get? b=some o->h'.get? b=some o)->2<=vs.length->Q kd { s with heap:=h' }->wpAny .(j) A.in1.in1 (keyKind' vs.toArray) Q E { s with heap:=h' })
  (h:∀(out:List Value) (h':Heap) (c:Nat),out.Perm vs->out.Pairwise (λx y=>κ.kle (keyV κ x) (keyV κ y))->(∀ b o,s.heap.get? b=some o->h'.get? b=some o)->
   h'.get? (s.heap.objs.size+1)=some (seqObj "list" out.toArray c)->Q (.ref (s.heap.objs.size+1)) { s with heap:=h' }) :
  wpAny .(j) A (call (.builtin "sorted") [.ref l]) Q E s:=by
 refine Calls.call_function_entry kind_sorted plain_sorted entry_sorted (args_sorted1 _) ?_;unfold Builtin.«sorted»;refine wpAny_bind (m:=checkCount "sorted" 1 1 _) (wpAny_pure ?_);refine wpAny_bind (collect_list hl ?_ hz);refine wpAny_bind (wpAny_newList ?_ (by simpa using hz));have z1:((s.heap.push (seqObj "list" #[] 0)).update s.heap.objs.size (Obj.mapSeq (· ++ vs.toArray))).objs.size=s.heap.objs.size+1:=by
  rw[Heap.size_update,size_push']
 have hn:(((s.heap.push (seqObj "list" #[] 0)).update s.heap.objs.size (Obj.mapSeq (· ++ vs.toArray))).push (seqObj "list" vs.toArray 0)).get? (s.heap.objs.size+1)=some (seqObj "list" vs.toArray 0):=by
  rw[<-z1];exact yaI _ rfl
 have hk:∀ b o,s.heap.get? b=some o->(((s.heap.push (seqObj "list" #[] 0)).update s.heap.objs.size (Obj.mapSeq (· ++ vs.toArray))).push (seqObj "list" vs.toArray 0)).get? b=some o:=λb o e=>
  yak _ ((ybo _ _ (ybm (yaf e))).trans (yak _ e))
 show wpAny _ _ _ _ _ { s with heap:=((s.heap.push (seqObj "list" #[] 0)).update s.heap.objs.size (Obj.mapSeq (· ++ vs.toArray))).push (seqObj "list" vs.toArray 0) };rw[z1];generalize ((s.heap.push (seqObj "list" #[] 0)).update s.heap.objs.size (Obj.mapSeq (· ++ vs.toArray))).push (seqObj "list" vs.toArray 0)=h1 at hn hk ⊢;have up:∀ h',zhh (s.heap.objs.size+1) h1 h'->∀ b o,s.heap.get? b=some o->h'.get? b=some o:=λh' kb b o e=>kb b o (λz=>by
  have:=yaf e;rw[z]at this;exact absurd this (Nat.not_lt.mpr (ybh _))) (hk b o e)
 refine wpAny_bind (wpAny_holding (wpAny_call_entry slot_list_sort ⟨_,hn,rfl⟩ entry_list_sort (zpk (s:={ s with heap:=h1 }) hn hz h64 keys (λh' kb=>hlt h' (up h' kb)) (λh' E Q kb h2 q=>hkd h' E Q (up h' kb) h2 q) λout p1 p2=>⟨_,rfl,?_⟩) (args_list_sort _)));obtain ⟨kb,c,hc⟩:=zkk (out:=out) hn;exact wpAny_pure ⟨_,rfl,h out _ c p1 p2 (up _ kb) hc⟩
end
end Tim
namespace L2
open PySem PySem.Spec PyProof.Rows
def zpn (α:Type)[Rep α][Srt α](K:Frag):List V->Hp->VK->Prop:=λxs H Q=>∃(p:Addr) (vs:List V) (as:List α),xs=[.ref p]/\SqL K H p vs/\zam K H as vs/\as.length<64/\
 ∀ l ws,H l=none->zam K H (zd1 as) ws->Q (.ref l) (upd H l (.lst ws))
section
variable {X:Cx}
theorem zeg (α:Type)[Rep α][Srt α]:zdg X (.builtin "sorted") (zpn α X.K):=by
 intro pins s U H xs us Q I r h;obtain ⟨p,vs,as,rfl,hq,ha,h64,q⟩:=h;obtain ⟨u,rfl,rx⟩:=zgD r;cases rx
 obtain ⟨its,rv,pl,hz⟩:=I.list hq;have hlen:=rv.length;obtain ⟨km,kk⟩:=zn8 I ha rv;refine Tim.zlM (κ:=srtKind α X.K H) (kd:=Srt.kd α) pl.isList .(a) (by have:=ha.length;lia) (λv hv=>?_) (λh' k E x y a b Q hx hy q=>?_) (λh' E Q k h2 q=>Srt.kind (Inv.kept (t':=s.toks) I k) ha rv h2 q) λout h' c p1 p2 k hc=>?_
 .obtain ⟨a,_,_,_,e⟩:=kk v hv;exact ⟨a,e⟩
 .obtain ⟨x1,r1,e1⟩:=zhB hx;obtain ⟨y1,r2,e2⟩:=zhB hy;exact Srt.lt (Inv.kept (t':=s.toks) I k) e1 e2 r1 r2 q
 .obtain ⟨ws,bs,w1,w2,w3⟩:=zjk (α:=α) (K:=X.K) (H:=H) (out:=out) λv hv=>kk v (p1.mem_iff.mp hv);have eb:bs=zd1 as:=by
   refine zk4 ?_ ?_
   .rw[w3,<-km];exact p1.map _
   .rw[w3];exact ybR.mpr p2
  rw[eb]at w2;have hw:ws.length<=sizeLine:=by
   have:=w1.length;have:=p1.length_eq;lia
  exact ⟨.ref (s.heap.objs.size+1),_,I.laid (a:=s.heap.objs.size+1) (o:=.lst ws) (t':=s.toks) k (ybh _) ⟨hw,out,c,w1,hc⟩,rfl,q _ ws (I.hok.fresh (ybh _)) w2⟩
end
end L2
namespace L2
open PySem PySem.Spec PyProof.Rows
theorem zbw.there {w:World}{h:Heap}{a:Addr}{o:HO}(x:zbw P w H h a o):∃ ob,h.get? a=some ob:=by
 cases o with
 | lst xs=>obtain ⟨_,_,_,_,e⟩:=x;exact ⟨_,e⟩
 | tup xs=>obtain ⟨_,_,_,o,e,_⟩:=x;exact ⟨_,e⟩
 | dK kvs=>obtain ⟨_,_,_,_,o,_,_,e,_⟩:=x;exact ⟨_,e⟩
 | dT kvs=>obtain ⟨_,_,_,_,o,_,_,e,_⟩:=x;exact ⟨_,e⟩
 | set S n=>obtain ⟨o,_,_,_,e,_⟩:=x;exact ⟨_,e⟩
 | ins C dx fs=>obtain ⟨_,_,_,e,_⟩:=x;exact ⟨_,e⟩
 | own y=>obtain ⟨o,e⟩:=x;exact ⟨o,e⟩
 | xd fs=>obtain ⟨_,⟨o,_,_,e,_⟩,_⟩:=x;exact ⟨_,e⟩
 | rng lo hi=>obtain ⟨_,_,_,e⟩:=x;exact ⟨_,e⟩
 | frz ob u=>obtain ⟨e,_⟩:=x;exact ⟨_,e⟩
 | tbl ps=>exact ⟨_,(show h.get? a=some _ from x)⟩
 | met f y=>exact ⟨_,(show h.get? a=some _ from x)⟩
 | ext φ=>obtain ⟨_,⟨o,e⟩,_⟩:=x;exact ⟨o,e⟩
structure Air (P:Program)(w:World)(l:List Env)(H:Hp)(old:Heap)(a:Addr)(cls fl:Value)(H':Hp)(h:Heap):Prop where
 un:Un (frs l) [] H H' old h
 hok:HOk P w H' h
 ua:H' a=none
 na:old.get? a=none
 uf:∀ b∈frs l,H' b=none
 nf:∀ b∈frs l,∃ o,h.get? b=some o/\∀ vs,o.data≠.fields vs
 tr:∃(a0:Value) (oe:Obj) (vs:Array Value) (T:Addr) (oT:Obj) (ts:Array Value),(h.get? a=some oe/\(oe.cls=cls/\vs[0]?=some a0)/\oe.data=.fields vs/\vs[1]?=some (.ref T)/\T≠a/\h.get? T=some oT/\oT.data=.fields ts/\ts[3]?=some fl)/\H' T=none/\old.get? T=none
section
variable {P:Program}{w:World}{l:List Env}{H H':Hp}{old h h':Heap}{a:Addr}{cls fl fl':Value}
theorem Air.step (x:Air P w l H old a cls fl H' h)(hl:∀ B:Heap,(∀ b,b∈frs l->B.get? b=none)->∀ h:Heap,(∀ b∈frs l,∃ o,h.get? b=some o/\∀ vs,o.data≠.fields vs)->h.FunFrames B l) :
  ∃(B:Heap) (a0:Value),B.StaysIn h/\B.get? a=none/\h.FunFrames B l/\h.TracedAtW B a cls a0 fl/\
   ∀(h':Heap) (fl':Value),B.StaysIn h'->h.UpToSlots h'->h'.TracedAtW B a cls a0 fl'->Air P w l H old a cls fl' H' h':=by
 obtain ⟨a0,oe,vs,T,oT,ts,⟨e1,e2,e3,e4,e5,e6,e7,e8⟩,u1,u2⟩:=x.tr;have hB:∀ b o,h.get? b=some o->b≠a->b≠T->b∉frs l->(PySem.W.hideAll h (a::T::frs l)).get? b=some o:=λb o e n1 n2 n3=>PySem.W.hideAll_get _ e λhm=>by
  rcases yag.mp hm with z|hm
  .exact n1 z
  rcases yag.mp hm with z|hm
  .exact n2 z
  .exact n3 hm
 refine ⟨PySem.W.hideAll h (a::T::frs l),a0,λb o q=>PySem.W.of_hideAll _ q,PySem.W.hideAll_none _ yau,hl _ (λb hb=>PySem.W.hideAll_none _ (yar _ (yar _ hb))) h x.nf,?_,?_⟩
 .exact ⟨oe,vs,T,oT,ts,e1,e2,e3,e4,PySem.W.hideAll_none _ (yar _ yau),e5,e6,e7,e8⟩
 intro h' fl' k1 k2 k3;have kT:∀ b o,h.get? b=some o->b≠a->b≠T->∃ sl,h'.get? b=some { o with slots:=sl }:=λb o e n1 n2=>by
  by_cases hb:b∈frs l
  .obtain ⟨o',q,nf⟩:=x.nf b hb;rw[e]at q;cases q
   exact k2 b o e nf
  .exact ⟨o.slots,k1 b o (hB b o e n1 n2 hb)⟩
 have ne:∀ b u,H' b=some u->b≠a/\b≠T/\b∉frs l:=λb u e=>⟨zac e x.ua,zac e u1,λhb=>(by rw[x.uf b hb]at e;cases e)⟩
 have ne2:∀ b o,old.get? b=some o->b≠a/\b≠T:=λb o e=>⟨λz=>(by rw[z,x.na]at e;cases e),λz=>(by rw[z,u2]at e;cases e)⟩
 refine ⟨⟨λb o e n hb hx=>?_,λb o e n hb hx=>?_,x.un.free,λb o e hx=>?_,x.un.tups,x.un.frzs,x.un.tbls⟩,λb u e=>?_,x.ua,x.na,x.uf,λb hb=>?_,?_⟩
 .exact k1 b o (hB b o (x.un.keep b o e n hb hx) (ne2 b o e).1 (ne2 b o e).2 hb)
 .obtain ⟨sl,q⟩:=x.un.slot b o e n hb hx;obtain ⟨sl',q'⟩:=kT b _ q (ne2 b o e).1 (ne2 b o e).2;exact ⟨sl',q'⟩
 .obtain ⟨o',q⟩:=x.un.there b o e hx;obtain ⟨sl',q'⟩:=kT b _ q (ne2 b o e).1 (ne2 b o e).2;exact ⟨_,q'⟩
 .refine (x.hok b u e).stay (λc v hc q=>?_) (λ_ q=>q) λ_ _ q=>q;have hc':∃ z,H' c=some z:=by
   rcases hc with rfl|z
   .exact ⟨_,e⟩
   .exact ⟨_,z⟩
  obtain ⟨z,ez⟩:=hc';exact k1 c v (hB c v q (ne c z ez).1 (ne c z ez).2.1 (ne c z ez).2.2)
 .obtain ⟨o,q,nf⟩:=x.nf b hb;obtain ⟨sl,q'⟩:=k2 b o q nf;exact ⟨_,q',nf⟩
 .obtain ⟨oe',vs',T',oT',ts',f1,f2,f3,f4,f5,f6,f7,f8,f9⟩:=k3;have hnT:T'∉frs l:=λhb=>by
   obtain ⟨o,q,nf⟩:=x.nf T' hb;obtain ⟨sl,q'⟩:=k2 T' o q nf;rw[f7]at q';cases q'
   exact nf _ f8
  have hno:∀ o,h.get? T'=some o->T'=T:=λo e=>Decidable.byContradiction λz=>by
   rw[hB T' o e f6 z hnT]at f5;cases f5
  refine ⟨a0,oe',vs',T',oT',ts',⟨f1,f2,f3,f4,f6,f7,f8,f9⟩,?_,?_⟩
  .cases e:H' T' with
   | none=>rfl
   | some u=>
    obtain ⟨o,q⟩:=(x.hok T' u e).there;rw[hno o q,u1]at e;cases e
  .cases e:old.get? T' with
   | none=>rfl
   | some o=>
    obtain ⟨o',q⟩:=x.un.there T' o e .(h);rw[hno o' q,u2]at e;cases e
end
theorem zg2 {base h0:Heap}:∀{l:List Env},h0.FunFrames base l->∀ B h:Heap,(∀ b,b∈frs l->B.get? b=none)->(∀ b∈frs l,∃ o,h.get? b=some o/\∀ vs,o.data≠.fields vs)->h.FunFrames B l
 | [],_,_,_,_,_=>trivial
 | env::r,⟨hk,⟨L,o,hf,_,_,_⟩,hr⟩,B,h,hB,hh=>by
  have e:frs (env::r)=L::frs r:=by unfold frs;rw[ybx,hf]
  rw[e]at hB hh;obtain ⟨o',q,nf⟩:=hh L yau;exact ⟨hk,⟨L,o',hf,hB L yau,q,nf⟩,zg2 hr B h (λb hb=>hB b (yar _ hb)) λb hb=>hh b (yar _ hb)⟩
def CXE (P:Program)(w:World):CXT:=λouter H s E e s'=>∃(a:Addr) (cls:Value) (H':Hp),e=.ref a/\s'.os=s.os/\AllBare s'.gens/\Air P w outer H s.heap a cls .none H' s'.heap/\E cls none H'
section
variable {P:Program}{w:World}{K:Frag}{mg:Str->Option Value}{base:Heap}{N:List Str}{q:Str}{sc:Scope}{f:Addr}{cd:Value}{A:Around}{outer:List Env}{s0:Shared}{H0:Hp}{E:XK}
abbrev cxE (P:Program)(w:World)(K:Frag)(mg:Str->Option Value)(base:Heap)(N:List Str)(q:Str)(sc:Scope)(f:Addr)(cd:Value)(A:Around)(outer:List Env)(s0:Shared)(H0:Hp)(E:XK):Cx:=cxOf (CXE P w) P w K mg base N q sc f cd A outer s0 H0 E
theorem ztV (I:Inv X pins U H s):∀ b∈frs X.stack,∃ o,s.heap.get? b=some o/\∀ vs,o.data≠.fields vs:=λb hb=>(I.stack.mem hb).2
theorem Air.out {s:Shared}{a:Addr}{cls:Value}(I:Inv (cxE P w K mg base N q sc f cd A outer s0 H0 E) pins U H s)(x:Air P w (envOfC q sc s0.heap.objs.size f cd::outer) H s.heap a cls fl H' h):Air P w outer H0 s0.heap a cls fl H' h:=by
 have ef:frs (envOfC q sc s0.heap.objs.size f cd::outer)=s0.heap.objs.size::frs outer:=rfl;have nl:∀ b o,s0.heap.get? b=some o->b≠s0.heap.objs.size:=λb o e=>yat (yaf e);have nx:∀ b:Addr,b∉(cxE P w K mg base N q sc f cd A outer s0 H0 E).ex:=λb z=>absurd (show b∈([]:List Addr) from z) .(h);obtain ⟨a0,oe,vs,T,oT,ts,tr,u1,u2⟩:=x.tr;have old:∀ b,s.heap.get? b=none->s0.heap.get? b=none:=λb e=>by
  cases z:s0.heap.get? b with
  | none=>rfl
  | some o=>
   obtain ⟨o',e'⟩:=I.base.there b o z (nx b);rw[e]at e';cases e'
 refine ⟨⟨λb o e n hb hx=>?_,λb o e n hb hx=>?_,λb o e n hx=>?_,λb o e hx=>?_,λb xs e=>x.un.tups b xs (I.base.tups b xs e),λb o u e=>x.un.frzs b o u (I.base.frzs b o u e),λb ps e=>?_⟩,x.hok,x.ua,old a x.na,λb hb=>x.uf b (by rw[ef];exact yar _ hb),λb hb=>x.nf b (by rw[ef];exact yar _ hb),a0,oe,vs,T,oT,ts,tr,u1,old T u2⟩
 .exact x.un.keep b o (I.base.keep b o e n hb (nx b)) (I.base.free b o e n (nx b)) (by rw[ef];exact λz=>(yag.mp z).elim (nl b o e) hb) hx
 .obtain ⟨sl,e1⟩:=I.base.slot b o e n hb (nx b);obtain ⟨sl',e2⟩:=x.un.slot b _ e1 (I.base.free b o e n (nx b)) (by rw[ef];exact yar _ hb) hx;exact ⟨sl',e2⟩
 .obtain ⟨o',e'⟩:=I.base.there b o e (nx b);exact x.un.free b o' e' (I.base.free b o e n (nx b)) hx
 .obtain ⟨o',e'⟩:=I.base.there b o e (nx b);exact x.un.there b o' e' hx
 .obtain ⟨m1,e1⟩:=I.base.tbls b ps e;obtain ⟨m2,e2⟩:=x.un.tbls b _ e1;exact ⟨m1++m2,by rw[e2,Array.append_assoc]⟩
theorem zsL {h':Heap}{a:Addr}{cls:Value}{vs:List Value}(I:Inv (cxE P w K mg base N q sc f cd A outer s0 H0 E) pins U H s)(m:Heap.MadeExcOf s.heap h' a cls vs)(hE:E cls none H) :
  (cxE P w K mg base N q sc f cd A outer s0 H0 E).xe (.ref a) { s with heap:=h' }:=by
 have hin:=ztV I;have hB:∀ b o,s.heap.get? b=some o->b∉frs (envOfC q sc s0.heap.objs.size f cd::outer)->(PySem.W.hideAll s.heap (frs (envOfC q sc s0.heap.objs.size f cd::outer))).get? b=some o:=λb o e n=>PySem.W.hideAll_get _ e n;show wpAny _ _ (leaving _ _) _ _ _;refine wpAny_leaves_madeW (base:=PySem.W.hideAll s.heap (frs (envOfC q sc s0.heap.objs.size f cd::outer))) I.ok.frames rfl (λb o q=>PySem.W.of_hideAll _ q) (zg2 I.stack _ _ (λb hb=>PySem.W.hideAll_none _ hb) hin) m λh2 t k1 k2 k3 k4=>?_;obtain ⟨k11,k12,k13,oe,ws,T,oT,ts,f1,f2,f3,f4,f5,f6,f7,f8,f9⟩:=k1;have kT:∀ b o,s.heap.get? b=some o->∃ sl,h2.get? b=some { o with slots:=sl }:=λb o e=>by
  by_cases hb:b∈frs (envOfC q sc s0.heap.objs.size f cd::outer)
  .obtain ⟨o',z,nf⟩:=hin b hb;rw[e]at z;cases z
   exact k4 b o (m.keeps b o e) nf
  .exact ⟨o.slots,k11 b o (hB b o e hb)⟩
 have trk:∀ b u,H b=some u->∃ o,s.heap.get? b=some o/\b∉frs (envOfC q sc s0.heap.objs.size f cd::outer):=λb u e=>by
  obtain ⟨o,z⟩:=(I.hok b u e).there;exact ⟨o,z,λhb=>(by rw[I.stkFree b hb]at e;cases e)⟩
 have hnT:T∉frs (envOfC q sc s0.heap.objs.size f cd::outer):=λhb=>by
  obtain ⟨o,z,nf⟩:=hin T hb;obtain ⟨sl,z'⟩:=kT T o z;rw[f7]at z';cases z'
  exact nf _ f8
 have x:Air P w (envOfC q sc s0.heap.objs.size f cd::outer) H s.heap a cls .none H h2:=by
  refine ⟨⟨λb o e n hb hx=>k11 b o (hB b o e hb),λb o e n hb hx=>kT b o e,λb o e n hx=>n,λb o e hx=>?_,λb xs e=>e,λb o u e=>e,λb ps e=>⟨#[],by rw[e];simp⟩⟩,λb u e=>?_,?_,m.new,I.stkFree,λb hb=>?_,.ref t,oe,ws,T,oT,ts,⟨f1,f2,f3,f4,f6,f7,f8,f9⟩,?_,?_⟩
  .obtain ⟨sl,z⟩:=kT b o e;exact ⟨_,z⟩
  .refine (I.hok b u e).stay (λc v hc z=>?_) (λ_ q=>q) λ_ _ q=>q;have hc':∃ y,H c=some y:=by
    rcases hc with rfl|y
    .exact ⟨_,e⟩
    .exact ⟨_,y⟩
   obtain ⟨y,ey⟩:=hc';obtain ⟨o,_,n⟩:=trk c y ey;exact k11 c v (hB c v z n)
  .cases e:H a with
   | none=>rfl
   | some u=>
    obtain ⟨o,z,_⟩:=trk a u e;rw[m.new]at z;cases z
  .obtain ⟨o,z,nf⟩:=hin b hb;obtain ⟨sl,z'⟩:=kT b o z;exact ⟨_,z',nf⟩
  .cases e:H T with
   | none=>rfl
   | some u=>
    obtain ⟨o,z,n⟩:=trk T u e;rw[hB T o z n]at f5;cases f5
  .cases e:s.heap.get? T with
   | none=>rfl
   | some o=>
    rw[hB T o e hnT]at f5;cases f5
 exact ⟨a,cls,H,rfl,I.os,I.bare,x.out I,hE⟩
end
end L2
namespace L2
open PySem PySem.Spec PyProof.Rows
abbrev zo7:List Value:=[.type "ValueError",.type "Exception",.type "BaseException",.type "object"]
theorem zsu {K:Frag}{h:Heap}{C:Addr}{bmB:List Value}{newId:String}(X:K.In h)(q:PySem.W.excIn K C bmB newId=true) :
  ∃ bm N nm qn bs hdct sn sub ab col dd k0 k1 k2 k3 k5,∃ mN:Str->Option Value,h.get? C=some (excClassObj nm qn C N bs bm hdct sn sub ab col dd k0 k1 k2 k3 k5 newId)/\h.Ns N mN/\mN "__init__" = none/\OwnTail h bmB bm:=by
 unfold PySem.W.excIn at q;split at q
 rotate_left
 .exact absurd q .(i)
 rename_i dct cdt slots hlook;split at q
 rotate_left
 .exact absurd q .(i)
 rename_i C2 tail s0 s1 s2 s3 nid s5 hmro hslots;simp only[ybb,beq_iff_eq,ybT]at q;obtain ⟨⟨⟨⟨⟨z1,z2⟩,z3⟩,z4⟩,z5⟩,z6⟩:=q;subst z1 z2;obtain ⟨cnm,cbs,cmro,cns,cqn,chd,csn,csub,cab,ccol,cdel⟩:=cdt;dsimp only at hmro z3 z5 z6;subst hmro z3;obtain ⟨ls⟩:=slots;dsimp only at hslots;subst hslots;exact ⟨tail,cns,cnm,cqn,cbs,chd,csn,csub,cab,ccol,dct,s0,s1,s2,s3,s5,_,X _ _ hlook,.of_isNs (PySem.W.isNs_of_in X z5),PySem.W.nsMap_none_of_in X z5 z6,PySem.W.tail_of_in X z4⟩
structure Exc (K:Frag)(mg:Str->Option Value)(x:Str)(C:Addr):Prop where
 nm:mg x=some (.ref C)
 ex:PySem.W.excIn K C zo7 "ValueError.__new__" = true
def Thr (X:Cx)(E:XK):Prop:=∀(pins:List (Addr×Obj)) (U:St) (H:Hp) (s:Shared) (h':Heap) (a:Addr) (cls:Value) (vs:List Value),Inv X pins U H s->Heap.MadeExcOf s.heap h' a cls vs->E cls none H->X.xe (.ref a) { s with heap:=h' }
theorem thrX {K:Frag}:Thr (cxE P w K mg base N q sc f cd A outer s0 H0 E) E:=λ_ _ _ _ _ _ _ _ I m hE=>zsL I m hE
def zsM (C:Addr)(E:XK)(t:TA):TS:=λ_ U H=>t U H λvs H1=>vs.length<=sizeLine/\E (.ref C) none H1
section
variable {X:Cx}{x:Str}{C:Addr}{E:XK}{e:Expr}{es:List Expr}{t:TA}{np cpos pos:Pos}
theorem zh9 (O:Exc X.K X.mg x C)(hT:Thr X E)(hc:X.calm=true)(hg:Gl X x)(ha:PA X (e::es) t)(hd:(x==("__debug__" : Str))=false:=by decide)(he:starEach (e::es) X.env=(false,eval e X.env)::starEach es X.env:=by rfl)(hpl:(backTo cpos (starEach es X.env)).any (·.1)=false:=by rfl) :
  PS X (.Raise (some (.Call (.Name x np) (e::es) [] cpos)) none pos) (zsM C E t):=by
 intro pins s U H D I h;obtain ⟨bm,Nn,nm,qn,bs,hdct,sn,sub,ab,col,dd,k0,k1,k2,k3,k5,mN,hC,hN,hni,T⟩:=zsu I.mod.kin O.ex;refine wpAny_Raise_call_subT (C:=C) (nm:=nm) (q:=qn) (N:=Nn) (bs:=bs) (bm:=bm) (hdct:=hdct) (sn:=sn) (sub:=sub) (ab:=ab) (col:=col) (dd:=dd) (k0:=k0) (k1:=k1) (k2:=k2) (k3:=k3) (k5:=k5)
  F.excBase_ValueError (mN:=mN) (T.hasType F.excBase_ValueError.hasBase) (I.ok.hd hc) (by rw[he];exact hpl) hni (zdO I hg O.nm ⟨rfl,?_⟩ hd)
 have h1:=ha cpos pins s U H _ I h;rw[he]at h1 ⊢;refine Calls.evalArgs_plain (thn h1 λus s1 zq0=>?_);obtain ⟨vs,H1,I1,r,hl,hE⟩:=zq0;exact ⟨rfl,by rw[<-r.length];exact hl,I1.bk _ _ hC,hN.keeps I1.bk,T.keeps I1.bk,λh' a m=>hT pins U H1 s1 h' a _ _ I1 m hE⟩
end
end L2
namespace L2
open PySem PySem.Spec PyProof.Rows
def zoA (a:Addr)(cls:Value):HO:=.ext λh=>∃ oe vs,h.get? a=some oe/\oe.cls=cls/\oe.data=.fields vs
def Cx.inH (X:Cx)(a:Addr):Cx:={ X with A:=X.A.mark (some (.ref a)),calm:=false,xe:=λ_ _=>False }
section
variable {X:Cx}{pins:List (Addr×Obj)}{U:St}{H H':Hp}{s:Shared}
theorem Inv.inH (I:Inv X pins U H s)(a:Addr):Inv (X.inH a) pins U H s:=
 ⟨⟨I.ok.mod,I.ok.kind,I.ok.glob,I.ok.blt,I.ok.above,I.ok.inj,I.ok.has,I.ok.cab,nofun,I.ok.frames,I.ok.stk,I.ok.exf,I.ok.bs,I.ok.bsz,I.ok.noex,I.ok.exfs,I.ok.funs,I.ok.frf⟩,I.os,I.bare,I.base,I.loc,I.cell,I.free,I.freeC,I.pin,I.hok,I.len⟩
theorem Inv.outH {a:Addr}(hh:X.calm=true->X.A.handled=none)(I:Inv (X.inH a) pins U H s):Inv X pins U H s:=
 ⟨⟨I.ok.mod,I.ok.kind,I.ok.glob,I.ok.blt,I.ok.above,I.ok.inj,I.ok.has,I.ok.cab,hh,I.ok.frames,I.ok.stk,I.ok.exf,I.ok.bs,I.ok.bsz,I.ok.noex,I.ok.exfs,I.ok.funs,I.ok.frf⟩,I.os,I.bare,I.base,I.loc,I.cell,I.free,I.freeC,I.pin,I.hok,I.len⟩
theorem Inv.unname {i:Nat}{x:Str}{m:Str->Option Value}{h':Heap}{v:Option Value}{tk:Nat}(I:Inv X pins U H s)(hN:X.N.Nodup)(hi:X.N[i]?=some x)(hn:s.heap.Ns X.env.locals m)(hn':h'.Ns X.env.locals (λy=>if y=x then v else m y))(hs:Heap.SameBut X.env.locals s.heap h') :
  Inv X pins (U.set i none) H { s with heap:=h',toks:=tk }:=by
 obtain ⟨m0,hn0,hl⟩:=id I.loc;have em:m0=m:=by
  funext y
  obtain ⟨o,es,ep,a1,a2,a3,a4⟩:=hn0;obtain ⟨o',es',ep',b1,b2,b3,b4⟩:=hn;rw[a1]at b1;cases b1
  rw[a2]at b2;cases b2
  rw[<-a4 y,<-b4 y]
 subst em;have ab:∀ b o,X.s₀.heap.get? b=some o->b≠X.env.locals:=λb o e=>yat (yaB (yaf e) I.ok.above);have trk:∀ b u,H b=some u->b≠X.env.locals:=λb u e=>zac e I.free;refine ⟨I.ok,I.os,I.bare,⟨λb o e n hb hx=>(hs.2 b (ab b o e)).trans (I.base.keep b o e n hb hx),λb o e n hb hx=>?_,I.base.free,λb o e hx=>?_,I.base.tups,I.base.frzs,I.base.tbls⟩,⟨_,hn',λj y u e1 e2 e3=>?_⟩,λy c e=>?_,I.free,I.freeC,λp hp=>?_,λb u e=>?_,by simpa using I.len⟩
 .obtain ⟨sl,e1⟩:=I.base.slot b o e n hb hx;exact ⟨sl,(hs.2 b (ab b o e)).trans e1⟩
 .obtain ⟨o',e1⟩:=I.base.there b o e hx;exact ⟨o',(hs.2 b (ab b o e)).trans e1⟩
 .have hj:j≠i:=λz=>by
   subst z;rw[ybt]at e2;simp at e2
  rw[ycn (Ne.symm hj)]at e2;obtain ⟨u',r',q⟩:=hl j y u e1 e2 e3;have hyx:y≠x:=λz=>hj (zil hN e1 (z ▸ hi));refine ⟨u',r',?_⟩;rcases q with ⟨k,e⟩|⟨k,c,e,z⟩
  .exact .inl ⟨k,by simp[hyx,e]⟩
  .exact .inr ⟨k,c,e,z.sameBut hs (I.cne y c e)⟩
 .obtain ⟨w',z⟩:=I.cell y c e;exact ⟨w',z.sameBut hs (I.cne y c e)⟩
 .obtain ⟨e,n,ne,nf,d⟩:=I.pin p hp;exact ⟨(hs.2 p.1 ne).trans e,n,ne,nf,d⟩
 .refine (I.hok b u e).stay (λc w' hc q=>(hs.2 c ?_).trans q) (λ_ q=>q) λ_ _ q=>q;rcases hc with rfl|z
  .exact trk _ _ e
  .exact trk _ _ z
theorem Air.held {s':Shared}{a:Addr}{cls:Value}(I:Inv X pins U H1 s1)(ho:s'.os=s1.os)(hg:AllBare s'.gens)(x:Air X.prog X.w X.stack H1 s1.heap a cls fl H' h)(tk:Nat):Inv X pins U (upd H' a (zoA a cls)) { s' with heap:=h,toks:=tk }:=by
 obtain ⟨a0,oe,vs,T,oT,ts,⟨e1,e2,e3,_⟩,_,_⟩:=x.tr;have nt:∀ b u,H' b=some u->b≠a:=λb u e=>zac e x.ua;have un:Un (frs X.stack) [] H1 (upd H' a (zoA a cls)) s1.heap h:=by
  refine ⟨x.un.keep,x.un.slot,λb o e n hx=>?_,x.un.there,λb xs e=>?_,λb o u e=>?_,λb ps e=>?_⟩
  .rw[zag (λz=>by rw[z,x.na]at e;cases e)]
   exact x.un.free b o e n hx
  .have:=x.un.tups b xs e;rw[zag (nt b _ this)];exact this
  .have:=x.un.frzs b o u e;rw[zag (nt b _ this)];exact this
  .obtain ⟨m,this⟩:=x.un.tbls b ps e;exact ⟨m,by rw[zag (nt b _ this)];exact this⟩
 have hok:HOk X.prog X.w (upd H' a (zoA a cls)) h:=λb u e=>by
  by_cases hb:b=a
  .subst hb;rw[zab]at e;cases e
   exact ⟨⟨oe,vs,e1,e2.1,e3⟩,⟨oe,e1⟩,λh1 h2 zq0 k=>(by obtain ⟨o,ws,z1,z2,z3⟩:=zq0;exact ⟨o,ws,k o z1,z2,z3⟩)⟩
  .rw[zag hb]at e;refine (x.hok b u e).stay (λc v _ q=>q) (λc q=>by rw[zag (nt c _ q)];exact q) λc xs q=>by rw[zag (nt c _ q)];exact q
 obtain ⟨hh,g,d,t,os⟩:=s';obtain rfl:os=s1.os:=ho;have J:=I.call (h':=h) (g':=g) (d':=d) (t':=tk) (ch:=[]) un hok hg (λb z=>absurd z .(h));exact J
theorem Air.inv {s':Shared}{a:Addr}{cls:Value}(I:Inv X pins U H1 s1)(ho:s'.os=s1.os)(hg:AllBare s'.gens)(x:Air X.prog X.w X.stack H1 s1.heap a cls fl H' h)(tk:Nat):Inv X pins U H' { s' with heap:=h,toks:=tk }:=by
 obtain ⟨hh,g,d,t,os⟩:=s';obtain rfl:os=s1.os:=ho;have J:=I.call (h':=h) (g':=g) (d':=d) (t':=tk) (ch:=[]) x.un x.hok hg (λb z=>absurd z .(h));exact J
end
structure zhk (K:Frag)(C D:Addr):Prop where
 sub:mroIn K C (.ref D)=some true
 cls:(PySem.W.clsIn K D).isSome=true
 ty:PySem.W.typeIn K (.ref D)=some (.type "type")
 exc:mroIn K D (.type "BaseException")=some true
theorem zoz {K:Frag}{prog:Program}{w:World}{A:Around}{E:Value->Shared->Prop}{s:Shared}{a:Addr}{oe:Obj}{Q:Bool->Shared->Prop}(X:K.In s.heap)(c:zhk K C D)(he:s.heap.get? a=some oe)(hc:oe.cls=.ref C)(q:Q true s):wpAny .(j) A (excMatches (.ref a) (.ref D)) Q E s:=by
 obtain ⟨hh,g,d,t,os⟩:=s;have L1:PySem.W.Looks .(j) hh (isInstance (.ref D) (.type "tuple")) false:=(PySem.W.looks_typeIn X c.ty).andThen (PySem.W.Looks.of_pure (by rw[isSubtype_type];kernel_rfl));have L2:PySem.W.Looks .(j) hh (isType (.ref D)) true:=by
  obtain ⟨cd,hcd⟩:=yb3.mp c.cls;unfold PySem.W.clsIn at hcd;split at hcd
  .rename_i ho;intro A' Q' E' s' k z;unfold isType loadHead;exact wpAny_bind (wpAny_loadPart (k _ _ (X _ _ ho)) (wpAny_pure z))
  .cases hcd
 have L3:=PySem.W.looks_mroIn (M:=model prog w) X c.exc;have L4:PySem.W.Looks .(j) hh (typeOf (.ref a)) (.ref C):=hc ▸ (PySem.W.Looks.ld he).andThen .now;have L5:=PySem.W.looks_mroIn (M:=model prog w) X c.sub;unfold excMatches;refine wpAny_bind (L1.at ?_);simp only[ybS,if_false];refine wpAny_bind (wpAny_pure ?_);simp only[List.forIn_cons,List.forIn_nil];refine wpAny_bind (wpAny_bind (wpAny_bind (m:=isExcClass _) ?_));unfold isExcClass;refine wpAny_bind (L2.at ?_);simp only[if_true];refine L3.at ?_;simp only[Bool.not_true,ybS,if_false];refine wpAny_pure (wpAny_pure ?_);refine wpAny_bind (L4.at ?_);refine wpAny_bind (wpAny_bind (wpAny_bind (L5.at ?_)));simp only[if_true];exact wpAny_pure (wpAny_pure (wpAny_pure q))
end L2
namespace L2
open PySem PySem.Spec PyProof.Rows
def PX (X:Cx)(e:Expr)(t:XK->TE):Prop:=∀(E:XK) (pins:List (Addr×Obj)) (s:Shared) (U:St) (H:Hp) (Q:VK),Inv X pins U H s->t E U H Q->
 wpAny .(d) X.A (eval e X.env) (EP X pins U Q) (λer s'=>∃ H1 s1,Inv X pins U H1 s1/\CXE X.prog X.w X.stack H1 s1 E er s') s
def hndE (K:Frag)(D:Addr)(i:Nat)(ts:TS)(De:Ends)(U:St):XK:=λcls _ H'=>∃ C,cls=.ref C/\zhk K C D/\
 ∀ a,H' a=none->ts { nx:=λU2 H2=>De.nx (U2.set i none) H2,rt:=λ_ _=>False } (U.set i (some (.ref a))) (upd H' a (zoA a cls))
section
variable {X:Cx}{i:Nat}{n c:Str}{D:Addr}{b0:Stmt}{bs:List Stmt}{ts:TS}{np hpos:Pos}
theorem zqn (hst:X.stack=X.env::X.outer)(hf:X.env.frame=some X.env.locals)(hN:X.N.Nodup)(hi:X.N[i]?=some n)(hx:X.env.scope.names.lookup n=some .local)(hm:X.mg c=some (.ref D))(hg:Gl X c)(suite:∀ a,PSs (X.inH a) (b0::bs) ts)(hdb:(c==("__debug__" : Str))=false)
      {s':Shared} {er:Value} (I1:Inv X pins U H1 s1) (q:CXE X.prog X.w X.stack H1 s1 (hndE X.K D i ts De U) er s') :
  wpAny .(d) X.A (noteFrame er X.env) (λ_ s2=>wpAny .(d) X.A (setFlight er none) (λ_ s3=>wpAny .(d) X.A (handleBy er X.env [.ExceptHandler (some (.Name c np)) (some n) (b0::bs) hpos]) (SP X pins De) X.xe s3) X.xe s2) X.xe s':=by
 obtain ⟨a,cls,H',rfl,ho,hb,x,C,rfl,cat,hq⟩:=q;have fo:=λB h hB hh=>zg2 I1.stack B h hB hh;obtain ⟨B,a0,b1,b2,b3,b4,next⟩:=x.step λB hB h hh=>fo B h hB hh
 refine wpAny_looks_onW (base:=B) (cls:=.ref C) (a0:=a0) (env:=X.env) (outer:=X.outer) (by rw[I1.ok.frames,hst]) hf ⟨b1,b2,hst ▸ b3,b4⟩ λh4 k1 k2=>?_;have x4:=next h4 _ k1.1 k2 k1.2.2.2
 obtain ⟨B',a1,c1,c2,c3,c4,next'⟩:=x4.step λB hB h hh=>fo B h hB hh
 refine wpAny_landsW (base:=B') (l:=X.stack) (cls:=.ref C) (a0:=a1) (L:=X.env.locals) ⟨c1,c2,c3,c4⟩ λh5 k3 k4=>?_;have x5:=next' h5 .none k3.1 k4 k3.2.2.2
 have J5:Inv (X.inH a) pins U H' { s' with heap:=h5 }:=(x5.inv I1 ho hb s'.toks).inH a;refine wpAny_handleBy_cons (codeAny_handlers_test ?_) (by intro z;cases z)
 refine zdO (X:=X.inH a) J5 hg hm ?_ hdb;obtain ⟨_,oe,vs,T,oT,tt,⟨e1,e2,_⟩,_,_⟩:=x5.tr;refine zoz (K:=X.K) J5.kIn cat e1 e2.1 ?_;refine codeAny_handlers_suite_as ?_;obtain ⟨B2,a2,d1,d2,d3,d4,next2⟩:=x5.step λB hB h hh=>fo B h hB hh;refine lands_againW (base:=B2) (l:=X.stack) (cls:=.ref C) (a0:=a2) ⟨d1,d2,d3,d4⟩ λh6 k5 k6=>?_;have x6:=next2 h6 .none k5.1 k6 k5.2.2.2;have J6:Inv (X.inH a) pins U (upd H' a (zoA a (.ref C))) { s' with heap:=h6 }:=(x6.held I1 ho hb s'.toks).inH a;refine zhO (X:=X.inH a) J6 hN hi (.inl hx) (v:=.ref a) rfl (λs7 J7=>?_) (.inr hx);refine wpAny_mono (suite a pins s7 _ _ _ J7 (hq a x.ua)) (λfl s8 hf8=>?_) λ_ _ z=>z.elim;cases fl with
 | next=>
  obtain ⟨U2,H2,J8,q2⟩:=hf8;obtain ⟨m,hn,_⟩:=id J8.loc;refine wpAny_nameGoes_keeps hx hn (by rw[I1.ok.kind];rfl) λh9 v hn9 hs9=>?_;exact ⟨U2.set i none,H2,(J8.outH I1.ok.hd).unname hN hi hn hn9 hs9,q2⟩
 | ret u=>
  obtain ⟨_,_,_,_,_,z⟩:=hf8;exact z.elim
 | brk=>
  obtain ⟨_,_,_,z⟩:=hf8;exact z.elim
 | cont=>
  obtain ⟨_,_,_,z⟩:=hf8;exact z.elim
variable {ce:Expr}{tc:XK->TE}{epos tpos:Pos}
end
end L2
namespace L2
open PySem PySem.Spec PyProof.Rows PySem.W
structure ExcC (K:Frag)(C:Addr):Prop where
 ga:findIn K (.ref C) "__getattribute__" = some (some (.builtin "BaseException.__getattribute__"))
 gn:findIn K (.ref C) "__getattr__" = some none
 ca:findIn K (.ref C) "__class__" = some (some (.builtin "object.__class__"))
 gg:specialIn K (.builtin "object.__class__") "__get__" = some (some (.builtin "getset_descriptor.__get__"))
 gt:takesIn K (.builtin "object.__class__")=some true
 ob:mroIn K C (.type "object")=some true
 be:mroIn K C (.type "BaseException")=some true
 cl:(clsIn K C).isSome=true
end L2
namespace L2
open PySem PySem.Spec PyProof.Rows
def PXS (X:Cx)(bs:List Stmt)(t:XK->TS):Prop:=∀(E:XK) (pins:List (Addr×Obj)) (s:Shared) (U:St) (H:Hp) (De:Ends),Inv X pins U H s->t E De U H->
 wpAny .(d) X.A (execs bs X.env) (SP X pins De) (λer s'=>∃ H1 s1,Inv X pins U H1 s1/\CXE X.prog X.w X.stack H1 s1 E er s') s
def zsQ (tc:XK->TE)(E:XK):TS:=λDe U H=>tc E U H λ_ H'=>De.nx U H'
def tIfX (tt:TT)(ta tb:XK->TS)(E:XK):TS:=tIfS tt (ta E) (tb E)
def zub (K:Frag)(D:Addr)(i:Nat)(ts:TS)(tb:XK->TS):TS:=λDe U H=>tb (hndE K D i ts De U) De U H
section
variable {X:Cx}{i:Nat}{n c:Str}{D:Addr}{b0:Stmt}{bs body:List Stmt}{ts:TS}{np hpos epos tpos:Pos}{ce:Expr}{tc:XK->TE}{tb:XK->TS}
theorem zh8 (hc:PX X ce tc)(hs:swapsWith ce none epos.line X.env=pure false:=by rfl):PXS X [.Expr ce epos] (zsQ tc):=by
 intro E pins s U H De I h;refine wpAny_execs_cons (wpAny_Expr_any (wpAny_mono (hc E pins s U H _ I h) (λv s1 zq0=>?_) λer s' z=>z) I.quiet hs);obtain ⟨y,H1,I1,r1,q1⟩:=zq0;exact wpAny_execs_nil ⟨U,H1,I1,q1⟩
theorem zqT {c:Expr}{a:List Stmt}{pos:Pos}(hc:PT X.nox c tt)(ha:PXS X a ta)(hb:PXS X b tb):PXS X [.If c a b pos] (tIfX tt ta tb):=by
 intro E pins s U H De I h;have nx:∀{bs:List Stmt} {s1:Shared},wpAny .(d) X.A (execs bs X.env) (SP X pins De) (λer s'=>∃ H1 s1,Inv X pins U H1 s1/\CXE X.prog X.w X.stack H1 s1 E er s') s1->
   wpAny (model X.prog X.w) X.A (execs bs X.env) (λf s'=>match f with | .next=>wpAny (model X.prog X.w) X.A (execs [] X.env) (SP X pins De) (λer s'=>∃ H1 s1,Inv X pins U H1 s1/\CXE X.prog X.w X.stack H1 s1 E er s') s' | f=>SP X pins De f s') (λer s'=>∃ H1 s1,Inv X pins U H1 s1/\CXE X.prog X.w X.stack H1 s1 E er s') s1:=λh=>wpAny_mono h (λf s' q=>by
  cases f with
  | next=>exact wpAny_execs_nil q
  | _=>exact q) λ_ _ z=>z
 refine wpAny_execs_cons (wpAny_If (wpAny_mono (hc pins s U H _ (I.wish _) h) (λd s1 z=>?_) λ_ _ z=>z.elim));obtain ⟨H1,I1,q1⟩:=z;cases d with
 | true=>exact nx (ha E pins s1 U H1 De I1.unwish q1)
 | false=>exact nx (hb E pins s1 U H1 De I1.unwish q1)
theorem zrI (hb:PXS X body tb)(hst:X.stack=X.env::X.outer)(hf:X.env.frame=some X.env.locals)(hN:X.N.Nodup)(hi:X.N[i]?=some n)(hx:X.env.scope.names.lookup n=some .local)(hm:X.mg c=some (.ref D))(hg:Gl X c)(suite:∀ a,PSs (X.inH a) (b0::bs) ts)
  (hdb:(c==("__debug__" : Str))=false:=by decide):PS X (.Try body [.ExceptHandler (some (.Name c np)) (some n) (b0::bs) hpos] [] [] tpos) (zub X.K D i ts tb):=by
 intro pins s U H De I h;refine wpAny_Try_except (wpAny_mono (hb _ pins s U H De I h) (λf s' q=>?_) λer s' ⟨H1,s1,I1,q⟩=>?_)
 .cases f with
  | next=>exact wpAny_execs_nil q
  | _=>exact q
 .exact zqn hst hf hN hi hx hm hg suite hdb I1 q
end
end L2
namespace L2
open PySem PySem.Spec PyProof.Rows
structure FMX (P:Program)(w:World)(K:Frag)(mg:Str->Option Value)(base:Heap)(C:Addr)(k:Nat)(m:Str)(ps:List Str)(sp:Sp):Prop where
 ex:∃ f fd,FnOk P w K mg base (CXE P w) k f fd ps sp/\zdY K fd ps []/\Meth K C m f/\∃ oc od osl,K.lookup f=some ⟨oc,od,.func fd,osl⟩
theorem DM.okx {w:World}{K:Frag}{mg:Str->Option Value}{base:Heap}{st:Stmt}{N:List Str}{k:Nat}{sp:Sp}(D:DM K C m q st ps)(S:zap N ps (zah st))(len:∀ vs H Q E,sp vs H Q E->vs.length=ps.length)
  (hbody:∀(f:Addr) (cdv:Value) (A:Around) (outer:List Env) (s:Shared) (H:Hp) (vs:List V) (Q:VK) (E:XK),Room k (A.deeper (envOfC q (zah st) s.heap.objs.size f cdv))->sp vs H Q E->
   ∃ t,PSs (cxE P w K mg base N q (zah st) f cdv A outer s H E) (zbk st) t/\t { nx:=λ_ H'=>Q .non H',rt:=Q } (zcV N vs) H):FMX P w K mg base C (k+1) m ps sp:=by
 obtain ⟨f,fd,F,b,me⟩:=D.ex;obtain ⟨oc,od,kV,doc,pm,an,cdv,ct,osl,rfl,lk,hcd⟩:=F.ex;exact ⟨f,_,zsq lk hcd S len λA outer s H vs Q E hr hsp=>hbody f cdv A outer s H vs Q E hr hsp,b,me,oc,od,osl,lk⟩
section
variable {P:Program}{w:World}{K:Frag}{mg:Str->Option Value}{base:Heap}{C:Addr}{k:Nat}{m:Str}{ps:List Str}{sp sp2:Sp}
theorem FM.fx (F:FM P w K mg base C k m ps sp):FMX P w K mg base C k m ps sp:=by
 obtain ⟨f,fd,ok,b,me,l⟩:=F.ex;refine ⟨f,fd,⟨ok.len,λA outer s H args us vs Q E hr he hb hv hs=>?_⟩,b,me,l⟩;refine codeAny_mono (ok.run A outer s H args us vs Q E hr he hb hv hs) λr s' hq=>?_;cases r with
 | error e=>exact False.elim hq
 | ok fl=>
  cases fl with
  | ret u=>exact hq
  | next=>exact hq
  | brk=>exact hq
  | cont=>exact hq
theorem FMX.or (F:FMX P w K mg base C k m ps sp)(G:FMX P w K mg base C k m ps sp2):FMX P w K mg base C k m ps (λvs H Q E=>sp vs H Q E\/sp2 vs H Q E):=by
 obtain ⟨f,fd,ok,b,me,oc,od,osl,l⟩:=F.ex;obtain ⟨f2,fd2,ok2,b2,me2,oc2,od2,osl2,l2⟩:=G.ex;have e:=me.at_.symm.trans me2.at_;cases e
 rw[l]at l2;cases l2
 refine ⟨f,fd,⟨λvs H Q E h=>h.elim (ok.len _ _ _ _) (ok2.len _ _ _ _),λA outer s H args us vs Q E hr he hb hv hs=>?_⟩,b,me,oc,od,osl,l⟩;rcases hs with hs|hs
 .exact ok.run A outer s H args us vs Q E hr he hb hv hs
 .exact ok2.run A outer s H args us vs Q E hr he hb hv hs
end
def zsO (C:Addr)(m:Str)(sp:Sp)(ta:TE)(t:TA)(E:XK):TE:=λU H Q=>ta U H λx H1=>∃ a dx fs,x=.ref a/\H1 a=some (.ins C dx fs)/\fs.lookup m=none/\t U H1 λvs H2=>sp (x::vs) H2 Q E
section
variable {X:Cx}{j k:Nat}{C:Addr}{m:Str}{ps:List Str}{sp:Sp}{o e:Expr}{es:List Expr}{ta:TE}{t:TA}{p pos apos:Pos}{E:XK}
theorem zjZ {pl:Sem Bool}(F:FMX X.prog X.w X.K X.mg X.base C j m ps sp)(c:Cls X.K C)(hr:Room k X.A)(he:PE X.nox o ta)(ha:PA X.nox (e::es) t)(hjk:j<=k:=by decide)
  (hst:starEach (e::es) X.env=(false,eval e X.env)::starEach es X.env:=by rfl) (hpl:(backTo pos (starEach es X.env)).any (·.1)=false:=by rfl)
  (ht:eval (.Call (.Attribute o m apos) (e::es) [] pos) X.env=(do
   let ov <-eval o X.env
   standAt apos.atName
   let (f,first) <-holding [ov] (getMethod ov m pl)
   callWith pos f first (backTo pos (starEach (e::es) X.env)) (backToKw pos (keywordEach [] X.env))):=by rfl) :
  PX X (.Call (.Attribute o m apos) (e::es) [] pos) (zsO C m sp ta t):=by
 intro E pins s U H Q I h;obtain ⟨f,fd,ok,b,me,_⟩:=F.ex;refine PySem.W.methodCall_KW (pl:=pl) (wpAny_mono (he pins s U H _ (I.wish _) h) (λu s1 z=>?_) λ_ _ z=>z.elim) ht;obtain ⟨x,H1,I1,rx,a,dx,fs,ex,ea,l,q⟩:=z;subst ex;obtain rfl:u=Value.ref a:=rx;refine zfN I1.unwish ea c me l ?_;refine PySem.W.callWith_K (first:=[.ref a]) (h₀:=X.base) I.ok.mod.kin me.kp (wpAny_mono (ha pos pins s1 U H1 _ I1 q) (λus s2 z=>⟨?_,?_⟩) λ_ _ z=>z.elim) hst hpl
 .obtain ⟨vs,H2,I2,r,q2⟩:=z;exact I2.kIn
 obtain ⟨vs,H2,I2,r,q2⟩:=z;have I2':Inv X pins U H2 s2:=I2.unwish;have r2:Vals (.ref a::vs) (.ref a::us):=.cons rfl r;have hl:(Value.ref a::us++[]).length=ps.length:=by rw[yaC,<-r2.length];exact ok.len _ _ _ _ q2
 have hb:=b s2 (.ref a::us) I2'.kIn hl;rw[yaC]at hb;refine wpAny_call (codeAny_mono (ok.run X.A X.stack s2 H2 ⟨.ref a::us,[]⟩ (.ref a::us) (.ref a::vs) Q E (hr.mono hjk) I2'.env0 hb r2 q2) λres s' hq=>?_);cases res with
 | error er=>exact ⟨H2,s2,I2',hq⟩
 | ok fl=>
  cases fl with
  | ret u=>exact I2'.after hq
  | next=>exact False.elim hq
  | brk=>exact False.elim hq
  | cont=>exact False.elim hq
end
end L2
set_option maxHeartbeats 4000000
namespace My
open PySem PySem.Spec PyProof.Rows L2
local macro_rules|`(tactic| walk_at "sc") => `(tactic| exact ⟨rfl,rfl,rfl,by decide +kernel,rfl,by decide +kernel,by decide +kernel⟩)
local macro_rules|`(tactic| walk_at "side")=>`(tactic| first|lia|(dsimp only;lia)|(simp only[CDiv,zuC,CPow,CMul];lia)|decide)
local macro_rules|`(tactic| walk_at "rd")=>`(tactic| repeat (first|(refine ⟨_,rfl,?_⟩)|(refine ⟨_,_,rfl,rfl,?_⟩)|(refine ⟨rfl,?_⟩)|(refine ⟨(by walk_at "side"),?_⟩)))
def top (i:Nat):Stmt:=PySem.Challenge.pw_bridgefind_k74_whole_shelves_searched.main.body.getD i (.Pass ⟨0,0,0,0⟩)
abbrev zep:Stmt:=top 12
abbrev zgk:Stmt:=top 13
abbrev zeo:Stmt:=top 14
abbrev zk6:Stmt:=top 15
abbrev zbU:Stmt:=top 16
abbrev zfK:Stmt:=top 17
abbrev zdx:Stmt:=top 18
abbrev zb8:Stmt:=top 21
abbrev zgb:Stmt:=top 22
abbrev zge:Stmt:=top 23
abbrev zcZ:Stmt:=top 25
abbrev zc0:Stmt:=top 26
abbrev zfh:Stmt:=top 27
abbrev zhZ:Stmt:=top 28
abbrev zgl:Stmt:=top 29
abbrev zbC:Stmt:=top 32
abbrev zfc:Stmt:=top 33
abbrev zdw:Stmt:=top 34
abbrev zeq:Stmt:=top 35
abbrev zfj:Stmt:=top 36
abbrev zgj:Stmt:=top 37
abbrev zen:Stmt:=top 38
abbrev zgd:Stmt:=top 41
abbrev zb9:Stmt:=top 42
abbrev zem:Stmt:=top 43
abbrev zek:Stmt:=top 44
abbrev zcu:Stmt:=top 45
abbrev zbo:Stmt:=top 46
abbrev zdy:Stmt:=top 47
abbrev zfd:Stmt:=top 49
abbrev zdv:Stmt:=top 50
abbrev zc2:Stmt:=top 51
abbrev zfi:Stmt:=top 52
abbrev zbD:Stmt:=top 55
abbrev zel:Stmt:=top 56
abbrev zcY:Stmt:=top 57
abbrev zgc:Stmt:=top 58
abbrev za6:Stmt:=top 59
abbrev zbT:Stmt:=top 60
abbrev zfb:Stmt:=top 62
abbrev zfg:Stmt:=top 65
abbrev zff:Stmt:=top 66
abbrev zgg:Stmt:=top 67
abbrev zh2:Stmt:=top 68
abbrev zgf:Stmt:=top 69
abbrev zh1:Stmt:=top 70
abbrev zgh:Stmt:=top 71
abbrev zc1:Stmt:=top 72
abbrev zh0:Stmt:=top 73
abbrev zfe:Stmt:=top 74
abbrev zgi:Stmt:=top 75
abbrev zci:Stmt:=top 76
abbrev zpl:Stmt:=top 77
abbrev zbW:Stmt:=zdQ (top 63) 0
abbrev zca:Stmt:=zdQ (top 63) 1
abbrev zbV:Stmt:=zdQ (top 63) 2
abbrev zcF:Stmt:=zdQ (top 63) 3
abbrev zcG:Stmt:=zdQ (top 63) 4
abbrev zc3:Stmt:=zdQ (top 63) 5
abbrev zcv:Stmt:=zdQ (top 63) 6
abbrev zc4:Stmt:=zdQ (top 63) 7
abbrev zc5:Stmt:=zdQ (top 63) 8
theorem qdw:zap ["thing"] ["thing"] (zah zep):=by walk_at "sc"
theorem qem:zap ["thing"] ["thing"] (zah zgk):=by walk_at "sc"
theorem qdx:zap ["thing"] ["thing"] (zah zeo):=by walk_at "sc"
theorem qdy:zap ["entry","key","z"] ["entry"] (zah zk6):=by walk_at "sc"
theorem qak:zap ["length","is_below","low","high","middle"] ["length","is_below"] (zah zbU):=by walk_at "sc"
theorem qeZ:zap ["row","key"] ["row","key"] (zah zfK):=by walk_at "sc"
theorem qa7:zap ["lists","together","entries"] ["lists"] (zah zdx):=by walk_at "sc"
theorem qa5:zap ["one","other","unlike"] ["one","other"] (zah zb8):=by walk_at "sc"
theorem qa8:zap ["numbers","told","at","number","figure"] ["numbers"] (zah zgb):=by walk_at "sc"
theorem qbx:zap ["entries","numbers","turn"] ["entries"] (zah zge):=by walk_at "sc"
theorem qcS:zap ["things","at"] ["things","at"] (zah zcZ):=by walk_at "sc"
theorem qcT:zap ["taken"] ["taken"] (zah zc0):=by walk_at "sc"
theorem qbk:zap ["numbers","told","label","at"] ["numbers"] (zah zfh):=by walk_at "sc"
theorem qby:zap ["entries","tints","told","colour","at"] ["entries"] (zah zhZ):=by walk_at "sc"
theorem qen:zap ["entries"] ["entries"] (zah zgl):=by walk_at "sc"
theorem qbz:zap ["many","thing"] ["many","thing"] (zah zbC):=by walk_at "sc"
theorem qcP:zap ["parents","knot"] ["parents"] (zah zfc):=by walk_at "sc"
theorem qdh:zap ["tree","thing"] ["tree","thing"] (zah zdw):=by walk_at "sc"
theorem qdz:zap ["tree","knot"] ["tree","knot"] (zah zeq):=by walk_at "sc"
theorem qbE:zap ["tree","knot","told","other"] ["tree","knot"] (zah zfj):=by walk_at "sc"
theorem qcj:zap ["tree","thing","knot","at"] ["tree","thing"] (zah zgj):=by walk_at "sc"
theorem qdA:zap ["tree","thing"] ["tree","thing"] (zah zen):=by walk_at "sc"
theorem qdi:zap ["things","thing"] ["things"] (zah zgd):=by walk_at "sc"
theorem qb2:zap ["lists"] ["lists"] (zah zb9):=by walk_at "sc"
theorem qck:zap ["tree","rows","told"] ["tree","rows"] (zah zem):=by walk_at "sc"
theorem qcl:zap ["stand","knot","row","rows"] ["stand","knot","row"] (zah zek):=by walk_at "sc"
theorem qcG:zap ["stand","knot"] ["stand","knot"] (zah zcu):=by walk_at "sc"
theorem qaj:zap ["stand","knot","tree","told","at","parts"] ["stand","knot"] (zah zbo):=by walk_at "sc"
theorem qbY:zap ["stand","told"] ["stand"] (zah zdy):=by walk_at "sc"
theorem qbF:zap ["full","knot","told","entry"] ["full","knot"] (zah zfd):=by walk_at "sc"
theorem qaC:zap ["full","child_full","behind","at","entry","told"] ["full","child_full"] (zah zdv):=by walk_at "sc"
theorem qaF:zap ["tree","fulls","told","knot","full","jumps"] ["tree","fulls"] (zah zc2):=by walk_at "sc"
theorem qdY:zap ["stand"] ["stand"] (zah zfi):=by walk_at "sc"
theorem qcH:zap ["bridges","knot","is_below"] ["bridges","knot","is_below"] (zah zbD):=by walk_at "sc"
theorem qdB:zap ["bridges","knot","at","child"] ["bridges","knot","at","child"] (zah zel):=by walk_at "sc"
theorem qaO:zap ["bridges","knot","start","is_below","beyond","at"] ["bridges","knot","start","is_below"] (zah zcY):=by walk_at "sc"
theorem qaW:zap ["bridges","way","is_below","at","told","parent","knot"] ["bridges","way","is_below"] (zah zgc):=by walk_at "sc"
theorem qbG:zap ["tree","fulls","way","key"] ["tree","fulls","way","key"] (zah za6):=by walk_at "sc"
theorem qal:zap ["bridges","knot","is_below","places","told","each","at","jump"] ["bridges","knot","is_below"] (zah zbT):=by walk_at "sc"
theorem qbH:zap ["entries","others","away","entry"] ["entries","others"] (zah zfb):=by walk_at "sc"
theorem qdZ:zap ["_law_script"] ["_law_script"] (zah zfg):=by walk_at "sc"
theorem qbI:zap ["_law_cell","_law_k","_law_one","_law_two"] ["_law_cell","_law_k"] (zah zff):=by walk_at "sc"
theorem qaX:zap ["_law_state","_law_most","_law_k","_law_script","_law_cell","_law_found"] ["_law_state","_law_most"] (zah zgg):=by walk_at "sc"
theorem qdW:zap ["_law_state","_law_way_here"] ["_law_state"] (zah zh2):=by walk_at "sc"
theorem qbA:zap ["_law_state","_law_most","_law_way_here","_law_parents","_law_k"] ["_law_state","_law_most"] (zah zgf):=by walk_at "sc"
theorem qcU:zap ["_law_state","_law_most","_law_found","_law_k"] ["_law_state","_law_most"] (zah zh1):=by walk_at "sc"
theorem qaY:zap ["_law_state","_law_many","_law_most","_law_rows_here","_law_k","_law_row_here"] ["_law_state","_law_many","_law_most"] (zah zgh):=by walk_at "sc"
theorem qcV:zap ["_law_tree_here","_law_knot"] ["_law_tree_here","_law_knot"] (zah zc1):=by walk_at "sc"
theorem qch:zap ["_law_state","_law_tree_here","_law_way_here","_law_some"] ["_law_state","_law_tree_here"] (zah zh0):=by walk_at "sc"
theorem qcQ:zap ["_law_state","_law_most","_law_keys","_law_tree_here"] ["_law_state","_law_most","_law_keys"] (zah zfe):=by walk_at "sc"
theorem qay:zap ["_law_state","_law_shelf","_law_tree_here","_law_rows_here","_law_knot","_law_key_here","_law_way_here","_law_kept","e"] ["_law_state","_law_shelf"] (zah zgi):=by walk_at "sc"
theorem qaf:zap ["_law_state","_law_shelf","_law_tree_here","_law_rows_here","_law_way_here","_law_key_here","_law_found","_law_fulls","_law_anew","_law_due","_law_under","_law_all_due"] ["_law_state","_law_shelf"] (zah zci):=by walk_at "sc"
theorem qdj:zap ["_law_script","_law_state","_law_shelf","_law_turn","_law_ahead"] ["_law_script"] (zah zpl):=by walk_at "sc"
theorem qbJ:zap ["self","stand"] ["self","stand"] (zah zbW):=by walk_at "sc"
theorem qb3:zap ["self","knot","key"] ["self","knot","key"] (zah zca):=by walk_at "sc"
theorem qah:zap ["self","knot","gone","come","told","before","after"] ["self","knot","gone","come"] (zah zbV):=by walk_at "sc"
theorem qaD:zap ["self","knot","key","row","at"] ["self","knot","key"] (zah zcF):=by walk_at "sc"
theorem qaE:zap ["self","knot","key","row","at"] ["self","knot","key"] (zah zcG):=by walk_at "sc"
theorem qbB:zap ["self","parent","tree"] ["self","parent"] (zah zc3):=by walk_at "sc"
theorem qcI:zap ["self"] ["self"] (zah zcv):=by walk_at "sc"
theorem qcW:zap ["self","knot"] ["self","knot"] (zah zc4):=by walk_at "sc"
theorem qcX:zap ["self","way","key"] ["self","way","key"] (zah zc5):=by walk_at "sc"
abbrev zcI:List Str:=["thing"]
abbrev zd3:List Str:=["thing"]
abbrev zdI:List Str:=["thing"]
abbrev zia:List Str:=["entry"]
abbrev zbh:List Str:=["length","is_below"]
abbrev zdG:List Str:=["row","key"]
abbrev zco:List Str:=["lists"]
abbrev zbX:List Str:=["one","other"]
abbrev zfm:List Str:=["numbers"]
abbrev zfo:List Str:=["entries"]
abbrev zcd:List Str:=["things","at"]
abbrev zcw:List Str:=["taken"]
abbrev zeA:List Str:=["numbers"]
abbrev zgp:List Str:=["entries"]
abbrev zd4:List Str:=["entries"]
abbrev zaU:List Str:=["many","thing"]
abbrev zeu:List Str:=["parents"]
abbrev zb4:List Str:=["tree","thing"]
abbrev zcJ:List Str:=["tree","knot"]
abbrev zeC:List Str:=["tree","knot"]
abbrev zfs:List Str:=["tree","thing"]
abbrev zdH:List Str:=["tree","thing"]
abbrev zfn:List Str:=["things"]
abbrev za7:List Str:=["lists"]
abbrev zdF:List Str:=["tree","rows"]
abbrev zb0:List Str:=["stand","knot","row"]
abbrev zck:List Str:=["stand","knot"]
abbrev zbf:List Str:=["stand","knot"]
abbrev zb5:List Str:=["stand"]
abbrev zev:List Str:=["full","knot"]
abbrev zc7:List Str:=["full","child_full"]
abbrev zce:List Str:=["tree","fulls"]
abbrev zeB:List Str:=["stand"]
abbrev zbP:List Str:=["bridges","knot","is_below"]
abbrev zdz:List Str:=["bridges","knot","at","child"]
abbrev zcc:List Str:=["bridges","knot","start","is_below"]
abbrev zd2:List Str:=["bridges","way","is_below"]
abbrev zbE:List Str:=["tree","fulls","way","key"]
abbrev zbF:List Str:=["bridges","knot","is_below"]
abbrev zet:List Str:=["entries","others"]
abbrev zez:List Str:=["_law_script"]
abbrev zex:List Str:=["_law_cell","_law_k"]
abbrev zbx:List Str:=["_law_state","_law_most"]
abbrev zey:List Str:=["_law_state"]
abbrev zfp:List Str:=["_law_state","_law_most"]
abbrev zgr:List Str:=["_law_state","_law_most"]
abbrev zfq:List Str:=["_law_state","_law_many","_law_most"]
abbrev zcx:List Str:=["_law_tree_here","_law_knot"]
abbrev zgq:List Str:=["_law_state","_law_tree_here"]
abbrev zew:List Str:=["_law_state","_law_most","_law_keys"]
abbrev zfr:List Str:=["_law_state","_law_shelf"]
abbrev zdJ:List Str:=["_law_state","_law_shelf"]
abbrev zld:List Str:=["_law_script"]
abbrev zbG:List Str:=["self","stand"]
abbrev zaV:List Str:=["self","knot","key"]
abbrev zaS:List Str:=["self","knot","gone","come"]
abbrev zb6:List Str:=["self","knot","key"]
abbrev zb7:List Str:=["self","knot","key"]
abbrev zcy:List Str:=["self","parent"]
abbrev zbs:List Str:=["self"]
abbrev zcz:List Str:=["self","knot"]
abbrev zcA:List Str:=["self","way","key"]
structure Txt (K:Frag)(mg:Str->Option Value):Prop where
 qfh:mg "abs" = none
 qfy:mg "bool" = none
 qfz:mg "dict" = none
 qbm:mg "enumerate" = none
 qfQ:mg "int" = none
 qau:mg "isinstance" = none
 qaq:mg "len" = none
 qaZ:mg "list" = none
 qfA:mg "max" = none
 qfi:mg "min" = none
 qax:mg "range" = none
 qd0:mg "reversed" = none
 qfR:mg "set" = none
 qcY:mg "sorted" = none
 qfS:mg "sum" = none
 qa1:mg "tuple" = none
 qfB:mg "zip" = none
 qcJ:∃ t,mg "KNOT_NUMBERS" = some (.int 64 t)
 qfj:∃ t,mg "TURNS" = some (.int 5 t)
 qbZ:∃ t,mg "MOST_KNOTS" = some (.int 40 t)
 qbn:∃ t,mg "MOST_KEYS" = some (.int 300 t)
 qbo:∃ t,mg "MOST_BEHIND_START" = some (.int 2 t)
structure OwnC (K:Frag)(mg:Str->Option Value)(C:Addr):Prop where
 cl:L2.Cls K C
 mgC:mg "Shelf" = some (.ref C)
 n_kept:zf4 K C "kept"
 n_fulls:zf4 K C "fulls"
structure Cls (K:Frag)(mg:Str->Option Value)(qab qan qar qag qad qaa qac qao qas qat:Addr):Prop where
 qcZ:mg "BridgeError" = some (.ref qab)
 qfK:mg "NoTree" = some (.ref qan)
 qfT:mg "NoWay" = some (.ref qar)
 qfC:mg "NoStand" = some (.ref qag)
 qfU:mg "Twice" = some (.ref qad)
 qfD:mg "Missing" = some (.ref qaa)
 qfL:mg "NoRoom" = some (.ref qac)
 qfM:mg "NoKnot" = some (.ref qao)
 qfV:mg "NoKey" = some (.ref qas)
 qfW:mg "Shelf" = some (.ref qat)
 qfk:Exc K mg "Twice" qad
 qfX:ExcC K qad
 qfl:zhk K qad qab
 qfY:kitOne K (.ref qad) (.type "ValueError")=some true
 qdC:kitOne K (.ref qad) (.ref qab)=some true
 qeS:kitOne K (.ref qad) (.ref qan)=some false
 qe0:kitOne K (.ref qad) (.ref qar)=some false
 qeo:kitOne K (.ref qad) (.ref qag)=some false
 qe1:kitOne K (.ref qad) (.ref qad)=some true
 qep:kitOne K (.ref qad) (.ref qaa)=some false
 qeT:kitOne K (.ref qad) (.ref qac)=some false
 qeU:kitOne K (.ref qad) (.ref qao)=some false
 qe2:kitOne K (.ref qad) (.ref qas)=some false
 qe3:kitOne K (.ref qad) (.ref qat)=some false
 qeq:Exc K mg "Missing" qaa
 qfE:ExcC K qaa
 qer:zhk K qaa qab
 qfF:kitOne K (.ref qaa) (.type "ValueError")=some true
 qdk:kitOne K (.ref qaa) (.ref qab)=some true
 qeh:kitOne K (.ref qaa) (.ref qan)=some false
 qes:kitOne K (.ref qaa) (.ref qar)=some false
 qd1:kitOne K (.ref qaa) (.ref qag)=some false
 qet:kitOne K (.ref qaa) (.ref qad)=some false
 qd2:kitOne K (.ref qaa) (.ref qaa)=some true
 qei:kitOne K (.ref qaa) (.ref qac)=some false
 qej:kitOne K (.ref qaa) (.ref qao)=some false
 qeu:kitOne K (.ref qaa) (.ref qas)=some false
 qev:kitOne K (.ref qaa) (.ref qat)=some false
 qe4:Exc K mg "NoRoom" qac
 qfN:ExcC K qac
 qfO:zhk K qac qab
 qfP:kitOne K (.ref qac) (.type "ValueError")=some true
 qdv:kitOne K (.ref qac) (.ref qab)=some true
 qew:kitOne K (.ref qac) (.ref qan)=some false
 qeV:kitOne K (.ref qac) (.ref qar)=some false
 qek:kitOne K (.ref qac) (.ref qag)=some false
 qeW:kitOne K (.ref qac) (.ref qad)=some false
 qel:kitOne K (.ref qac) (.ref qaa)=some false
 qex:kitOne K (.ref qac) (.ref qac)=some true
 qey:kitOne K (.ref qac) (.ref qao)=some false
 qeX:kitOne K (.ref qac) (.ref qas)=some false
 qeY:kitOne K (.ref qac) (.ref qat)=some false
theorem zke (m n i j:Nat)(hi:i<2)(hj:j<2):(2*m+i) &&& (2*n+j)=2*(m &&& n)+(i &&& j):=by
 apply Nat.eq_of_testBit_eq;intro k;cases k with
 | zero=>
  have h1:i=0\/i=1:=by lia
  have h2:j=0\/j=1:=by lia
  rcases h1 with rfl|rfl<;>rcases h2 with rfl|rfl<;>simp[Nat.testBit_zero]<;>lia
 | succ k=>
  have h1:i=0\/i=1:=by lia
  have h2:j=0\/j=1:=by lia
  have e1:(2*m+i)/2=m:=by lia
  have e2:(2*n+j)/2=n:=by lia
  have e3:(2*(m &&& n)+(i &&& j))/2=m &&& n:=by
   rcases h1 with rfl|rfl<;>rcases h2 with rfl|rfl<;>simp<;>lia
  rw[Nat.testBit_and,ybG,ybG,ybG,e1,e2,e3,Nat.testBit_and]
theorem ztE (m n i j:Nat)(hi:i<2)(hj:j<2):(2*m+i) ||| (2*n+j)=2*(m ||| n)+(i ||| j):=by
 apply Nat.eq_of_testBit_eq;intro k;cases k with
 | zero=>
  have h1:i=0\/i=1:=by lia
  have h2:j=0\/j=1:=by lia
  rcases h1 with rfl|rfl<;>rcases h2 with rfl|rfl<;>simp[Nat.testBit_zero]<;>lia
 | succ k=>
  have h1:i=0\/i=1:=by lia
  have h2:j=0\/j=1:=by lia
  have e1:(2*m+i)/2=m:=by lia
  have e2:(2*n+j)/2=n:=by lia
  have e3:(2*(m ||| n)+(i ||| j))/2=m ||| n:=by
   rcases h1 with rfl|rfl<;>rcases h2 with rfl|rfl<;>simp<;>lia
  rw[Nat.testBit_or,ybG,ybG,ybG,e1,e2,e3,Nat.testBit_or]
def lu (a b:Nat):Nat:=if a=b then 0 else if a%2=b%2 then lu (a/2) (b/2)+1 else 0
termination_by a+b
decreasing_by lia
theorem zkd {a b:Nat}(hab:a≠b)(h:a%2=b%2):lu a b=lu (a/2) (b/2)+1:=by
 rw[lu,if_neg hab,if_pos h]
theorem znU {a b:Nat}(h:a%2≠b%2):lu a b=0:=by
 rw[lu];split
 .rfl
 .rfl
def xr (a b:Nat):Nat:=(a ||| b)-(a &&& b)
def zfY (n:Nat):Nat:=n-(n &&& (n-1))
theorem zjP (a b:Nat):a &&& b<=a ||| b:=yax Nat.and_le_left Nat.left_le_or
theorem zua (m n i j:Nat)(hi:i<2)(hj:j<2):xr (2*m+i) (2*n+j)=2*xr m n+(if i=j then 0 else 1):=by
 unfold xr;rw[ztE m n i j hi hj,zke m n i j hi hj];have q:=zjP m n;have h1:i=0\/i=1:=by lia
 have h2:j=0\/j=1:=by lia
 rcases h1 with rfl|rfl<;>rcases h2 with rfl|rfl<;>simp<;>lia
theorem zms (a b:Nat):xr a b=2*xr (a/2) (b/2)+(if a%2=b%2 then 0 else 1):=by
 have e1:2*(a/2)+a%2=a:=by lia
 have e2:2*(b/2)+b%2=b:=by lia
 have q:=zua (a/2) (b/2) (a%2) (b%2) .(a) .(a);rw[e1,e2]at q;exact q
theorem zqz:∀(n a b:Nat),a+b<=n->a≠b->0<xr a b:=by
 intro n
 induction n with
 | zero=>intro a b h1 h2;lia
 | succ n ih=>
  intro a b h1 h2;rw[zms];by_cases h:a%2=b%2
  .have:=ih (a/2) (b/2) .(a) .(a);lia
  .rw[if_neg h];lia
theorem zsc (m:Nat):zfY (2*m+1)=1:=by
 unfold zfY;have q:=zke m m 1 0 .(a) .(a);have e:2*m+1-1=2*m+0:=by lia
 rw[e,q];simp
theorem zp1 (m:Nat)(h:0<m):zfY (2*m)=2*zfY m:=by
 unfold zfY;have q:=zke m (m-1) 0 1 .(a) .(a);have e:2*m-1=2*(m-1)+1:=by lia
 have e':2*m=2*m+0:=by lia
 rw[e];have:(2*m &&& 2*(m-1)+1)=2*(m &&& m-1)+(0 &&& 1):=q;rw[this];have z:m &&& (m-1)<=m:=Nat.and_le_left;simp;lia
theorem ztC:∀(n a b:Nat),a+b<=n->a≠b->zfY (xr a b)=2^lu a b:=by
 intro n
 induction n with
 | zero=>intro a b h1 h2;lia
 | succ n ih=>
  intro a b h1 h2;rw[zms];by_cases h:a%2=b%2
  .rw[if_pos h,zkd h2 h,ybk,zp1 _ (zqz n _ _ .(a) .(a)),ih _ _ .(a) .(a),ybW];lia
  .rw[if_neg h,znU h,zsc,Nat.pow_zero]
theorem zsa:∀(n a b:Nat),a+b<=n->a≠b->a%2^lu a b=b%2^lu a b/\a%2^(lu a b+1)≠b%2^(lu a b+1):=by
 intro n
 induction n with
 | zero=>intro a b h1 h2;lia
 | succ n ih=>
  intro a b h1 h2;by_cases h:a%2=b%2
  .rw[zkd h2 h];obtain ⟨q1,q2⟩:=ih (a/2) (b/2) .(a) .(a);have s:∀ x k:Nat,x%2^(k+1)=2*(x/2%2^k)+x%2:=by
    intro x k;rw[ybW,Nat.mul_comm,Nat.mod_mul];lia
   rw[s a,s b,s a,s b];constructor
   .omega
   .omega
  .rw[znU h];simp[Nat.mod_one];lia
theorem zur:∀(k a b:Nat),a≠b->a<2^k->b<2^k->lu a b<k:=by
 intro k
 induction k with
 | zero=>intro a b h1 h2 h3;simp at h2 h3;lia
 | succ k ih=>
  intro a b h1 h2 h3;by_cases h:a%2=b%2
  .rw[zkd h1 h];have:=ih (a/2) (b/2) .(a) (by rw[ybW]at h2;lia) (by rw[ybW]at h3;lia);lia
  .rw[znU h];lia
def fig (a b:Nat):Nat:=2*lu a b+b/2^lu a b%2
theorem ziy (a b:Nat):fig a b/2=lu a b:=by
 unfold fig;have:=Nat.mod_lt (b/2^lu a b) (by decide:0<2);lia
theorem zkr (a b:Nat):fig a b%2=b/2^lu a b%2:=by
 unfold fig;have:=Nat.mod_lt (b/2^lu a b) (by decide:0<2);lia
theorem zfW (x k:Nat):x%2^(k+1)=x%2^k+2^k*(x/2^k%2):=by
 rw[ybW,Nat.mod_mul]
theorem zq4 {a b:Nat}(h:a≠b):a/2^lu a b%2≠b/2^lu a b%2:=by
 obtain ⟨h1,h2⟩:=zsa _ a b (yaa _) h;intro e;apply h2;rw[zfW,zfW,h1,e]
theorem ztW {a b c:Nat}(h2:b≠c):fig a b≠fig b c:=by
 intro e;have e1:lu a b=lu b c:=by rw[<-ziy,e,ziy]
 have e2:b/2^lu a b%2=c/2^lu b c%2:=by rw[<-zkr,e,zkr]
 rw[e1]at e2;exact zq4 h2 e2
theorem zst {a b:Nat}(h:a≠b):a%2≠fig a b:=by
 intro e;have l:a%2<2:=Nat.mod_lt _ .(i);have e1:lu a b=0:=by
  have:=ziy a b;lia
 have e2:=zkr a b;have e3:=zq4 h;rw[e1]at e2 e3;simp at e2 e3;lia
theorem ztX {a b k:Nat}(h:a≠b)(ha:a<2^k)(hb:b<2^k):fig a b<2*k:=by
 have:=zur k a b h ha hb;have:=Nat.mod_lt (b/2^lu a b) (by decide:0<2);unfold fig;lia
def ze5 (xs:List Nat)(i:Nat):Nat:=if i=0 then xs.getD 0 0%2 else fig (xs.getD (i-1) 0) (xs.getD i 0)
def zdX (xs:List Nat):List Nat:=(List.range xs.length).map (ze5 xs)
theorem zb1 (xs:List Nat):(zdX xs).length=xs.length:=by unfold zdX;rw[yab,yaL]
theorem ziQ {xs:List Nat}{i:Nat}(h:i<xs.length):(zdX xs)[i]?=some (ze5 xs i):=by
 unfold zdX;rw[yam,ya7 h];rfl
theorem zfH {xs:List Nat}{i:Nat}(h:i<xs.length):(zdX xs).getD i 0=ze5 xs i:=by
 rw[yad,ziQ h];rfl
theorem zlI {xs:List Nat}{i:Nat}(h:i<xs.length):(zdX xs).take (i+1)=(zdX xs).take i++[ze5 xs i]:=by
 have h':i<(zdX xs).length:=by rw[zb1];exact h
 rw[yaF h'];have:=ziQ h;rw[yac h']at this;rw[yae this]
def Unl (xs:List Nat):Prop:=∀ i,i+1<xs.length->xs.getD i 0≠xs.getD (i+1) 0
theorem zmE (h:Unl xs):Unl (zdX xs):=by
 intro i hi;rw[zb1]at hi;rw[zfH .(a),zfH hi];unfold ze5;rw[if_neg (by lia:¬ i+1=0),ybH];by_cases h0:i=0
 .subst h0;rw[if_pos rfl];exact zst (h 0 hi)
 .rw[if_neg h0];exact ztW (h i hi)
def zdZ (m:Nat)(xs:List Nat):Prop:=∀ i,i<xs.length->xs.getD i 0<m
theorem zcE {k:Nat}(hk:1<=k)(h:Unl xs)(hb:zdZ (2^k) xs):zdZ (2*k) (zdX xs):=by
 intro i hi;rw[zb1]at hi;rw[zfH hi];unfold ze5;split
 .have:xs.getD 0 0%2<2:=Nat.mod_lt _ .(i);lia
 .have:=h (i-1) .(a);rw[show i-1+1=i by lia]at this;exact ztX this (hb _ .(a)) (hb _ hi)
theorem zri (a b:Nat):Builtin.bitXor (a:Int) (b:Int)=((xr a b:Nat):Int):=by
 have h1:Builtin.bitAnd (a:Int) (b:Int)=((a &&& b:Nat):Int):=by
  unfold Builtin.bitAnd;rw[yai (ybn a),yai (ybn b)];rfl
 have n1:¬ (0:Int)<=Builtin.bitNot (a:Int):=by unfold Builtin.bitNot;lia
 have n2:¬ (0:Int)<=Builtin.bitNot (b:Int):=by unfold Builtin.bitNot;lia
 have h2:Builtin.bitOr (a:Int) (b:Int)=((a ||| b:Nat):Int):=by
  unfold Builtin.bitOr Builtin.bitAnd;rw[yan n1,yan n2];have e:∀ x:Int,Builtin.bitNot (Builtin.bitNot x)=x:=λx=>by unfold Builtin.bitNot;lia
  show Builtin.bitNot (Builtin.bitNot _)=_;rw[e,e,e];rfl
 unfold Builtin.bitXor xr;rw[h1,h2];have:=zjP a b;lia
theorem zsF (n:Nat)(h:0<n):Builtin.bitAnd (n:Int) (-(n:Int))=((zfY n:Nat):Int):=by
 have n2:¬ (0:Int)<=-(n:Int):=by lia
 have e:(Builtin.bitNot (-(n:Int))).toNat=n-1:=by unfold Builtin.bitNot;lia
 unfold Builtin.bitAnd zfY;rw[yai (ybn n),yan n2];show (n:Int)-(((n:Int).toNat &&& (Builtin.bitNot (-(n:Int))).toNat:Nat):Int)=_;rw[e,ya5];have:n &&& (n-1)<=n:=Nat.and_le_left;lia
theorem ztD (a b:Nat)(h:a≠b):((Builtin.Int.intBits (Builtin.bitAnd (Builtin.bitXor (a:Int) (b:Int)) (-(Builtin.bitXor (a:Int) (b:Int)))):Nat):Int)-1=((lu a b:Nat):Int):=by
 rw[zri,zsF _ (zqz _ a b (yaa _) h),ztC _ a b (yaa _) h];unfold Builtin.Int.intBits;have p:0 < 2 ^ lu a b:=Nat.two_pow_pos _;rw[if_neg (by
  intro z;have z':=eq_of_beq z;lia),Int.natAbs_natCast,Nat.log2_two_pow]
 lia
def atZ {α:Type}(l:List α)(i:Int):Option α:=if 0<=i then l[i.toNat]? else none
theorem zdU {α:Type}(l:List α)(i:Nat):atZ l (i:Int)=l[i]?:=by
 unfold atZ;rw[if_pos (ybn i),ya5]
theorem ziH {α:Type}{l:List α}{i:Int}(h:i<0):atZ l i=none:=by
 unfold atZ;rw[if_neg .(a)]
theorem ziG {α:Type}{l:List α}{x:α}(h:atZ l i=some x):0<=i/\i<l.length:=by
 unfold atZ at h;split at h
 .have:=(yaj.mp h).1;lia
 .cases h
theorem zrh {α:Type}{l:List α}{i:Int}(h0:0<=i)(h:i<l.length):∃ x,atZ l i=some x:=by
 unfold atZ;rw[if_pos h0];exact ⟨_,yac .(a)⟩
def zl4 {α β:Type}(f:Option α->α->Option α->β):Option α->List α->List β
 | _,[]=>[]
 | p,x::l=>f p x l.head? :: zl4 f (some x) l
def mapW {α β:Type}(f:Option α->α->Option α->β)(l:List α):List β:=zl4 f none l
theorem zd9 {α β:Type}(f:Option α->α->Option α->β):∀(l:List α) (p:Option α) (k:Nat),(zl4 f p l)[k]?=l[k]?.map λx=>f (if k=0 then p else l[k-1]?) x l[k+1]?
 | [],_,_=>rfl
 | x::l,p,0=>by
  show some (f p x l.head?)=some (f p x l[0]?);rw[List.head?_eq_getElem?]
 | x::l,p,k+1=>by
  show (zl4 f (some x) l)[k]?=l[k]?.map λy=>f (x::l)[k]? y l[k+1]?;rw[zd9 f l (some x) k];cases k with
  | zero=>rfl
  | succ k=>rfl
theorem zfX {α β:Type}(f:Option α->α->Option α->β):∀(l:List α) (p:Option α),(zl4 f p l).length=l.length
 | [],_=>rfl
 | x::l,p=>by
  show (zl4 f (some x) l).length+1=l.length+1;rw[zfX f l]
theorem zcO {α β:Type}(f:Option α->α->Option α->β)(l:List α):(mapW f l).length=l.length:=zfX f l none
theorem zir {α β:Type}(f:Option α->α->Option α->β)(l:List α)(i:Int):atZ (mapW f l) i=(atZ l i).map λx=>f (atZ l (i-1)) x (atZ l (i+1)):=by
 by_cases h:0<=i
 .obtain ⟨k,rfl⟩:∃ k:Nat,i=(k:Int):=⟨i.toNat,by lia⟩;rw[zdU,zdU,mapW,zd9,show ((k:Int)+1)=((k+1:Nat):Int) by lia,zdU];have e:atZ l ((k:Int)-1)=if k=0 then none else l[k-1]?:=by
   split
   .rw[ziH .(a)]
   .rw[show ((k:Int)-1)=((k-1:Nat):Int) by lia,zdU]
  rw[e]
 .rw[ziH (l:=mapW f l) .(a),ziH (l:=l) (i:=i) .(a)];rfl
def UnlZ (xs:List Nat):Prop:=∀(i:Int) (x y:Nat),atZ xs i=some x->atZ xs (i+1)=some y->x≠y
theorem unlZ (h:Unl xs):UnlZ xs:=by
 intro i x y hx hy;obtain ⟨a,b⟩:=ziG hx;obtain ⟨_,c⟩:=ziG hy;obtain ⟨k,rfl⟩:∃ k:Nat,i=(k:Int):=⟨i.toNat,by lia⟩;rw[zdU]at hx;rw[show ((k:Int)+1)=((k+1:Nat):Int) by lia,zdU]at hy;have:=h k .(a);rw[yad,yad,hx,hy]at this;exact this
theorem zqC (h:UnlZ xs):Unl xs:=by
 intro k hk;have:=h k xs[k] xs[k+1] (by rw[zdU];exact yac .(a)) (by rw[show ((k:Int)+1)=((k+1:Nat):Int) by lia,zdU];exact yac hk);rw[yad,yad,yac (show k<xs.length by lia),yac hk];exact this
def zf6 (p n:Option Nat):Nat:=if p≠some 0/\n≠some 0 then 0 else if p≠some 1/\n≠some 1 then 1 else 2
theorem zlz (p n:Option Nat):zf6 p n<=2:=by
 unfold zf6;split
 .omega
 .split<;>lia
theorem zfO {p:Option Nat}{x:Nat}(h:p=some x):zf6 p n≠x:=by
 subst h;unfold zf6;split
 .rename_i c;intro z;exact c.1 (by rw[<-z])
 .split
  .rename_i c;intro z;exact c.1 (by rw[<-z])
  .rename_i c d;intro z;subst z;have c1:n=some 0:=Decidable.byContradiction λq=>c ⟨by decide,q⟩;have d1:n=some 1:=Decidable.byContradiction λq=>d ⟨by decide,q⟩;rw[c1]at d1;cases d1
theorem zmf (p n:Option Nat):zf6 p n=zf6 n p:=by
 unfold zf6;simp only[And.comm]
theorem zhG {n:Option Nat}{x:Nat}(h:n=some x):zf6 p n≠x:=by
 rw[zmf];exact zfO h
def recF (v:Nat)(p:Option Nat)(x:Nat)(n:Option Nat):Nat:=if x=v then zf6 p n else x
def recL (v:Nat)(xs:List Nat):List Nat:=mapW (recF v) xs
theorem zbp (v:Nat)(xs:List Nat):(recL v xs).length=xs.length:=zcO _ _
theorem zgn (h:UnlZ xs):UnlZ (recL v xs):=by
 intro i x y hx hy;unfold recL at hx hy;rw[zir]at hx hy;cases ex:atZ xs i with
 | none=>rw[ex]at hx;cases hx
 | some x0=>
  cases ey:atZ xs (i+1) with
  | none=>rw[ey]at hy;cases hy
  | some y0=>
   rw[ex]at hx;rw[ey]at hy;have hx:x=recF v (atZ xs (i-1)) x0 (atZ xs (i+1)):=(yae hx).symm;have hy:y=recF v (atZ xs (i+1-1)) y0 (atZ xs (i+1+1)):=(yae hy).symm;have n0:=h i x0 y0 ex ey;have e1:i+1-1=i:=by lia
   unfold recF at hx hy;rw[e1,ex]at hy;rw[ey]at hx;split at hx
   .rename_i c;split at hy
    .rename_i c';lia
    .rw[hx,hy];exact zhG rfl
   .split at hy
    .rw[hx,hy];exact (zfO rfl).symm
    .omega
theorem zh6 {v:Nat}{P:Nat->Prop}{xs:List Nat}(hP:∀ x,x<=2->P x)(h:∀ i x,atZ xs i=some x->x=v\/P x):∀ i x,atZ (recL v xs) i=some x->P x:=by
 intro i x hx;unfold recL at hx;rw[zir]at hx;cases ex:atZ xs i with
 | none=>rw[ex]at hx;cases hx
 | some x0=>
  rw[ex]at hx;have hx:x=recF v (atZ xs (i-1)) x0 (atZ xs (i+1)):=(yae hx).symm;unfold recF at hx;split at hx
  .rw[hx];exact hP _ (zlz _ _)
  .rw[hx];rcases h i x0 ex with q|q
   .exact absurd q (by assumption)
   .exact q
def colL (xs:List Nat):List Nat:=recL 5 (recL 4 (recL 3 xs))
theorem zg7 (xs:List Nat):(colL xs).length=xs.length:=by
 unfold colL;rw[zbp,zbp,zbp]
theorem zlD (h:UnlZ xs):UnlZ (colL xs):=zgn (zgn (zgn h))
theorem zsz {xs:List Nat}(h:∀ i x,atZ xs i=some x->x<=5):∀ i x,atZ (colL xs) i=some x->x<=2:=by
 refine zh6 (P:=λx=>x<=2) (λx h=>h) ?_;refine zh6 (P:=λx=>x=5\/x<=2) (λx h=>.inr h) ?_;refine zh6 (P:=λx=>x=4\/x=5\/x<=2) (λx h=>.inr (.inr h)) ?_;intro i x e;have:=h i x e;lia
def zr9 (sh:Nat)(p:Option (Nat×Bool))(x:Nat×Bool)(n:Option (Nat×Bool)):Nat×Bool:=
 (x.1,x.2||(decide (x.1=sh)&&p.isSome && !(p.map (·.2)).getD false && !(n.map (·.2)).getD false))
def zdm (sh:Nat)(l:List (Nat×Bool)):List (Nat×Bool):=mapW (zr9 sh) l
def zcV (c:List Nat):List (Nat×Bool):=c.map λx=>(x,false)
def zeL (c:List Nat):List (Nat×Bool):=zdm 0 (zdm 1 (zdm 2 (zcV c)))
def zfy (c:List Nat):List Bool:=(zeL c).map (·.2)
theorem zin (c:List Nat):(zeL c).length=c.length:=by
 unfold zeL zdm zcV;rw[zcO,zcO,zcO,yab]
theorem zfx (c:List Nat):(zfy c).length=c.length:=by
 unfold zfy;rw[yab,zin]
theorem zkR (c:List Nat)(i:Int):atZ (zcV c) i=(atZ c i).map λx=>(x,false):=by
 unfold zcV atZ;split
 .rw[yam]
 .rfl
def mkZ (l:List (Nat×Bool))(i:Int):Bool:=((atZ l i).map (·.2)).getD false
def clZ (l:List (Nat×Bool))(i:Int):Option Nat:=(atZ l i).map (·.1)
theorem zr8 (sh:Nat)(l:List (Nat×Bool))(i:Int):clZ (zdm sh l) i=clZ l i:=by
 unfold clZ zdm;rw[zir];cases atZ l i<;>rfl
theorem zio (sh:Nat)(l:List (Nat×Bool))(i:Int):mkZ (zdm sh l) i=(mkZ l i||(decide (clZ l i=some sh)&&(clZ l (i-1)).isSome && !mkZ l (i-1) && !mkZ l (i+1))):=by
 unfold mkZ clZ zdm;rw[zir];cases atZ l i with
 | none=>simp
 | some x=>
  unfold zr9;cases atZ l (i-1)<;>cases atZ l (i+1)<;>simp
structure MkOk (c:List Nat)(l:List (Nat×Bool)):Prop where
 cl:∀ i,clZ l i=atZ c i
 ind:∀ i,mkZ l i=true->mkZ l (i+1)=true->False
 fst:∀ i,mkZ l i=true->(atZ c (i-1)).isSome=true/\(atZ c i).isSome=true
theorem zf8 (c:List Nat):MkOk c (zcV c):=by
 have e:∀ i,mkZ (zcV c) i=false:=λi=>by
  unfold mkZ;rw[zkR];cases atZ c i<;>rfl
 refine ⟨λi=>?_,λi h=>?_,λi h=>?_⟩
 .unfold clZ;rw[zkR];cases atZ c i<;>rfl
 .rw[e]at h;cases h
 .rw[e]at h;cases h
theorem zfM (hu:UnlZ c)(h:MkOk c l):MkOk c (zdm sh l):=by
 refine ⟨λi=>by rw[zr8,h.cl],λi h1 h2=>?_,λi h1=>?_⟩
 .rw[zio]at h1 h2;simp only[Bool.or_eq_true,ybb,decide_eq_true_eq,ybT]at h1 h2;rw[show i+1-1=i by lia]at h2;rcases h1 with h1|h1<;>rcases h2 with h2|h2
  .exact h.ind i h1 h2
  .rw[h1]at h2;exact absurd h2.1.2 .(i)
  .rw[h2]at h1;exact absurd h1.2 .(i)
  .have a:=h1.1.1.1;have b:=h2.1.1.1;rw[h.cl]at a b;exact hu i sh sh a b rfl
 .rw[zio]at h1;simp only[Bool.or_eq_true,ybb,decide_eq_true_eq,ybT]at h1;rcases h1 with h1|h1
  .exact h.fst i h1
  .refine ⟨?_,?_⟩
   .rw[<-h.cl];exact h1.1.1.2
   .rw[<-h.cl,h1.1.1.1];rfl
theorem zby (h:mkZ l i=true):mkZ (zdm sh l) i=true:=by
 rw[zio,h];rfl
theorem ziq {sh:Nat}(h:MkOk c l)(hc:atZ c i=some sh)(hp:(atZ c (i-1)).isSome=true):mkZ (zdm sh l) (i-1)=true\/mkZ (zdm sh l) i=true\/mkZ (zdm sh l) (i+1)=true:=by
 by_cases a:mkZ l (i-1)=true
 .exact .inl (zby a)
 .by_cases b:mkZ l (i+1)=true
  .exact .inr (.inr (zby b))
  .refine .inr (.inl ?_);rw[zio,h.cl,h.cl,hc,hp,ybX.mpr a,ybX.mpr b];simp
theorem zjh (hu:UnlZ c):MkOk c (zeL c):=zfM hu (zfM hu (zfM hu (zf8 c)))
theorem zl3 (hu:UnlZ c)(hc:∀ i x,atZ c i=some x->x<=2){i:Int}(h1:(atZ c (i-1)).isSome=true)(h2:(atZ c i).isSome=true):mkZ (zeL c) (i-1)=true\/mkZ (zeL c) i=true\/mkZ (zeL c) (i+1)=true:=by
 obtain ⟨x,hx⟩:=yb3.mp h2;have hle:=hc i x hx;have z:x=2\/x=1\/x=0:=by lia
 rcases z with rfl|rfl|rfl
 .rcases ziq (zf8 c) hx h1 with q|q|q
  .exact .inl (zby (zby q))
  .exact .inr (.inl (zby (zby q)))
  .exact .inr (.inr (zby (zby q)))
 .rcases ziq (zfM (sh:=2) hu (zf8 c)) hx h1 with q|q|q
  .exact .inl (zby q)
  .exact .inr (.inl (zby q))
  .exact .inr (.inr (zby q))
 .exact ziq (zfM (sh:=1) hu (zfM (sh:=2) hu (zf8 c))) hx h1
structure zei (ms:List Bool):Prop where
 fst:ms.getD 0 false=false
 ind:∀ i,ms.getD i false=true->ms.getD (i+1) false=true->False
 dom:∀ i,1<=i->i<ms.length->ms.getD (i-1) false=true\/ms.getD i false=true\/ms.getD (i+1) false=true
theorem zcN (c:List Nat)(i:Nat):(zfy c).getD i false=mkZ (zeL c) (i:Int):=by
 unfold mkZ zfy;rw[zdU,yad,yam]
theorem znS (hu:UnlZ c)(hc:∀ i x,atZ c i=some x->x<=2):zei (zfy c):=by
 refine ⟨?_,λi h1 h2=>?_,λi h1 h2=>?_⟩
 .rw[zcN];cases e:mkZ (zeL c) ((0:Nat):Int) with
  | false=>rfl
  | true=>
   have:=((zjh hu).fst _ e).1;rw[ziH .(a)]at this;cases this
 .rw[zcN]at h1 h2;exact (zjh hu).ind i h1 h2
 .rw[zfx]at h2;have a:(atZ c ((i:Int)-1)).isSome=true:=by
   obtain ⟨x,hx⟩:=zrh (l:=c) (i:=(i:Int)-1) .(a) .(a);rw[hx];rfl
  have b:(atZ c (i:Int)).isSome=true:=by
   obtain ⟨x,hx⟩:=zrh (l:=c) (i:=(i:Int)) .(a) .(a);rw[hx];rfl
  rcases zl3 hu hc a b with q|q|q
  .refine .inl ?_;rw[zcN,show ((i-1:Nat):Int)=(i:Int)-1 by lia];exact q
  .refine .inr (.inl ?_);rw[zcN];exact q
  .refine .inr (.inr ?_);rw[zcN];exact q
theorem zkp {y:Nat}(h:y<zf6 p n):p=some y\/n=some y:=by
 unfold zf6 at h;split at h
 .omega
 .rename_i c;have c0:p=some 0\/n=some 0:=Decidable.byContradiction λq=>c ⟨λz=>q (.inl z),λz=>q (.inr z)⟩;split at h
  .have:y=0:=by lia
   subst this;exact c0
  .rename_i d;have d0:p=some 1\/n=some 1:=Decidable.byContradiction λq=>d ⟨λz=>q (.inl z),λz=>q (.inr z)⟩;have:y=0\/y=1:=by lia
   rcases this with rfl|rfl
   .exact c0
   .exact d0
def zbe (xs:List Nat)(k:Nat):List Nat:=(if k=0 then none else xs[k-1]?).toList++xs[k+1]?.toList
theorem zha {k y:Nat}:y∈zbe xs k↔(if k=0 then none else xs[k-1]?)=some y\/xs[k+1]?=some y:=by
 unfold zbe;rw[yaw,Option.mem_toList,Option.mem_toList]
def zeO (xs:List Nat)(k:Nat):Nat:=zf6 (if k=0 then none else xs[k-1]?) xs[k+1]?
theorem zme {k:Nat}:zeO xs k∉zbe xs k:=λh=>by
 rcases zha.mp h with q|q
 .exact zfO q rfl
 .exact zhG q rfl
theorem zjx {k y:Nat}(h:y<zeO xs k):y∈zbe xs k:=zha.mpr (zkp h)
theorem zov (xs:List Nat)(k:Nat):zeO xs k<=2:=zlz _ _
theorem zh5 {xs:List Nat}{k:Nat}(h:k<xs.length):(recL v xs)[k]?=some (if xs.getD k 0=v then zeO xs k else xs.getD k 0):=by
 unfold recL mapW;rw[zd9,yad,yac h];rfl
def mixL (v:Nat)(xs:List Nat)(k:Nat):List Nat:=(recL v xs).take k++xs.drop k
theorem zpZ {xs:List Nat}{k:Nat}(h:xs.length<=k):mixL v xs k=recL v xs:=by
 unfold mixL;rw[yas (by rw[zbp];exact h),ybf h,yaC]
theorem zgW (v:Nat)(xs:List Nat)(k:Nat):(mixL v xs k).length=xs.length:=by
 unfold mixL;rw[yah,yao,yaR,zbp];lia
theorem zeF (v:Nat)(xs:List Nat)(k j:Nat):(mixL v xs k)[j]?=if j<k then (recL v xs)[j]? else xs[j]?:=by
 unfold mixL;by_cases hk:k<=xs.length
 .rw[List.getElem?_append,yao,zbp,ybu hk];split
  .rw[ycc];rw[if_pos (by assumption)]
  .rw[ycs];congr 1;lia
 .rw[ybf .(a),yaC,yas (by rw[zbp];lia)];split
  .rfl
  .rw[yaV (by rw[zbp];lia),yaV .(a)]
theorem znR {k j:Nat}(h:k<=j):(mixL v xs k)[j]?=xs[j]?:=by
 rw[zeF,if_neg .(a)]
theorem znP {v:Nat}{xs:List Nat}{k:Nat}(h:k<xs.length)(hv:xs.getD k 0≠v):mixL v xs (k+1)=mixL v xs k:=by
 apply ybe;intro j;rw[zeF,zeF];by_cases c:j<k
 .rw[if_pos c,if_pos .(a)]
 .rw[if_neg c];split
  .have:j=k:=by lia
   subst this;rw[zh5 h,if_neg hv,yad,yac h];rfl
  .rfl
theorem znQ {v:Nat}{k:Nat}(hu:Unl xs)(h:k<xs.length)(hv:xs.getD k 0=v):(if k=0 then none else (mixL v xs k)[k-1]?)=if k=0 then none else xs[k-1]?:=by
 cases k with
 | zero=>rfl
 | succ k=>
  show (mixL v xs (k+1))[k]?=xs[k]?;rw[zeF,if_pos .(a),zh5 .(a)];have:=hu k h;rw[hv]at this;rw[if_neg this,yad,yac (show k<xs.length by lia)];rfl
theorem zka {v:Nat}{k:Nat}(hu:Unl xs)(h:k<xs.length)(hv:xs.getD k 0=v):zbe (mixL v xs k) k=zbe xs k:=by
 unfold zbe;rw[znQ hu h hv,znR (j:=k+1) .(a)]
theorem zpY {v:Nat}{xs:List Nat}{k:Nat}(h:k<xs.length)(hv:xs.getD k 0=v):mixL v xs (k+1)=(mixL v xs k).set k (zeO xs k):=by
 apply ybe;intro j;rw[ybt,zgW,zeF,zeF];by_cases c:k=j
 .subst c;rw[if_pos rfl,if_pos h,if_pos .(a),zh5 h,if_pos hv]
 .rw[if_neg c];by_cases c2:j<k
  .rw[if_pos c2,if_pos .(a)]
  .rw[if_neg c2,if_neg .(a)]
def zcM (sh:Nat)(cs:List Nat)(ms:List Bool):List Bool:=(zdm sh (cs.zip ms)).map (·.2)
theorem zba {cs:List Nat}{ms:List Bool}(h:cs.length=ms.length):(zcM sh cs ms).length=ms.length:=by
 unfold zcM zdm;rw[yab,zcO,ycd];lia
theorem zjS {cs:List Nat}:∀{ms:List Bool},cs.length=ms.length->(cs.zip ms).map (·.1)=cs:=by
 induction cs with
 | nil=>intro ms _;rfl
 | cons c cs ih=>
  intro ms h;cases ms with
  | nil=>cases h
  | cons m ms=>
   show c::(cs.zip ms).map (·.1)=c::cs;rw[ih (Nat.succ.inj h)]
theorem zkI:∀(l:List (Nat×Bool)),(l.map (·.1)).zip (l.map (·.2))=l
 | []=>rfl
 | x::l=>by
  show x::(l.map (·.1)).zip (l.map (·.2))=x::l;rw[zkI l]
theorem znT (sh:Nat)(l:List (Nat×Bool)):(zdm sh l).map (·.1)=l.map (·.1):=by
 apply ybe;intro k;unfold zdm mapW;rw[yam,yam,zd9];cases l[k]?<;>rfl
theorem zji {cs:List Nat}{ms:List Bool}(h:cs.length=ms.length):zdm sh (cs.zip ms)=cs.zip (zcM sh cs ms):=by
 have e:=zkI (zdm sh (cs.zip ms));rw[znT,zjS h]at e;exact e.symm
theorem zmP (cs:List Nat):zcV cs=cs.zip (cs.map λ_=>false):=by
 unfold zcV
 induction cs with
 | nil=>rfl
 | cons c cs ih=>
  show (c,false)::cs.map (λx=>(x,false))=(c,false)::cs.zip (cs.map λ_=>false);rw[ih]
theorem zjg (cs:List Nat):zfy cs=zcM 0 cs (zcM 1 cs (zcM 2 cs (cs.map λ_=>false))):=by
 have l1:cs.length=(cs.map λ_=>false).length:=by rw[yab]
 have l2:cs.length=(zcM 2 cs (cs.map λ_=>false)).length:=by rw[zba l1,<-l1]
 unfold zfy zeL;rw[zmP,zji l1,zji l2];rfl
theorem zeE {cs:List Nat}{ms:List Bool}(hl:cs.length=ms.length){k:Nat}(h:k<cs.length):(zcM sh cs ms)[k]?=some (ms.getD k false||(decide (cs.getD k 0=sh)&&decide (1<=k) && !ms.getD (k-1) false && !ms.getD (k+1) false)):=by
 unfold zcM zdm mapW;have gz:∀ j,(cs.zip ms)[j]?=if h:j<cs.length then some (cs[j],ms[j]' .(a)) else none:=λj=>by
  split
  .rename_i q;rw[yac (by rw[ycd];lia),List.getElem_zip]
  .exact yaV (by rw[ycd];lia)
 have gm:∀ j,ms.getD j false=(((cs.zip ms)[j]?).map (·.2)).getD false:=λj=>by
  rw[gz];split
  .rw[yad,yac .(a)];rfl
  .rw[yad,yaV .(a)];rfl
 rw[yam,zd9,gm k,gm (k+1),gm (k-1),yad,yac h];have e:=gz k;rw[dif_pos h]at e;rw[e];show some _=some _;unfold zr9;cases k with
 | zero=>simp
 | succ k=>
  have e2:=gz k;rw[dif_pos .(a)]at e2;simp[e2]
def mixM (sh:Nat)(cs:List Nat)(ms:List Bool)(k:Nat):List Bool:=(zcM sh cs ms).take k++ms.drop k
theorem zpX {cs:List Nat}{ms:List Bool}(hl:cs.length=ms.length){k:Nat}(h:cs.length<=k):mixM sh cs ms k=zcM sh cs ms:=by
 unfold mixM;rw[yas (by rw[zba hl];lia),ybf .(a),yaC]
theorem zgV {cs:List Nat}{ms:List Bool}(hl:cs.length=ms.length)(k:Nat):(mixM sh cs ms k).length=cs.length:=by
 unfold mixM;rw[yah,yao,yaR,zba hl];lia
theorem zdc {cs:List Nat}{ms:List Bool}(hl:cs.length=ms.length)(k j:Nat):(mixM sh cs ms k)[j]?=if j<k then (zcM sh cs ms)[j]? else ms[j]?:=by
 unfold mixM;by_cases hk:k<=ms.length
 .rw[List.getElem?_append,yao,zba hl,ybu hk];split
  .rw[ycc];rw[if_pos (by assumption)]
  .rw[ycs];congr 1;lia
 .rw[ybf .(a),yaC,yas (by rw[zba hl];lia)];split
  .rfl
  .rw[yaV (by rw[zba hl];lia),yaV .(a)]
def zrg (ms:List Bool)(k:Nat):Bool:=!ms.getD (k-1) false && !ms.getD k false && !ms.getD (k+1) false
theorem znN {sh:Nat}{cs:List Nat}{ms:List Bool}(hl:cs.length=ms.length){k:Nat}(h:k<cs.length)(hn:¬ (1<=k/\cs.getD k 0=sh/\zrg ms k=true)):mixM sh cs ms (k+1)=mixM sh cs ms k:=by
 apply ybe;intro j;rw[zdc hl,zdc hl];by_cases c:j<k
 .rw[if_pos c,if_pos .(a)]
 .rw[if_neg c];split
  .have:j=k:=by lia
   subst this;rw[zeE hl h];unfold zrg at hn;rw[yac .(a)];have e:ms.getD j false=ms[j]' .(a):=by
    rw[yad,yac .(a)];rfl
   rw[e]at hn ⊢;congr 1;generalize ms[j]=a at hn ⊢;generalize ms.getD (j-1) false=b at hn ⊢;generalize ms.getD (j+1) false=d at hn ⊢;cases a<;>cases b<;>cases d<;>simp at hn ⊢
   intro q;lia
  .rfl
structure zeh (ms:List Bool)(sp:List Nat):Prop where
 up:sp.Pairwise (· < ·)
 iff:∀ j,j∈sp↔ms.getD j false=true
theorem zph (ms:List Bool):zeh ms ((List.range ms.length).filter λk=>ms.getD k false):=by
 refine ⟨List.Pairwise.filter _ yct,λj=>?_⟩;rw[yaY,yaT];constructor
 .exact λh=>h.2
 .intro h;refine ⟨?_,h⟩;rw[yad]at h;cases e:ms[j]? with
  | none=>rw[e]at h;cases h
  | some x=>exact (yaj.mp e).1
theorem zeh.lt (S:zeh ms sp){j:Nat}(h:j∈sp):j<ms.length:=by
 have h:=(S.iff j).mp h;rw[yad]at h;cases e:ms[j]? with
 | none=>rw[e]at h;cases h
 | some x=>exact (yaj.mp e).1
theorem zeh.step (S:zeh ms sp)(M:zei ms){t:Nat}(h:t+1<sp.length):sp[t]+2<=sp[t+1]/\sp[t+1]<=sp[t]+3:=by
 have up:=ya0.mp S.up;have lt:=up t (t+1) .(a) h .(a);have m0:=(S.iff _).mp (yaA (show t<sp.length by lia));have m1:=(S.iff _).mp (yaA h);have l1:=S.lt (yaA h);have no:∀ j,sp[t]<j->j<sp[t+1]->ms.getD j false=false:=λj a b=>by
  cases e:ms.getD j false with
  | false=>rfl
  | true=>
   obtain ⟨u,hu,q⟩:=yaP ((S.iff j).mpr e);have c1:¬ u<=t:=λz=>by
    by_cases z':u=t
    .subst z';lia
    .have:=up u t hu .(a) .(a);lia
   have c2:¬ t+1<=u:=λz=>by
    by_cases z':u=t+1
    .subst z';lia
    .have:=up (t+1) u h hu .(a);lia
   lia
 refine ⟨?_,?_⟩
 .by_cases c:sp[t+1]=sp[t]+1
  .rw[c]at m1;exact (M.ind _ m0 m1).elim
  .omega
 .refine ybr λc=>?_;rcases M.dom (sp[t]+2) .(a) .(a) with q|q|q
  .rw[no (sp[t]+2-1) .(a) .(a)]at q;cases q
  .rw[no (sp[t]+2) .(a) .(a)]at q;cases q
  .rw[no (sp[t]+2+1) .(a) .(a)]at q;cases q
theorem zeh.first (S:zeh ms sp)(M:zei ms)(h:2<=ms.length):∃ hp:0<sp.length,1<=sp[0]/\sp[0]<=2:=by
 have ex:∃ j,j<=2/\ms.getD j false=true:=by
  rcases M.dom 1 .(a) .(a) with q|q|q
  .exact ⟨0,by lia,q⟩
  .exact ⟨1,by lia,q⟩
  .exact ⟨2,by lia,q⟩
 obtain ⟨j,hj,e⟩:=ex;obtain ⟨u,hu,q⟩:=yaP ((S.iff j).mpr e);refine ⟨by lia,?_,?_⟩
 .have m0:=(S.iff _).mp (yaA (show 0<sp.length by lia));refine ycu λz=>?_;rw[z,M.fst]at m0;cases m0
 .by_cases c:u=0
  .subst c;lia
  .have:=ya0.mp S.up 0 u .(a) hu .(a);lia
theorem zeh.last (S:zeh ms sp)(M:zei ms)(h:2<=ms.length)(hp:0<sp.length):ms.length<=sp[sp.length-1]+2:=by
 have ex:∃ j,ms.length-2<=j/\ms.getD j false=true:=by
  rcases M.dom (ms.length-1) .(a) .(a) with q|q|q
  .exact ⟨_,by lia,q⟩
  .exact ⟨_,by lia,q⟩
  .exact ⟨_,by lia,q⟩
 obtain ⟨j,hj,e⟩:=ex;obtain ⟨u,hu,q⟩:=yaP ((S.iff j).mpr e);by_cases c:u=sp.length-1
 .subst c;lia
 .have:=ya0.mp S.up u (sp.length-1) hu .(a) .(a);lia
theorem zeh.low (S:zeh ms sp)(M:zei ms):∀(t:Nat) (h:t<sp.length),2*t+1<=sp[t]
 | 0,h=>by
  have m0:=(S.iff _).mp (yaA h);refine ycu λz=>?_;rw[z,M.fst]at m0;cases m0
 | t+1,h=>by
  have a:=zeh.low S M t .(a);have b:=(S.step M h).1;lia
theorem zeh.half (S:zeh ms sp)(M:zei ms):2*sp.length<=ms.length:=by
 by_cases c:sp.length=0
 .omega
 .have a:=S.low M (sp.length-1) .(a);have b:=S.lt (yaA (show sp.length-1<sp.length by lia));lia
theorem zeh.none (S:zeh ms sp)(M:zei ms)(h:ms.length<2):sp=[]:=by
 have:=S.half M;exact yb9 .(a)
def zdf {α:Type}(es:List α)(ms:List Bool):List α:=((es.zip ms).filter (·.2)).map (·.1)
def colN (xs:List Nat):Nat->List Nat
 | 0=>xs
 | i+1=>recL (3+i) (colN xs i)
theorem zkx (xs:List Nat)(i:Nat):(colN xs i).length=xs.length:=by
 induction i with
 | zero=>rfl
 | succ i ih=>rw[colN,zbp,ih]
theorem zql (h:Unl xs)(i:Nat):Unl (colN xs i):=by
 induction i with
 | zero=>exact h
 | succ i ih=>exact zqC (zgn (unlZ ih))
def mkN (cs:List Nat):Nat->List Bool
 | 0=>cs.map λ_=>false
 | i+1=>zcM (2-i) cs (mkN cs i)
theorem znM (cs:List Nat):mkN cs 3=zfy cs:=(zjg cs).symm
theorem zl1 (cs:List Nat)(i:Nat):cs.length=(mkN cs i).length:=by
 induction i with
 | zero=>rw[mkN,yab]
 | succ i ih=>rw[mkN,zba ih,ih]
theorem zpW {cs:List Nat}{ms:List Bool}(hl:cs.length=ms.length):mixM sh cs ms 1=ms:=by
 by_cases h:0<cs.length
 .rw[znN hl h (λz=>by lia)];rfl
 .have:ms=[]:=yb9 .(a);subst this;unfold mixM;rw[yb9 (show (zcM sh cs []).length=0 by rw[zba hl];rfl)];rfl
def zaA (ps:List Nat):Prop:=∀ i (h:i<ps.length),ps[i]<=i
def par (ps:List Nat):Nat->Option Nat
 | 0=>none
 | k+1=>ps[k]?
theorem zaM (T:zaA ps){k p:Nat}(h:par ps k=some p):p<k/\k<ps.length+1:=by
 cases k with
 | zero=>cases h
 | succ k=>
  obtain ⟨h1,rfl⟩:=yaj.mp (show ps[k]?=some p from h);have:=T k h1;lia
theorem zid {ps:List Nat}{k:Nat}(h1:1<=k)(h2:k<ps.length+1):∃ p,par ps k=some p:=by
 cases k with
 | zero=>lia
 | succ k=>exact ⟨_,yac (show k<ps.length by lia)⟩
theorem zpx {ps:List Nat}{k:Nat}(h2:k<ps.length+1)(h:par ps k=none):k=0:=by
 cases k with
 | zero=>rfl
 | succ k=>
  have:=List.getElem?_eq_none_iff.mp (show ps[k]?=none from h);lia
def wayF (ps:List Nat)(one:Nat):Nat->Nat->Option (List Nat)
 | 0,_=>none
 | f+1,o=>if o=one then some [o] else match par ps o with
  | none=>none
  | some p=>(wayF ps one f p).map (· ++ [o])
theorem ziL (T:zaA ps){one:Nat}:∀ f g o,o<f->o<g->wayF ps one f o=wayF ps one g o
 | 0,_,_,h,_=>absurd h (ybF _)
 | _,0,_,_,h=>absurd h (ybF _)
 | f+1,g+1,o,hf,hg=>by
  unfold wayF;split
  .rfl
  .cases e:par ps o with
   | none=>rfl
   | some p=>
    have:=(zaM T e).1;show (wayF ps one f p).map _=(wayF ps one g p).map _;rw[ziL T f g p .(a) .(a)]
def wayL (ps:List Nat)(one o:Nat):Option (List Nat):=wayF ps one (o+1) o
theorem zmz :wayL ps o o=some [o]:=by
 unfold wayL wayF;rw[if_pos rfl]
theorem ze2 (T:zaA ps){one o:Nat}(h:o≠one):wayL ps one o=match par ps o with
  | none=>none
  | some p=>(wayL ps one p).map (· ++ [o]):=by
 unfold wayL;rw[wayF,if_neg h];cases e:par ps o with
 | none=>rfl
 | some p=>
  show (wayF ps one o p).map _=(wayF ps one (p+1) p).map _;rw[ziL T o (p+1) p (zaM T e).1 .(a)]
theorem zmA (T:zaA ps){one:Nat}:∀ n o,o<=n->o<one->wayL ps one o=none
 | n,o,hn,h=>by
  rw[ze2 T .(a)];cases e:par ps o with
  | none=>rfl
  | some p=>
   have hp:=(zaM T e).1;show (wayL ps one p).map _=none;cases n with
   | zero=>lia
   | succ n=>rw[zmA T n p .(a) .(a)];rfl
def zkH (ps:List Nat)(w:List Nat):Prop:=∀ t,t+1<w.length->par ps (w.getD (t+1) 0)=some (w.getD t 0)
theorem zml {x:Nat}(h:zkH ps w)(hx:w≠[]->par ps x=some (w.getD (w.length-1) 0)):zkH ps (w++[x]):=by
 intro t ht;rw[yah,yay]at ht;have e0:(w++[x]).getD t 0=w.getD t 0:=by
  rw[yad,yad,yba .(a)]
 rw[e0];by_cases c:t+1<w.length
 .have e1:(w++[x]).getD (t+1) 0=w.getD (t+1) 0:=by
   rw[yad,yad,yba c]
  rw[e1];exact h t c
 .have et:t+1=w.length:=by lia
  have e1:(w++[x]).getD (t+1) 0=x:=by
   rw[yad,et,ya4 (yaa _),ybI];rfl
  rw[e1];have:=hx (λz=>by rw[z]at et;simp at et);rw[<-et,ybH]at this;exact this
def isB (ps:List Nat)(k j:Nat):Bool:=(wayL ps k j).isSome
def benL (ps:List Nat)(k n:Nat):List Nat:=(List.range n).filter (isB ps k)
theorem zcm {k:Nat}:isB ps k k=true:=by
 unfold isB;rw[zmz];rfl
theorem zcQ (T:zaA ps){k j:Nat}(h:j<k):isB ps k j=false:=by
 unfold isB;rw[zmA T j j (yaa _) h];rfl
theorem zbY (T:zaA ps){k j p:Nat}(h:j≠k)(e:par ps j=some p):isB ps k j=isB ps k p:=by
 unfold isB;rw[ze2 T h,e];show ((wayL ps k p).map _).isSome=_;cases wayL ps k p<;>rfl
theorem zqt (T:zaA ps)(k:Nat):benL ps k (k+1)=[k]:=by
 unfold benL;rw[ybg,yaQ];have e1:(List.range k).filter (isB ps k)=[]:=by
  rw[ya8];intro j hj z;rw[zcQ T (yaT.mp hj)]at z;cases z
 rw[e1,List.nil_append,yaS zcm];rfl
theorem zcC {k:Nat}:j∈benL ps k n↔j<n/\isB ps k j=true:=by
 unfold benL;rw[yaY,yaT]
theorem zhb {k:Nat}:benL ps k (n+1)=benL ps k n++(if isB ps k n=true then [n] else []):=by
 unfold benL;rw[ybg,yaQ];congr 1;by_cases h:isB ps k n=true
 .rw[if_pos h,yaS h];rfl
 .rw[if_neg h,ya9 h];rfl
theorem ziE (ps:List Nat)(k n:Nat):(benL ps k n).length<=n:=by
 have:=ya3 (isB ps k) (List.range n);rw[yaL]at this;exact this
theorem zkB (ps:List Nat)(k n:Nat):(benL ps k n).Pairwise (· < ·):=List.Pairwise.filter _ yct
theorem zlu (T:zaA ps):∀ n j,j<=n->j<ps.length+1->isB ps 0 j=true
 | n,j,hn,h=>by
  by_cases c:j=0
  .rw[c];exact zcm
  .obtain ⟨p,e⟩:=zid .(a) h;have:=(zaM T e).1;rw[zbY T c e];cases n with
   | zero=>lia
   | succ n=>exact zlu T n p .(a) .(a)
theorem zjO (T:zaA ps):benL ps 0 (ps.length+1)=List.range (ps.length+1):=by
 unfold benL;rw[yce];exact λj hj=>zlu T j j (yaa _) (yaT.mp hj)
def zaK (ps:List Nat)(k n:Nat):List Nat:=(List.range n).filter λj=>decide (par ps j=some k)
theorem zaE {k j:Nat}:j∈zaK ps k n↔j<n/\par ps j=some k:=by
 unfold zaK;rw[yaY,yaT,decide_eq_true_eq]
theorem zcS {k:Nat}:zaK ps k (n+1)=zaK ps k n++(if par ps n=some k then [n] else []):=by
 unfold zaK;rw[ybg,yaQ];congr 1;by_cases h:par ps n=some k
 .rw[if_pos h,yaS (by exact yai h)];rfl
 .rw[if_neg h,ya9 (by rw[yan h];decide)];rfl
theorem zcD (ps:List Nat)(k n:Nat):(zaK ps k n).length<=n:=by
 have:=ya3 (λj=>decide (par ps j=some k)) (List.range n);rw[yaL]at this;exact this
theorem zjF (ps:List Nat)(k n:Nat):(zaK ps k n).Pairwise (· < ·):=List.Pairwise.filter _ yct
theorem zcq (T:zaA ps){k:Nat}:∀ n j,j<=n->j<ps.length+1->(isB ps k j=true↔j=k\/∃ c,par ps c=some k/\isB ps c j=true)
 | n,j,hn,h=>by
  by_cases c:j=k
  .constructor
   .exact λ_=>.inl c
   .intro _;rw[c];exact zcm
  .cases e:par ps j with
   | none=>
    have j0:=zpx h e;have no:∀ m,j≠m->isB ps m j=false:=λm hm=>by
     unfold isB;rw[ze2 T hm,e];rfl
    constructor
    .intro z;rw[no k c]at z;cases z
    .rintro (z|⟨d,hd,z⟩)
     .exact absurd z c
     .by_cases y:j=d
      .rw[<-y,e]at hd;cases hd
      .rw[no d y]at z;cases z
   | some p=>
    have hp:=(zaM T e).1;cases n with
    | zero=>lia
    | succ n=>
     have ih:=zcq T (k:=k) n p .(a) .(a);rw[zbY T c e,ih];constructor
     .rintro (z|⟨d,hd,z⟩)
      .refine .inr ⟨j,?_,zcm⟩;rw[e,z]
      .by_cases y:j=d
       .rw[<-y]at z;rw[zcQ T hp]at z;cases z
       .exact .inr ⟨d,hd,by rw[zbY T y e];exact z⟩
     .rintro (z|⟨d,hd,z⟩)
      .exact absurd z c
      .by_cases y:j=d
       .subst y;rw[e]at hd;exact .inl (yae hd)
       .rw[zbY T y e]at z;exact .inr ⟨d,hd,z⟩
theorem zdo (T:zaA ps){k c d:Nat}(hc:par ps c=some k)(hd:par ps d=some k)(hcd:c≠d):∀ n j,j<=n->isB ps c j=true->isB ps d j=true->False
 | n,j,hn,h1,h2=>by
  by_cases e1:j=c
  .subst e1;rw[zbY T hcd hc,zcQ T (zaM T hd).1]at h2;cases h2
  .by_cases e2:j=d
   .subst e2;rw[zbY T e1 hd,zcQ T (zaM T hc).1]at h1;cases h1
   .cases e:par ps j with
    | none=>
     unfold isB at h1;rw[ze2 T e1,e]at h1;cases h1
    | some p=>
     have hp:=(zaM T e).1;rw[zbY T e1 e]at h1;rw[zbY T e2 e]at h2;cases n with
     | zero=>lia
     | succ n=>exact zdo T hc hd hcd n p .(a) h1 h2
theorem zlR (T:zaA ps){k:Nat}(hk:k<ps.length+1):(k::((zaK ps k (ps.length+1)).map λc=>benL ps c (ps.length+1)).flatten).Perm (benL ps k (ps.length+1)):=by
 have lt:∀{l:List Nat},l.Pairwise (· < ·)->l.Nodup:=λh=>List.Pairwise.imp (λ{a b} (q:a<b)=>yat q) h;refine (List.perm_ext_iff_of_nodup ?_ (lt (zkB ps k _))).mpr λj=>?_
 .rw[yaK];refine ⟨λh=>?_,?_⟩
  .obtain ⟨l,hl,hj⟩:=ycf.mp h;obtain ⟨c,hc,rfl⟩:=yaE.mp hl;have h1:=(zaE.mp hc).2;have h2:=(zcC.mp hj).2;rw[zcQ T (zaM T h1).1]at h2;cases h2
  .show List.Pairwise _ _;rw[List.pairwise_flatten];refine ⟨λl hl=>?_,?_⟩
   .obtain ⟨c,hc,rfl⟩:=yaE.mp hl;exact lt (zkB ps c _)
   .rw[ybR];refine List.Pairwise.imp_of_mem (λ{c d} hc hd hcd=>?_) (zjF ps k _);intro x hx y hy z;subst z;exact zdo T (zaE.mp hc).2 (zaE.mp hd).2 (yat hcd) x x (yaa _) (zcC.mp hx).2 (zcC.mp hy).2
 .rw[yag,ycf,zcC];constructor
  .rintro (rfl|⟨l,hl,hj⟩)
   .exact ⟨hk,zcm⟩
   .obtain ⟨c,hc,rfl⟩:=yaE.mp hl;obtain ⟨h1,h2⟩:=zcC.mp hj;exact ⟨h1,(zcq T j j (yaa _) h1).mpr (.inr ⟨c,(zaE.mp hc).2,h2⟩)⟩
  .rintro ⟨h1,h2⟩;rcases (zcq T j j (yaa _) h1).mp h2 with q|⟨c,hc,q⟩
   .exact .inl q
   .exact .inr ⟨_,yaE.mpr ⟨c,zaE.mpr ⟨(zaM T hc).2,hc⟩,rfl⟩,zcC.mpr ⟨h1,q⟩⟩
def zue (t u:TS):TS:=λD U H=>∀ N:L2.St->Hp->Prop,(∀ U' H',u D U' H'->N U' H')->t { D with nx:=N } U H
theorem zaI {st:Stmt}{rest:List Stmt}{t:TS}(h1:PS X st t)(h2:PSs X rest u):PSs X (st::rest) (zue t u):=λpins s U H D I h=>zaj h1 h2 pins s U H D I (h (u D) λ_ _ z=>z)
def zuc (t u:TS):TS:=λD U H=>∃ M:L2.St->Hp->Prop,(∀ N:L2.St->Hp->Prop,(∀ U' H',M U' H'->N U' H')->t { D with nx:=N } U H)/\∀ U' H',M U' H'->u D U' H'
theorem zbO {st:Stmt}{rest:List Stmt}{t:TS}(h1:PS X st t)(h2:PSs X rest u):PSs X (st::rest) (zuc t u):=λpins s U H D I h=>by
 obtain ⟨M,h3,h4⟩:=h;exact zaN h1 h2 pins s U H D I ⟨M,h3 M λ_ _ z=>z,h4⟩
theorem zux {tb:TS}{D:Ends}{Pn:L2.St->Hp->Prop}{i:Nat}{x:V}{U:L2.St}{H:Hp}(h:∀(N B:L2.St->Hp->Prop) (R:VK),(∀ U H,Pn U H->N U H)->(∀ U H,D.nx U H->B U H)->(∀ v H,D.rt v H->R v H)->tb { nx:=N,rt:=R,bk:=B,ct:=N } (U.set i (some x)) H):zko i x U H λU2 H2=>tb { D with nx:=Pn,ct:=Pn,bk:=D.nx } U2 H2:=h Pn D.nx D.rt (λ_ _ z=>z) (λ_ _ z=>z) (λ_ _ z=>z)
theorem zuw {tb:TS}{D:Ends}{Pn:L2.St->Hp->Prop}{U:L2.St}{H:Hp}(h:∀(N B:L2.St->Hp->Prop) (R:VK),(∀ U H,Pn U H->N U H)->(∀ U H,D.nx U H->B U H)->(∀ v H,D.rt v H->R v H)->tb { nx:=N,rt:=R,bk:=B,ct:=N } U H):tb { D with nx:=Pn,ct:=Pn,bk:=D.nx } U H:=h Pn D.nx D.rt (λ_ _ z=>z) (λ_ _ z=>z) (λ_ _ z=>z)
seal PSs PS PE PT PW PA PI PG PO PX
section
variable {P:Program}{w:World}{K:Frag}{mg:Str->Option Value}{base:Heap}
theorem zpH (T:Txt K mg)(qcm:DF K mg "_law_mixed" zff zex):FC P w K mg base 1 "_law_mixed" zex zmU:=by
 refine qcm.ok qbI .(c) .(b)
 .obtain ⟨c,k,rfl,_⟩:=h;rfl
 obtain ⟨c,k,rfl,q⟩:=h;refine ⟨_,(zaj (zaq (i:=2) qbI.nd rfl (Or.inl rfl) (zaG zfV (zaG zdl (zaG zbn (zaG zbn (zaG zfV (pv 0) zai) (zaG zdl zai (pv 1))) zai) zai) zai))
   (zaj (zaq (i:=3) qbI.nd rfl (Or.inl rfl) (zaG zfV (zaG zbn (zaG zbn (zaG zdl (pv 2) (pv 2)) (zaG zdl zai (pv 2))) (pv 1)) zai))
   (zae (zaw (zaG zj6 (zaG zfV (zaG zbn (zaG zbn (zaG zdl (pv 3) (pv 3)) (zaG zdl zai (pv 3))) (zaG zdl zai (pv 1))) zai) zai))))),?_⟩
 walk_at "rd"
 exact q _
theorem zpT (T:Txt K mg)(qcn:DF K mg "_law_begin" zfg zez):FC P w K mg base 1 "_law_begin" zez (zm3 K):=by
 refine qcn.ok qdZ .(c) .(b)
 .obtain ⟨L,ns,rfl,_⟩:=h;rfl
 obtain ⟨L,ns,rfl,hS,q⟩:=h;refine ⟨_,(zae (zaw (znl (zgs zc8 (pv 0) (zgs zc8 zai (zgs zc8 zai zne))) rfl rfl .(h) .(i)))),?_⟩;intro p hp;refine ⟨_,rfl,zab,[(.inr "script",.ref L),(.inr "at",.int 0),(.inr "left",.int 0)],rfl,(by show 3<=15;decide),?_⟩;have e:upd (upd H p (.dK [])) p (.dK (zd8 [] [(.inr "script",.ref L),(.inr "at",.int 0),(.inr "left",.int 0)]))=upd H p (zdP L 0 0):=by
  rw[zrj];have:zd8 [] [((.inr "script" : Key),V.ref L),(.inr "at",.int 0),(.inr "left",.int 0)]=[(.inr "script",.ref L),(.inr "at",.int 0),(.inr "left",.int 0)]:=by
   have a1:putK [] (.inr "script" : Key) (V.ref L)=[(.inr "script",.ref L)]:=zc6 (kvs:=[]) _ rfl;have a2:putK [((.inr "script" : Key),V.ref L)] (.inr "at") (.int 0)=[(.inr "script",.ref L),(.inr "at",.int 0)]:=by
    rw[zc6 _ (by rw[zaT (zeN (show ("script" : Str) ≠ "at" by decide +kernel))];rfl)];rfl
   have a3:putK [((.inr "script" : Key),V.ref L),(.inr "at",.int 0)] (.inr "left") (.int 0)=[(.inr "script",.ref L),(.inr "at",.int 0),(.inr "left",.int 0)]:=by
    rw[zc6 _ (by rw[zaT (zeN (show ("script" : Str) ≠ "left" by decide +kernel)),zaT (zeN (show ("at" : Str) ≠ "left" by decide +kernel))];rfl)];rfl
   unfold zd8;simp only[List.foldl_cons,List.foldl_nil];rw[a1,a2,a3]
  rw[this];rfl
 rw[e];exact q p _ hp (zak hp _) ⟨ns,0,0,zab,(zak hp _).seq hS⟩
theorem zrT (T:Txt K mg)(qc0:DF K mg "_law_take" zgg zbx)(qez:FC P w K mg base 1 "_law_mixed" zex zmU):FC P w K mg base 2 "_law_take" zbx (ze8 K):=by
 refine qc0.ok qaX .(c) .(b)
 .obtain ⟨d,L,m,rfl,_⟩:=h;rfl
 obtain ⟨d,L,m,rfl,⟨hm,hm'⟩,⟨ns,a,l,hd,hS⟩,q⟩:=h;refine ⟨_,(zaj (zaq (i:=2) qaX.nd rfl (Or.inl rfl) (zdL (zdq hr) (pv 0) zc8 (λ_ _=>rfl)))
   (zaj (zaq (i:=3) qaX.nd rfl (Or.inl rfl) (zdL (zdq hr) (pv 0) zc8 (λ_ _=>rfl)))
   (zaN (za3 (zau zfv (zdL (zdq hr) (pv 0) zc8 (λ_ _=>rfl)) zai (zaH _)) (zaj (zd5 (zdq hr) (pv 0) zc8 (zaG zbn (pv 2) zai) rfl)
   (zaj (zaq (i:=4) qaX.nd rfl (Or.inl rfl) zai)
   (zaN (za3 (zau zj5 (zan (zal (K:=K)) rfl T.qaq boot_len (zaa (pv 3) zad)) zai (zaH _)) (zae (zaq (i:=4) qaX.nd rfl (Or.inl rfl) (zaB (zat (K:=K)) (pv 3) (zaG zfV (pv 2) (zan (zal (K:=K)) rfl T.qaq boot_len (zaa (pv 3) zad))) (λ_ _=>rfl)))) zaD)
   (zaN (za3 (PW.pt (znb (zau znv (pv 2) (zan (zal (K:=K)) rfl T.qaq boot_len (zaa (pv 3) zad)) (zaH _)) (zlb (zau zfu (zan ziC rfl T.qfh boot_abs (zaa (pv 4) zad)) (zaG zgS zai zai) (zaH _))))) (zae (zaw (zaG zfV (zax qez hr (zaa (pv 4) (zaa (pv 2) zad))) (pv 1)))) zaD)
   (zae (zd5 (zdq hr) (pv 0) zc8 (zan ziC rfl T.qfh boot_abs (zaa (pv 4) zad)) rfl)))))) zaD)
   (zaj (zaq (i:=5) qaX.nd rfl (Or.inl rfl) (zaG zfV (zdL (zdq hr) (pv 0) zc8 (λ_ _=>rfl)) (pv 1)))
   (zaj (zd5 (zdq hr) (pv 0) zc8 (zaG zj6 (zdL (zdq hr) (pv 0) zc8 (λ_ _=>rfl)) (pv 1)) rfl)
   (zae (zaw (pv 5)))))))),?_⟩
 refine ⟨_,rfl,_,_,rfl,ztU hd,_,rfl,_,_,rfl,zmc hd,?_⟩;refine ⟨λU' H'=>∃(x2 x3 x4 x5:Option V) (a' l':Int),U'=[some (.ref d),some (.int m),x2,x3,x4,x5]/\H' d=some (zdP L a' l')/\Keep d H H',?_,?_⟩
 .refine ⟨_,rfl,_,_,rfl,ziv hd,rfl,_,rfl,?_⟩;refine ite2 (λ_=>?_) (λ_=>?_)
  .refine ⟨_,rfl,_,_,rfl,rfl,_,rfl,_,_,rfl,ztg hd,?_⟩;have hd1:upd H d (zdP L (a+1) l) d=some (zdP L (a+1) l):=zab;obtain ⟨-,k1⟩:=LS.set (a':=a+1) (l':=l) hd hS;have hS1:=zga hd k1 hS;generalize upd H d (zdP L (a+1) l)=H1 at hd1 k1 hS1 ⊢;refine ⟨λU' H'=>∃ c:Int,U'=[some (.ref d),some (.int m),some (.int a),some (.ref L),some (.int c),none]/\H1=H',?_,?_⟩
   .refine ⟨_,rfl,_,_,rfl,.inl hS1,_,_,rfl,rfl,_,rfl,?_⟩;refine ite2 .(n) .(n)
    .have c':(0:Int)<(((ns.map V.int).length:Nat):Int):=yaH c;obtain ⟨v,hv⟩:=zt4 (ns:=ns) (k:=a) (by rw[yab]at c';lia);refine ⟨_,rfl,_,rfl,_,rfl,_,_,rfl,.inl hS1,_,_,rfl,rfl,c',_,_,_,_,rfl,rfl,hS1,hv,?_⟩;exact ⟨v,rfl,rfl⟩
    .exact ⟨0,rfl,rfl⟩
   rintro U' H' ⟨c,rfl,rfl⟩;refine ⟨λU' H'=>U'=[some (.ref d),some (.int m),some (.int a),some (.ref L),some (.int c),none]/\H1=H',?_,?_⟩
   .refine ⟨_,rfl,_,rfl,_,_,rfl,.inl hS1,_,_,rfl,rfl,_,rfl,?_⟩;refine ite2 (λ_=>?_) (λ_=>?_)
    .refine iteT ?_;refine ⟨_,rfl,_,rfl,c,a,rfl,λv=>⟨_,rfl,_,_,rfl,rfl,hm,?_⟩⟩;exact q _ _ (yb7 _ .(a)) (yb8 _ hm) k1 ⟨ns,a+1,l,hd1,hS1⟩
    .refine ⟨_,rfl,_,rfl,_,_,rfl,rfl,⟨by decide,by decide,by decide⟩,_,_,rfl,rfl,_,rfl,?_⟩;refine ite2 (λ_=>?_) (λ_=>?_)
     .refine ⟨_,rfl,_,rfl,c,a,rfl,λv=>⟨_,rfl,_,_,rfl,rfl,hm,?_⟩⟩;exact q _ _ (yb7 _ .(a)) (yb8 _ hm) k1 ⟨ns,a+1,l,hd1,hS1⟩
     .exact ⟨rfl,rfl⟩
   rintro U' H' ⟨rfl,rfl⟩;refine ⟨_,rfl,_,rfl,_,rfl,_,_,rfl,zlc hd1,?_⟩;obtain ⟨-,k2⟩:=LS.set (a':=a+1) (l':=if c<0 then -c else c) hd1 hS1
   exact ⟨_,_,_,_,_,_,rfl,zab,k1.trans k2⟩
  .exact ⟨_,_,_,_,a,l,rfl,hd,Keep.refl _ _⟩
 rintro U' H' ⟨x2,x3,x4,x5,a',l',rfl,hd',k'⟩;have hS':=zga hd k' hS;refine ⟨_,rfl,_,_,rfl,ziv hd',_,rfl,_,_,rfl,rfl,hm,?_⟩;refine ⟨_,rfl,_,_,rfl,ziv hd',_,rfl,_,_,rfl,rfl,⟨hm,hm'⟩,_,rfl,_,_,rfl,zlc hd',?_⟩;obtain ⟨s1,k1⟩:=LS.set (a':=a') (l':=l'/m) hd' hS';refine ⟨_,rfl,?_⟩;exact q _ _ (yb7 _ .(a)) (yb8 _ hm) (k'.trans k1) s1
def zs6:Sp:=λvs H Q _=>∃ a b:Nat,vs=[.int a,.int b]/\a≠b/\Q (.int (lu a b:Nat)) H
theorem ztv (T:Txt K mg)(qaQ:DF K mg "lowest_unlike" zb8 zbX):FC P w K mg base 1 "lowest_unlike" zbX zs6:=by
 refine qaQ.ok qa5 .(c) .(b)
 .obtain ⟨a,b,rfl,_⟩:=h;rfl
 obtain ⟨a,b,rfl,hab,q⟩:=h;refine ⟨_,(zaj (zaq (i:=2) qa5.nd rfl (Or.inl rfl) (zaG ztn (pv 0) (pv 1)))
   (zae (zaw (zaG zdb (ztk F.plainAttrs_int F.slot_int_bit_length F.type_int_bit_length zim (zaG zqX (pv 2) (zib ze4 (pv 2)))) zai)))),?_⟩
 refine ⟨_,rfl,_,rfl,_,_,rfl,rfl,_,rfl,_,rfl,_,rfl,_,_,rfl,rfl,rfl,_,rfl,rfl,_,_,rfl,rfl,?_⟩;rw[<-ztD a b hab]at q;exact q
def zpi (K:Frag):Sp:=λvs H Q _=>∃ d L:Addr,vs=[.ref d]/\LS K L d H/\∀(v:Int) (H':Hp),-(10^60)<v->v<10^60->Keep d H H'->LS K L d H'->Q (.int v) H'
theorem zp3 {x m:Int}(h1:-999<=x)(h2:x<=999)(h3:0<m)(h4:m<=10^57):-(10^60)<x*m/\x*m<10^60:=by
 have a:=Int.mul_le_mul_of_nonneg_right h2 (Int.le_of_lt h3);have b:=Int.mul_le_mul_of_nonneg_right h1 (Int.le_of_lt h3);lia
theorem ztx (T:Txt K mg)(qdD:DF K mg "_law_key" zh2 zey)(qae:FC P w K mg base 2 "_law_take" zbx (ze8 K)):FC P w K mg base 3 "_law_key" zey (zpi K):=by
 refine qdD.ok qdW .(c) .(b)
 .obtain ⟨d,L,rfl,_⟩:=h;rfl
 obtain ⟨d,L,rfl,hs,q⟩:=h;refine ⟨_,(zaj (zaq (i:=1) qdW.nd rfl (Or.inl rfl) (zax qae hr (zaa (pv 0) (zaa zai zad))))
   (zaN (za3 (zau zfu (pv 1) zai (zaH _)) (zae (zaw (zax qae hr (zaa (pv 0) (zaa zai zad))))) zaD)
   (zaN (za3 (zau zfu (pv 1) zai (zaH _)) (zae (zaw (zaG zdb (zax qae hr (zaa (pv 0) (zaa zai zad))) zai))) zaD)
   (zaN (za3 (zau zfv (pv 1) zai (zaH _)) (zae (zaw (zaG zdl (zaG zdb (zax qae hr (zaa (pv 0) (zaa zai zad))) zai) (zaB (zat (K:=K)) (zbj (zaa zai (zaa (zaG zgS zai zai) (zaa (zaG zgS zai zai) (zaa (zaG zgS zai zai) zad))))) (zax qae hr (zaa (pv 0) (zaa zai zad))) (λ_ _=>rfl))))) zaD)
   (zae (zaw (zaG zdl (zaB (zat (K:=K)) (zbj (zaa zai (zaa (zib ze4 zai) zad))) (zax qae hr (zaa (pv 0) (zaa zai zad))) (λ_ _=>rfl)) (zaG zdb (zaG zdb (zaG zgS zai zai) zai) (zax qae hr (zaa (pv 0) (zaa zai zad))))))))))),?_⟩
 refine ⟨_,rfl,d,L,8,rfl,by decide,hs,λw1 H1 w0 w8 k1 s1=>?_⟩;have nd:∀{H':Hp} {p:Addr},LS K L d H'->H' p=none->p≠d:=λs hp z=>by
  obtain ⟨_,_,_,e,_⟩:=s.ex;rw[<-z,hp]at e;cases e
 refine ⟨λU' H'=>U'=[some (.ref d),some (.int w1)]/\H1=H',?_,?_⟩
 .refine ⟨_,rfl,_,_,rfl,rfl,_,rfl,?_⟩;refine ite2 .(n) .(n)
  .refine ⟨_,rfl,d,L,10,rfl,by decide,s1,λu H2 u0 u1 k2 s2=>?_⟩;exact q u H2 .(a) .(a) (k1.trans k2) s2
  .exact ⟨rfl,rfl⟩
 rintro U' H' ⟨rfl,rfl⟩;refine ⟨λU' H'=>U'=[some (.ref d),some (.int w1)]/\H1=H',?_,?_⟩
 .refine ⟨_,rfl,_,_,rfl,rfl,_,rfl,?_⟩;refine ite2 .(n) .(n)
  .refine ⟨_,rfl,d,L,60,rfl,by decide,s1,λu H2 u0 u1 k2 s2=>⟨_,_,rfl,rfl,?_⟩⟩;exact q (u-30) H2 .(a) .(a) (k1.trans k2) s2
  .exact ⟨rfl,rfl⟩
 rintro U' H' ⟨rfl,rfl⟩;refine ⟨λU' H'=>U'=[some (.ref d),some (.int w1)]/\H1=H',?_,?_⟩
 .refine ⟨_,rfl,rfl,_,rfl,?_⟩;refine ite2 .(n) .(n)
  .refine ⟨_,rfl,d,L,1999,rfl,by decide,s1,λu H2 u0 u1 k2 s2=>⟨_,_,rfl,rfl,?_⟩⟩;refine ⟨_,_,rfl,rfl,⟨by decide,by decide,by decide⟩,_,_,rfl,rfl,⟨by decide,by decide,by decide⟩,_,_,rfl,rfl,⟨by decide,by decide,by decide⟩,(by show 4<=sizeLine;decide),λp hp=>?_⟩;refine ⟨_,rfl,d,L,4,rfl,by decide,s2.of_new hp _,λb H3 b0 b1 k3 s3=>?_⟩;obtain ⟨m,hat,m0,m1⟩:∃ m:Int,atI [V.int 1,V.int (10^(19:Int).toNat),V.int (10^(38:Int).toNat),V.int (10^(57:Int).toNat)] b=some (.int m)/\0<m/\m<=10^57:=by
    have z:b=0\/b=1\/b=2\/b=3:=by lia
    rcases z with rfl|rfl|rfl|rfl
    .exact ⟨_,rfl,by decide +kernel,by decide +kernel⟩
    .exact ⟨_,rfl,by decide +kernel,by decide +kernel⟩
    .exact ⟨_,rfl,by decide +kernel,by decide +kernel⟩
    .exact ⟨_,rfl,by decide +kernel,by decide +kernel⟩
   refine ⟨_,_,_,_,rfl,rfl,SqL.of (k3 p _ (nd s2 hp) zab),hat,_,_,rfl,rfl,.inl ⟨by lia,by lia⟩,?_⟩;obtain ⟨f1,f2⟩:=zp3 (x:=u-999) (m:=m) .(a) .(a) m0 m1;exact q _ H3 f1 f2 ((k1.trans k2).trans ((zak hp _).keep.trans k3)) s3
  .exact ⟨rfl,rfl⟩
 rintro U' H' ⟨rfl,rfl⟩;refine ⟨_,rfl,(by show 2<=sizeLine;decide),λp hp=>?_⟩;refine ⟨_,rfl,d,L,2,rfl,by decide,s1.of_new hp _,λb H2 b0 b1 k2 s2=>?_⟩;obtain ⟨m,hat,hm⟩:∃ m:Int,atI [V.int 1,V.int (-1)] b=some (.int m)/\(m=1\/m = -1):=by
  have z:b=0\/b=1:=by lia
  rcases z with rfl|rfl
  .exact ⟨_,rfl,.inl rfl⟩
  .exact ⟨_,rfl,.inr rfl⟩
 refine ⟨_,_,_,_,rfl,rfl,SqL.of (k2 p _ (nd s1 hp) zab),hat,_,_,rfl,rfl,⟨by decide,by decide,by decide⟩,_,_,rfl,rfl,_,rfl,d,L,3,rfl,by decide,s2,λu H3 u0 u1 k3 s3=>⟨_,_,rfl,rfl,_,_,rfl,rfl,.inl ⟨by lia,by lia⟩,?_⟩⟩;have e60:(10:Int)^(60:Int).toNat=10^60:=rfl;rw[e60];have kk:=k1.trans ((zak hp _).keep.trans (k2.trans k3));rcases hm with rfl|rfl
 .exact q _ H3 .(a) .(a) kk s3
 .exact q _ H3 .(a) .(a) kk s3
def Rise (es:List (Int×Int)):Prop:=es.Pairwise λa b=>pLt a b=true
def ze1 (k:Int)(e:Int×Int):Prop:=-(10^60)<e.1/\e.1<10^60/\0<=e.2/\e.2<k
theorem znd {κ:Type}[DecidableEq κ](kvs:List (κ×V))(k:κ)(v:V):(putK kvs k v).map (·.1)=if (kvs.any λkv=>decide (kv.1=k))=true then kvs.map (·.1) else kvs.map (·.1)++[k]:=by
 unfold putK;split
 .rw[ybd];apply ybY;intro a ha;show (if a.1=k then (a.1,v) else a).1=a.1
  split<;>rfl
 .rw[yal];rfl
def zjE (e:Int×Int):Int:=64*(if 0<=e.1 then 2*e.1 else -2*e.1-1)+e.2
def zhn (e:Int×Int):Nat:=(zjE e).toNat
theorem zgA {e:Int×Int}(h:ze1 64 e):((zhn e:Nat):Int)=zjE e:=by
 obtain ⟨h1,h2,h3,h4⟩:=h;unfold zhn zjE;split<;>lia
theorem zqm {e:Int×Int}(h:ze1 64 e):zhn e<2^207:=by
 have z:=zgA h;obtain ⟨h1,h2,h3,h4⟩:=h;unfold zjE at z;split at z<;>lia
theorem zoN {e f:Int×Int}(h:ze1 64 e)(g:ze1 64 f)(z:zhn e=zhn f):e=f:=by
 have z1:=zgA h;have z2:=zgA g;obtain ⟨h1,h2,h3,h4⟩:=h;obtain ⟨g1,g2,g3,g4⟩:=g;obtain ⟨a,b⟩:=e;obtain ⟨c,d⟩:=f;rw[z,z2]at z1;unfold zjE at z1;dsimp only at *;have:a=c/\b=d:=by
  split at z1<;>split at z1<;>lia
 rw[this.1,this.2]
def zqR (K:Frag):Sp:=λvs H Q _=>∃(v:V) (e:Int×Int),vs=[v]/\Rep.has K H e v/\Q (.int (zjE e)) H
theorem zr5 (T:Txt K mg)(qeA:DF K mg "code" zk6 zia):FC P w K mg base 1 "code" zia (zqR K):=by
 refine qeA.ok qdy .(c) .(b)
 .obtain ⟨v,e,rfl,_⟩:=h;rfl
 obtain ⟨v,e,rfl,he,q⟩:=h;obtain ⟨p,x1,x2,rfl,hT,e1,e2⟩:=(show hasP K H e v from he);have hT:=SqT.of (K:=K) hT;have e1:x1=.int e.1:=e1;have e2:x2=.int e.2:=e2;subst e1 e2;refine ⟨_,(zaj (zaq (i:=1) qdy.nd rfl (Or.inl rfl) (zaB (zay (K:=K)) (pv 0) zai (λ_ _=>rfl)))
   (zaj (zaq (i:=2) qdy.nd rfl (Or.inl rfl) (zle (zau znv (pv 1) zai (zaH _)) (zaG zdl zai (pv 1)) (zaG zdb (zaG zdl (zib ze4 zai) (pv 1)) zai)))
   (zae (zaw (zaG zbn (zaG zdl (zc9 rfl T.qcJ) (pv 2)) (zaB (zay (K:=K)) (pv 0) zai (λ_ _=>rfl))))))),?_⟩
 refine ⟨_,rfl,_,_,_,_,rfl,rfl,hT,rfl,?_⟩;refine ⟨_,rfl,_,_,rfl,rfl,_,rfl,?_⟩;refine ite2 .(n) .(n)
 .have c':0<=e.1:=yaH c;refine ⟨_,rfl,_,_,rfl,rfl,.inl ⟨by decide,by decide⟩,?_⟩;refine ⟨_,rfl,_,_,rfl,rfl,.inl ⟨by decide,by decide⟩,_,rfl,_,_,_,_,rfl,rfl,hT,rfl,_,_,rfl,rfl,?_⟩;unfold zjE at q;rw[if_pos c']at q;exact q
 .have c':¬ 0<=e.1:=ycv (ybX.mpr c);refine ⟨_,rfl,_,rfl,_,_,rfl,rfl,.inl ⟨by decide,by decide⟩,_,_,rfl,rfl,?_⟩;refine ⟨_,rfl,_,_,rfl,rfl,.inl ⟨by decide,by decide⟩,_,rfl,_,_,_,_,rfl,rfl,hT,rfl,_,_,rfl,rfl,?_⟩;unfold zjE at q;rw[if_neg c']at q;exact q
abbrev nV (n:Nat):V:=.int (n:Int)
theorem zhx {v:Int}(h:0<=v):∃ n:Nat,v=(n:Int):=⟨v.toNat,by lia⟩
theorem zhK {xs:List Nat}{i:Nat}(h:i<xs.length):atI (xs.map nV) (i:Int)=some (nV (xs.getD i 0)):=
 za5 (by rw[yam,yac h,yad,yac h];rfl)
theorem zsD {xs:List Nat}{i:Nat}(h0:i≠0)(h:i<xs.length):atI (xs.map nV) ((i:Int)-1)=some (nV (xs.getD (i-1) 0)):=by
 have e:(i:Int)-1=((i-1:Nat):Int):=by lia
 rw[e];exact zhK .(a)
theorem zjv {xs:List Nat}{i:Nat}{x:V}(h:(xs.map nV)[i]?=some x):i<xs.length/\x=nV (xs.getD i 0):=by
 rw[yam]at h;cases e:xs[i]? with
 | none=>rw[e]at h;cases h
 | some y=>
  rw[e]at h;refine ⟨(yaj.mp e).1,?_⟩;rw[yad,e];exact (yae h).symm
theorem zsE (n:Nat):Builtin.bitAnd (n:Int) 1=((n%2:Nat):Int):=by
 unfold Builtin.bitAnd;rw[yai (ybn n),yai (by decide:(0:Int)<=1)];show ((n &&& 1:Nat):Int)=_;rw[Nat.and_one_is_mod]
theorem ztY (a b:Nat):2*((lu a b:Nat):Int)+Builtin.bitAnd ((b:Int)/2^((lu a b:Nat):Int).toNat) 1=((fig a b:Nat):Int):=by
 have e:(b:Int)/2^((lu a b:Nat):Int).toNat=((b/2^lu a b:Nat):Int):=by
  rw[ya5,Int.natCast_ediv,Int.natCast_pow];rfl
 rw[e,zsE];unfold fig;lia
theorem zpV {K:Frag}{xs:List Nat}:zam K H (xs.map λn:Nat=>(n:Int)) (xs.map nV):=by
 have e:xs.map nV=(xs.map λn:Nat=>(n:Int)).map V.int:=by rw[ybd];rfl
 rw[e];exact zam.ints
def But (p:Addr)(H H':Hp):Prop:=∀ b o,b≠p->H b=some o->H' b=some o
theorem But.sq {K:Frag}{p:Addr}{a:Addr}(k:But p H H')(h:SqL K H a xs)(n:H p=none):SqL K H' a xs:=by
 rcases h with (h|⟨o,h⟩)|h
 .exact .inl (.inl (k _ _ (zac h n) h))
 .exact .inl (.inr ⟨o,k _ _ (zac h n) h⟩)
 .exact .inr h
theorem zox (xs:List Nat):(xs.map nV).all zfP=true:=by
 rw[yaW];intro x hx;obtain ⟨n,_,rfl⟩:=yaE.mp hx;rfl
theorem zq8 (n:Nat)(xs:List Nat):inV (.int (n:Int)) (xs.map nV)=decide (n∈xs):=by
 unfold inV
 induction xs with
 | nil=>rfl
 | cons x xs ih=>
  rw[yap,ybc,ih];show ((x:Int)==(n:Int)||decide (n∈xs))=decide (n∈x::xs);by_cases h:x=n
  .subst h;simp
  .have:((x:Int)==(n:Int))=false:=by
    rw[beq_eq_false_iff_ne];lia
   rw[this,yb6];have e:(n∈x::xs)=(n∈xs):=propext (by simp[Ne.symm h]);simp[Ne.symm h]
def zkT (K:Frag):Sp:=λvs H Q _=>∃(a:Addr) (xs:List Nat),vs=[.ref a]/\SqL K H a (xs.map nV)/\Unl xs/\xs.length<=1000/\
 ∀(p:Addr) (H':Hp),H p=none->Same H H'->H' p=some (.lst ((zdX xs).map nV))->Q (.ref p) H'
theorem znx (T:Txt K mg)(qc1:DF K mg "turned" zgb zfm)(qco:FC P w K mg base 1 "lowest_unlike" zbX zs6):FC P w K mg base 2 "turned" zfm (zkT K):=by
 refine qc1.ok qa8 .(c) .(b)
 .obtain ⟨a,xs,rfl,_⟩:=h;rfl
 obtain ⟨a,xs,rfl,hS,hu,hz,q⟩:=h;refine ⟨_,(zaj (zaq (i:=1) qa8.nd rfl (Or.inl rfl) (zbj zad))
   (zaj (zbr PassesOwn.never rfl (zd6 rfl T.qbm (zaa (pv 0) zad)) (zgN rfl (zaZ (zas (i:=2) qa8.nd rfl (Or.inl rfl)) (zaZ (zas (i:=3) qa8.nd rfl (Or.inl rfl)) zdK))) (zae (za3 (zau zfv (pv 2) zai (zaH _)) (zae (zbi (zeW F.plainAttrs_list F.slot_list_append F.type_list_append za4 (pv 1) (zaa (zaG zfV (pv 3) zai) zad)))) (zaj (zaq (i:=4) qa8.nd rfl (Or.inl rfl) (zax qco hr (zaa (zaB (zat (K:=K)) (pv 0) (zaG zdb (pv 2) zai) (λ_ _=>rfl)) (zaa (pv 3) zad))))
   (zae (zbi (zeW F.plainAttrs_list F.slot_list_append F.type_list_append za4 (pv 1) (zaa (zaG zbn (zaG zdl zai (pv 4)) (zaG zqX (zaG zto (pv 3) (pv 4)) zai)) zad))))))))
   (zae (zaw (pv 1))))),?_⟩
 refine ⟨(by show 0<=sizeLine;decide),λp hp=>?_⟩;have k0:But p H (upd H p (.lst [])):=λb o n e=>by rw[zag n];exact e
 refine ⟨_,rfl,a,rfl,⟨_,k0.sq hS hp⟩,?_⟩;refine ziw (xs:=xs.map nV) (λi U H2=>∃ x2 x3 x4:Option V,U=[some (.ref a),some (.ref p),x2,x3,x4]/\H2 p=some (.lst (((zdX xs).take i).map nV))/\But p H H2) ?_ ?_ ?_ ?_
 .exact ⟨_,_,_,rfl,zab,k0⟩
 .rintro i U H2 _ ⟨x2,x3,x4,rfl,_,k2⟩;exact k2.sq hS hp
 .rintro i x U H2 r hx ⟨x2,x3,x4,rfl,h2,k2⟩ hr;obtain ⟨hi,rfl⟩:=zjv hx;have hS2:=k2.sq hS hp;have np:p≠r:=zac h2 hr;have h3:upd H2 r (.tup [.int i,nV (xs.getD i 0)]) p=some (.lst (((zdX xs).take i).map nV)):=by rw[zag np];exact h2
  have k3:But p H (upd H2 r (.tup [.int i,nV (xs.getD i 0)])):=λb o n e=>(zak hr _) b o (k2 b o n e);have hS3:=k3.sq hS hp;have hlen:(((zdX xs).take i).map nV).length<sizeLine:=zao (by rw[yab,yao,zb1];lia);refine ⟨r,_,rfl,SqT.of zab,rfl,_,_,rfl,_,_,rfl,rfl,?_⟩;generalize upd H2 r (.tup [.int i,nV (xs.getD i 0)])=H3 at h3 k3 hS3 ⊢;have fin:∀ v:V,v=nV (ze5 xs i)->∃ y2 y3 y4:Option V,[some (V.ref a),some (V.ref p),y2,y3,y4]=[some (V.ref a),some (V.ref p),y2,y3,y4]/\upd H3 p (.lst (((zdX xs).take i).map nV++[v])) p=some (.lst (((zdX xs).take (i+1)).map nV))/\But p H (upd H3 p (.lst (((zdX xs).take i).map nV++[v]))):=by
   rintro v rfl;refine ⟨none,none,none,rfl,?_,λb o n e=>by rw[zag n];exact k3 b o n e⟩;rw[zab,zlI hi,yal];rfl
  refine ⟨_,rfl,rfl,_,rfl,?_⟩;refine ite2 .(n) .(n)
  .have c':i=0:=by
    have:=V.int.inj (yaH c);lia
   refine ⟨_,rfl,.inl ⟨rfl,_,SqL.of h3⟩,_,rfl,_,_,rfl,rfl,(by show (0:Int) < 2;decide),_,_,_,rfl,rfl,h3,hlen,?_⟩;obtain ⟨_,_,_,_,g2,g3⟩:=fin (.int (((xs.getD i 0:Nat):Int) % 2)) (by
    unfold ze5;rw[if_pos c',c'];show V.int _=V.int _;rw[Int.natCast_emod];rfl)
   exact ⟨_,_,_,rfl,g2,g3⟩
  .have c':i≠0:=λz=>c (by subst z;decide);have hne:xs.getD (i-1) 0≠xs.getD i 0:=by
    have:=hu (i-1) .(a);rw[show i-1+1=i by lia]at this;exact this
   refine ⟨_,rfl,_,rfl,_,_,rfl,rfl,_,_,_,_,rfl,rfl,hS3,zsD c' hi,_,rfl,_,_,rfl,hne,?_⟩;refine ⟨_,rfl,.inl ⟨rfl,_,SqL.of h3⟩,_,rfl,_,_,rfl,rfl,.inl ⟨by decide,by decide⟩,_,rfl,_,rfl,_,_,rfl,rfl,ybn _,_,_,rfl,rfl,_,_,rfl,rfl,_,_,_,rfl,rfl,h3,hlen,?_⟩;obtain ⟨_,_,_,_,g2,g3⟩:=fin (.int (2 * ((lu (xs.getD (i - 1) 0) (xs.getD i 0):Nat):Int)+Builtin.bitAnd (((xs.getD i 0:Nat):Int) / 2 ^ ((lu (xs.getD (i - 1) 0) (xs.getD i 0):Nat):Int).toNat) 1)) (by
    unfold ze5;rw[if_neg c',ztY])
   exact ⟨_,_,_,rfl,g2,g3⟩
 .rintro U H2 ⟨x2,x3,x4,rfl,h2,k2⟩;refine ⟨_,rfl,?_⟩;refine q p H2 hp (λb o e=>k2 b o (zac e hp) e) ?_;rw[h2,yas (by rw[zb1,yab];exact yaa _)]
def zdW:Nat->List Nat->List Nat
 | 0,xs=>xs
 | n+1,xs=>zdX (zdW n xs)
theorem zcX (n:Nat)(xs:List Nat):(zdW n xs).length=xs.length:=by
 induction n with
 | zero=>rfl
 | succ n ih=>rw[zdW,zb1,ih]
theorem zdh (h:Unl xs)(n:Nat):Unl (zdW n xs):=by
 induction n with
 | zero=>exact h
 | succ n ih=>exact zmE ih
theorem zeI {k:Nat}(h:zdZ m xs)(hk:m<=k):zdZ k xs:=λi hi=>yaB (h i hi) hk
theorem zrp (h:Unl xs)(hb:zdZ (2^207) xs):zdZ 414 (zdW 1 xs):=zcE (k:=207) .(i) h hb
theorem zro (h:Unl xs)(hb:zdZ (2^207) xs):zdZ 18 (zdW 2 xs):=zcE (k:=9) .(i) (zdh h 1) (zeI (zrp h hb) .(i))
theorem zrn (h:Unl xs)(hb:zdZ (2^207) xs):zdZ 10 (zdW 3 xs):=zcE (k:=5) .(i) (zdh h 2) (zeI (zro h hb) .(i))
theorem zrm (h:Unl xs)(hb:zdZ (2^207) xs):zdZ 8 (zdW 4 xs):=zcE (k:=4) .(i) (zdh h 3) (zeI (zrn h hb) .(i))
theorem zrl (h:Unl xs)(hb:zdZ (2^207) xs):zdZ 6 (zdW 5 xs):=zcE (k:=3) .(i) (zdh h 4) (zeI (zrm h hb) .(i))
def zds (es:List (Int×Int)):List Nat:=es.map zhn
theorem zbb (es:List (Int×Int)):(zds es).length=es.length:=yab _
theorem zfQ {es:List (Int×Int)}{i:Nat}(h:i<es.length):(zds es).getD i 0=zhn es[i]:=by
 unfold zds;rw[yad,yam,yac h];rfl
theorem zky {es:List (Int×Int)}(h:∀ e∈es,ze1 64 e):zdZ (2^207) (zds es):=λi hi=>by
 rw[zbb]at hi;rw[zfQ hi];exact zqm (h _ (yaA hi))
theorem zg8 {es:List (Int×Int)}(h:∀ e∈es,ze1 64 e)(hr:Rise es):Unl (zds es):=λi hi=>by
 rw[zbb]at hi;rw[zfQ .(a),zfQ hi];intro z;have e:=zoN (h _ (yaA .(a))) (h _ (yaA hi)) z;have:=ya0.mp hr i (i+1) .(a) hi .(a);rw[e]at this;have q:=zcs.mp this;lia
theorem zmh {es:List (Int×Int)}{i:Nat}(h:i<es.length):(zds es).take (i+1)=(zds es).take i++[zhn es[i]]:=by
 have h':i<(zds es).length:=by rw[zbb];exact h
 have z:(zds es)[i]'h'=zhn es[i]:=List.getElem_map zhn;rw[yaF h',z]
def zkY (K:Frag):Sp:=λvs H Q _=>∃(a:Addr) (ws:List V) (es:List (Int×Int)),vs=[.ref a]/\SqL K H a ws/\zam K H es ws/\es.length<=1000/\(∀ e∈es,ze1 64 e)/\Rise es/\
 ∀(p:Addr) (H':Hp),H p=none->Same H H'->H' p=some (.lst ((zdW 5 (zds es)).map nV))->Q (.ref p) H'
theorem zmi {K:Frag}{H0:Hp}{D:Addr}{es:List (Int×Int)}{ws:List V}{i:Nat}{x:V}(hD:H0 D=none)(hw:zam K H0 es ws)(hx:ws[i]?=some x)(k:But D H0 H2):∃ h:i<es.length,Rep.has K H2 es[i] x:=by
 obtain ⟨e,h1,h2⟩:=hw.get hx;have hi:=(yaj.mp h1).1;refine ⟨hi,?_⟩;have z:es[i]=e:=(yaj.mp h1).2;rw[z];obtain ⟨a,x1,x2,rfl,q,e1,e2⟩:=(show hasP K H0 e x from h2);exact ⟨a,x1,x2,rfl,k _ _ (zac q hD) q,e1,e2⟩
theorem znF (T:Txt K mg)(qc2:DF K mg "labels" zge zfo)(qfG:FC P w K mg base 1 "code" zia (zqR K))(qe5:FC P w K mg base 2 "turned" zfm (zkT K)):FC P w K mg base 3 "labels" zfo (zkY K):=by
 refine qc2.ok qbx .(c) .(b)
 .obtain ⟨a,ws,es,rfl,_⟩:=h;rfl
 obtain ⟨a,ws,es,rfl,hS,hw,hz,he,hri,q⟩:=h;have hlen:=hw.length;refine ⟨_,(zaj (zgJ (i:=1) (N:=["entry"]) (own:=1) (cap:=[]) qbx.nd rfl rfl rfl (zbM (pv 0)) ⟨rfl,rfl,rfl,rfl,rfl,rfl⟩ (λ_ _ _ _ _=>(zas (i:=0) (show List.Nodup (["entry"]:List Str) by decide +kernel) rfl (Or.inl rfl))) (λ_ _ _ _ _=>zcb) (λ_ _ _ _ _=>(zax qfG hr (zaa (pv 0) zad))))
   (zaj (zbr PassesOwn.never rfl (zbQ rfl T.qax (zaa (zc9 rfl T.qfj) zad)) (zas (i:=2) qbx.nd rfl (Or.inl rfl)) (zae (zaq (i:=1) qbx.nd rfl (Or.inl rfl) (zax qe5 hr (zaa (pv 1) zad)))))
   (zae (zaw (pv 1))))),?_⟩
 refine ⟨_,rfl,a,rfl,⟨_,hS⟩,λD hD=>?_⟩;have k0:But D H (upd H D (.lst [])):=λb o n e=>by rw[zag n];exact e
 refine zbR (xs:=ws) (λi U H2=>∃ x0:Option V,U=[x0]/\H2 D=some (.lst (((zds es).take i).map nV))/\But D H H2) ?_ ?_ ?_ ?_
 .exact ⟨_,rfl,zab,k0⟩
 .rintro i U H2 _ ⟨x0,rfl,_,k2⟩;exact k2.sq hS hD
 .rintro i m x U H2 hx hm ⟨x0,rfl,h2,k2⟩;obtain ⟨hi,hhas⟩:=zmi hD hw hx k2;refine zdn ?_;refine ⟨_,rfl,x,es[i],rfl,hhas,?_⟩;refine ⟨_,h2,zao (by rw[yab,yao,zbb];lia),m-1,by lia,by lia,_,rfl,?_,λb o n e=>by rw[zag n];exact k2 b o n e⟩;rw[zab,zmh hi,yal,<-zgA (he _ (yaA hi))];rfl
 .rintro U H2 ⟨x0,rfl,h2,k2⟩;have e0:H2 D=some (.lst ((zds es).map nV)):=by
   rw[h2,yas (by rw[zbb];lia)]
  have same0:Same H H2:=λb o e=>k2 b o (zac e hD) e;refine ⟨5,rfl,by decide,by decide,?_⟩;refine zbA (n:=5) (λi U H3=>∃(p:Addr) (x2 x3:Option V),U=[some (.ref a),some (.ref p),x2]/\H p=none/\Same H H3/\H3 p=some (.lst ((zdW i (zds es)).map nV))) ?_ ?_ ?_
  .exact ⟨D,_,none,rfl,hD,same0,e0⟩
  .rintro i U H3 hi ⟨p,x2,x3,rfl,hp,s3,h3⟩;refine ⟨_,rfl,p,_,rfl,SqL.of h3,zdh (zg8 he hri) i,by rw[zcX,zbb];exact hz,λp4 H4 hp4 s4 h4=>?_⟩;exact ⟨p4,_,none,rfl,s3.free hp4,s3.trans s4,h4⟩
  .rintro U H3 ⟨p,x2,x3,rfl,hp,s3,h3⟩;refine ⟨_,rfl,?_⟩;exact q p H3 hp s3 h3
theorem zdd {n d i:Nat}:HT.sIx n d (some (i:Int))=min i n:=by
 unfold HT.sIx;simp
 try lia
theorem zlC (xs:List V)(a b:Nat):cutV xs (some (a:Int)) (some (b:Int))=(xs.drop a).take (b-a):=by
 unfold cutV;rw[zdd,zdd];by_cases h:a<=xs.length
 .rw[ybu h];by_cases h2:b<=xs.length
  .rw[ybu h2]
  .rw[ycg .(a),yas (by rw[yaR];exact yaa _),yas (by rw[yaR];lia)]
 .rw[ycg (show xs.length<=a by lia),ybf (yaa _),ybf (show xs.length<=a by lia)];simp
theorem zhq {α:Type}(xs:List α)(k:Nat):(xs.drop k).take 1=xs[k]?.toList:=by
 by_cases h:k<xs.length
 .rw[List.drop_eq_getElem_cons h,yac h];rfl
 .rw[ybf .(a),yaV .(a)];rfl
theorem zoJ {k:Nat}{i j:Int}(hi:i=if (k:Int)-1>0 then (k:Int)-1 else 0)(hj:j=(k:Int)):cutV xs (some i) (some j)=(if k=0 then none else xs[k-1]?).toList:=by
 subst hj;have e:i=((k-1:Nat):Int):=by
  rw[hi];split<;>lia
 subst e;rw[zlC];split
 .rename_i h;subst h;simp
 .rw[show k-(k-1)=1 by lia,zhq]
theorem zmg {k:Nat}{i j:Int}(hi:i=(k:Int)+1)(hj:j=(k:Int)+2):cutV xs (some i) (some j)=xs[k+1]?.toList:=by
 subst hi hj;rw[show (k:Int)+1=((k+1:Nat):Int) by lia,show (k:Int)+2=((k+2:Nat):Int) by lia,zlC,show k+2-(k+1)=1 by lia,zhq]
theorem zoW (xs:List Nat)(k:Nat):(if k=0 then none else (xs.map nV)[k-1]?).toList++(xs.map nV)[k+1]?.toList=(zbe xs k).map nV:=by
 unfold zbe;rw[yal,yam,yam];congr 1
 .split
  .rfl
  .cases xs[k-1]?<;>rfl
 .cases xs[k+1]?<;>rfl
theorem But.new {p b:Addr}(k:But p H H2)(hb:H2 b=none)(o:HO):But p H (upd H2 b o):=λx o' n e=>(zak hb o) x o' (k x o' n e)
def zi0 (K:Frag):Sp:=λvs H Q _=>∃(a:Addr) (xs:List Nat),vs=[.ref a]/\SqL K H a (xs.map nV)/\Unl xs/\zdZ 6 xs/\xs.length<=1000/\
 ∀(p:Addr) (H':Hp),H p=none->Same H H'->H' p=some (.lst ((colL xs).map nV))->Q (.ref p) H'
def zcp (es:List (Int×Int)):List Bool:=zfy (colL (zdW 5 (zds es)))
theorem zbI (es:List (Int×Int)):(zcp es).length=es.length:=by
 unfold zcp;rw[zfx,zg7,zcX,zbb]
theorem zkf {es:List (Int×Int)}(he:∀ e∈es,ze1 64 e)(hri:Rise es):Unl (zdW 5 (zds es)):=zdh (zg8 he hri) 5
theorem zjn {es:List (Int×Int)}(he:∀ e∈es,ze1 64 e)(hri:Rise es):zdZ 6 (zdW 5 (zds es)):=zrl (zg8 he hri) (zky he)
theorem zoX {xs:List Nat}(h:zdZ 6 xs):∀ i x,atZ xs i=some x->x<=5:=λi x e=>by
 obtain ⟨h0,h1⟩:=ziG e;have:=h i.toNat .(a);unfold atZ at e;rw[if_pos h0]at e;rw[yad,e]at this;exact Nat.lt_succ_iff.mp this
theorem zjf {es:List (Int×Int)}(he:∀ e∈es,ze1 64 e)(hri:Rise es):zei (zcp es):=znS (zlD (unlZ (zkf he hri))) (zsz (zoX (zjn he hri)))
def zmV (K:Frag):Sp:=λvs H Q _=>∃(a:Addr) (ws:List V) (es:List (Int×Int)),vs=[.ref a]/\H a=some (.lst ws)/\zam K H es ws/\es.length<=1000/\(∀ e∈es,ze1 64 e)/\Rise es/\
 ∀(p:Addr) (H':Hp),H p=none->Same H H'->H' p=some (.lst ((zcp es).map V.bl))->Q (.ref p) H'
def zhU (K:Frag):Sp:=λvs H Q _=>∃(a:Addr) (ws:List V) (es:List (Int×Int)),vs=[.ref a]/\H a=some (.lst ws)/\zam K H es ws/\es.length<=1000/\(∀ e∈es,ze1 64 e)/\Rise es/\
 ∀(p:Addr) (H':Hp),H p=none->Same H H'->H' p=some (.lst (zdf ws (zcp es)))->Q (.ref p) H'
theorem zhp (o:Option Bool):o.toList.any id=o.getD false:=by
 cases o with
 | none=>rfl
 | some b=>cases b<;>rfl
theorem zp7 (ms:List Bool):inV (.bl true) (ms.map V.bl)=ms.any id:=by
 unfold inV
 induction ms with
 | nil=>rfl
 | cons m ms ih=>
  rw[yap,ybc,ih,ybc];cases m<;>rfl
theorem zss (ms:List Bool):(ms.map V.bl).all zfP=true:=by
 rw[yaW];intro x hx;obtain ⟨n,_,rfl⟩:=yaE.mp hx;rfl
theorem zjt {α:Type}{as:List α}{bs:List Bool}{a:α}{b:Bool}(h:as.length=bs.length):zdf (as++[a]) (bs++[b])=zdf as bs++(if b=true then [a] else []):=by
 unfold zdf;rw[List.zip_append h,yaQ,yal];congr 1;cases b<;>rfl
theorem zkn {α:Type}(as:List α)(bs:List Bool):(zdf as bs).length<=as.length:=by
 unfold zdf;rw[yab];refine yax (ya3 _ _) ?_;rw[ycd];lia
theorem zgu {α:Type}[Rep α]{K:Frag}:∀{es:List α} {ws:List V} {ms:List Bool},zam K H es ws->zam K H (zdf es ms) (zdf ws ms)
 | _,_,_,.nil=>by
  unfold zdf;exact .nil
 | e::es,w::ws,[],.cons h t=>by
  unfold zdf;exact .nil
 | e::es,w::ws,m::ms,.cons h t=>by
  have:=zgu (ms:=ms) t;unfold zdf at this ⊢;cases m with
  | false=>exact this
  | true=>exact .cons h this
theorem zeP (bs:List Nat)(c:Nat):((List.range (c+1)).filter λc=>!decide (c∈bs))=((List.range c).filter λc=>!decide (c∈bs))++(if c∈bs then [] else [c]):=by
 rw[ybg,yaQ];congr 1;by_cases h:c∈bs
 .rw[if_pos h];simp[List.filter,h]
 .rw[if_neg h];simp[List.filter,h]
theorem zeK {H:Hp}{p t:Addr}{xs ys:List V}(h1:H p=some (.lst xs))(h2:H t=some (.tup ys)):p≠t:=λz=>by
 rw[z,h2]at h1;cases h1
theorem zkm {n k:Nat}(h:k<n):ixN n (k:Int)=some k:=by
 unfold ixN;simp;lia
def besV (xs:List V)(k:Nat):List V:=(if k=0 then none else xs[k-1]?).toList++xs[k+1]?.toList
theorem zkz (xs:List V)(k:Nat):(besV xs k).length<=2:=by
 have e:∀ o:Option V,o.toList.length<=1:=λo=>by cases o<;>simp
 unfold besV;rw[yah];have:=e (if k=0 then none else xs[k-1]?)
 have:=e xs[k+1]?;lia
def spNb (K:Frag):Sp:=λvs H Q _=>∃(a:Addr) (xs:List V) (k:Nat),vs=[.ref a,.int k]/\H a=some (.lst xs)/\
 ∀(g:Addr) (H':Hp),H g=none->Same H H'->H' g=some (.lst (besV xs k))->Q (.ref g) H'
theorem zij (T:Txt K mg)(qa9:DF K mg "neighbours" zcZ zcd):FC P w K mg base 1 "neighbours" zcd (spNb K):=by
 refine qa9.ok qcS .(c) .(b)
 .obtain ⟨a,xs,k,rfl,_⟩:=h;rfl
 obtain ⟨a,xs,k,rfl,ha,q⟩:=h;refine ⟨_,(zae (zaw (zaG ztr (zbH (zhX (K:=K)) (pv 0) (zbL (zan (zjH rfl) rfl T.qfA boot_max (zaa (zaG zdb (pv 1) zai) (zaa zai zad)))) (zbL (pv 1))) (zbH (zhX (K:=K)) (pv 0) (zbL (zaG zbn (pv 1) zai)) (zbL (zaG zbn (pv 1) zai)))))),?_⟩;refine ⟨_,rfl,_,rfl,_,_,rfl,rfl,_,_,rfl,_,rfl,_,rfl,_,rfl,_,_,rfl,SqL.of ha,λb hb=>?_⟩;have kb:=zak hb (.lst (cutV xs (some (if 0>(k:Int)-1 then 0 else (k:Int)-1)) (some (k:Int))))
 have hbb:upd H b (.lst (cutV xs (some (if 0>(k:Int)-1 then 0 else (k:Int)-1)) (some (k:Int)))) b=some (.lst (if k=0 then none else xs[k-1]?).toList):=by
  rw[zab,zoJ (k:=k) (by split<;>split<;>lia) rfl]
 generalize upd H b (.lst (cutV xs (some (if 0>(k:Int)-1 then 0 else (k:Int)-1)) (some (k:Int))))=H3 at kb hbb ⊢
 refine ⟨_,rfl,_,rfl,_,_,rfl,rfl,_,rfl,_,rfl,_,_,rfl,rfl,_,rfl,_,_,rfl,SqL.of (kb _ _ ha),λc hc=>?_⟩;have kc:=zak hc (.lst (cutV xs (some ((k:Int)+1)) (some ((k:Int)+2))));have hcb:=kc _ _ hbb;have hcc:upd H3 c (.lst (cutV xs (some ((k:Int)+1)) (some ((k:Int)+2)))) c=some (.lst xs[k+1]?.toList):=by
  rw[zab,zmg (k:=k) rfl rfl]
 generalize upd H3 c (.lst (cutV xs (some ((k:Int)+1)) (some ((k:Int)+2))))=H4 at kc hcb hcc ⊢;refine ⟨b,c,_,_,rfl,rfl,hcb,hcc,?_,λg hg=>?_⟩
 .rw[<-yah];exact yax (zkz xs k) .(i)
 exact q g _ (kb.free (kc.free hg)) (kb.trans (kc.trans (zak hg _))) zab
def zqO (K:Frag):Sp:=λvs H Q _=>∃(a:Addr) (xs:List Nat) (k:Nat),vs=[.ref a]/\H a=some (.lst ((zbe xs k).map nV))/\
 ∀ H':Hp,Same H H'->Q (.int (zeO xs k:Nat)) H'
theorem zik (T:Txt K mg)(qba:DF K mg "least_free" zc0 zcw):FC P w K mg base 1 "least_free" zcw (zqO K):=by
 refine qba.ok qcT .(c) .(b)
 .obtain ⟨a,xs,k,rfl,_⟩:=h;rfl
 obtain ⟨a,xs,k,rfl,ha,q⟩:=h;refine ⟨_,(zae (zaw (zan (zoS rfl) rfl T.qfi boot_min (zaa (zbN (N:=["colour","taken"]) (own:=1) (cap:=[0]) rfl (zhv (zaX (zaa zai (zaa zai (zaa zai zad))))) ⟨rfl,rfl,rfl,rfl,rfl,rfl⟩ (λ_ _ _ _ _=>(zas (i:=0) (show List.Nodup (["colour","taken"]:List Str) by decide +kernel) rfl (Or.inl rfl))) (λ_ _ _ _ _=>(zeU (zau (zcB (K:=K)) (pv 0) (pv 1) (by with_unfolding_all rfl)))) (λ_ _ _ _ _=>(pv 0))) zad)))),?_⟩
 refine ⟨(by show 3<=sizeLine;decide),λt ht=>?_⟩;have st:=zak ht (.tup [V.int 0,V.int 1,V.int 2]);have ht1:upd H t (.tup [V.int 0,V.int 1,V.int 2]) t=some (.tup [V.int 0,V.int 1,V.int 2]):=zab;generalize upd H t (.tup [V.int 0,V.int 1,V.int 2])=H1 at st ht1 ⊢;have h1a:=st _ _ ha;refine ⟨t,rfl,⟨_,SqT.of ht1⟩,λD hD=>?_⟩;refine zfD (xs:=[V.int 0,V.int 1,V.int 2]) (λc U H6=>∃ x0:Option V,U=[x0,some (.ref a)]/\H6 D=some (.lst (((List.range c).filter λc=>!decide (c∈zbe xs k)).map nV))/\But D H1 H6) ?_ ?_ ?_ ?_
 .exact ⟨_,rfl,zab,λb o n e=>by rw[zag n];exact e⟩
 .rintro i U H6 _ ⟨x0,rfl,_,k6⟩;exact SqT.of (k6 _ _ (zac ht1 hD) ht1)
 .rintro c m x U H6 hx hm ⟨x0,rfl,h6,k6⟩;obtain ⟨hi,rfl⟩:c<3/\x=V.int (c:Int):=by
   rcases c with _|_|_|c
   .exact ⟨by decide,(yae hx).symm⟩
   .exact ⟨by decide,(yae hx).symm⟩
   .exact ⟨by decide,(yae hx).symm⟩
   .cases hx
  have h6g:=k6 _ _ (zac h1a hD) h1a;have hlen:=ya3 (λc=>!decide (c∈zbe xs k)) (List.range c);rw[yaL]at hlen;refine ⟨_,rfl,_,rfl,_,_,rfl,.inl (SqL.of h6g),rfl,zox _,_,rfl,?_⟩;show if (!inV (.int (c:Int)) ((zbe xs k).map nV))=true then _ else _
  rw[zq8];have hm3:c+m=3:=hm;refine ite2 (λe=>?_) (λe=>?_)
  .have e':c∉zbe xs k:=λz=>by
    rw[yai z]at e;cases e
   refine ⟨_,rfl,_,h6,zao (by rw[yab];lia),m-1,by lia,(by show c+1+(m-1)=3;lia),_,rfl,?_,λb o n e=>by rw[zag n];exact k6 b o n e⟩;rw[zab,zeP,if_neg e',yal];rfl
  .have e':c∈zbe xs k:=Decidable.byContradiction λz=>e (by rw[yan z];rfl);refine ⟨m-1,by lia,(by show c+1+(m-1)=3;lia),_,rfl,?_,k6⟩;rw[h6,zeP,if_pos e',yaC]
 .rintro U H6 ⟨x0,rfl,h6,k6⟩;have h6:H6 D=some (.lst (((List.range 3).filter λc=>!decide (c∈zbe xs k)).map nV)):=h6;have s6:Same H1 H6:=λb o e=>k6 b o (zac e hD) e;have mem:∀ c,c∈((List.range 3).filter λc=>!decide (c∈zbe xs k))↔c<3/\c∉zbe xs k:=λc=>by
   rw[yaY,yaT];constructor
   .rintro ⟨h1,h2⟩;refine ⟨h1,λz=>?_⟩;rw[yai z]at h2;cases h2
   .rintro ⟨h1,h2⟩;exact ⟨h1,by rw[yan h2];rfl⟩
  have hf:zeO xs k∈((List.range 3).filter λc=>!decide (c∈zbe xs k)):=(mem _).mpr ⟨Nat.lt_succ_of_le (zov xs k),zme⟩;refine ⟨D,((List.range 3).filter λc=>!decide (c∈zbe xs k)).map λn:Nat=>(n:Int),rfl,?_,?_,λM hM hL=>?_⟩
  .rw[ybd];exact SqL.of h6
  .rw[yab];exact List.length_pos_of_mem hf
  have eM:M=(zeO xs k:Int):=by
   have h1:=hL _ (yaE.mpr ⟨_,hf,rfl⟩);obtain ⟨c,hc,rfl⟩:=yaE.mp hM;have h2:¬ c<zeO xs k:=λz=>((mem c).mp hc).2 (zjx z);lia
  rw[eM];exact q _ (st.trans s6)
theorem zsA (xs:List Nat)(k:Nat):besV (xs.map nV) k=(zbe xs k).map nV:=zoW xs k
theorem zlY (T:Txt K mg)(qcp:DF K mg "colours" zfh zeA)(qbb:FC P w K mg base 1 "neighbours" zcd (spNb K))(qdl:FC P w K mg base 1 "least_free" zcw (zqO K)):FC P w K mg base 3 "colours" zeA (zi0 K):=by
 refine qcp.ok qbk .(c) .(b)
 .obtain ⟨a,xs,rfl,_⟩:=h;rfl
 obtain ⟨a,xs,rfl,hS,hu,hb,hz,q⟩:=h;refine ⟨_,(zaj (zaq (i:=1) qbk.nd rfl (Or.inl rfl) (zaY (zbq (K:=K)) rfl T.qaZ boot_list (zaa (pv 0) zad)))
   (zaj (zbr PassesOwn.never rfl (zhv (zaX (zaa zai (zaa zai (zaa zai zad))))) (zas (i:=2) qbk.nd rfl (Or.inl rfl)) (zae (zbr PassesOwn.never rfl (zbQ rfl T.qax (zaa (zan (zal (K:=K)) rfl T.qaq boot_len (zaa (pv 0) zad)) zad)) (zas (i:=3) qbk.nd rfl (Or.inl rfl)) (zae (za3 (zau zfv (zaB (zat (K:=K)) (pv 1) (pv 3) (λ_ _=>rfl)) (pv 2) (zaH _)) (zae (zi5 (zax qdl hr (zaa (zax qbb hr (zaa (pv 1) (zaa (pv 3) zad))) zad)) (znj (pv 1) (pv 3) zhY))) zaD)))))
   (zae (zaw (pv 1))))),?_⟩
 refine ⟨_,rfl,a,_,rfl,.inl hS,λp hp=>?_⟩;have k0:But p H (upd H p (.lst (xs.map nV))):=λb o n e=>by rw[zag n];exact e
 refine ⟨(by show 3<=sizeLine;decide),λt ht=>?_⟩;have npt:p≠t:=zac zab ht;refine ⟨t,rfl,⟨_,SqT.of zab⟩,?_⟩;refine zow (xs:=[V.int 3,V.int 4,V.int 5]) (λi U H2=>∃ x2 x3:Option V,U=[some (.ref a),some (.ref p),x2,x3]/\H2 p=some (.lst ((colN xs i).map nV))/\H2 t=some (.tup [V.int 3,V.int 4,V.int 5])/\But p H H2) ?_ ?_ ?_ ?_
 .exact ⟨_,_,rfl,by rw[zag npt];exact zab,zab,k0.new ht _⟩
 .rintro i U H2 _ ⟨x2,x3,rfl,_,h2t,_⟩;exact SqT.of h2t
 .rintro i x U H2 hx ⟨x2,x3,rfl,h2,h2t,k2⟩;obtain ⟨hi,rfl⟩:i<3/\x=V.int ((3+i:Nat):Int):=by
   rcases i with _|_|_|i
   .exact ⟨by decide,(yae hx).symm⟩
   .exact ⟨by decide,(yae hx).symm⟩
   .exact ⟨by decide,(yae hx).symm⟩
   .cases hx
  have hyl:=zkx xs i;have hyu:=zql hu i;have hnx:colN xs (i+1)=recL (3+i) (colN xs i):=rfl;rw[hnx];generalize colN xs i=ys at h2 hyl hyu ⊢;generalize 3+i=v;have hSa:SqL K H2 a (xs.map nV):=k2.sq hS hp;refine ⟨_,rfl,_,_,rfl,.inl hSa,_,rfl,by rw[yab];lia,by rw[yab];lia,?_⟩;have el:((((xs.map nV).length:Nat):Int)).toNat=ys.length:=by rw[yab,ya5,hyl]
  rw[el];refine zbA (n:=ys.length) (λk U H3=>∃ x3:Option V,U=[some (.ref a),some (.ref p),some (.int v),x3]/\H3 p=some (.lst ((mixL v ys k).map nV))/\H3 t=some (.tup [V.int 3,V.int 4,V.int 5])/\But p H H3) ?_ ?_ ?_
  .exact ⟨_,rfl,h2,h2t,k2⟩
  .rintro k U H3 hk ⟨x3,rfl,h3,h3t,k3⟩;rw[ybv];have ml:=zgW v ys k;have eg:(mixL v ys k).getD k 0=ys.getD k 0:=by
    rw[yad,znR (yaa k),<-yad]
   have hat:atI ((mixL v ys k).map nV) (k:Int)=some (nV (ys.getD k 0)):=by
    rw[<-eg];exact zhK .(a)
   refine ⟨_,rfl,_,rfl,_,_,_,_,rfl,rfl,SqL.of h3,hat,_,rfl,rfl,_,rfl,?_⟩;refine ite2 .(n) .(n)
   .have c':ys.getD k 0=v:=by
     have:=V.int.inj (yaH c);lia
    refine ⟨_,rfl,_,rfl,p,_,k,rfl,h3,λg H4 hg s4 h4=>?_⟩;rw[zsA,zka hyu hk c']at h4;refine ⟨g,ys,k,rfl,h4,λH5 s5=>?_⟩;have s35:=s4.trans s5;have same:∀ b o,b≠p->H3 b=some o->upd H5 p (.lst (((mixL v ys k).map nV).set k (nV (zeO ys k)))) b=some o:=λb o n e=>by
     rw[zag n];exact s35 _ _ e
    refine ⟨_,rfl,_,rfl,_,_,_,k,rfl,rfl,s35 _ _ h3,zkm (by rw[yab,ml];exact hk),?_⟩;refine ⟨_,rfl,?_,same _ _ (Ne.symm (zeK h3 h3t)) h3t,λb o n e=>same _ _ n (k3 b o n e)⟩;rw[zab,zpY hk c',List.map_set]
   .have c':ys.getD k 0≠v:=λz=>c (by rw[z];exact yai rfl);exact ⟨_,rfl,by rw[znP hk c'];exact h3,h3t,k3⟩
  .rintro U H3 ⟨x3,rfl,h3,h3t,k3⟩;rw[zpZ (yaa _)]at h3;exact ⟨_,_,rfl,h3,h3t,k3⟩
 .rintro U H2 ⟨x2,x3,rfl,h2,_,k2⟩;refine ⟨_,rfl,?_⟩;exact q p H2 hp (λb o e=>k2 b o (zac e hp) e) h2
def zef (ms:List Bool)(k:Nat):Bool:=!ms.getD (k-1) false && !ms.getD (k+1) false
def besB (ms:List Bool)(k:Nat):List Bool:=(if k=0 then none else ms[k-1]?).toList++ms[k+1]?.toList
theorem zsB (ms:List Bool)(k:Nat):besV (ms.map V.bl) k=(besB ms k).map V.bl:=by
 unfold besV besB;rw[yal,yam,yam];congr 1
 .split
  .rfl
  .cases ms[k-1]?<;>rfl
 .cases ms[k+1]?<;>rfl
theorem zqs {k:Nat}(h:1<=k):(besB ms k).any id=!zef ms k:=by
 unfold besB zef;rw[if_neg .(a),List.any_append,zhp,zhp,yad,yad];generalize ms[k-1]?.getD false=x;generalize ms[k+1]?.getD false=z;cases x<;>cases z<;>rfl
theorem zj9 {sh:Nat}{ms:List Bool}(hu:Unl cs)(hl:cs.length=ms.length){k:Nat}(h:k<cs.length)(h1:1<=k)(hs:cs.getD k 0=sh):zef (mixM sh cs ms k) k=zef ms k:=by
 unfold zef;have e:∀ j,k<=j->(mixM sh cs ms k).getD j false=ms.getD j false:=λj hj=>by
  rw[yad,yad,zdc hl,if_neg .(a)]
 rw[e (k+1) .(a)];have e2:(mixM sh cs ms k).getD (k-1) false=ms.getD (k-1) false:=by
  rw[yad,zdc hl,if_pos .(a),zeE hl .(a)];have:=hu (k-1) .(a);rw[show k-1+1=k by lia,hs]at this;rw[yan this];simp
 rw[e2]
theorem zhy {sh:Nat}{cs:List Nat}{ms:List Bool}(hl:cs.length=ms.length){k:Nat}(h:k<cs.length)(hn:¬ (cs.getD k 0=sh/\zef ms k=true)):mixM sh cs ms (k+1)=mixM sh cs ms k:=by
 apply ybe;intro j;rw[zdc hl,zdc hl];by_cases c:j<k
 .rw[if_pos c,if_pos .(a)]
 .rw[if_neg c];split
  .have:j=k:=by lia
   subst this;rw[zeE hl h];unfold zef at hn;rw[yac .(a)];have e:ms.getD j false=ms[j]' .(a):=by
    rw[yad,yac .(a)];rfl
   rw[e];congr 1;generalize ms[j]=a;generalize ms.getD (j-1) false=b at hn ⊢;generalize ms.getD (j+1) false=d at hn ⊢;by_cases z:cs.getD j 0=sh
   .have hn':¬ ((!b && !d)=true):=λy=>hn ⟨z,y⟩;cases b with
    | true=>simp
    | false=>
     cases d with
     | true=>simp
     | false=>exact absurd rfl hn'
   .rw[yan z];simp
  .rfl
theorem znO {sh:Nat}{cs:List Nat}{ms:List Bool}(hl:cs.length=ms.length){k:Nat}(h:k<cs.length)(hp:1<=k/\cs.getD k 0=sh/\zef ms k=true):mixM sh cs ms (k+1)=(mixM sh cs ms k).set k true:=by
 apply ybe;intro j;rw[ybt,zgV hl,zdc hl,zdc hl];by_cases c:k=j
 .subst c;rw[if_pos rfl,if_pos h,if_pos .(a),zeE hl h];obtain ⟨p1,p2,p3⟩:=hp;unfold zef at p3;simp only[ybb,ybT]at p3;rw[p2,p3.1,p3.2,yai p1];simp
 .rw[if_neg c];by_cases c2:j<k
  .rw[if_pos c2,if_pos .(a)]
  .rw[if_neg c2,if_neg .(a)]
theorem zpI (T:Txt K mg)(qdE:DF K mg "marks" zhZ zgp)(qe6:FC P w K mg base 3 "labels" zfo (zkY K))(qeB:FC P w K mg base 3 "colours" zeA (zi0 K))(qbb:FC P w K mg base 1 "neighbours" zcd (spNb K)):FC P w K mg base 5 "marks" zgp (zmV K):=by
 refine qdE.ok qby .(c) .(b)
 .obtain ⟨a,ws,es,rfl,_⟩:=h;rfl
 obtain ⟨a,ws,es,rfl,ha,hw,hz,he,hri,q⟩:=h;refine ⟨_,(zaj (zaq (i:=1) qby.nd rfl (Or.inl rfl) (zax qeB hr (zaa (zax qe6 hr (zaa (pv 0) zad)) zad)))
   (zaj (zgJ (i:=2) (N:=["tint"]) (own:=1) (cap:=[]) qby.nd rfl rfl rfl (zbM (pv 1)) ⟨rfl,rfl,rfl,rfl,rfl,rfl⟩ (λ_ _ _ _ _=>(zas (i:=0) (show List.Nodup (["tint"]:List Str) by decide +kernel) rfl (Or.inl rfl))) (λ_ _ _ _ _=>zcb) (λ_ _ _ _ _=>zeJ))
   (zaj (zbr PassesOwn.never rfl (zhv (zaX (zaa zai (zaa zai (zaa zai zad))))) (zas (i:=3) qby.nd rfl (Or.inl rfl)) (zae (zbr PassesOwn.never rfl (zdj rfl T.qax (zaa zai (zaa (zan (zal (K:=K)) rfl T.qaq boot_len (zaa (pv 1) zad)) zad))) (zas (i:=4) qby.nd rfl (Or.inl rfl)) (zae (za3 (PW.pt (zgI (zau zfv (zaB (zat (K:=K)) (pv 1) (pv 4) (λ_ _=>rfl)) (pv 3) (zaH _)) (zeT (zau (zcB (K:=K)) zeJ (zax qbb hr (zaa (pv 2) (zaa (pv 4) zad))) (by with_unfolding_all rfl))))) (zae (zi5 zeJ (znj (pv 2) (pv 4) zhY))) zaD)))))
   (zae (zaw (pv 2)))))),?_⟩
 refine ⟨_,rfl,a,ws,es,rfl,SqL.of ha,hw,hz,he,hri,λp H3 hp s3 h3=>?_⟩;refine ⟨p,_,rfl,SqL.of h3,zkf he hri,zjn he hri,by rw[zcX,zbb];exact hz,λc H4 hc s4 h4=>?_⟩;have cu:Unl (colL (zdW 5 (zds es))):=zqC (zlD (unlZ (zkf he hri)));have cl:(colL (zdW 5 (zds es))).length=es.length:=by rw[zg7,zcX,zbb]
 have fin:zcp es=mkN (colL (zdW 5 (zds es))) 3:=(znM _).symm;generalize colL (zdW 5 (zds es))=cs at h4 cu cl fin;have s04:=s3.trans s4;refine ⟨_,rfl,c,rfl,⟨_,SqL.of h4⟩,λF hF=>?_⟩;refine zbR (xs:=cs.map nV) (λi U H5=>∃ x0:Option V,U=[x0]/\H5 F=some (.lst ((List.replicate i false).map V.bl))/\But F H4 H5) ?_ ?_ ?_ ?_
 .exact ⟨_,rfl,zab,λb o n e=>by rw[zag n];exact e⟩
 .rintro i U H5 _ ⟨x0,rfl,_,k5⟩;exact k5.sq (SqL.of h4) hF
 .rintro i m x U H5 hx hm ⟨x0,rfl,h5,k5⟩;have hi:=(yaj.mp hx).1;rw[yab]at hi hm;refine zdn ?_;refine ⟨_,h5,zao (by rw[yab,yby];lia),m-1,by lia,by rw[yab];lia,_,rfl,?_,λb o n e=>by rw[zag n];exact k5 b o n e⟩;rw[zab,List.replicate_succ',yal];rfl
 rintro U H5 ⟨x0,rfl,h5,k5⟩;have s45:Same H4 H5:=λb o e=>k5 b o (zac e hF) e;have h5c:=s45 _ _ h4;have nFc:c≠F:=zac h4 hF;have hF0:H F=none:=s04.free hF;have k05:But F H H5:=λb o _ e=>s45 _ _ (s04 _ _ e);have e5:H5 F=some (.lst ((mkN cs 0).map V.bl)):=by
  rw[h5,mkN,yab,show List.replicate cs.length false=cs.map (λ_=>false) from by rw[List.map_const']]
 refine ⟨(by show 3<=sizeLine;decide),λt ht=>?_⟩;have st:=zak ht (.tup [V.int 2,V.int 1,V.int 0]);refine ⟨t,rfl,⟨_,SqT.of zab⟩,?_⟩;refine zow (xs:=[V.int 2,V.int 1,V.int 0]) (λi U H6=>∃(x3 x4:Option V),U=[some (.ref a),some (.ref c),some (.ref F),x3,x4]/\H6 F=some (.lst ((mkN cs i).map V.bl))/\H6 c=some (.lst (cs.map nV))/\H6 t=some (.tup [V.int 2,V.int 1,V.int 0])/\But F H H6) ?_ ?_ ?_ ?_
 .exact ⟨_,_,rfl,st _ _ e5,st _ _ h5c,zab,k05.new ht _⟩
 .rintro i U H6 _ ⟨x3,x4,rfl,_,_,h6t,_⟩;exact SqT.of h6t
 .rintro i x U H6 hx ⟨x3,x4,rfl,h6,h6c,h6t,k6⟩;obtain ⟨hi,rfl⟩:i<3/\x=V.int ((2-i:Nat):Int):=by
   rcases i with _|_|_|i
   .exact ⟨by decide,(yae hx).symm⟩
   .exact ⟨by decide,(yae hx).symm⟩
   .exact ⟨by decide,(yae hx).symm⟩
   .cases hx
  have hml:=zl1 cs i;have hnx:mkN cs (i+1)=zcM (2-i) cs (mkN cs i):=rfl;rw[hnx];generalize mkN cs i=ms at h6 hml ⊢;generalize 2-i=sh;refine ⟨_,rfl,_,_,rfl,.inl (SqL.of h6c),1,_,rfl,⟨by lia,by lia,by rw[yab];lia,by rw[yab];lia⟩,?_⟩;have en:((((cs.map nV).length:Nat):Int)-1).toNat=cs.length-1:=by rw[yab];lia
  rw[en];have km:∀ k,(mixM sh cs ms k).length=cs.length:=zgV hml;refine zbA (n:=cs.length-1) (λj U H7=>∃(x4:Option V),U=[some (.ref a),some (.ref c),some (.ref F),some (.int sh),x4]/\H7 F=some (.lst ((mixM sh cs ms (1+j)).map V.bl))/\H7 c=some (.lst (cs.map nV))/\H7 t=some (.tup [V.int 2,V.int 1,V.int 0])/\But F H H7) ?_ ?_ ?_
  .exact ⟨_,rfl,by rw[zpW hml];exact h6,h6c,h6t,k6⟩
  .rintro j U H7 hj ⟨x4,rfl,h7,h7c,h7t,k7⟩;have ek:(1:Int)+(j:Int)=((1+j:Nat):Int):=by lia
   have hk1:1<=1+j:=by lia
   have hkl:1+j<cs.length:=by lia
   rw[ek];have es1:1+(j+1)=1+j+1:=by lia
   rw[es1];generalize 1+j=k at h7 hk1 hkl ⊢;have hat:=zhK (xs:=cs) hkl;have mc:cs.getD k 0=sh->zef (mixM sh cs ms k) k=zef ms k:=λz=>zj9 cu hml hkl hk1 z;refine ⟨_,rfl,_,rfl,_,_,_,_,rfl,rfl,SqL.of h7c,hat,_,rfl,rfl,_,rfl,?_⟩;refine ite2 (λe=>?_) (λe=>?_)
   .have e':cs.getD k 0=sh:=by
     have:=V.int.inj (yaH e);lia
    refine ⟨_,rfl,_,rfl,F,_,k,rfl,h7,λb H8 hb sb hbb=>?_⟩;rw[zsB]at hbb;have kb:But F H H8:=λx o n e=>sb _ _ (k7 x o n e);refine ⟨_,_,rfl,.inl (SqL.of hbb),rfl,zss _,_,rfl,?_⟩;show if (!inV (.bl true) ((besB (mixM sh cs ms k) k).map V.bl))=true then _ else _
    rw[zp7,zqs hk1,mc e',Bool.not_not];refine ite2 (λy=>?_) (λy=>?_)
    .refine ⟨_,rfl,_,rfl,_,_,_,k,rfl,rfl,sb _ _ h7,zkm (by rw[yab,km];exact hkl),?_⟩;have same:∀ b o,b≠F->H8 b=some o->upd H8 F (.lst (((mixM sh cs ms k).map V.bl).set k (.bl true))) b=some o:=λb o n e=>by
      rw[zag n];exact e
     refine ⟨_,rfl,?_,same _ _ (λz=>?_) (sb _ _ h7c),same _ _ (Ne.symm (zeK (sb _ _ h7) (sb _ _ h7t))) (sb _ _ h7t),λb o n e=>same _ _ n (kb b o n e)⟩
     .rw[zab,znO hml hkl ⟨hk1,e',y⟩,List.map_set]
     .exact nFc z
    .exact ⟨_,rfl,by rw[zhy hml hkl (λz=>y z.2)];exact sb _ _ h7,sb _ _ h7c,sb _ _ h7t,kb⟩
   .have e':cs.getD k 0≠sh:=λz=>e (by rw[z];exact yai rfl);refine iteF ?_;exact ⟨_,rfl,by rw[zhy hml hkl (λz=>e' z.1)];exact h7,h7c,h7t,k7⟩
  .rintro U H7 ⟨x4,rfl,h7,h7c,h7t,k7⟩;rw[zpX hml .(a)]at h7;exact ⟨_,_,rfl,h7,h7c,h7t,k7⟩
 .rintro U H6 ⟨x3,x4,rfl,h6,_,_,k6⟩;refine ⟨_,rfl,?_⟩;refine q F H6 hF0 (λb o e=>k6 b o (zac e hF0) e) ?_;rw[fin];exact h6
theorem zqd {α:Type}:zdf ([]:List α) []=[]:=rfl
theorem ztT {ms:List Bool}{i:Nat}{x:V}(h:(ms.map V.bl)[i]?=some x):∃ hi:i<ms.length,x=.bl ms[i]:=by
 rw[yam]at h;cases e:ms[i]? with
 | none=>rw[e]at h;cases h
 | some y=>
  rw[e]at h;obtain ⟨hi,rfl⟩:=yaj.mp e;exact ⟨hi,(yae h).symm⟩
theorem ze7 {α:Type}{l:List α}{i:Nat}(h:i<l.length):l.take (i+1)=l.take i++[l[i]]:=yaF h
theorem znH (T:Txt K mg)(qc3:DF K mg "handed" zgl zd4)(qfm:FC P w K mg base 5 "marks" zgp (zmV K)):FC P w K mg base 6 "handed" zd4 (zhU K):=by
 refine qc3.ok qen .(c) .(b)
 .obtain ⟨a,ws,es,rfl,_⟩:=h;rfl
 obtain ⟨a,ws,es,rfl,ha,hw,hz,he,hri,q⟩:=h;have hwl:=hw.length;have hml:=zbI es;refine ⟨_,(zae (zaw (zbN (N:=["entry","mark"]) (own:=2) (cap:=[]) rfl (zqV rfl T.qfB (zaa (pv 0) (zaa (zax qfm hr (zaa (pv 0) zad)) zad))) ⟨rfl,rfl,rfl,rfl,rfl,rfl⟩ (λ_ _ _ _ _=>(zj2 (K:=K) (n:=2) rfl (zaZ (zas (i:=0) (show List.Nodup (["entry","mark"]:List Str) by decide +kernel) rfl (Or.inl rfl)) (zaZ (zas (i:=1) (show List.Nodup (["entry","mark"]:List Str) by decide +kernel) rfl (Or.inl rfl)) zdK)))) (λ_ _ _ _ _=>(zeU (zcn (pv 1)))) (λ_ _ _ _ _=>(pv 0))))),?_⟩;refine ⟨_,rfl,_,rfl,a,ws,es,rfl,ha,hw,hz,he,hri,λu H6 hu g6 h6u=>?_⟩;have h6p:=g6 _ _ ha;generalize zcp es=ms at hml h6u q;refine ⟨a,u,rfl,⟨_,SqL.of h6p⟩,⟨_,SqL.of h6u⟩,λD hD=>?_⟩;refine zqj (xs:=ws) (ys:=ms.map V.bl) (by rw[yab,hml];exact hwl.symm) (λj U H7=>∃ x0 x1:Option V,U=[x0,x1]/\H7 D=some (.lst (zdf (ws.take j) (ms.take j)))/\But D H6 H7) ?_ ?_ ?_ ?_
 .exact ⟨_,_,rfl,by rw[yca,yca,zqd];exact zab,λb o n e=>by rw[zag n];exact e⟩
 .rintro j U H7 _ ⟨x0,x1,rfl,_,k7⟩;exact ⟨k7.sq (SqL.of h6p) hD,k7.sq (SqL.of h6u) hD⟩
 .rintro j m' x y U H7 r' hx hy hm' ⟨x0,x1,rfl,h7,k7⟩ hr';obtain ⟨hj,rfl⟩:=ztT hy;obtain ⟨hjw,rfl⟩:=yaj.mp hx;have hsn:=zjt (a:=ws[j]) (b:=ms[j]) (show (ws.take j).length=(ms.take j).length by rw[yao,yao];lia);rw[<-ze7 hjw,<-ze7 hj]at hsn;refine ⟨r',_,rfl,SqT.of zab,rfl,_,_,rfl,_,_,rfl,rfl,?_⟩;have s7:=zak hr' (.tup [ws[j],.bl ms[j]]);have h8:=s7 _ _ h7;have k8:=k7.new hr' (.tup [ws[j],.bl ms[j]]);generalize upd H7 r' (.tup [ws[j],.bl ms[j]])=H8 at h8 k8 ⊢;refine ⟨_,rfl,_,rfl,?_⟩;have hl8:=zkn (ws.take j) (ms.take j);rw[yao]at hl8;refine ite2 (λe=>?_) (λe=>?_)
  .refine ⟨_,rfl,_,h8,zao .(a),m'-1,by lia,by lia,_,_,rfl,?_,λb o n e=>by rw[zag n];exact k8 b o n e⟩;rw[zab,hsn,if_pos e]
  .refine ⟨m'-1,by lia,by lia,_,_,rfl,?_,k8⟩;rw[h8,hsn,if_neg e,yaC]
 .rintro U H7 ⟨x0,x1,rfl,h7,k7⟩;rw[yas (yaa _),yas .(a)]at h7;have s7:Same H6 H7:=λb o e=>k7 b o (zac e hD) e;exact q D H7 (g6.free hD) (g6.trans s7) h7
theorem zbu {K:Frag}{H:Hp}{q:Addr}{zs:List V}(hq:H q=some (.lst zs)){es:List (Int×Int)}{ws:List V}(h:zam K H es ws):zam K (upd H q o) es ws:=pImp (λ_ _ h=>by
  obtain ⟨a,x1,x2,rfl,hT,e1,e2⟩:=(show hasP K H _ _ from h);exact ⟨a,x1,x2,rfl,by rw[zag (ztB hT hq (by intro z;cases z))];exact hT,e1,e2⟩) h
def Own (K:Frag)(H:Hp):List Addr->List (List (Int×Int))->Prop:=Paired λq l=>∃ ws,H q=some (.lst ws)/\zam K H l ws
section
variable {K:Frag}{H H':Hp}
theorem Own.length {qs:List Addr}{ls:List (List (Int×Int))}(h:Own K H qs ls):qs.length=ls.length:=Paired.length h
theorem Own.ext (e:Ext H H'){qs:List Addr}{ls:List (List (Int×Int))}(h:Own K H qs ls):Own K H' qs ls:=pImp (λ_ _ h=>by
 obtain ⟨ws,h1,h2⟩:=h;exact ⟨ws,e _ _ h1 nofun,zam.mono e h2⟩) h
theorem Own.get:∀{qs:List Addr} {ls:List (List (Int×Int))} {i:Nat} {x:V},Own K H qs ls->(qs.map V.ref)[i]?=some x->∃ q l ws,qs[i]?=some q/\x=.ref q/\ls[i]?=some l/\H q=some (.lst ws)/\zam K H l ws
 | _,_,_,_,.nil,e=>by simp at e
 | _,_,0,_,.cons ⟨ws,h1,h2⟩ _,e=>by
  simp at e;exact ⟨_,_,ws,rfl,e.symm,rfl,h1,h2⟩
 | _,_,i+1,x,.cons _ t,e=>by
  obtain ⟨q,l,ws,h1,h2,h3,h4,h5⟩:=Own.get (i:=i) (x:=x) t (by simpa using e);exact ⟨q,l,ws,by simpa using h1,h2,by simpa using h3,h4,h5⟩
theorem Own.append {qs qs':List Addr}{ls ls':List (List (Int×Int))}(h:Own K H qs ls)(g:Own K H qs' ls'):Own K H (qs++qs') (ls++ls'):=pApp h g
theorem Own.other {q:Addr}{zs:List V}(hq:H q=some (.lst zs)){qs:List Addr}{ls:List (List (Int×Int))}(h:Own K H qs ls)(hn:q∉qs):Own K (upd H q o) qs ls:=by
 unfold Own at h
 induction h with
 | nil=>exact .nil
 | cons h _ ih=>
  obtain ⟨ws,h1,h2⟩:=h;rw[yag,not_or]at hn;exact .cons ⟨ws,by rw[zag (Ne.symm hn.1)];exact h1,zbu hq h2⟩ (ih hn.2)
end
theorem zjy {ls:List (List (Int×Int))}{i:Nat}{l:List (Int×Int)}(h:ls[i]?=some l):(ls.take (i+1)).flatten=(ls.take i).flatten++l:=by
 have hi:=(yaj.mp h).1;rw[yaF hi,ybw,(yaj.mp h).2];simp
theorem zsr {ls:List (List (Int×Int))}(i:Nat):(ls.take i).flatten.length<=ls.flatten.length:=by
 have e:ls.flatten=(ls.take i).flatten++(ls.drop i).flatten:=by rw[<-ybw,yaX]
 rw[e,yah];lia
def zmW (K:Frag):Sp:=λvs H Q _=>∃(a:Addr) (qs:List Addr) (ls:List (List (Int×Int))),vs=[.ref a]/\H a=some (.lst (qs.map V.ref))/\Own K H qs ls/\ls.flatten.length<=63/\
 ∀(p:Addr) (ws:List V) (H':Hp),H p=none->Same H H'->H' p=some (.lst ws)->zam K H' (zd1 ls.flatten) ws->Q (.ref p) H'
theorem znG (T:Txt K mg)(qbp:DF K mg "joined_up" zdx zco):FC P w K mg base 1 "joined_up" zco (zmW K):=by
 refine qbp.ok qa7 .(c) .(b)
 .obtain ⟨a,qs,ls,rfl,_⟩:=h;rfl
 obtain ⟨a,qs,ls,rfl,ha,ho,hz,q⟩:=h;have hll:=ho.length;refine ⟨_,(zaj (zaq (i:=1) qa7.nd rfl (Or.inl rfl) (zbj zad))
   (zaj (zbr PassesOwn.never rfl (zbM (pv 0)) (zas (i:=2) qa7.nd rfl (Or.inl rfl)) (zae (zbi (zeW F.plainAttrs_list F.slot_list_extend F.type_list_extend znL (pv 1) (zaa (pv 2) zad)))))
   (zae (zaw (zan (zeg (Int×Int)) rfl T.qcY boot_sorted (zaa (pv 1) zad)))))),?_⟩
 refine ⟨(by show 0<=sizeLine;decide),λt ht=>?_⟩;have k0:But t H (upd H t (.lst [])):=λb o n e=>by rw[zag n];exact e
 refine ⟨_,rfl,a,rfl,⟨_,SqL.of (k0 _ _ (zac ha ht) ha)⟩,?_⟩;refine zdS (xs:=qs.map V.ref) (λi U H2=>∃(zs:List V) (x2:Option V),U=[some (.ref a),some (.ref t),x2]/\H2 t=some (.lst zs)/\zam K H2 (ls.take i).flatten zs/\But t H H2/\Own K H2 qs ls) ?_ ?_ ?_ ?_
 .exact ⟨[],_,rfl,zab,.nil,k0,ho.ext (zak ht _).ext⟩
 .rintro i U H2 _ ⟨zs,x2,rfl,h2,_,k2,_⟩;exact SqL.of (k2 _ _ (zac ha ht) ha)
 .rintro i x U H2 hx ⟨zs,x2,rfl,h2,hw,k2,o2⟩;obtain ⟨g,l,ws,e1,rfl,e3,e4,e5⟩:=o2.get hx;have hlen:zs.length+ws.length<=1000:=by
   have z1:=hw.length;have z2:=e5.length;have z3:=zsr (ls:=ls) (i+1);rw[zjy e3,yah]at z3;lia
  have hgo:∀ b∈qs,b≠t:=λb hb z=>by
   obtain ⟨j,hj,rfl⟩:=yaP hb;obtain ⟨_,_,ws0,f1,f2,_,f4,_⟩:=ho.get (i:=j) (x:=.ref qs[j]) (by rw[yam,yac hj];rfl);cases f2
   rw[z,ht]at f4;cases f4
  refine ⟨_,rfl,.inl ⟨rfl,_,SqL.of h2⟩,_,rfl,t,g,zs,ws,rfl,rfl,h2,e4,yaU (zao hlen),?_⟩;refine ⟨_,_,rfl,zab,?_,λb o n e=>by rw[zag n];exact k2 b o n e,o2.other h2 (λz=>hgo t z rfl)⟩;rw[zjy e3];exact (zbu h2 hw).append (zbu h2 e5)
 .rintro U H2 ⟨zs,x2,rfl,h2,hw,k2,o2⟩;rw[yas (by rw[yab];lia)]at hw;refine ⟨_,rfl,t,zs,_,rfl,SqL.of h2,hw,by lia,λl ws hl hs=>?_⟩;have e2:=zak hl (.lst ws);have s2:Same H H2:=λb o e=>k2 b o (zac e ht) e;exact q l ws _ (s2.free hl) (s2.trans e2) zab (zam.mono e2.ext hs)
def zbZ (ps:List Nat):List V:=.non::ps.map nV
def parV (ps:List Nat)(k:Nat):V:=match par ps k with
 | none=>.non
 | some p=>nV p
theorem zav (ps:List Nat):(zbZ ps).length=ps.length+1:=by
 unfold zbZ;rw[yaM,yab]
theorem ze0 {ps:List Nat}{k:Nat}(h:k<ps.length+1):atI (zbZ ps) (k:Int)=some (parV ps k):=by
 refine za5 ?_;unfold zbZ parV;cases k with
 | zero=>rfl
 | succ k=>
  show (ps.map nV)[k]?=some (match ps[k]? with|none=>_|some p=>nV p)
  rw[yam,yac (show k<ps.length by lia)];rfl
theorem zd7 {k p:Nat}(h:par ps k=some p):parV ps k=nV p:=by
 unfold parV;rw[h]
theorem zgR {k:Nat}(h:par ps k=none):parV ps k=.non:=by
 unfold parV;rw[h]
theorem zie {k m:Nat}:parV ps k=.int (m:Int)↔par ps k=some m:=by
 cases e:par ps k with
 | none=>
  rw[zgR e];exact ⟨nofun,nofun⟩
 | some p=>
  rw[zd7 e];constructor
  .intro z;have:=Int.ofNat.inj (V.int.inj z);rw[this]
  .intro z;rw[yae z]
theorem zi3 (ps:List Nat)(k:Nat)(i:Int):scal (parV ps k) (.int i)=true:=by
 cases e:par ps k with
 | none=>rw[zgR e];rfl
 | some p=>rw[zd7 e];rfl
theorem But.new' {p b:Addr}(k:But p H H2)(hb:H2 b=none)(o:HO):But p H (upd H2 b o):=λx o' n e=>(zak hb o) x o' (k x o' n e)
def zqG (K:Frag):Sp:=λvs H Q _=>∃(d L:Addr) (m:Int),vs=[.ref d,.int m]/\(0<m/\m<=40)/\LS K L d H/\
 ∀(t:Addr) (ps:List Nat) (H':Hp),H t=none->zaA ps->(ps.length:Int)<m->H' t=some (.tup (zbZ ps))->Keep d H H'->LS K L d H'->Q (.ref t) H'
theorem zmH {u:Nat}(T:zaA ps)(h:u<=ps.length):zaA (ps++[u]):=by
 intro i hi;rw[yah,yay]at hi;by_cases c:i<ps.length
 .rw[List.getElem_append_left c];exact T i c
 .have:i=ps.length:=by lia
  subst this;rw[List.getElem_append_right (yaa _)];simp;exact h
theorem zpJ (T:Txt K mg)(qc4:DF K mg "_law_tree" zgf zfp)(qae:FC P w K mg base 2 "_law_take" zbx (ze8 K)):FC P w K mg base 3 "_law_tree" zfp (zqG K):=by
 refine qc4.ok qbA .(c) .(b)
 .obtain ⟨d,L,m,rfl,_⟩:=h;rfl
 obtain ⟨d,L,m,rfl,⟨hm0,hm1⟩,hs,q⟩:=h;refine ⟨_,(zaj (zaq (i:=2) qbA.nd rfl (Or.inl rfl) (zax qae hr (zaa (pv 0) (zaa zai zad))))
   (zaj (zaq (i:=3) qbA.nd rfl (Or.inl rfl) (zbj (zaa zgO zad)))
   (zaj (zbr PassesOwn.never rfl (zdj rfl T.qax (zaa zai (zaa (zaG zbn zai (zax qae hr (zaa (pv 0) (zaa (pv 1) zad)))) zad))) (zas (i:=4) qbA.nd rfl (Or.inl rfl)) (zae (zbi (zeW F.plainAttrs_list F.slot_list_append F.type_list_append za4 (pv 3) (zaa (zaB (zat (K:=K)) (zbj (zaa (zaG zdb (pv 4) zai) (zaa zai (zaa (zax qae hr (zaa (pv 0) (zaa (pv 4) zad))) (zaa (zan (zjH rfl) rfl T.qfA boot_max (zaa zai (zaa (zaG zdb (zaG zdb (pv 4) zai) (zax qae hr (zaa (pv 0) (zaa zai zad)))) zad))) zad))))) (pv 2) (λ_ _=>rfl)) zad)))))
   (zae (zaw (zaY (zbt (K:=K)) rfl T.qa1 boot_tuple (zaa (pv 3) zad))))))),?_⟩
 refine ⟨_,rfl,d,L,4,rfl,by decide,hs,λw1 H1 w0 w4 k1 s1=>?_⟩;refine ⟨(by show 1<=sizeLine;decide),λp hp=>?_⟩;have g0:=zak hp (.lst [V.non]);have hpd:p≠d:=by
  obtain ⟨ns,a,l,e,_⟩:=s1.ex;exact Ne.symm (zac e hp)
 have hp0:H p=none:=by
  cases e:H p with
  | none=>rfl
  | some o=>
   have:=k1 p o hpd e;rw[hp]at this;cases this
 refine ⟨_,rfl,_,rfl,d,L,m,rfl,⟨hm0,by lia⟩,s1.same g0,λn H2 n0 n1 k2 s2=>⟨_,_,rfl,rfl,1,_,rfl,⟨by lia,by lia,by lia,by lia⟩,?_⟩⟩;have en:((1:Int)+n-1).toNat=n.toNat:=by lia
 rw[en];refine zbA (n:=n.toNat) (λi U H3=>∃(ps:List Nat) (x4:Option V),U=[some (.ref d),some (.int m),some (.int w1),some (.ref p),x4]/\H3 p=some (.lst (zbZ ps))/\ps.length=i/\zaA ps/\(∀ b o,b≠d->b≠p->H b=some o->H3 b=some o)/\LS K L d H3) ?_ ?_ ?_
 .exact ⟨[],_,rfl,k2 p _ hpd zab,rfl,λi hi=>absurd hi .(h),λb o n1 n2 e=>k2 b o n1 (g0 b o (k1 b o n1 e)),s2⟩
 .rintro i U H3 hi ⟨ps,x4,rfl,h3,rfl,hT,k3,s3⟩;have ek:(1:Int)+((ps.length:Nat):Int)=((ps.length+1:Nat):Int):=by lia
  rw[ek];refine ⟨_,rfl,.inl ⟨rfl,_,SqL.of h3⟩,?_⟩;refine ⟨_,rfl,_,_,rfl,rfl,_,rfl,_,rfl,d,L,_,rfl,⟨by lia,by lia⟩,s3,λv1 H4 v10 v11 k4 s4=>?_⟩;refine ⟨_,rfl,_,_,rfl,rfl,_,rfl,d,L,2,rfl,by decide,s4,λv2 H5 v20 v21 k5 s5=>⟨_,_,rfl,rfl,_,_,rfl,(by show 4<=sizeLine;decide),λl hl=>?_⟩⟩;have h4:=k4 p _ hpd h3;have h5:=k5 p _ hpd h4;obtain ⟨u,hat,hu⟩:∃ u:Nat,atI [V.int (((ps.length+1:Nat):Int)-1),V.int 0,V.int v1,V.int (if ((ps.length+1:Nat):Int)-1-v2>0 then ((ps.length+1:Nat):Int)-1-v2 else 0)] w1=some (nV u)/\u<=ps.length:=by
   have z:w1=0\/w1=1\/w1=2\/w1=3:=by lia
   rcases z with rfl|rfl|rfl|rfl
   .refine ⟨ps.length,?_,yaa _⟩;rw[show ((ps.length+1:Nat):Int)-1=((ps.length:Nat):Int) by lia];rfl
   .exact ⟨0,rfl,yaG _⟩
   .obtain ⟨u,rfl⟩:=zhx v10;exact ⟨u,rfl,by lia⟩
   .refine ⟨(if ((ps.length+1:Nat):Int)-1-v2>0 then ((ps.length+1:Nat):Int)-1-v2 else 0).toNat,?_,?_⟩
    .show some (V.int _)=some (V.int _);rw[Int.toNat_of_nonneg (by split<;>lia)]
    .split<;>lia
  refine ⟨_,rfl,_,_,_,_,rfl,rfl,SqL.of zab,hat,_,_,_,rfl,rfl,by rw[zag (zac h5 hl)];exact h5,zao (by rw[zav];lia),?_⟩;refine ⟨ps++[u],_,rfl,?_,by rw[yah,yay],zmH hT hu,λb o n1 n2 e=>?_,?_⟩
  .rw[zab];unfold zbZ;rw[yal];rfl
  .rw[zag n2];have e5:=k5 b o n1 (k4 b o n1 (k3 b o n1 n2 e));exact (zak hl _) _ _ e5
  .exact LS.put hs hp0 (λb o n1 n2 e=>(zak hl _) _ _ (k5 b o n1 (k4 b o n1 (k3 b o n1 n2 e)))) (s5.of_new hl _)
 .rintro U H3 ⟨ps,x4,rfl,h3,hl,hT,k3,s3⟩;refine ⟨_,rfl,p,_,rfl,.inl ⟨SqL.of h3,λt ht=>?_⟩⟩;have sn:=zak ht (.tup (zbZ ps));have htp:t≠p:=Ne.symm (zac h3 ht);have ht0:H t=none:=by
   cases e:H t with
   | none=>rfl
   | some o=>
    have htd:t≠d:=by
     obtain ⟨ns,a,l,e,_⟩:=s3.ex;exact Ne.symm (zac e ht)
    have:=k3 t o htd htp e;rw[ht]at this;cases this
  exact q t ps _ ht0 hT .(a) zab (λb o n e=>sn _ _ (k3 b o n (zac e hp0) e)) (s3.of_new ht _)
def zdi (K:Frag):Sp:=λvs H Q _=>∃(t:Addr) (ps:List Nat) (k:Nat),vs=[.ref t,.int k]/\H t=some (.tup (zbZ ps))/\ps.length<=900/\
 ∀(p:Addr) (H':Hp),H p=none->Same H H'->H' p=some (.lst ((zaK ps k (ps.length+1)).map nV))->Q (.ref p) H'
theorem zj8 (T:Txt K mg)(qbK:DF K mg "children" zeq zcJ):FC P w K mg base 1 "children" zcJ (zdi K):=by
 refine qbK.ok qdz .(c) .(b)
 .obtain ⟨t,ps,k,rfl,_⟩:=h;rfl
 obtain ⟨t,ps,k,rfl,ht,hz,q⟩:=h;refine ⟨_,(zae (zaw (zbN (N:=["other","tree","knot"]) (own:=1) (cap:=[0,1]) rfl (zbQ rfl T.qax (zaa (zan (zal (K:=K)) rfl T.qaq boot_len (zaa (pv 0) zad)) zad)) ⟨rfl,rfl,rfl,rfl,rfl,rfl⟩ (λ_ _ _ _ _=>(zas (i:=0) (show List.Nodup (["other","tree","knot"]:List Str) by decide +kernel) rfl (Or.inl rfl))) (λ_ _ _ _ _=>(zeU (zau zfv (zaB (zay (K:=K)) (pv 1) (pv 0) (λ_ _=>rfl)) (pv 2) (zaH _)))) (λ_ _ _ _ _=>(pv 0))))),?_⟩;refine ⟨_,rfl,_,_,rfl,.inr (SqT.of ht),_,rfl,by lia,by rw[zav];lia,λD hD=>?_⟩;have el:((((zbZ ps).length:Nat):Int)).toNat=ps.length+1:=by rw[zav,ya5]
 rw[el];refine zdr (n:=ps.length+1) (λj U H3=>∃ x0:Option V,U=[x0,some (.ref t),some (.int k)]/\H3 D=some (.lst ((zaK ps k j).map nV))/\But D H H3) ?_ ?_ ?_
 .exact ⟨_,rfl,zab,λb o n e=>by rw[zag n];exact e⟩
 .rintro j m U H3 hm hj ⟨x0,rfl,h3,k3⟩;rw[ybv];have h3t:=k3 _ _ (zac ht hD) ht;have hlen:=zcD ps k j;refine ⟨_,rfl,_,rfl,_,_,_,_,rfl,rfl,SqT.of h3t,ze0 hj,_,rfl,zi3 _ _ _,_,rfl,?_⟩;refine ite2 .(n) .(n)
  .have c':par ps j=some k:=zie.mp (yaH c);refine ⟨_,rfl,_,h3,zao (by rw[yab];lia),m-1,by lia,by lia,_,rfl,?_,λb o n e=>by rw[zag n];exact k3 b o n e⟩;rw[zab,zcS,if_pos c',yal];rfl
  .have c':¬ par ps j=some k:=λz=>c (yai (zie.mpr z));refine ⟨m-1,by lia,by lia,_,rfl,?_,k3⟩;rw[h3,zcS,if_neg c',yaC]
 .rintro U H3 ⟨x0,rfl,h3,k3⟩;exact q D H3 hD (λb o e=>k3 b o (zac e hD) e) h3
def zi1 (K:Frag):Sp:=λvs H Q _=>∃(t:Addr) (ps:List Nat) (k:Nat),vs=[.ref t,.int k]/\H t=some (.tup (zbZ ps))/\zaA ps/\k<ps.length+1/\ps.length<=900/\
 ∀(p:Addr) (H':Hp),H p=none->Same H H'->H' p=some (.lst ((benL ps k (ps.length+1)).map nV))->Q (.ref p) H'
theorem zl0 (T:Txt K mg)(qcq:DF K mg "beneath" zfj zeC):FC P w K mg base 1 "beneath" zeC (zi1 K):=by
 refine qcq.ok qbE .(c) .(b)
 .obtain ⟨t,ps,k,rfl,_⟩:=h;rfl
 obtain ⟨t,ps,k,rfl,ht,hT,hk,hz,q⟩:=h;refine ⟨_,(zaj (zaq (i:=2) qbE.nd rfl (Or.inl rfl) (zbj (zaa (pv 1) zad)))
   (zaj (zbr PassesOwn.never rfl (zdj rfl T.qax (zaa (zaG zbn (pv 1) zai) (zaa (zan (zal (K:=K)) rfl T.qaq boot_len (zaa (pv 0) zad)) zad))) (zas (i:=3) qbE.nd rfl (Or.inl rfl)) (zae (za3 (zau (zfL (K:=K)) (zaB (zay (K:=K)) (pv 0) (pv 3) (λ_ _=>rfl)) (pv 2) (by with_unfolding_all rfl)) (zae (zbi (zeW F.plainAttrs_list F.slot_list_append F.type_list_append za4 (pv 2) (zaa (pv 3) zad)))) zaD)))
   (zae (zaw (pv 2))))),?_⟩
 refine ⟨_,rfl,(by show 1<=sizeLine;decide),λp hp=>?_⟩;have k0:But p H (upd H p (.lst [.int (k:Int)])):=λb o n e=>by rw[zag n];exact e
 have ntp:t≠p:=zac ht hp;refine ⟨_,rfl,_,_,rfl,rfl,_,rfl,_,_,rfl,.inr (SqT.of (k0 _ _ ntp ht)),_,_,rfl,⟨by lia,by lia,by lia,by rw[zav];lia⟩,?_⟩;have en:((((zbZ ps).length:Nat):Int)-((k:Int)+1)).toNat=ps.length-k:=by rw[zav];lia
 rw[en];refine zbA (n:=ps.length-k) (λi U H3=>∃ x3:Option V,U=[some (.ref t),some (.int k),some (.ref p),x3]/\H3 p=some (.lst ((benL ps k (k+1+i)).map nV))/\But p H H3) ?_ ?_ ?_
 .refine ⟨_,rfl,?_,k0⟩;rw[zab,ybk,zqt hT];rfl
 .rintro i U H3 hi ⟨x3,rfl,h3,k3⟩;have ek:(k:Int)+1+(i:Int)=((k+1+i:Nat):Int):=by lia
  rw[ek];have hj:k+1+i<ps.length+1:=by lia
  have hj1:1<=k+1+i:=by lia
  have hjk:k+1+i≠k:=by lia
  have ei:k+1+(i+1)=k+1+i+1:=by lia
  rw[ei];generalize k+1+i=j at h3 hj hj1 hjk ⊢;obtain ⟨u,hu⟩:=zid hj1 hj;have h3t:=k3 _ _ ntp ht;have hat:=ze0 hj;rw[zd7 hu]at hat;have hlen:=ziE ps k j;refine ⟨_,rfl,_,rfl,_,_,_,_,rfl,rfl,SqT.of h3t,hat,_,rfl,_,_,rfl,.inl (SqL.of h3),rfl,zox _,_,rfl,?_⟩;show if inV (.int (u:Int)) ((benL ps k j).map nV)=true then _ else _
  rw[zq8];have hB:isB ps k j=isB ps k u:=zbY hT hjk hu;have hult:=(zaM hT hu).1;refine ite2 .(n) .(n)
  .have c':isB ps k u=true:=(zcC.mp (yaH c)).2;refine ⟨_,rfl,.inl ⟨rfl,_,SqL.of h3⟩,_,rfl,_,_,_,rfl,rfl,h3,zao (by rw[yab];lia),?_⟩;refine ⟨_,rfl,?_,λb o n e=>by rw[zag n];exact k3 b o n e⟩;rw[zab,zhb,hB,if_pos c',yal];rfl
  .have c':¬ isB ps k u=true:=λz=>c (yai (zcC.mpr ⟨hult,z⟩));refine ⟨_,rfl,?_,k3⟩;rw[h3,zhb,hB,if_neg c',yaC]
 .rintro U H3 ⟨x3,rfl,h3,k3⟩;refine ⟨_,rfl,?_⟩;rw[show k+1+(ps.length-k)=ps.length+1 by lia]at h3;exact q p H3 hp (λb o e=>k3 b o (zac e hp) e) h3
def zbm (es:List (Int×Int)):List (Int×Int):=zdf es (zcp es)
def zar (rows:List .(k))(k:Nat):List Int:=rows.getD k []
def ownE (rows:List .(k))(k:Nat):List (Int×Int):=(zar rows k).map λx=>(x,(k:Int))
def zmd (ps:List Nat)(rows:List .(k)):Nat->Nat->List (Int×Int)
 | 0,_=>[]
 | f+1,k=>zd1 (((zaK ps k (ps.length+1)).map λc=>zbm (zmd ps rows f c)).flatten++ownE rows k)
theorem zhF (T:zaA ps):∀ f g k,k<ps.length+1->ps.length+1-k<=f->ps.length+1-k<=g->zmd ps rows f k=zmd ps rows g k
 | 0,_,k,hk,h,_=>by lia
 | _,0,k,hk,_,h=>by lia
 | f+1,g+1,k,hk,hf,hg=>by
  unfold zmd;congr 3;refine ybY λc hc=>?_;have h:=zaE.mp hc;have:=zaM T h.2;show zbm _=zbm _;rw[zhF T f g c h.1 .(a) .(a)]
def zaf (ps:List Nat)(rows:List .(k))(k:Nat):List (Int×Int):=zmd ps rows (ps.length+1-k) k
def zdk (ps:List Nat)(rows:List .(k))(k:Nat):List (List (Int×Int)):=((zaK ps k (ps.length+1)).map λc=>zbm .(l))++[ownE rows k]
theorem zbJ (T:zaA ps){k:Nat}(hk:k<ps.length+1):zaf ps rows k=zd1 (zdk ps rows k).flatten:=by
 unfold zaf zdk;obtain ⟨f,hf⟩:∃ f,ps.length+1-k=f+1:=⟨ps.length-k,by lia⟩;rw[hf,zmd,ybw,ych];congr 3;refine ybY λc hc=>?_;have h:=zaE.mp hc;have:=zaM T h.2;show zbm _=zbm _;rw[zhF T f (ps.length+1-c) c h.1 .(a) .(a)];rfl
structure zaL (rows:List .(k)):Prop where
 up:∀ row∈rows,row.Pairwise (· < ·)
 key:∀ row∈rows,∀ x∈row,-(10^60)<x/\x<10^60
theorem zaL.at_up (R:zaL rows)(k:Nat):(zar rows k).Pairwise (· < ·):=by
 unfold zar;rw[yad];cases e:rows[k]? with
 | none=>exact .nil
 | some row=>exact R.up row (yaN e)
theorem zaL.at_key (R:zaL rows)(k:Nat):∀ x∈zar rows k,-(10^60)<x/\x<10^60:=by
 unfold zar;rw[yad];cases e:rows[k]? with
 | none=>exact λx hx=>nomatch hx
 | some row=>exact R.key row (yaN e)
theorem zju {α:Type}:∀(es:List α) (ms:List Bool),(zdf es ms).Sublist es
 | [],_=>by
  unfold zdf;exact List.Sublist.refl _
 | e::es,[]=>by
  unfold zdf;exact List.nil_sublist _
 | e::es,m::ms=>by
  have ih:=zju es ms;unfold zdf at ih ⊢;cases m with
  | false=>exact List.Sublist.cons e ih
  | true=>exact List.Sublist.cons₂ e ih
theorem zaP (es:List (Int×Int)):(zbm es).Sublist es:=zju _ _
def Of (ps:List Nat)(rows:List .(k))(k:Nat)(e:Int×Int):Prop:=∃ j,j<ps.length+1/\isB ps k j=true/\e.2=(j:Int)/\e.1∈zar rows j
theorem zhw {ps:List Nat}{k:Nat}(hk:k<ps.length+1){e:Int×Int}(h:e∈ownE rows k):Of ps rows k e/\e.2=(k:Int):=by
 obtain ⟨x,hx,rfl⟩:=yaE.mp h;exact ⟨⟨k,hk,zcm,rfl,hx⟩,rfl⟩
theorem znq (R:zaL rows)(k:Nat):(ownE rows k).Nodup:=by
 unfold ownE;rw[List.nodup_iff_pairwise_ne,ybR];exact List.Pairwise.imp (λ{a b} (h:a < b) z=>by
  have:=congrArg Prod.fst z;have:a=b:=this;lia) (R.at_up k)
theorem zgw (T:zaA ps)(R:zaL rows):∀(m k:Nat),ps.length+1-k<=m->k<ps.length+1->(∀ e∈zaf ps rows k,Of ps rows k e)/\(zdk ps rows k).flatten.Nodup
 | 0,k,hm,hk=>by lia
 | m+1,k,hm,hk=>by
  have ih:∀ c,par ps c=some k->(∀ e∈zaf ps rows c,Of ps rows c e)/\ .(l).Nodup:=λc hc=>by
   have:=zaM T hc;have q:=zgw T R m c .(a) this.2;refine ⟨q.1,?_⟩;rw[zbJ T this.2];exact (zb2 _).nodup_iff.mpr q.2
  have up:∀{c:Nat} {e:Int×Int},par ps c=some k->Of ps rows c e->Of ps rows k e:=λ{c e} hc h=>by
   obtain ⟨j,h1,h2,h3,h4⟩:=h;exact ⟨j,h1,(zcq T j j (yaa _) h1).mpr (.inr ⟨c,hc,h2⟩),h3,h4⟩
  refine ⟨λe he=>?_,?_⟩
  .rw[zbJ T hk,zfa]at he;obtain ⟨l,hl,he⟩:=ycf.mp he;rcases yaw.mp hl with q|q
   .obtain ⟨c,hc,rfl⟩:=yaE.mp q;have hp:=(zaE.mp hc).2;exact up hp ((ih c hp).1 e ((zaP _).mem he))
   .rw[yaq.mp q]at he;exact (zhw hk he).1
  .show List.Pairwise _ _;unfold zdk;rw[List.pairwise_flatten];refine ⟨λl hl=>?_,?_⟩
   .rcases yaw.mp hl with q|q
    .obtain ⟨c,hc,rfl⟩:=yaE.mp q;exact (ih c (zaE.mp hc).2).2.sublist (zaP _)
    .rw[yaq.mp q];exact znq R k
   .rw[yci];refine ⟨?_,ycw _ _,?_⟩
    .rw[ybR];refine List.Pairwise.imp_of_mem (λ{c d} hc hd hcd=>?_) (zjF ps k _);intro x hx y hy z;subst z;have pc:=(zaE.mp hc).2;have pd:=(zaE.mp hd).2;obtain ⟨j,_,h2,h3,_⟩:=(ih c pc).1 x ((zaP _).mem hx);obtain ⟨i,_,g2,g3,_⟩:=(ih d pd).1 x ((zaP _).mem hy);have:j=i:=by lia
     subst this;exact zdo T pc pd (yat hcd) j j (yaa _) h2 g2
    .intro l hl l' hl' x hx y hy z;subst z;obtain ⟨c,hc,rfl⟩:=yaE.mp hl;rw[yaq.mp hl']at hy;have pc:=(zaE.mp hc).2;obtain ⟨j,_,h2,h3,_⟩:=(ih c pc).1 x ((zaP _).mem hx);have h4:=(zhw hk hy).2;have:j=k:=by lia
     subst this;rw[zcQ T (zaM T pc).1]at h2;cases h2
theorem zdR (T:zaA ps)(R:zaL rows){k:Nat}(hk:k<ps.length+1):∀ e∈zaf ps rows k,Of ps rows k e:=(zgw T R _ k (yaa _) hk).1
theorem zcR (T:zaA ps)(R:zaL rows){k:Nat}(hk:k<ps.length+1): .(e).Nodup:=by
 rw[zbJ T hk];exact (zb2 _).nodup_iff.mpr (zgw T R _ k (yaa _) hk).2
theorem zaC (T:zaA ps)(R:zaL rows){k:Nat}(hk:k<ps.length+1):Rise .(e):=by
 rw[zbJ T hk];exact zfJ (zgw T R _ k (yaa _) hk).2
theorem zee (T:zaA ps)(R:zaL rows)(hz:ps.length<=40){k:Nat}(hk:k<ps.length+1):∀ e∈zaf ps rows k,ze1 64 e:=λe he=>by
 obtain ⟨j,h1,h2,h3,h4⟩:=zdR T R hk e he;have:=R.at_key j _ h4;exact ⟨this.1,this.2,by lia,by lia⟩
def wtR (ps:List Nat)(rows:List .(k))(k:Nat):Nat:=((benL ps k (ps.length+1)).map λj=>(zar rows j).length).sum
theorem zpf {l m:List Nat}(h:l.Perm m):l.sum=m.sum:=by
 induction h with
 | nil=>rfl
 | cons x _ ih=>rw[yaJ,yaJ,ih]
 | swap x y l=>rw[yaJ,yaJ,yaJ,yaJ];lia
 | trans _ _ h1 h2=>rw[h1,h2]
theorem zkQ (f:Nat->Nat):∀(ls:List (List Nat)),(ls.flatten.map f).sum=(ls.map λl=>(l.map f).sum).sum
 | []=>rfl
 | l::ls=>by
  rw[ybJ,yal,List.sum_append,zkQ f ls,yap,yaJ]
theorem zmt (T:zaA ps)(f:Nat->Nat){k:Nat}(hk:k<ps.length+1):((benL ps k (ps.length+1)).map f).sum=f k+((zaK ps k (ps.length+1)).map λc=>((benL ps c (ps.length+1)).map f).sum).sum:=by
 have h:=zpf ((zlR T hk).map f);rw[yap,yaJ,zkQ,ybd]at h;exact h.symm
theorem zqF {f g:Nat->Nat}:∀{l:List Nat},(∀ x∈l,f x<=g x)->(l.map f).sum<=(l.map g).sum
 | [],_=>yaa _
 | x::l,h=>by
  rw[yap,yaJ,yap,yaJ];have h1:=h x yau;have h2:=zqF (f:=f) (g:=g) (l:=l) λy hy=>h y (yar _ hy);lia
theorem zlm {α:Type}:∀(ls:List (List α)),ls.flatten.length=(ls.map List.length).sum
 | []=>rfl
 | l::ls=>by
  rw[ybJ,yah,zlm ls,yap,yaJ]
theorem zou (T:zaA ps){k:Nat}(hk:k<ps.length+1): .(e).length=(zar rows k).length+((zaK ps k (ps.length+1)).map λc=>(zbm .(l)).length).sum:=by
 rw[zbJ T hk,zd0];unfold zdk;rw[ybw,yah,ych,zlm,ybd];unfold ownE;rw[yab,Nat.add_comm];rfl
theorem zhE (T:zaA ps):∀(m k:Nat),ps.length+1-k<=m->k<ps.length+1-> .(e).length<=wtR ps rows k
 | 0,k,hm,hk=>by lia
 | m+1,k,hm,hk=>by
  unfold wtR;rw[zou T hk,zmt T _ hk];refine yco (zqF λc hc=>?_) _;have h:=zaE.mp hc;have:=zaM T h.2;exact yax (zaP _).length_le (zhE T m c .(a) h.1)
theorem zhr (f:Nat->Nat)(P:Nat->Bool):∀(l:List Nat),((l.filter P).map f).sum<=(l.map f).sum
 | []=>yaa _
 | x::l=>by
  have ih:=zhr f P l;rw[yap,yaJ];by_cases h:P x=true
  .rw[yaS h,yap,yaJ];lia
  .rw[ya9 h];lia
def zbz (rows:List .(k)):Nat:=(rows.map List.length).sum
theorem zmO (rows:List .(k)):((List.range rows.length).map λj=>(zar rows j).length).sum=zbz rows:=by
 unfold zbz;congr 1;apply ybe;intro i;rw[yam,yam];by_cases h:i<rows.length
 .rw[ya7 h,yac h];show some (zar rows i).length=some rows[i].length;unfold zar;rw[yad,yac h];rfl
 .rw[yaV (by rw[yaL];lia),yaV .(a)];rfl
theorem zqA {ps:List Nat}{rows:List .(k)}(hl:rows.length=ps.length+1)(k:Nat):wtR ps rows k<=zbz rows:=by
 unfold wtR benL;refine yax (zhr _ _ _) ?_;rw[<-hl,zmO];exact yaa _
theorem zed (T:zaA ps){rows:List .(k)}(hl:rows.length=ps.length+1){k:Nat}(hk:k<ps.length+1): .(e).length<=zbz rows:=yax (zhE T _ k (yaa _) hk) (zqA hl k)
def zaR (H:Hp)(as:List Addr)(rows:List .(k)):Prop:=Paired (λa row=>H a=some (.tup (row.map V.int))) as rows
theorem zaR.ext {H H':Hp}(e:∀ b o,H b=some o->H' b=some o)(h:zaR H as rows):zaR H' as rows:=pImp (λ_ _=>e _ _) h
theorem zaR.keep {d p:Addr}{H H':Hp}(hd:∀ a row,H a=some (.tup row)->a≠d)(e:∀ b o,b≠d->H b=some o->H' b=some o)(h:zaR H as rows):zaR H' as rows:=pImp (λ_ _ h=>e _ _ (hd _ _ h) h) h
theorem zaR.length (h:zaR H as rows):as.length=rows.length:=Paired.length h
theorem zaR.get :∀{as:List Addr} {rows:List (List Int)} {k:Nat},zaR H as rows->k<rows.length->∃ a,as[k]?=some a/\H a=some (.tup ((zar rows k).map V.int))
 | _,_,_,.nil,hk=>by simp at hk
 | a::as,row::rows,0,.cons h t,_=>⟨a,rfl,h⟩
 | a::as,row::rows,k+1,.cons h t,hk=>by
  obtain ⟨b,h1,h2⟩:=zaR.get (k:=k) t (by simpa using hk);refine ⟨b,by rw[ycb];exact h1,?_⟩;have:zar (row::rows) (k+1)=zar rows k:=by
   unfold zar;rw[yad,yad,ycb]
  rw[this];exact h2
theorem zaR.snoc {a:Addr}{row:List Int}(h:zaR H as rows)(g:H a=some (.tup (row.map V.int))):zaR H (as++[a]) (rows++[row]):=pApp h (.cons g .nil)
structure za1 (H:Hp)(st:Addr)(ps:List Nat)(rows:List .(k))(t rs:Addr)(as:List Addr):Prop where
 st:H st=some (.tup [.ref t,.ref rs])
 tr:H t=some (.tup (zbZ ps))
 rs:H rs=some (.tup (as.map V.ref))
 at_:zaR H as rows
 len:rows.length=ps.length+1
 T:zaA ps
 R:zaL rows
 few:ps.length<=40
 keys:zbz rows<=63
theorem za1.same {st t rs:Addr}(S:za1 H st ps rows t rs as)(e:Same H H'):za1 H' st ps rows t rs as:=
 ⟨e _ _ S.st,e _ _ S.tr,e _ _ S.rs,S.at_.ext e,S.len,S.T,S.R,S.few,S.keys⟩
theorem zct {as:List Addr}{k:Nat}{a:Addr}(h:as[k]?=some a):atI (as.map V.ref) (k:Int)=some (.ref a):=za5 (by rw[yam,h];rfl)
theorem zje {α:Type}{l:List α}(h:l.Nodup):l.reverse.Nodup:=(List.reverse_perm l).nodup_iff.mpr h
def zhi (K:Frag)(H:Hp)(ps:List Nat)(rows:List .(k))(j:Nat)(q:Addr):Prop:=∃ ws,H q=some (.lst ws)/\zam K H .(m) ws
def zaJ (K:Frag)(H:Hp)(ps:List Nat)(rows:List .(k)):List Nat->List Addr->Prop:=Paired (zhi K H ps rows)
theorem zhi.same {K:Frag}(h:zhi K H ps rows j q)(e:Same H H'):zhi K H' ps rows j q:=by
 obtain ⟨ws,h1,h2⟩:=h;exact ⟨ws,e _ _ h1,h2.mono e.ext⟩
theorem zaJ.same {K:Frag}(e:Same H H'){js:List Nat}{qs:List Addr}(h:zaJ K H ps rows js qs):zaJ K H' ps rows js qs:=pImp (λ_ _ h=>zhi.same h e) h
theorem zaJ.ext {K:Frag}(e:Ext H H'){js:List Nat}{qs:List Addr}(h:zaJ K H ps rows js qs):zaJ K H' ps rows js qs:=pImp (λ_ _ h=>by
  obtain ⟨ws,a1,a2⟩:=h;exact ⟨ws,e _ _ a1 nofun,a2.mono e⟩) h
theorem zaJ.length {K:Frag}{js:List Nat}{qs:List Addr}(h:zaJ K H ps rows js qs):js.length=qs.length:=Paired.length h
theorem zaJ.snoc {K:Frag}{js:List Nat}{qs:List Addr}(h:zaJ K H ps rows js qs)(g:zhi K H ps rows j q):zaJ K H ps rows (js++[j]) (qs++[q]):=pApp h (.cons g .nil)
theorem zaJ.get {K:Frag}:∀{js:List Nat} {qs:List Addr} {i j:Nat},zaJ K H ps rows js qs->js[i]?=some j->∃ q,qs[i]?=some q/\zhi K H ps rows j q
 | _,_,i,j,.nil,h=>by simp at h
 | _::_,q::_,0,j,.cons h t,e=>by
  have:=yae (show some _=some j from e);subst this;exact ⟨q,rfl,h⟩
 | _::_,_::_,i+1,j,.cons h t,e=>by
  obtain ⟨q,h1,h2⟩:=zaJ.get (i:=i) t (by simpa using e);exact ⟨q,by simpa using h1,h2⟩
theorem zaJ.rev {K:Frag}{js:List Nat}{qs:List Addr}(h:zaJ K H ps rows js qs):zaJ K H ps rows js.reverse qs.reverse:=by
 unfold zaJ at h
 induction h with
 | nil=>exact .nil
 | cons h _ ih=>
  rw[ybD,ybD];exact zaJ.snoc ih h
theorem zaJ.alloc {K:Frag}:∀{js:List Nat} {qs:List Addr},zaJ K H ps rows js qs->∀ q∈qs,∃ ws,H q=some (.lst ws)
 | _,_,.nil=>λq hq=>nomatch hq
 | _::_,_::_,.cons h t=>λq hq=>by
  rcases yag.mp hq with e|e
  .obtain ⟨ws,h1,_⟩:=h;exact ⟨ws,e ▸ h1⟩
  .exact zaJ.alloc t q e
abbrev kN (j:Nat):Key:=Sum.inl (j:Int)
def zeb:List Nat->List Addr->List (Key×V)
 | j::js,q::qs=>(kN j,.ref q)::zeb js qs
 | _,_=>[]
theorem zlr :∀{js:List Nat} {qs:List Addr},j∉js->valV (zeb js qs) (kN j)=none
 | [],_,_=>rfl
 | _::_,[],_=>rfl
 | i::js,q::qs,h=>by
  have h1:¬ kN i=kN j:=λz=>h (by
   have:=Int.ofNat.inj (Sum.inl.inj z);rw[this];exact yau)
  show valV ((kN i,V.ref q)::zeb js qs) (kN j)=none;rw[zaT h1];exact zlr λz=>h (yar _ z)
theorem zkg {q:Addr}:∀{js:List Nat} {qs:List Addr} {i:Nat},js.Nodup->js[i]?=some j->qs[i]?=some q->valV (zeb js qs) (kN j)=some (.ref q)
 | [],_,_,_,h,_=>by simp at h
 | _::_,[],_,_,_,h=>by simp at h
 | a::js,b::qs,0,_,h1,h2=>by
  have:=yae (show some a=some j from h1);subst this;have:=yae (show some b=some q from h2);subst this;exact za8 (p:=(kN a,V.ref b)) rfl
 | a::js,b::qs,i+1,hn,h1,h2=>by
  have g1:js[i]?=some j:=by simpa using h1
  have hne:¬ kN a=kN j:=λz=>by
   have e:=Int.ofNat.inj (Sum.inl.inj z);exact (yaK.mp hn).1 (e ▸ yaN g1)
  show valV ((kN a,V.ref b)::zeb js qs) (kN j)=_;rw[zaT hne];exact zkg (yaK.mp hn).2 g1 (by simpa using h2)
theorem zlq {q:Addr}:∀{js:List Nat} {qs:List Addr},js.length=qs.length->zeb (js++[j]) (qs++[q])=zeb js qs++[(kN j,.ref q)]
 | [],[],_=>rfl
 | [],_::_,h=>by cases h
 | _::_,[],h=>by cases h
 | a::js,b::qs,h=>by
  show (kN a,V.ref b)::zeb (js++[j]) (qs++[q])=(kN a,V.ref b)::(zeb js qs++[(kN j,V.ref q)]);rw[zlq (Nat.succ.inj h)]
theorem zse {j:Nat}{q:Addr}{js:List Nat}{qs:List Addr}(hl:js.length=qs.length)(h:j∉js):putK (zeb js qs) (kN j) (.ref q)=zeb (js++[j]) (qs++[q]):=by
 rw[zc6 _ (zlr h),zlq hl]
theorem zn5:∀{js:List Nat} {qs:List Addr},js.length=qs.length->(zeb js qs).length=js.length
 | [],[],_=>rfl
 | [],_::_,h=>by cases h
 | _::_,[],h=>by cases h
 | a::js,b::qs,h=>by
  show (zeb js qs).length+1=js.length+1;rw[zn5 (Nat.succ.inj h)]
theorem zqw {l:List Nat}(h:l.Pairwise (· > ·)){i j c:Nat}(hj:l[i]?=some j)(hc:c∈l)(hcj:j<c):c∈l.take i:=by
 obtain ⟨u,hu,rfl⟩:=yaP hc;obtain ⟨hi,rfl⟩:=yaj.mp hj;have:u<i:=by
  refine Nat.lt_of_not_le λz=>?_;by_cases e:i=u
  .subst e;lia
  .have:=ya0.mp h i u hi hu .(a);lia
 rw[List.mem_iff_getElem?];exact ⟨u,by rw[ycc,if_pos this,yac hu]⟩
theorem zp5 (T:zaA ps){k c:Nat}(h:isB ps k j=true)(hc:par ps c=some j):isB ps k c=true:=by
 by_cases e:c=k
 .rw[e];exact zcm
 .rw[zbY T e hc];exact h
def zs4 (K:Frag):Sp:=λvs H Q _=>∃(st:Addr) (ps:List Nat) (rows:List (List Int)) (t rs:Addr) (as:List Addr) (j:Nat),vs=[.ref st,.int j]/\za1 H st ps rows t rs as/\j<ps.length+1/\
 ∀(D:Addr) (us:List V) (H':Hp),H D=none->Same H H'->H' D=some (.lst us)->zam K H' (ownE rows j) us->Q (.ref D) H'
theorem ztt (T:Txt K mg)(qa2:DF K mg "own_entries" zcu zck):FC P w K mg base 1 "own_entries" zck (zs4 K):=by
 refine qa2.ok qcG .(c) .(b)
 .obtain ⟨st,ps,rows,t,rs,as,k,rfl,_⟩:=h;rfl
 obtain ⟨st,ps,rows,t,rs,as,j,rfl,S4,hjn,q⟩:=h;refine ⟨_,(zae (zaw (zbN (N:=["key","knot"]) (own:=1) (cap:=[1]) rfl (zhv (zaB (zay (K:=K)) (zaB (zay (K:=K)) (pv 0) zai (λ_ _=>rfl)) (pv 1) (λ_ _=>rfl))) ⟨rfl,rfl,rfl,rfl,rfl,rfl⟩ (λ_ _ _ _ _=>(zas (i:=0) (show List.Nodup (["key","knot"]:List Str) by decide +kernel) rfl (Or.inl rfl))) (λ_ _ _ _ _=>zcb) (λ_ _ _ _ _=>(zaX (zaa (pv 0) (zaa (pv 1) zad))))))),?_⟩;obtain ⟨a,ha1,ha4⟩:=S4.at_.get (k:=j) (by rw[S4.len];exact hjn);have hkeys:=S4.keys;refine ⟨_,rfl,_,_,_,_,rfl,rfl,SqT.of S4.st,rfl,_,rfl,_,_,_,_,rfl,rfl,SqT.of S4.rs,zct ha1,a,rfl,⟨_,SqT.of ha4⟩,λD3 hD3=>?_⟩;refine zfD (xs:=(zar rows j).map V.int) (λm U H5=>∃(us:List V) (x0:Option V),U=[x0,some (.int j)]/\H5 D3=some (.lst us)/\zam K H5 ((ownE rows j).take m) us/\But D3 H H5) ?_ ?_ ?_ ?_
 .exact ⟨[],_,rfl,zab,.nil,λb o n e=>by rw[zag n];exact e⟩
 .rintro m U H5 _ ⟨us,x0,rfl,_,_,k5⟩;exact SqT.of (k5 _ _ (zac ha4 hD3) ha4)
 .rintro m r x U H5 hx hm ⟨us,x0,rfl,h5,hw5,k5⟩;rw[yam]at hx;obtain ⟨y,hy,rfl⟩:=ybq.mp hx;have hlow:=(yaj.mp hy).1;have htk3:(ownE rows j).take (m+1)=(ownE rows j).take m++[(y,(j:Int))]:=by
   unfold ownE;rw[<-ybV,<-ybV,yaF hlow,yal];rw[(yaj.mp hy).2];rfl
  have hul:=hw5.length;rw[yao]at hul;rw[yab]at hm;have hrl:(zar rows j).length<=zbz rows:=by
   have:=zqA S4.len (k:=j) (ps:=ps);have e2:wtR ps rows j=(zar rows j).length+_:=zmt S4.T _ hjn;lia
  refine zdn ?_;refine ⟨_,rfl,_,rfl,(by show 2<=sizeLine;decide),λu hu=>?_⟩;have su:=zak hu (.tup [.int y,.int (j:Int)]);have h6:=su _ _ h5;have hut:upd H5 u (.tup [.int y,.int (j:Int)]) u=some (.tup [.int y,.int (j:Int)]):=zab;have k6:=k5.new' hu (.tup [.int y,.int (j:Int)]);have hw6:=hw5.mono su.ext;generalize upd H5 u (.tup [.int y,.int (j:Int)])=H6 at su h6 hut k6 hw6 ⊢;refine ⟨_,h6,zao .(a),r-1,by lia,by rw[yab];lia,us++[.ref u],_,rfl,zab,?_,λb o n e=>by rw[zag n];exact k6 b o n e⟩;rw[htk3];exact (zbu h6 hw6).append (zbu h6 (.cons ⟨u,.int y,.int (j:Int),rfl,hut,rfl,rfl⟩ .nil))
 .rintro U H5 ⟨us,x0,rfl,h5,hw5,k5⟩;rw[yab,yas (by unfold ownE;rw[yab];exact yaa _)]at hw5;exact q D3 us H5 hD3 (λx o e=>k5 x o (zac e hD3) e) h5 hw5
def zs7 (K:Frag):Sp:=λvs H Q _=>∃(st:Addr) (ps:List Nat) (rows:List (List Int)) (t rs:Addr) (as:List Addr) (k:Nat),vs=[.ref st,.int k]/\za1 H st ps rows t rs as/\k<ps.length+1/\
 ∀(D:Addr) (qs:List Addr) (H':Hp),H D=none->Same H H'->H' D=some (.dK (zeb (benL ps k (ps.length+1)).reverse qs))->qs.Nodup->(∀ q∈qs,H q=none)->zaJ K H' ps rows (benL ps k (ps.length+1)).reverse qs->Q (.ref D) H'
theorem zty (T:Txt K mg)(qaB:DF K mg "full_rows_beneath" zbo zbf)(qeC:FC P w K mg base 1 "beneath" zeC (zi1 K))(qbL:FC P w K mg base 1 "children" zcJ (zdi K))(qci:FC P w K mg base 6 "handed" zd4 (zhU K))(qc5:FC P w K mg base 1 "own_entries" zck (zs4 K))(qbq:FC P w K mg base 1 "joined_up" zco (zmW K)):FC P w K mg base 7 "full_rows_beneath" zbf (zs7 K):=by
 refine qaB.ok qaj .(c) .(b)
 .obtain ⟨st,ps,rows,t,rs,as,k,rfl,_⟩:=h;rfl
 obtain ⟨st,ps,rows,t,rs,as,k,rfl,S,hk,q⟩:=h;refine ⟨_,(zaj (zaq (i:=2) qaj.nd rfl (Or.inl rfl) (zaB (zay (K:=K)) (pv 0) zai (λ_ _=>rfl)))
   (zaj (zaq (i:=3) qaj.nd rfl (Or.inr rfl) zlh)
   (zaj (zbr PassesOwn.never rfl (zj1 rfl T.qd0 (zaa (zax qeC hr (zaa (pv 2) (zaa (pv 1) zad))) zad)) (zas (i:=4) qaj.nd rfl (Or.inl rfl)) (zaj (zgJ (i:=5) (N:=["child","told"]) (own:=1) (cap:=[3]) qaj.nd rfl rfl rfl (zbM (zax qbL hr (zaa (pv 2) (zaa (pv 4) zad)))) ⟨rfl,rfl,rfl,rfl,rfl,rfl⟩ (λ_ _ _ _ _=>(zas (i:=0) (show List.Nodup (["child","told"]:List Str) by decide +kernel) rfl (Or.inl rfl))) (λ_ _ _ _ _=>zcb) (λ_ _ _ _ _=>(zax qci hr (zaa (zdL (zdq hr) (pv 1) (pv 0) (λ_ _=>rfl)) zad))))
   (zaj (zbi (zeW F.plainAttrs_list F.slot_list_append F.type_list_append za4 (pv 5) (zaa (zax qc5 hr (zaa (pv 0) (zaa (pv 4) zad))) zad)))
   (zae (zd5 (zdq hr) (pv 3) (pv 4) (zax qbq hr (zaa (pv 5) zad)) rfl)))))
   (zae (zaw (pv 3)))))),?_⟩
 refine ⟨_,rfl,_,_,_,_,rfl,rfl,SqT.of S.st,rfl,λD hD=>?_⟩;have s0:=zak hD (.dK []);have hD0:upd H D (.dK []) D=some (.dK []):=zab;generalize upd H D (.dK [])=H0 at s0 hD0 ⊢;refine ⟨_,rfl,_,rfl,t,ps,k,rfl,s0 _ _ S.tr,S.T,hk,by have:=S.few;lia,λb H1 hb s1 h1=>?_⟩;refine ⟨b,_,rfl,SqL.of h1,?_⟩;have hup:=zkB ps k (ps.length+1);have hmem:=λj=>zcC (ps:=ps) (k:=k) (n:=ps.length+1) (j:=j);have hbl:=ziE ps k (ps.length+1);generalize benL ps k (ps.length+1)=bs at h1 q hup hmem hbl ⊢;have hdn:bs.reverse.Pairwise (· > ·):=by
  rw[List.pairwise_reverse];exact hup
 have hnd:bs.reverse.Nodup:=List.Pairwise.imp (λ{a b} (q:a>b)=>ybm q) hdn;refine zsp (xs:=bs.map nV) (λi U H2=>∃(qs:List Addr) (x5 x6:Option V),U=[some (.ref st),some (.int k),some (.ref t),some (.ref D),x5,x6]/\H2 D=some (.dK (zeb (bs.reverse.take i) qs))/\qs.Nodup/\(∀ q∈qs,H q=none)/\zaJ K H2 ps rows (bs.reverse.take i) qs/\H2 b=some (.lst (bs.map nV))/\But D H H2) ?_ ?_ ?_ ?_
 .exact ⟨[],_,_,rfl,s1 _ _ hD0,ybj,(λq hq=>nomatch hq),.nil,h1,λx o _ e=>s1 _ _ (s0 _ _ e)⟩
 .rintro i U H2 _ ⟨qs,x5,x6,rfl,_,_,_,_,h2b,_⟩;exact SqL.of h2b
 .rintro i x U H2 hx ⟨qs,x5,x6,rfl,h2,hqn,hqf,hF,h2b,k2⟩;rw[<-List.map_reverse]at hx;obtain ⟨hi,hxe⟩:=zjv hx;have hji:bs.reverse[i]?=some (bs.reverse.getD i 0):=by
   rw[yad,yac hi];rfl
  subst hxe;have htk:bs.reverse.take (i+1)=bs.reverse.take i++[bs.reverse.getD i 0]:=by
   rw[yaF hi,yad,yac hi];rfl
  rw[htk];generalize bs.reverse.getD i 0=j at hji htk ⊢;have hjm:j∈bs:=ybU.mp (yaN hji);obtain ⟨hjn,hjB⟩:=(hmem j).mp hjm;have hjnot:j∉bs.reverse.take i:=λz=>by
   have hnd':=hnd;rw[<-yaX (i+1) bs.reverse,htk]at hnd';have:=(ya2.mp hnd').1;exact (ya2.mp this).2.2 j z j (yaq.mpr rfl) rfl
  have noD:∀{p:Addr} {o:HO},H p=some o->p≠D:=λ{p o} e=>zac e hD;have S2:za1 H2 st ps rows t rs as:=⟨k2 _ _ (noD S.st) S.st,k2 _ _ (noD S.tr) S.tr,k2 _ _ (noD S.rs) S.rs,zaR.keep (p:=D) (d:=D) (λa row e=>noD e) k2 S.at_,S.len,S.T,S.R,S.few,S.keys⟩;have hkeys:=S.keys;have hfew:=S.few;refine ⟨_,rfl,_,rfl,t,ps,j,rfl,S2.tr,by lia,λc H3 hc s3 h3=>?_⟩;refine ⟨c,rfl,⟨_,SqL.of h3⟩,λD2 hD2=>?_⟩;have hcmem:=λm=>zaE (ps:=ps) (k:=j) (n:=ps.length+1) (j:=m);have hcl:=zcD ps j (ps.length+1);have hparts:zdk ps rows j=((zaK ps j (ps.length+1)).map λc=>zbm .(l))++[ownE rows j]:=rfl;generalize zaK ps j (ps.length+1)=cs at h3 hcmem hcl hparts ⊢;have h3D:=s3 _ _ h2;have nDD2:D≠D2:=zac h3D hD2;have F3:zaJ K H3 ps rows (bs.reverse.take i) qs:=hF.same s3;refine zbR (xs:=cs.map nV) (λm U H4=>∃(gs:List Addr) (x0:Option V),U=[x0,some (.ref D)]/\H4 D2=some (.lst (gs.map V.ref))/\Own K H4 gs ((cs.take m).map λc=>zbm .(l))/\D2∉gs/\But D2 H3 H4) ?_ ?_ ?_ ?_
  .exact ⟨[],_,rfl,zab,.nil,nofun,λb o n e=>by rw[zag n];exact e⟩
  .rintro m U H4 _ ⟨gs,x0,rfl,_,_,_,k4⟩;exact k4.sq (SqL.of h3) hD2
  .rintro m r x U H4 hx hm ⟨gs,x0,rfl,h4,hO,hg,k4⟩;obtain ⟨hmi,rfl⟩:=zjv hx;have hcm:cs[m]?=some (cs.getD m 0):=by
    rw[yad,yac hmi];rfl
   have htk2:cs.take (m+1)=cs.take m++[cs.getD m 0]:=by
    rw[yaF hmi,yad,yac hmi];rfl
   rw[htk2];generalize cs.getD m 0=ch at hcm ⊢;obtain ⟨hchn,hchp⟩:=(hcmem ch).mp (yaN hcm);have hlt:=(zaM S.T hchp).1;have hin:ch∈bs.reverse.take i:=zqw hdn hji (ybU.mpr ((hmem ch).mpr ⟨hchn,zp5 S.T hjB hchp⟩)) hlt;obtain ⟨u,hu,hue⟩:=yaP hin;have hu2:(bs.reverse.take i)[u]?=some ch:=by rw[yac hu,hue]
   obtain ⟨qq,hq1,ws,hq2,hq3⟩:=F3.get hu2;have hnd2:(bs.reverse.take i).Nodup:=hnd.sublist (List.take_sublist _ _);have hv:=zkg hnd2 hu2 hq1;have k4D:=k4 _ _ nDD2 h3D;have hq4:=k4 _ _ (zac hq2 hD2) hq2;have hq5:zam K H4 (zaf ps rows ch) ws:=by
    have key:∀{es:List (Int×Int)} {vs:List V},zam K H3 es vs->zam K H4 es vs:=by
     intro es vs hh
     induction hh with
     | nil=>exact .nil
     | cons a _ ih=>
      obtain ⟨b,x1,x2,rfl,q,e1,e2⟩:=(show hasP K H3 _ _ from a);exact .cons ⟨b,x1,x2,rfl,k4 _ _ (zac q hD2) q,e1,e2⟩ ih
    exact key hq3
   have hlen:=zed S.T S.len (rows:=rows) hchn;refine zdn ?_;have hdg:DGet H4 D (.int (ch:Int)) (some (.ref qq)):=by
    rw[<-hv];exact DGet.k (k:=kN ch) k4D
   refine ⟨_,rfl,_,rfl,D,_,rfl,hdg,?_⟩;refine ⟨qq,ws,zaf ps rows ch,rfl,hq4,hq5,by lia,zee S.T S.R hfew hchn,zaC S.T S.R hchn,λg H5 hg5 s5 h5=>?_⟩;have hgl:=hO.length;rw[yab,yao]at hgl;have h5D2:=s5 _ _ h4;have ngD2:D2≠g:=zac h4 hg5;rw[yab]at hm;refine ⟨_,h5D2,zao (by rw[yab];lia),r-1,by lia,by rw[yab];lia,gs++[g],_,rfl,?_,?_,?_,λx o n e=>by rw[zag n];exact s5 _ _ (k4 x o n e)⟩
   .rw[zab,yal];rfl
   .rw[yal];refine Own.other h5D2 (Own.append (hO.ext s5.ext) (.cons ⟨_,h5,?_⟩ .nil)) ?_
    .exact zgu (hq5.mono s5.ext)
    .intro z;rcases yaw.mp z with z|z
     .exact hg z
     .exact ngD2 (yaq.mp z)
   .intro z;rcases yaw.mp z with z|z
    .exact hg z
    .exact ngD2 (yaq.mp z)
  .rintro U H4 ⟨gs,x0,rfl,h4,hO,hg,k4⟩;rw[yab,yas (yaa _)]at hO;have hgl:=hO.length;rw[yab]at hgl;have s34:Same H3 H4:=λx o e=>k4 x o (zac e hD2) e;have s24:Same H2 H4:=s3.trans s34;have S4:=S2.same s24;refine ⟨_,rfl,.inl ⟨rfl,_,SqL.of h4⟩,_,rfl,_,rfl,st,ps,rows,t,rs,as,j,rfl,S4,hjn,λD3 us H5 hD3 s45 h5 hw5=>?_⟩;have h5D2:=s45 _ _ h4;have n23:D2≠D3:=zac h4 hD3;refine ⟨_,_,_,rfl,rfl,h5D2,zao (by rw[yab];lia),?_⟩;have O5:Own K H5 (gs++[D3]) (zdk ps rows j):=by
    rw[hparts];exact Own.append (hO.ext s45.ext) (.cons ⟨us,h5,hw5⟩ .nil)
   have nin:D2∉gs++[D3]:=λz=>by
    rcases yaw.mp z with z|z
    .exact hg z
    .exact n23 (yaq.mp z)
   have O6:=O5.other (o:=.lst (gs.map V.ref++[.ref D3])) h5D2 nin;have h6:upd H5 D2 (.lst (gs.map V.ref++[.ref D3])) D2=some (.lst ((gs++[D3]).map V.ref)):=by
    rw[zab,yal];rfl
   have k26:∀ x o,H2 x=some o->upd H5 D2 (.lst (gs.map V.ref++[.ref D3])) x=some o:=λx o e=>by
    rw[zag (zac (s3 _ _ e) hD2)];exact s45 _ _ (s24 _ _ e)
   generalize upd H5 D2 (.lst (gs.map V.ref++[.ref D3]))=H6 at O6 h6 k26 ⊢;have hfl:(zdk ps rows j).flatten.length<=63:=by
    have:=zed S.T S.len (rows:=rows) hjn;rw[zbJ S.T hjn,zd0]at this;lia
   refine ⟨_,rfl,D2,gs++[D3],zdk ps rows j,rfl,h6,O6,hfl,λp ws H7 hp s7 h7 hw7=>?_⟩;rw[<-zbJ S.T hjn]at hw7;have s27:Same H2 H7:=λx o e=>s7 _ _ (k26 x o e);have h7D:=s27 _ _ h2;have hql:=hF.length;have hpD:p≠D:=Ne.symm (zac (k26 _ _ h2) hp);refine ⟨_,rfl,_,rfl,D,_,rfl,DPut.k (k:=kN j) h7D (zao (by rw[zn5 hql,yao,ybE];lia)),?_⟩;rw[zse hql hjnot];have e78:Ext H7 (upd H7 D (.dK (zeb (bs.reverse.take i++[j]) (qs++[p])))):=λx o e n=>by
    rw[zag (λz=>by
     rw[z,h7D]at e;cases e
     exact n _ rfl)]
    exact e
   have F8:zaJ K (upd H7 D (.dK (zeb (bs.reverse.take i++[j]) (qs++[p])))) ps rows (bs.reverse.take i++[j]) (qs++[p]):=by
    exact zaJ.ext e78 (zaJ.snoc (hF.same s27) ⟨ws,h7,hw7⟩)
   refine ⟨qs++[p],_,_,rfl,zab,?_,?_,F8,?_,λx o n e=>?_⟩
   .rw[ya2];refine ⟨hqn,yaK.mpr ⟨nofun,ybj⟩,λa ha b hb z=>?_⟩;rw[yaq.mp hb]at z;subst z;obtain ⟨ws',hws⟩:=hF.alloc a ha;have:=k26 _ _ hws;rw[hp]at this;cases this
   .intro x hx;rcases yaw.mp hx with z|z
    .exact hqf x z
    .rw[yaq.mp z];cases e:H p with
     | none=>rfl
     | some o=>
      have:=k26 _ _ (k2 p o hpD e);rw[hp]at this;cases this
   .rw[zag (λz=>by rw[z,h2]at h2b;cases h2b)]
    exact s27 _ _ h2b
   .rw[zag n];exact s27 _ _ (k2 x o n e)
 .rintro U H2 ⟨qs,x5,x6,rfl,h2,hqn,hqf,hF,h2b,k2⟩;refine ⟨_,rfl,?_⟩;rw[yab,yas (by rw[ybE];exact yaa _)]at h2 hF;exact q D qs H2 hD (λx o e=>k2 x o (zac e hD) e) h2 hqn hqf hF
def zhV (K:Frag):Sp:=λvs H Q _=>∃(st:Addr) (ps:List Nat) (rows:List (List Int)) (t rs:Addr) (as:List Addr),vs=[.ref st]/\za1 H st ps rows t rs as/\
 ∀(p:Addr) (qs:List Addr) (H':Hp),H p=none->Same H H'->H' p=some (.lst (qs.map V.ref))->qs.Nodup->(∀ q∈qs,H q=none)->p∉qs->zaJ K H' ps rows (List.range (ps.length+1)) qs->Q (.ref p) H'
theorem zh7 {n i:Nat}(h:i<n):(List.range n).reverse[n-1-i]?=some i:=by
 rw[ycr (by rw[yaL];lia),yaL,ya7 .(a)];congr 1;lia
theorem zpO (T:Txt K mg)(qbr:DF K mg "full_rows" zdy zb5)(qbs:FC P w K mg base 7 "full_rows_beneath" zbf (zs7 K)):FC P w K mg base 8 "full_rows" zb5 (zhV K):=by
 refine qbr.ok qbY .(c) .(b)
 .obtain ⟨st,ps,rows,t,rs,as,rfl,_⟩:=h;rfl
 obtain ⟨st,ps,rows,t,rs,as,rfl,S,q⟩:=h;refine ⟨_,(zaj (zaq (i:=1) qbY.nd rfl (Or.inr rfl) (zax qbs hr (zaa (pv 0) (zaa zai zad))))
   (zae (zaw (zbN (N:=["knot","told"]) (own:=1) (cap:=[1]) rfl (zbQ rfl T.qax (zaa (zan (zal (K:=K)) rfl T.qaq boot_len (zaa (zaB (zay (K:=K)) (pv 0) zai (λ_ _=>rfl)) zad)) zad)) ⟨rfl,rfl,rfl,rfl,rfl,rfl⟩ (λ_ _ _ _ _=>(zas (i:=0) (show List.Nodup (["knot","told"]:List Str) by decide +kernel) rfl (Or.inl rfl))) (λ_ _ _ _ _=>zcb) (λ_ _ _ _ _=>(zdL (zdq hr) (pv 1) (pv 0) (λ_ _=>rfl))))))),?_⟩
 refine ⟨_,rfl,st,ps,rows,t,rs,as,0,rfl,S,by lia,λD qs H1 hD s1 h1 hqn hqf hF=>?_⟩;rw[zjO S.T]at h1 hF;have S1:=S.same s1;have hfew:=S.few;have hql:=hF.length;rw[ybE,yaL]at hql;refine ⟨_,rfl,_,_,_,_,rfl,rfl,SqT.of S1.st,rfl,_,_,rfl,.inr (SqT.of S1.tr),_,rfl,by lia,by rw[zav];lia,λp hp=>?_⟩;have el:((((zbZ ps).length:Nat):Int)).toNat=ps.length+1:=by rw[zav,ya5]
 rw[el];refine zdr (n:=ps.length+1) (λi U H2=>∃ x0:Option V,U=[x0,some (.ref D)]/\H2 p=some (.lst ((qs.reverse.take i).map V.ref))/\But p H1 H2) ?_ ?_ ?_
 .exact ⟨_,rfl,zab,λb o n e=>by rw[zag n];exact e⟩
 .rintro i m U H2 hm hi ⟨x0,rfl,h2,k2⟩;rw[ybv];have hi2:i<qs.reverse.length:=by rw[ybE];lia
  have hq1:qs[ps.length+1-1-i]?=some qs.reverse[i]:=by
   have:=ycr (l:=qs) (i:=i) .(a);rw[yac hi2]at this;rw[this];congr 1;lia
  have hv:=zkg (zje ycj) (zh7 hi) hq1;have h2D:=k2 _ _ (zac h1 hp) h1;have hdg:DGet H2 D (.int (i:Int)) (some (.ref qs.reverse[i])):=by
   rw[<-hv];exact DGet.k (k:=kN i) h2D
  refine zdn ?_;refine ⟨_,rfl,_,rfl,D,_,rfl,hdg,?_⟩;refine ⟨_,h2,zao (by rw[yab,yao];lia),m-1,by lia,by lia,_,rfl,?_,λb o n e=>by rw[zag n];exact k2 b o n e⟩;rw[zab,yaF hi2,yal];rfl
 .rintro U H2 ⟨x0,rfl,h2,k2⟩;rw[yas (by rw[ybE];lia)]at h2;have s2:Same H1 H2:=λb o e=>k2 b o (zac e hp) e;have F2:=(hF.same s2).rev;rw[List.reverse_reverse]at F2;refine q p qs.reverse H2 ?_ (s1.trans s2) h2 (zje hqn) (λx hx=>hqf x (ybU.mp hx)) (λz=>?_) F2
  .cases e:H p with
   | none=>rfl
   | some o=>
    have:=s1 _ _ e;rw[hp]at this;cases this
  .obtain ⟨ws,hws⟩:=hF.alloc p (ybU.mp z);rw[hp]at hws;cases hws
def zhL (x:Key):Prop:=∃ a:Int,x=.inl a/\-(10^60)<a/\a<10^60
def toI:Key->Int
 | .inl a=>a
 | _=>0
theorem zrH {kvs:List (Key×V)}{v:V}(h1:(kvs.map (·.1)).Nodup)(h2:∀ y∈kvs.map (·.1),zhL y)(hx:zhL x):((putK kvs x v).map (·.1)).Nodup/\∀ y∈(putK kvs x v).map (·.1),zhL y:=by
 rw[znd];split
 .exact ⟨h1,h2⟩
 .rename_i c;refine ⟨?_,λy hy=>?_⟩
  .rw[ya2];refine ⟨h1,yaK.mpr ⟨nofun,ybj⟩,λa ha b hb z=>?_⟩;rw[yaq.mp hb]at z;subst z;obtain ⟨p,hp,e⟩:=yaE.mp ha;exact c (List.any_eq_true.mpr ⟨p,hp,yai e⟩)
  .rcases yaw.mp hy with z|z
   .exact h2 y z
   .rw[yaq.mp z];exact hx
theorem zf0:∀{l:List Key},(∀ y∈l,zhL y)->l.map kV=(l.map toI).map V.int
 | [],_=>rfl
 | x::l,h=>by
  obtain ⟨a,rfl,_⟩:=h x yau;show V.int a::l.map kV=V.int a::(l.map toI).map V.int;rw[zf0 λy hy=>h y (yar _ hy)]
theorem ziS:∀{l:List Key},l.Nodup->(∀ y∈l,zhL y)->(l.map toI).Nodup
 | [],_,_=>ybj
 | x::l,hn,h=>by
  rw[yap,yaK];have hc:=yaK.mp hn;refine ⟨λz=>?_,ziS hc.2 λy hy=>h y (yar _ hy)⟩;obtain ⟨y,hy,e⟩:=yaE.mp z;obtain ⟨a,rfl,_⟩:=h x yau;obtain ⟨b,rfl,_⟩:=h y (yar _ hy);have:b=a:=e;subst this;exact hc.1 hy
def zs0 (K:Frag):Sp:=λvs H Q _=>∃(d L:Addr) (m:Int),vs=[.ref d,.int m]/\(0<=m/\m<=40)/\LS K L d H/\
 ∀(a:Addr) (row:List Int) (H':Hp),H a=none->row.Pairwise (· < ·)->(∀ x∈row,-(10^60)<x/\x<10^60)->(row.length:Int)<=m->H' a=some (.tup (row.map V.int))->Keep d H H'->LS K L d H'->Q (.ref a) H'
theorem zrZ (T:Txt K mg)(qdF:DF K mg "_law_row" zh1 zgr)(qae:FC P w K mg base 2 "_law_take" zbx (ze8 K))(qcr:FC P w K mg base 3 "_law_key" zey (zpi K)):FC P w K mg base 4 "_law_row" zgr (zs0 K):=by
 refine qdF.ok qcU .(c) .(b)
 .obtain ⟨d,L,m,rfl,_⟩:=h;rfl
 obtain ⟨d,L,m,rfl,⟨hm0,hm1⟩,hs,q⟩:=h;refine ⟨_,(zaj (zaq (i:=2) qcU.nd rfl (Or.inl rfl) zlh)
   (zaj (zbr PassesOwn.never rfl (zbQ rfl T.qax (zaa (zax qae hr (zaa (pv 0) (zaa (zaG zbn (pv 1) zai) zad))) zad)) (zas (i:=3) qcU.nd rfl (Or.inl rfl)) (zae (zd5 (zdq hr) (pv 2) (zax qcr hr (zaa (pv 0) zad)) zeJ rfl)))
   (zae (zaw (zaY (zbt (K:=K)) rfl T.qa1 boot_tuple (zaa (zan (zeg Int) rfl T.qcY boot_sorted (zaa (zaY (zmm rfl) rfl T.qaZ boot_list (zaa (pv 2) zad)) zad)) zad)))))),?_⟩
 intro g hg;have ngd:g≠d:=λz=>by
  obtain ⟨_,_,_,e,_⟩:=hs.ex;rw[<-z,hg]at e;cases e
 refine ⟨_,rfl,_,rfl,_,_,rfl,rfl,d,L,m+1,rfl,⟨by lia,by lia⟩,hs.of_new hg _,λn H1 n0 n1 k1 s1=>⟨_,rfl,by lia,by lia,?_⟩⟩;refine zbA (n:=n.toNat) (λi U H2=>∃(kvs:List (Key×V)) (x3:Option V),U=[some (.ref d),some (.int m),some (.ref g),x3]/\H2 g=some (.dK kvs)/\kvs.length<=i/\(kvs.map (·.1)).Nodup/\(∀ y∈kvs.map (·.1),zhL y)/\(∀ b o,b≠d->b≠g->H b=some o->H2 b=some o)/\LS K L d H2) ?_ ?_ ?_
 .exact ⟨[],_,rfl,k1 g _ ngd zab,yaa _,ybj,λy hy=>(by simp at hy),λb o b1 b2 e=>k1 b o b1 (by rw[zag b2];exact e),s1⟩
 .rintro i U H2 hi ⟨kvs,x3,rfl,h2,hl,hn,hy,kk,s2⟩;refine ⟨_,rfl,_,rfl,d,L,rfl,s2,λv H3 v0 v1 k3 s3=>?_⟩;have h3:H3 g=some (.dK kvs):=k3 g _ ngd h2;obtain ⟨p1,p2⟩:=zrH (v:=.bl true) hn hy (x:=.inl v) ⟨v,rfl,v0,v1⟩;refine ⟨g,_,rfl,DPut.k (k:=.inl v) (kvs:=kvs) h3 (zao .(a)),?_⟩;refine ⟨putK kvs (.inl v) (.bl true),_,rfl,zab,?_,p1,p2,?_,?_⟩
  .have:=zdN kvs (Sum.inl v:Key) (.bl true);lia
  .intro b o b1 b2 e;rw[zag b2];exact k3 b o b1 (kk b o b1 b2 e)
  .exact LS.put hs hg (λb o b1 b2 e=>k3 b o b1 (kk b o b1 b2 e)) s3
 .rintro U H2 ⟨kvs,x3,rfl,h2,hl,hn,hy,kk,s2⟩;refine ⟨_,rfl,g,kvs,rfl,h2,λl hl1=>?_⟩;have ei:kvs.map (λkv=>kV kv.1)=((kvs.map (·.1)).map toI).map V.int:=by
   rw[<-zf0 hy,ybd];rfl
  rw[ei];have e1:=zak hl1 (.lst (((kvs.map (·.1)).map toI).map V.int));refine ⟨l,_,_,rfl,SqL.of zab,zam.ints,by rw[yab,yab];lia,λl2 ws hl2 hw=>?_⟩;rw[hw.toInts];have e2:=zak hl2 (.lst ((zd1 ((kvs.map (·.1)).map toI)).map V.int));refine ⟨l2,_,rfl,.inl ⟨SqL.of zab,λa ha=>?_⟩⟩;have e3:=zak ha (.tup ((zd1 ((kvs.map (·.1)).map toI)).map V.int));have e13:=e1.trans (e2.trans e3);have free:H a=none:=by
   have z2:H2 a=none:=e1.free (e2.free ha);cases z:H a with
   | none=>rfl
   | some o=>
    by_cases c1:a=d
    .obtain ⟨_,_,_,e,_⟩:=s2.ex;rw[<-c1,z2]at e;cases e
    .by_cases c2:a=g
     .rw[c2,h2]at z2;cases z2
     .rw[kk a o c1 c2 z]at z2;cases z2
  refine q a _ _ free ?_ (λx hx=>?_) ?_ zab (λb o b1 e=>e13 _ _ (kk b o b1 (zac e hg) e)) (s2.same e13)
  .exact List.Pairwise.imp (λ{a b} (h:Srt.blt a b=true)=>yaH h) (zfJ (ziS hn hy))
  .rw[zfa]at hx;obtain ⟨y,hy2,rfl⟩:=yaE.mp hx;obtain ⟨a,rfl,h1,h2⟩:=hy y hy2;exact ⟨h1,h2⟩
  .rw[zd0,yab,yab];lia
def zqH (K:Frag):Sp:=λvs H Q _=>∃(d L:Addr) (n m:Nat),vs=[.ref d,.int n,.int m]/\n<=40/\m<=40/\LS K L d H/\
 ∀(r:Addr) (as:List Addr) (rows:List (List Int)) (H':Hp),H r=none->zaR H' as rows->rows.length=n->zaL rows->(∀ row∈rows,row.length<=m)->H' r=some (.tup (as.map V.ref))->Keep d H H'->LS K L d H'->Q (.ref r) H'
theorem zaL.snoc {row:List Int}(R:zaL rows)(h1:row.Pairwise (· < ·))(h2:∀ x∈row,-(10^60)<x/\x<10^60):zaL (rows++[row]):=by
 refine ⟨λr hr=>?_,λr hr=>?_⟩
 .rcases yaw.mp hr with z|z
  .exact R.up r z
  .rw[yaq.mp z];exact h1
 .rcases yaw.mp hr with z|z
  .exact R.key r z
  .rw[yaq.mp z];exact h2
theorem zpK (T:Txt K mg)(qc6:DF K mg "_law_rows" zgh zfq)(qae:FC P w K mg base 2 "_law_take" zbx (ze8 K))(qfn:FC P w K mg base 4 "_law_row" zgr (zs0 K)):FC P w K mg base 5 "_law_rows" zfq (zqH K):=by
 refine qc6.ok qaY .(c) .(b)
 .obtain ⟨d,L,n,m,rfl,_⟩:=h;rfl
 obtain ⟨d,L,n,m,rfl,hn,hm,hs,q⟩:=h;refine ⟨_,(zaj (zaq (i:=3) qaY.nd rfl (Or.inl rfl) (zbj zad))
   (zaj (zbr PassesOwn.never rfl (zbQ rfl T.qax (zaa (pv 1) zad)) (zas (i:=4) qaY.nd rfl (Or.inl rfl)) (zaj (zaq (i:=5) qaY.nd rfl (Or.inl rfl) (zax qfn hr (zaa (pv 0) (zaa (pv 2) zad))))
   (zaN (za3 (zau zfv (zax qae hr (zaa (pv 0) (zaa zai zad))) zai (zaH _)) (zae (zaq (i:=5) qaY.nd rfl (Or.inl rfl) (zaX zad))) zaD)
   (zaN (za3 (PW.pt (zgI (zau zj5 (pv 4) zai (zaH _)) (zeT (zau zfv (zax qae hr (zaa (pv 0) (zaa zai zad))) zai (zaH _))))) (zae (zaq (i:=5) qaY.nd rfl (Or.inl rfl) (zaB (zat (K:=K)) (pv 3) (zaG zdb (pv 4) zai) (λ_ _=>rfl)))) zaD)
   (zae (zbi (zeW F.plainAttrs_list F.slot_list_append F.type_list_append za4 (pv 3) (zaa (pv 5) zad))))))))
   (zae (zaw (zaY (zbt (K:=K)) rfl T.qa1 boot_tuple (zaa (pv 3) zad)))))),?_⟩
 refine ⟨(by show 0<=sizeLine;decide),λp hp=>?_⟩;have g0:=zak hp (.lst []);have ndT:∀{H':Hp} {a:Addr} {o:List V},LS K L d H'->H' a=some (.tup o)->a≠d:=λ{H' a o} s e z=>by
  obtain ⟨_,_,_,e2,_⟩:=s.ex;rw[<-z,e]at e2;cases e2
 have nd:∀{H':Hp} {a:Addr},LS K L d H'->H' a=none->a≠d:=λ{H' a} s e z=>by
  obtain ⟨_,_,_,e2,_⟩:=s.ex;rw[<-z,e]at e2;cases e2
 have hpd:p≠d:=nd hs hp;refine ⟨_,rfl,_,rfl,by lia,by lia,?_⟩;rw[ya5];refine zbA (n:=n) (λi U H2=>∃(as:List Addr) (rows:List (List Int)) (x4 x5:Option V),U=[some (.ref d),some (.int n),some (.int m),some (.ref p),x4,x5]/\H2 p=some (.lst (as.map V.ref))/\zaR H2 as rows/\rows.length=i/\zaL rows/\(∀ row∈rows,row.length<=m)/\(∀ b o,b≠d->b≠p->H b=some o->H2 b=some o)/\LS K L d H2) ?_ ?_ ?_
 .exact ⟨[],[],_,_,rfl,zab,.nil,rfl,⟨(λr hr=>nomatch hr),(λr hr=>nomatch hr)⟩,(λr hr=>nomatch hr),λb o _ n e=>g0 b o e,hs.same g0⟩
 .rintro i U H2 hi ⟨as,rows,x4,x5,rfl,h2,hA,hl,hR,hlen,k2,s2⟩;rw[ybv];have hal:=hA.length;have old:∀{H3:Hp} {b:Addr} {o:HO},(∀ b o,b≠d->H2 b=some o->H3 b=some o)->b≠d->b≠p->H b=some o->H3 b=some o:=λk n1 n2 e=>k _ _ n1 (k2 _ _ n1 n2 e);refine ⟨_,rfl,_,rfl,d,L,m,rfl,⟨by lia,by lia⟩,s2,λa row H3 ha hup hky hlr h3 k3 s3=>?_⟩;refine ⟨λU' H'=>∃(a:Addr) (row:List Int),U'=[some (.ref d),some (.int n),some (.int m),some (.ref p),some (.int i),some (.ref a)]/\H' a=some (.tup (row.map V.int))/\row.Pairwise (· < ·)/\(∀ x∈row,-(10^60)<x/\x<10^60)/\row.length<=m/\(∀ b o,b≠d->H2 b=some o->H' b=some o)/\LS K L d H',?_,?_⟩
  .refine ⟨_,rfl,d,L,4,rfl,by decide,s3,λv H4 _ _ k4 s4=>⟨rfl,_,rfl,?_⟩⟩;have h4:=k4 _ _ (ndT s3 h3) h3;refine ite2 (λ_=>?_) (λ_=>?_)
   .refine ⟨(by show 0<=sizeLine;decide),λu hu=>?_⟩;have su:=zak hu (.tup []);exact ⟨u,[],rfl,zab,.nil,(λx hx=>nomatch hx),yaG _,λb o n1 e=>su _ _ (k4 _ _ n1 (k3 _ _ n1 e)),s4.same su⟩
   .exact ⟨a,row,rfl,h4,hup,hky,by lia,λb o n1 e=>k4 _ _ n1 (k3 _ _ n1 e),s4⟩
  rintro U' H4 ⟨a,row,rfl,h4,hup,hky,hlr,k4,s4⟩;refine ⟨λU' H'=>∃(a:Addr) (row:List Int),U'=[some (.ref d),some (.int n),some (.int m),some (.ref p),some (.int i),some (.ref a)]/\H' a=some (.tup (row.map V.int))/\row.Pairwise (· < ·)/\(∀ x∈row,-(10^60)<x/\x<10^60)/\row.length<=m/\(∀ b o,b≠d->H2 b=some o->H' b=some o)/\LS K L d H',?_,?_⟩
  .refine ⟨_,rfl,_,_,rfl,rfl,_,rfl,?_⟩;refine ite2 .(n) .(n)
   .have c':(0:Int)<(i:Int):=yaH c;refine ⟨_,rfl,d,L,4,rfl,by decide,s4,λv H5 _ _ k5 s5=>⟨rfl,_,rfl,?_⟩⟩;have h5:=k5 _ _ (ndT s4 h4) h4;refine ite2 (λ_=>?_) (λ_=>?_)
    .have h5p:H5 p=some (.lst (as.map V.ref)):=k5 _ _ hpd (k4 _ _ hpd h2);obtain ⟨b,hb1,hb2⟩:=hA.get (k:=i-1) .(a);have hb5:=k5 _ _ (ndT s4 (k4 _ _ (ndT s2 hb2) hb2)) (k4 _ _ (ndT s2 hb2) hb2);have hat:atI (as.map V.ref) ((i:Int)-1)=some (.ref b):=by
      rw[show (i:Int)-1=((i-1:Nat):Int) by lia];exact zct hb1
     refine ⟨_,rfl,_,rfl,_,_,rfl,rfl,_,_,_,_,rfl,rfl,SqL.of h5p,hat,?_⟩;have hmem:zar rows (i-1)∈rows:=by
      unfold zar;rw[yad,yac (show i-1<rows.length by lia)];exact yaA _
     exact ⟨b,zar rows (i-1),rfl,hb5,hR.up _ hmem,hR.key _ hmem,hlen _ hmem,λb o n1 e=>k5 _ _ n1 (k4 _ _ n1 e),s5⟩
    .exact ⟨a,row,rfl,h5,hup,hky,hlr,λb o n1 e=>k5 _ _ n1 (k4 _ _ n1 e),s5⟩
   .refine iteF ?_;exact ⟨a,row,rfl,h4,hup,hky,hlr,k4,s4⟩
  rintro U' H5 ⟨a,row,rfl,h5,hup,hky,hlr,k5,s5⟩;have h5p:H5 p=some (.lst (as.map V.ref)):=k5 _ _ hpd h2;have keep:∀ b o,b≠p->H5 b=some o->upd H5 p (.lst (as.map V.ref++[.ref a])) b=some o:=λb o n e=>by rw[zag n];exact e
  have ntp:∀{b:Addr} {o:List V},H5 b=some (.tup o)->b≠p:=λ{b o} e z=>by
   rw[z,h5p]at e;cases e
  refine ⟨_,rfl,.inl ⟨rfl,_,SqL.of h5p⟩,_,rfl,_,_,_,rfl,rfl,h5p,zao (by rw[yab];lia),?_⟩;refine ⟨as++[a],rows++[row],_,_,rfl,?_,?_,by rw[yah,yay,hl],hR.snoc hup hky,λr hr=>?_,λb o n1 n2 e=>keep _ _ n2 (k5 _ _ n1 (k2 _ _ n1 n2 e)),?_⟩
  .rw[zab,yal];rfl
  .refine zaR.snoc ?_ (keep _ _ (ntp h5) h5);have hA5:zaR H5 as rows:=zaR.keep (p:=d) (λa row e=>ndT s2 e) k5 hA;exact zaR.keep (p:=p) (d:=p) (λa row e=>ntp e) keep hA5
  .rcases yaw.mp hr with z|z
   .exact hlen r z
   .rw[yaq.mp z];exact hlr
  .exact LS.put hs hp (λb o n1 n2 e=>k5 _ _ n1 (k2 _ _ n1 n2 e)) s5
 .rintro U H2 ⟨as,rows,x4,x5,rfl,h2,hA,hl,hR,hlen,k2,s2⟩;refine ⟨_,rfl,p,_,rfl,.inl ⟨SqL.of h2,λt ht=>?_⟩⟩;have sn:=zak ht (.tup (as.map V.ref));have ht0:H t=none:=by
   cases e:H t with
   | none=>rfl
   | some o=>
    have:=k2 t o (nd s2 ht) (Ne.symm (zac h2 ht)) e;rw[ht]at this;cases this
  exact q t as rows _ ht0 (hA.ext sn) hl hR hlen zab (λb o n e=>sn _ _ (k2 b o n (zac e hp) e)) (s2.same sn)
abbrev En:=Int×Int
def zeX (k:Nat)(es:List En):Nat:=(es.filter λe=>decide (e.2=(k:Int))).length
def zpy (k:Nat)(es:List En):List Nat:=(List.range (es.length+1)).map λp=>zeX k (es.take p)
def zsZ (cs:List En)(s:Nat)(e:En):Nat:=if e∈cs then cs.idxOf e+1 else s
def stN (cs es:List En):Nat:=es.foldl (zsZ cs) 0
def zfI (es cs:List En):List Nat:=(List.range (es.length+1)).map λp=>stN cs (es.take p)
def inN (cs es:List En):Nat:=(es.filter λe=>decide (e∈cs)).length
theorem zes (h:Rise l):l.Nodup:=List.Pairwise.imp (λ{a b} (q:pLt a b=true) z=>by
 subst z;have:=zcs.mp q;lia) h
theorem zeR (h1:Rise l)(h2:Rise m)(h:∀ e,e∈l↔e∈m):l=m:=by
 refine List.Perm.eq_of_pairwise (le:=λa b=>pLt a b=true) (λa b _ _ q1 q2=>?_) h1 h2 ((List.perm_ext_iff_of_nodup (zes h1) (zes h2)).mpr h);have:=zcs.mp q1;have:=zcs.mp q2;lia
theorem zbg (T:zaA ps){k:Nat}(hk:k<ps.length+1){e:En}:e∈zaf ps rows k↔e∈ownE rows k\/∃ c,par ps c=some k/\e∈zbm .(l):=by
 rw[zbJ T hk,zfa,ycf];unfold zdk;constructor
 .rintro ⟨l,hl,he⟩;rcases yaw.mp hl with q|q
  .obtain ⟨c,hc,rfl⟩:=yaE.mp q;exact .inr ⟨c,(zaE.mp hc).2,he⟩
  .rw[yaq.mp q]at he;exact .inl he
 .rintro (h|⟨c,hc,h⟩)
  .exact ⟨_,yaw.mpr (.inr (yaq.mpr rfl)),h⟩
  .exact ⟨_,yaw.mpr (.inl (yaE.mpr ⟨c,zaE.mpr ⟨(zaM T hc).2,hc⟩,rfl⟩)),h⟩
theorem zqk (T:zaA ps)(R:zaL rows){k c:Nat}(hk:k<ps.length+1)(hc:par ps c=some k){e:En}:(e∈zaf ps rows k/\e∈zaf ps rows c)↔e∈zbm .(l):=by
 have hcn:=(zaM T hc).2;constructor
 .rintro ⟨h1,h2⟩;obtain ⟨j,g1,g2,g3,_⟩:=zdR T R hcn e h2;rcases (zbg T hk).mp h1 with h|⟨d,hd,h⟩
  .have h4:=(zhw hk h).2;have:j=k:=by lia
   subst this;rw[zcQ T (zaM T hc).1]at g2;cases g2
  .by_cases z:d=c
   .rw[z]at h;exact h
   .obtain ⟨i,_,f2,f3,_⟩:=zdR T R (zaM T hd).2 e ((zaP _).mem h);have:i=j:=by lia
    subst this;exact (zdo T hd hc z i i (yaa _) f2 g2).elim
 .intro h;exact ⟨(zbg T hk).mpr (.inr ⟨c,hc,h⟩),(zaP _).mem h⟩
theorem zoM (T:zaA ps)(R:zaL rows){k c:Nat}(hk:k<ps.length+1)(hc:par ps c=some k):(.(e).filter λe=>decide (e∈zaf ps rows c))=zbm .(l):=by
 refine zeR (List.Pairwise.filter _ (zaC T R hk)) ((zaC T R (zaM T hc).2).sublist (zaP _)) λe=>?_;rw[yaY,decide_eq_true_eq];exact zqk T R hk hc
theorem zlJ {l:List En}{p:Nat}(h:p<l.length):l.take (p+1)=l.take p++[l[p]]:=yaF h
theorem zlT (k:Nat)(es:List En)(e:En):zeX k (es++[e])=zeX k es+if e.2=(k:Int) then 1 else 0:=by
 unfold zeX;rw[yaQ,yah];congr 1;by_cases h:e.2=(k:Int)
 .rw[if_pos h,yaS (by exact yai h)];rfl
 .rw[if_neg h,ya9 (by rw[yan h];decide)];rfl
theorem zp8 (cs es:List En)(e:En):inN cs (es++[e])=inN cs es+if e∈cs then 1 else 0:=by
 unfold inN;rw[yaQ,yah];congr 1;by_cases h:e∈cs
 .rw[if_pos h,yaS (by exact yai h)];rfl
 .rw[if_neg h,ya9 (by rw[yan h];decide)];rfl
theorem zkS (cs es:List En)(e:En):stN cs (es++[e])=if e∈cs then cs.idxOf e+1 else stN cs es:=by
 unfold stN;rw[List.foldl_append];rfl
def spL (es:List En):List Nat:=(List.range es.length).filter λj=>(zcp es).getD j false
theorem zkZ (es:List En):zeh (zcp es) (spL es):=by
 have:=zph (zcp es);rw[zbI]at this;exact this
theorem zhC {es:List En}{ms:List Bool}(hl:es.length=ms.length):∀ i,i<=ms.length->zdf (es.take i) (ms.take i)=((List.range i).filter λj=>ms.getD j false).map λj=>es.getD j (0,0)
 | 0,_=>rfl
 | i+1,h=>by
  have ft:((List.range (i+1)).filter λj=>ms.getD j false)=((List.range i).filter λj=>ms.getD j false)++(if ms.getD i false=true then [i] else []):=by
   rw[ybg,yaQ];congr 1;by_cases h:ms.getD i false=true
   .rw[if_pos h,yaS (p:=λj=>ms.getD j false) (a:=i) h];rfl
   .rw[if_neg h,ya9 (p:=λj=>ms.getD j false) (a:=i) h];rfl
  rw[ze7 (show i<es.length by lia),ze7 (show i<ms.length by lia),zjt (by rw[yao,yao];lia),zhC hl i .(a),ft,yal];congr 1;have e:ms.getD i false=ms[i]' .(a):=by
   rw[yad,yac (show i<ms.length by lia)];rfl
  rw[e];split
  .rw[List.map_singleton,yad,yac (show i<es.length by lia)];rfl
  .rfl
theorem zhD (es:List En):zbm es=(spL es).map λj=>es.getD j (0,0):=by
 have hl:=zbI es;have:=zhC (es:=es) (ms:=zcp es) hl.symm (zcp es).length (yaa _);rw[yas (yaa _),yas .(a),hl]at this;exact this
def stAt (sp:List Nat)(t:Nat):Nat:=if t=0 then 0 else sp.getD (t-1) 0+1
theorem zoi {l:List En}(h:l.Nodup){j:Nat}(hj:j<l.length):l.idxOf (l.getD j (0,0))=j:=by
 rw[yad,yac hj];exact List.Nodup.idxOf_getElem h j hj
theorem zkq {P:En->Bool}:∀(l:List En) (p:Nat),(l.take p).filter P=(l.filter P).take ((l.take p).filter P).length:=by
 intro l p;have e:l.filter P=(l.take p).filter P++(l.drop p).filter P:=by rw[<-yaQ,yaX]
 rw[e,List.take_append_of_le_length (yaa _),yas (yaa _)]
theorem zsY (T:zaA ps)(R:zaL rows){k c:Nat}(hk:k<ps.length+1)(hc:par ps c=some k):∀ p,p<= .(e).length->stN .(l) (.(e).take p)=stAt (spL .(l)) (inN .(l) (.(e).take p))
 | 0,_=>rfl
 | p+1,h=>by
  have ih:=zsY T R hk hc p .(a);have hp:p< .(e).length:=by lia
  have hft:=zkq (P:=λe=>decide (e∈zaf ps rows c)) .(e) (p+1);rw[zoM T R hk hc]at hft;rw[zlJ hp]at hft ⊢;rw[zkS,zp8];by_cases z: .(e)[p]∈zaf ps rows c
  .rw[if_pos z,if_pos z];unfold stAt;rw[if_neg .(a),ybH];congr 1;rw[yaQ,yaS (by exact yai z),List.filter_nil,yah,yay]at hft;have hin:(.(e).take p |>.filter λe=>decide (e∈zaf ps rows c)).length=inN .(l) (.(e).take p):=rfl;generalize inN .(l) (.(e).take p)=t at hin ⊢;have hg:(zbm .(l))[t]?=some .(e)[p]:=by
    have h2:((.(e).take p |>.filter λe=>decide (e∈zaf ps rows c))++[.(e)[p]])[t]?=some .(e)[p]:=by
     rw[ya4 .(a),hin,ybI];rfl
    rw[hft,ycc]at h2;split at h2
    .exact h2
    .cases h2
   rw[zhD,yam]at hg;obtain ⟨j,hj,he⟩:=ybq.mp hg;have hjl:j< .(l).length:=by
    have:=(zkZ .(l)).lt (yaN hj);rw[zbI]at this;exact this
   rw[<-he,zoi (zcR T R (zaM T hc).2) hjl,yad,hj];rfl
  .rw[if_neg z,if_neg z,ybk];exact ih
theorem zrx {es:List En}(he:∀ e∈es,ze1 64 e)(hri:Rise es){t:Nat}(ht:t<(spL es).length):stAt (spL es) (t+1)=stAt (spL es) t+2\/stAt (spL es) (t+1)=stAt (spL es) t+3:=by
 have M:=zjf he hri;have S:=zkZ es;have g:∀ i (h:i<(spL es).length),(spL es).getD i 0=(spL es)[i]:=λi h=>by
  rw[yad,yac h];rfl
 unfold stAt;rw[if_neg .(a),ybH];by_cases z:t=0
 .subst z;rw[if_pos rfl,g 0 ht];have hlen:2<=(zcp es).length:=by
   refine ybr λy=>?_;have:=S.none M .(a);rw[this]at ht;simp at ht
  obtain ⟨_,h1,h2⟩:=S.first M hlen;lia
 .rw[if_neg z,g t ht,g (t-1) .(a)];have:=S.step M (t:=t-1) .(a);have e:t-1+1=t:=by lia
  have e2:(spL es)[t-1+1]' .(a)=(spL es)[t]:=by congr 1
  rw[e2]at this;lia
theorem zrw {es:List En}(he:∀ e∈es,ze1 64 e)(hri:Rise es):stAt (spL es) (spL es).length<=es.length/\es.length<=stAt (spL es) (spL es).length+1:=by
 have M:=zjf he hri;have S:=zkZ es;have hl:=zbI es;unfold stAt;by_cases z:(spL es).length=0
 .rw[if_pos z];refine ⟨yaG _,?_⟩;refine ybr λy=>?_;obtain ⟨h,_⟩:=S.first M .(a);lia
 .have g:(spL es).getD ((spL es).length-1) 0=(spL es)[(spL es).length-1]' .(a):=by
   rw[yad,yac .(a)];rfl
  rw[if_neg z,g];have h1:=S.lt (yaA (show (spL es).length-1<(spL es).length by lia));refine ⟨by lia,?_⟩;have hlen:2<=(zcp es).length:=ybr λy=>z (by rw[S.none M y];rfl);have h2:=S.last M hlen .(a);lia
theorem zeH {f:Nat->Nat}{i:Nat}:((List.range (i+1)).map f).map nV=(((List.range i).map f)++[f i]).map nV:=by
 rw[ybg,yal];rfl
theorem zkC {us:List Nat}:atI ((us++[c]).map nV) (-1)=some (nV c):=by
 unfold atI ixN;rw[yal];simp;rw[if_pos .(a)];show (List.map nV us++[nV c])[(-1+((us.length:Int)+1)).toNat]?=_;rw[show (-1+((us.length:Int)+1)).toNat=us.length by lia,ya4 (by rw[yab];exact yaa _),yab,ybI];rfl
def zqJ (K:Frag):Sp:=λvs H Q _=>∃(a:Addr) (ws:List V) (es:List En) (k:Nat),vs=[.ref a,.int k]/\H a=some (.lst ws)/\zam K H es ws/\es.length<=900/\
 ∀(p:Addr) (H':Hp),H p=none->Same H H'->H' p=some (.lst ((zpy k es).map nV))->Q (.ref p) H'
theorem zrV (T:Txt K mg)(qcs:DF K mg "owns_of" zfd zev):FC P w K mg base 1 "owns_of" zev (zqJ K):=by
 refine qcs.ok qbF .(c) .(b)
 .obtain ⟨a,ws,es,k,rfl,_⟩:=h;rfl
 obtain ⟨a,ws,es,k,rfl,ha,hw,hz,q⟩:=h;have hwl:=hw.length;refine ⟨_,(zaj (zaq (i:=2) qbF.nd rfl (Or.inl rfl) (zbj (zaa zai zad)))
   (zaj (zbr PassesOwn.never rfl (zbM (pv 0)) (zas (i:=3) qbF.nd rfl (Or.inl rfl)) (zae (zbi (zeW F.plainAttrs_list F.slot_list_append F.type_list_append za4 (pv 2) (zaa (zle (zau zfv (zaB (zay (K:=K)) (pv 3) zai (λ_ _=>rfl)) (pv 1) (zaH _)) (zaG zbn (zaB (zat (K:=K)) (pv 2) (zib ze4 zai) (λ_ _=>rfl)) zai) (zaB (zat (K:=K)) (pv 2) (zib ze4 zai) (λ_ _=>rfl))) zad)))))
   (zae (zaw (pv 2))))),?_⟩
 refine ⟨(by show 1<=sizeLine;decide),λp hp=>?_⟩;have k0:But p H (upd H p (.lst [V.int 0])):=λb o n e=>by rw[zag n];exact e
 have nap:a≠p:=zac ha hp;refine ⟨_,rfl,a,rfl,⟨_,SqL.of (k0 _ _ nap ha)⟩,?_⟩;refine zdS (xs:=ws) (λi U H2=>∃ x3:Option V,U=[some (.ref a),some (.int k),some (.ref p),x3]/\H2 p=some (.lst (((List.range (i+1)).map λp=>zeX k (es.take p)).map nV))/\But p H H2) ?_ ?_ ?_ ?_
 .exact ⟨_,rfl,zab,k0⟩
 .rintro i U H2 _ ⟨x3,rfl,_,k2⟩;exact SqL.of (k2 _ _ nap ha)
 .rintro i x U H2 hx ⟨x3,rfl,h2,k2⟩;obtain ⟨e,he,hhas⟩:=hw.get hx;obtain ⟨b,y1,y2,rfl,hb,hy1,hy2⟩:=(show hasP K H e x from hhas);have hy1:y1=.int e.1:=hy1;have hy2:y2=.int e.2:=hy2;subst hy1 hy2;have h2b:=k2 _ _ (zac hb hp) hb;have hi:=(yaj.mp he).1;have htk:es.take (i+1)=es.take i++[e]:=by
   rw[yaF hi,(yaj.mp he).2]
  have hon:=zlT k (es.take i) e;rw[<-htk]at hon;rw[zeH]at h2;have hlen:((((List.range i).map λp=>zeX k (es.take p))++[zeX k (es.take i)]).map nV).length < sizeLine:=zao (by
   rw[yab,yah,yab,yaL,yay];lia)
  have fin:∀ v:Nat,v=zeX k (es.take (i+1))->upd H2 p (.lst ((((List.range i).map λp=>zeX k (es.take p))++[zeX k (es.take i)]).map nV++[nV v])) p=some (.lst (((List.range (i+1+1)).map λp=>zeX k (es.take p)).map nV)):=λv hv=>by
   rw[zab,zeH,yal (l₂:=[zeX k (es.take (i+1))]),zeH,hv];rfl
  refine ⟨_,rfl,.inl ⟨rfl,_,SqL.of h2⟩,?_⟩;refine ⟨_,rfl,_,_,_,_,rfl,rfl,SqT.of h2b,rfl,_,rfl,rfl,_,rfl,?_⟩;refine ite2 .(n) .(n)
  .have c':e.2=(k:Int):=V.int.inj (yaH c);rw[if_pos c']at hon;refine ⟨_,rfl,_,rfl,_,_,_,_,rfl,rfl,SqL.of h2,zkC,_,_,rfl,rfl,_,_,_,rfl,rfl,h2,hlen,?_⟩;refine ⟨_,rfl,?_,λb o n e=>by rw[zag n];exact k2 b o n e⟩;have:=fin (zeX k (es.take i)+1) hon.symm;rw[<-this];rfl
  .have c':¬ e.2=(k:Int):=λz=>c (by rw[z];exact yai rfl);rw[if_neg c',ybk]at hon;refine ⟨_,rfl,_,rfl,_,_,_,_,rfl,rfl,SqL.of h2,zkC,_,_,_,rfl,rfl,h2,hlen,?_⟩;exact ⟨_,rfl,fin _ hon.symm,λb o n e=>by rw[zag n];exact k2 b o n e⟩
 .rintro U H2 ⟨x3,rfl,h2,k2⟩;refine ⟨_,rfl,?_⟩;rw[<-hwl]at h2;exact q p H2 hp (λb o e=>k2 b o (zac e hp) e) h2
def kvT:Nat->List En->List (List Key×V)
 | _,[]=>[]
 | o,e::es=>([.inl e.1,.inl e.2],nV (o+1))::kvT (o+1) es
abbrev kE (e:En):List Key:=[.inl e.1,.inl e.2]
theorem ztP (h:kE e=kE f):e=f:=by
 obtain ⟨a,b⟩:=e;obtain ⟨c,d⟩:=f;injection h with h1 h2;injection h2 with h2 _;have h1:a=c:=Sum.inl.inj h1;have h2:b=d:=Sum.inl.inj h2;rw[h1,h2]
theorem zki (e:En):∀(o:Nat) (es:List En),valV (kvT o es) (kE e)=if e∈es then some (nV (o+es.idxOf e+1)) else none
 | _,[]=>rfl
 | o,f::es=>by
  show valV ((kE f,nV (o+1))::kvT (o+1) es) (kE e)=_;by_cases z:f=e
  .subst z;rw[za8 rfl,if_pos yau,List.idxOf_cons_self]
  .rw[zaT (λy=>z (ztP y)),zki e (o+1) es];have hm:(e∈f::es)=(e∈es):=propext ⟨λh=>(yag.mp h).resolve_left λy=>z y.symm,λh=>yar _ h⟩;by_cases y:e∈es
   .have ei:(f::es).idxOf e=es.idxOf e+1:=by
     rw[List.idxOf_cons,beq_false_of_ne z];rfl
    rw[if_pos y,if_pos (by rw[hm];exact y),ei];congr 2;have:o+1+es.idxOf e+1=o+(es.idxOf e+1)+1:=by lia
    rw[this]
   .rw[if_neg y,if_neg (by rw[hm];exact y)]
theorem zls (e:En):∀(o:Nat) (es:List En),kvT o (es++[e])=kvT o es++[(kE e,nV (o+es.length+1))]
 | _,[]=>rfl
 | o,f::es=>by
  show (kE f,nV (o+1))::kvT (o+1) (es++[e])=(kE f,nV (o+1))::(kvT (o+1) es++_);rw[zls e (o+1) es,yaM,show o+1+es.length+1=o+(es.length+1)+1 by lia]
theorem zn7:∀(o:Nat) (es:List En),(kvT o es).length=es.length
 | _,[]=>rfl
 | o,e::es=>by
  show (kvT (o+1) es).length+1=es.length+1;rw[zn7 (o+1) es]
def zkU (K:Frag):Sp:=λvs H Q _=>∃(a c:Addr) (ws vs':List V) (es cs:List En),vs=[.ref a,.ref c]/\H a=some (.lst ws)/\zam K H es ws/\es.length<=900/\H c=some (.lst vs')/\zam K H cs vs'/\cs.length<=900/\cs.Nodup/\
 ∀(p:Addr) (H':Hp),H p=none->Same H H'->H' p=some (.lst ((zfI es cs).map nV))->Q (.ref p) H'
theorem zny (T:Txt K mg)(qbt:DF K mg "starts_of" zdv zc7):FC P w K mg base 1 "starts_of" zc7 (zkU K):=by
 refine qbt.ok qaC .(c) .(b)
 .obtain ⟨a,c,ws,us,es,cs,rfl,_⟩:=h;rfl
 obtain ⟨a,c,ws,us,es,cs,rfl,ha,hw,hz,hc,hu,hzc,hnd,q⟩:=h;have hwl:=hw.length;have hul:=hu.length;refine ⟨_,(zaj (zaq (i:=2) qaC.nd rfl (Or.inl rfl) zlg)
   (zaj (zbr PassesOwn.never rfl (zd6 rfl T.qbm (zaa (pv 1) zad)) (zgN rfl (zaZ (zas (i:=3) qaC.nd rfl (Or.inl rfl)) (zaZ (zas (i:=4) qaC.nd rfl (Or.inl rfl)) zdK))) (zae (zd5 (zdq hr) (pv 2) (pv 4) (zaG zbn (pv 3) zai) rfl)))
   (zaj (zaq (i:=5) qaC.nd rfl (Or.inl rfl) (zbj (zaa zai zad)))
   (zaj (zbr PassesOwn.never rfl (zbM (pv 0)) (zas (i:=4) qaC.nd rfl (Or.inl rfl)) (zae (zbi (zeW F.plainAttrs_list F.slot_list_append F.type_list_append za4 (pv 5) (zaa (zpu (zdq hr) (pv 2) (pv 4) (zaB (zat (K:=K)) (pv 5) (zib ze4 zai) (λ_ _=>rfl)) ⟨rfl,rfl,rfl,rfl⟩) zad)))))
   (zae (zaw (pv 5))))))),?_⟩
 intro D hD;have k0:But D H (upd H D (.dT [])):=λb o n e=>by rw[zag n];exact e
 have naD:a≠D:=zac ha hD;have ncD:c≠D:=zac hc hD;refine ⟨_,rfl,c,rfl,⟨_,SqL.of (k0 _ _ ncD hc)⟩,?_⟩;refine ziw (xs:=us) (λi U H2=>∃ x3 x4:Option V,U=[some (.ref a),some (.ref c),some (.ref D),x3,x4,none]/\H2 D=some (.dT (kvT 0 (cs.take i)))/\But D H H2) ?_ ?_ ?_ ?_
 .exact ⟨_,_,rfl,zab,k0⟩
 .rintro i U H2 _ ⟨x3,x4,rfl,_,k2⟩;exact SqL.of (k2 _ _ ncD hc)
 .rintro i x U H2 r hx ⟨x3,x4,rfl,h2,k2⟩ hr;obtain ⟨e,he,hhas⟩:=hu.get hx;obtain ⟨b,y1,y2,rfl,hb,hy1,hy2⟩:=(show hasP K H e x from hhas);have hy1:y1=.int e.1:=hy1;have hy2:y2=.int e.2:=hy2;subst hy1 hy2;have hi:=(yaj.mp he).1;have htk:cs.take (i+1)=cs.take i++[e]:=by
   rw[yaF hi,(yaj.mp he).2]
  refine ⟨r,_,rfl,SqT.of zab,rfl,_,_,rfl,_,_,rfl,rfl,?_⟩;have sr:=zak hr (.tup [.int (i:Int),.ref b]);have h3:=sr _ _ h2;have k3:But D H (upd H2 r (.tup [.int (i:Int),.ref b])):=λb o n e=>sr b o (k2 b o n e);clear sr;generalize upd H2 r (.tup [.int (i:Int),.ref b])=H3 at h3 k3 ⊢;have h3b:=k3 _ _ (zac hb hD) hb;have hnot:e∉cs.take i:=λz=>by
   have hn2:=hnd;rw[<-yaX (i+1) cs,htk]at hn2;have:=(ya2.mp (ya2.mp hn2).1).2.2 e z e (yaq.mpr rfl);exact this rfl
  refine ⟨_,rfl,_,_,rfl,rfl,_,rfl,_,rfl,D,_,rfl,DPut.t (k:=kE e) h3 h3b (zao (by rw[zn7,yao];lia)),?_⟩;refine ⟨_,_,rfl,?_,λb o n e=>by rw[zag n];exact k3 b o n e⟩;rw[zab,zc6 _ (by rw[zki,if_neg hnot]),htk,zls,yao,ybu .(a),ybK];rfl
 .rintro U H2 ⟨x3,x4,rfl,h2,k2⟩;rw[yas .(a)]at h2;refine ⟨(by show 1<=sizeLine;decide),λp hp=>?_⟩;have nDp:D≠p:=zac h2 hp;have s2:Same H H2:=λb o e=>k2 b o (zac e hD) e;have k3:But p H2 (upd H2 p (.lst [V.int 0])):=λb o n e=>by rw[zag n];exact e
  have h2a:=s2 _ _ ha;refine ⟨_,rfl,a,rfl,⟨_,SqL.of (k3 _ _ (zac h2a hp) h2a)⟩,?_⟩;refine zdS (xs:=ws) (λi U H4=>∃ x4:Option V,U=[some (.ref a),some (.ref c),some (.ref D),x3,x4,some (.ref p)]/\H4 p=some (.lst (((List.range (i+1)).map λp=>stN cs (es.take p)).map nV))/\But p H2 H4) ?_ ?_ ?_ ?_
  .exact ⟨_,rfl,zab,k3⟩
  .rintro i U H4 _ ⟨x4,rfl,_,k4⟩;exact SqL.of (k4 _ _ (zac h2a hp) h2a)
  .rintro i x U H4 hx ⟨x4,rfl,h4,k4⟩;obtain ⟨e,he,hhas⟩:=hw.get hx;obtain ⟨b,y1,y2,rfl,hb,hy1,hy2⟩:=(show hasP K H e x from hhas);have hy1:y1=.int e.1:=hy1;have hy2:y2=.int e.2:=hy2;subst hy1 hy2;have h2b:=s2 _ _ hb;have h4b:=k4 _ _ (zac h2b hp) h2b;have h4D:=k4 _ _ nDp h2;have hi:=(yaj.mp he).1;have htk:es.take (i+1)=es.take i++[e]:=by
    rw[yaF hi,(yaj.mp he).2]
   have hon:=zkS cs (es.take i) e;rw[<-htk]at hon;rw[zeH]at h4;have hlen:((((List.range i).map λp=>stN cs (es.take p))++[stN cs (es.take i)]).map nV).length < sizeLine:=zao (by
    rw[yab,yah,yab,yaL,yay];lia)
   refine ⟨_,rfl,.inl ⟨rfl,_,SqL.of h4⟩,?_⟩;refine ⟨_,rfl,D,rfl,.inr ⟨_,.inl h4D⟩,_,rfl,_,rfl,_,rfl,_,_,_,_,rfl,rfl,SqL.of h4,zkC,_,DGet.t (k:=kE e) h4D h4b,?_⟩;have ev:(valV (kvT 0 cs) (kE e)).getD (nV (stN cs (es.take i)))=nV (stN cs (es.take (i+1))):=by
    rw[zki,hon];by_cases z:e∈cs
    .rw[if_pos z,if_pos z,ybK];rfl
    .rw[if_neg z,if_neg z];rfl
   rw[ev];refine ⟨_,_,_,rfl,rfl,h4,hlen,?_⟩;refine ⟨_,rfl,?_,λb o n e=>by rw[zag n];exact k4 b o n e⟩;rw[zab,zeH,yal (l₂:=[stN cs (es.take (i+1))]),zeH];rfl
  .rintro U H4 ⟨x4,rfl,h4,k4⟩;refine ⟨_,rfl,?_⟩;rw[<-hwl]at h4;refine q p H4 (s2.free hp) (s2.trans λb o e=>k4 b o (zac e hp) e) h4
theorem zaO {α β:Type}{F G:α->β->Prop}(h:∀ a b,F a b->G a b):∀{l:List α} {m:List β},Paired F l m->Paired G l m
 | _,_,.nil=>.nil
 | _,_,.cons a t=>.cons (h _ _ a) (zaO h t)
theorem zcL {α β:Type}{F:α->β->Prop}{a:α}{b:β}:∀{l:List α} {m:List β},Paired F l m->F a b->Paired F (l++[a]) (m++[b])
 | _,_,.nil,h=>.cons h .nil
 | _,_,.cons a t,h=>.cons a (zcL t h)
theorem zeD {α β:Type}{F:α->β->Prop}:∀{l:List α} {m:List β} {i:Nat} {a:α},Paired F l m->l[i]?=some a->∃ b,m[i]?=some b/\F a b
 | _,_,i,a,.nil,h=>by simp at h
 | _::_,b::_,0,a,.cons h t,e=>by
  have:=yae (show some _=some a from e);subst this;exact ⟨b,rfl,h⟩
 | _::_,_::_,i+1,a,.cons h t,e=>by
  obtain ⟨q,h1,h2⟩:=zeD (i:=i) t (by simpa using e);exact ⟨q,by simpa using h1,h2⟩
theorem zdM {α β:Type}{F:α->β->Prop}:∀{l:List α} {m:List β} {i:Nat} {b:β},Paired F l m->m[i]?=some b->∃ a,l[i]?=some a/\F a b
 | _,_,i,a,.nil,h=>by simp at h
 | a::_,_::_,0,b,.cons h t,e=>by
  have:=yae (show some _=some b from e);subst this;exact ⟨a,rfl,h⟩
 | _::_,_::_,i+1,a,.cons h t,e=>by
  obtain ⟨q,h1,h2⟩:=zdM (i:=i) t (by simpa using e);exact ⟨q,by simpa using h1,h2⟩
def zbS (Av:List Addr)(H:Hp)(es:List En)(ps:List Nat)(rows:List .(k))(c:Nat)(x:V):Prop:=∃ j s,x=.ref j/\s∉Av/\H j=some (.tup [.int (c:Int),.ref s])/\H s=some (.lst ((zfI es .(l)).map nV))
def BrAt (Av:List Addr)(H:Hp)(ps:List Nat)(rows:List .(k))(k:Nat)(x:V):Prop:=∃ b o j xs,x=.ref b/\o∉Av/\j∉Av/\H b=some (.tup [.int (.(e).length:Nat),.ref o,.ref j])/\H o=some (.lst ((zpy k .(e)).map nV))/\H j=some (.lst xs)/\Paired (zbS Av H .(e) ps rows) (zaK ps k (ps.length+1)) xs
theorem zbS.same {c:Nat}(e:Same H H')(h:zbS Av H es ps rows c x):zbS Av H' es ps rows c x:=by
 obtain ⟨j,s,h1,h2,h3,h4⟩:=h;exact ⟨j,s,h1,h2,e _ _ h3,e _ _ h4⟩
theorem zbS.but {p:Addr}{Av:List Addr}{c:Nat}{zs:List V}(k:But p H H')(hp:p∈Av)(hz:H p=some (.lst zs))(h:zbS Av H es ps rows c x):zbS Av H' es ps rows c x:=by
 obtain ⟨j,s,h1,h2,h3,h4⟩:=h;exact ⟨j,s,h1,h2,k _ _ (λz=>by rw[z,hz]at h3;cases h3) h3,k _ _ (λz=>h2 (z ▸ hp)) h4⟩
theorem zbS.less {Av Av':List Addr}{c:Nat}(s:∀ a∈Av',a∈Av)(h:zbS Av H es ps rows c x):zbS Av' H es ps rows c x:=by
 obtain ⟨j,q,h1,h2,h3,h4⟩:=h;exact ⟨j,q,h1,λz=>h2 (s _ z),h3,h4⟩
theorem BrAt.same {k:Nat}(e:Same H H')(h:BrAt Av H ps rows k x):BrAt Av H' ps rows k x:=by
 obtain ⟨b,o,j,xs,h1,h2,h3,h4,h5,h6,h7⟩:=h;exact ⟨b,o,j,xs,h1,h2,h3,e _ _ h4,e _ _ h5,e _ _ h6,zaO (λa b=>zbS.same e) h7⟩
theorem BrAt.but {p:Addr}{Av:List Addr}{k:Nat}{zs:List V}(kk:But p H H')(hp:p∈Av)(hz:H p=some (.lst zs))(h:BrAt Av H ps rows k x):BrAt Av H' ps rows k x:=by
 obtain ⟨b,o,j,xs,h1,h2,h3,h4,h5,h6,h7⟩:=h;exact ⟨b,o,j,xs,h1,h2,h3,kk _ _ (λz=>by rw[z,hz]at h4;cases h4) h4,kk _ _ (λz=>h2 (z ▸ hp)) h5,kk _ _ (λz=>h3 (z ▸ hp)) h6,zaO (λa b=>zbS.but kk hp hz) h7⟩
theorem BrAt.less {k:Nat}(h:BrAt Av H ps rows k x):BrAt [] H ps rows k x:=by
 obtain ⟨b,o,j,xs,h1,h2,h3,h4,h5,h6,h7⟩:=h;exact ⟨b,o,j,xs,h1,nofun,nofun,h4,h5,h6,zaO (λa b=>zbS.less (λa z=>absurd z yaz)) h7⟩
def spBr (K:Frag):Sp:=λvs H Q _=>∃(st:Addr) (ps:List Nat) (rows:List (List Int)) (t rs:Addr) (as:List Addr),vs=[.ref st]/\za1 H st ps rows t rs as/\
 ∀(p:Addr) (xs:List V) (H':Hp),H p=none->Same H H'->H' p=some (.lst xs)->Paired (BrAt [] H' ps rows) (List.range (ps.length+1)) xs->Q (.ref p) H'
def zm1 (K:Frag):Sp:=λvs H Q _=>∃(st:Addr) (ps:List Nat) (rows:List (List Int)) (t rs:Addr) (as:List Addr) (pf:Addr) (qs:List Addr),vs=[.ref t,.ref pf]/\za1 H st ps rows t rs as/\H pf=some (.lst (qs.map V.ref))/\zaJ K H ps rows (List.range (ps.length+1)) qs/\
 ∀(p:Addr) (xs:List V) (H':Hp),H p=none->Same H H'->H' p=some (.lst xs)->Paired (BrAt [] H' ps rows) (List.range (ps.length+1)) xs->Q (.ref p) H'
theorem zr6 (T:Txt K mg)(qbc:DF K mg "bridges_of" zc2 zce)(qbL:FC P w K mg base 1 "children" zcJ (zdi K))(qdG:FC P w K mg base 1 "starts_of" zc7 (zkU K))(qeD:FC P w K mg base 1 "owns_of" zev (zqJ K)):FC P w K mg base 2 "bridges_of" zce (zm1 K):=by
 refine qbc.ok qaF .(c) .(b)
 .obtain ⟨st,ps,rows,t,rs,as,pf,qs,rfl,_⟩:=h;rfl
 obtain ⟨st,ps,rows,t,rs,as,pf,qs,rfl,S,h1,hF,q⟩:=h;refine ⟨_,(zaj (zaq (i:=2) qaF.nd rfl (Or.inl rfl) (zbj zad))
   (zaj (zbr PassesOwn.never rfl (zd6 rfl T.qbm (zaa (pv 1) zad)) (zgN rfl (zaZ (zas (i:=3) qaF.nd rfl (Or.inl rfl)) (zaZ (zas (i:=4) qaF.nd rfl (Or.inr rfl)) zdK))) (zaj (zgJ (i:=5) (N:=["child","full","fulls"]) (own:=1) (cap:=[4,1]) qaF.nd rfl rfl rfl (zbM (zax qbL hr (zaa (pv 0) (zaa (pv 3) zad)))) ⟨rfl,rfl,rfl,rfl,rfl,rfl⟩ (λ_ _ _ _ _=>(zas (i:=0) (show List.Nodup (["child","full","fulls"]:List Str) by decide +kernel) rfl (Or.inl rfl))) (λ_ _ _ _ _=>zcb) (λ_ _ _ _ _=>(zaX (zaa (pv 0) (zaa (zax qdG hr (zaa (pv 1) (zaa (zaB (zat (K:=K)) (pv 2) (pv 0) (λ_ _=>rfl)) zad))) zad)))))
   (zae (zbi (zeW F.plainAttrs_list F.slot_list_append F.type_list_append za4 (pv 2) (zaa (zaX (zaa (zan (zal (K:=K)) rfl T.qaq boot_len (zaa (pv 4) zad)) (zaa (zax qeD hr (zaa (pv 4) (zaa (pv 3) zad))) (zaa (pv 5) zad)))) zad))))))
   (zae (zaw (pv 2))))),?_⟩
 have hfew:=S.few;have hkeys:=S.keys;have hql:=hF.length;rw[yaL]at hql;refine ⟨(by show 0<=sizeLine;decide),λp hp=>?_⟩;have k0:But p H (upd H p (.lst [])):=λb o n e=>by rw[zag n];exact e
 have npf:pf≠p:=zac h1 hp;refine ⟨_,rfl,pf,rfl,⟨_,SqL.of (k0 _ _ npf h1)⟩,?_⟩;refine ziw (xs:=qs.map V.ref) (λi U H2=>∃(xs:List V) (x4 x5 x6:Option V),U=[some (.ref t),some (.ref pf),some (.ref p),x4,x5,x6]/\H2 p=some (.lst xs)/\Paired (BrAt [p] H2 ps rows) (List.range i) xs/\But p H H2) ?_ ?_ ?_ ?_
 .exact ⟨[],_,_,_,rfl,zab,.nil,k0⟩
 .rintro i U H2 _ ⟨xs,x4,x5,x6,rfl,_,_,k2⟩;exact SqL.of (k2 _ _ npf h1)
 .rintro i x U H2 r hx ⟨xs,x4,x5,x6,rfl,h2,hB,k2⟩ hr;rw[yam]at hx;obtain ⟨qq,hqi,rfl⟩:=ybq.mp hx;have hi:i<ps.length+1:=by
   have:=(yaj.mp hqi).1;lia
  have hxl:xs.length=i:=by
   have:=Paired.length hB;rw[yaL]at this;exact this.symm
  have noP:∀{b:Addr} {o:HO},H b=some o->b≠p:=λe=>zac e hp;have s12:Same H H2:=λb o e=>k2 b o (noP e) e;have S2:=S.same s12;have F2:=hF.same s12;have h2f:=s12 _ _ h1;obtain ⟨q2,hq2,ws,hq3,hw3⟩:=F2.get (i:=i) (j:=i) (ya7 hi);rw[hqi]at hq2;have:=yae hq2;subst this;refine ⟨r,_,rfl,SqT.of zab,rfl,_,_,rfl,_,_,rfl,rfl,?_⟩;have sr:=zak hr (.tup [.int (i:Int),.ref qq]);generalize upd H2 r (.tup [.int (i:Int),.ref qq])=H3 at sr ⊢;refine ⟨_,rfl,_,rfl,t,ps,i,rfl,sr _ _ S2.tr,by lia,λc H4 hc s4 h4=>?_⟩;have s24:Same H2 H4:=sr.trans s4;refine ⟨c,rfl,⟨_,SqL.of h4⟩,λD hD=>?_⟩;have hpD:p≠D:=zac (s24 _ _ h2) hD;have F4:=F2.same s24;have h4q:=s24 _ _ hq3;have h4w:=hw3.mono s24.ext;have hfl:=zed S.T S.len (rows:=rows) hi;refine zbR (xs:=(zaK ps i (ps.length+1)).map nV) (λm U H5=>∃(ys:List V) (x0:Option V),U=[x0,some (.ref qq),some (.ref pf)]/\H5 D=some (.lst ys)/\Paired (zbS [p,D] H5 (zaf ps rows i) ps rows) ((zaK ps i (ps.length+1)).take m) ys/\But D H4 H5) ?_ ?_ ?_ ?_
  .exact ⟨[],_,rfl,zab,.nil,λb o n e=>by rw[zag n];exact e⟩
  .rintro m U H5 _ ⟨ys,x0,rfl,_,_,k5⟩;exact k5.sq (SqL.of h4) hD
  .rintro m u x U H5 hx hm ⟨ys,x0,rfl,h5,hJ,k5⟩;obtain ⟨hmi,rfl⟩:=zjv hx;have hcl:=zcD ps i (ps.length+1);have hyl:=Paired.length hJ;rw[yao]at hyl;rw[yab]at hm;have hcm:(zaK ps i (ps.length+1))[m]?=some ((zaK ps i (ps.length+1)).getD m 0):=by
    rw[yad,yac hmi];rfl
   have htk2:(zaK ps i (ps.length+1)).take (m+1)=(zaK ps i (ps.length+1)).take m++[(zaK ps i (ps.length+1)).getD m 0]:=by
    rw[yaF hmi,yad,yac hmi];rfl
   rw[htk2];generalize (zaK ps i (ps.length+1)).getD m 0=ch at hcm ⊢;obtain ⟨hchn,hchp⟩:=zaE.mp (yaN hcm);have s45:Same H4 H5:=λb o e=>k5 b o (zac e hD) e;have F5:=F4.same s45;obtain ⟨qc,hqc,wc,hqc3,hwc⟩:=F5.get (i:=ch) (j:=ch) (ya7 hchn);have hfc:=zed S.T S.len (rows:=rows) hchn;refine zdn ?_;refine ⟨_,rfl,_,rfl,_,rfl,_,rfl,_,_,_,_,rfl,rfl,SqL.of (s45 _ _ (s24 _ _ h2f)),zct hqc,?_⟩;refine ⟨qq,qc,ws,wc,zaf ps rows i,zaf ps rows ch,rfl,s45 _ _ h4q,h4w.mono s45.ext,by lia,hqc3,hwc,by lia,zcR S.T S.R hchn,λsa H6 hsa s6 h6=>?_⟩;refine ⟨(by show 2<=sizeLine;decide),λj hj=>?_⟩;have sj:=zak hj (.tup [.int (ch:Int),.ref sa]);have hjj:upd H6 j (.tup [.int (ch:Int),.ref sa]) j=some (.tup [.int (ch:Int),.ref sa]):=zab;generalize upd H6 j (.tup [.int (ch:Int),.ref sa])=H7 at sj hjj ⊢;have s57:=s6.trans sj;have h7D:=s57 _ _ h5;have nsaD:sa≠D:=Ne.symm (zac h5 hsa);have nsap:sa≠p:=Ne.symm (zac (s45 _ _ (s24 _ _ h2)) hsa);have kD:But D H7 (upd H7 D (.lst (ys++[.ref j]))):=λb o n e=>by rw[zag n];exact e
   refine ⟨_,h7D,zao .(a),u-1,by lia,by rw[yab];lia,ys++[.ref j],_,rfl,zab,?_,λb o n e=>by rw[zag n];exact s57 _ _ (k5 b o n e)⟩;refine zcL (zaO (λa b h=>zbS.but kD (yar _ yau) h7D (zbS.same s57 h)) hJ) ?_;refine zbS.but kD (yar _ yau) h7D ⟨j,sa,rfl,?_,hjj,sj _ _ h6⟩;intro z;rcases yag.mp z with z|z
   .exact nsap z
   .exact nsaD (yaq.mp z)
  .rintro U H5 ⟨ys,x0,rfl,h5,hJ,k5⟩;rw[yab,yas (yaa _)]at hJ;have s45:Same H4 H5:=λb o e=>k5 b o (zac e hD) e;have s25:=s24.trans s45;refine ⟨_,rfl,.inl ⟨rfl,_,SqL.of (s25 _ _ h2)⟩,_,rfl,_,_,rfl,.inl (SqL.of (s45 _ _ h4q)),?_⟩;have hwl:=h4w.length;refine ⟨_,rfl,_,rfl,qq,ws,zaf ps rows i,i,rfl,s45 _ _ h4q,h4w.mono s45.ext,by lia,λo H6 ho s6 h6=>?_⟩;refine ⟨_,rfl,(by show 3<=sizeLine;decide),λb hb=>?_⟩;have sb:=zak hb (.tup [.int ((ws.length:Nat):Int),.ref o,.ref D]);have hbb:upd H6 b (.tup [.int ((ws.length:Nat):Int),.ref o,.ref D]) b=some (.tup [.int ((ws.length:Nat):Int),.ref o,.ref D]):=zab;generalize upd H6 b (.tup [.int ((ws.length:Nat):Int),.ref o,.ref D])=H7 at sb hbb ⊢;have s57:=s6.trans sb;have s27:=s25.trans s57;have h7p:=s27 _ _ h2;have kp:But p H7 (upd H7 p (.lst (xs++[.ref b]))):=λb o n e=>by rw[zag n];exact e
   have nop:o≠p:=Ne.symm (zac (s25 _ _ h2) ho);refine ⟨_,_,_,rfl,rfl,h7p,zao .(a),?_⟩;refine ⟨xs++[.ref b],_,_,_,rfl,zab,?_,λb o n e=>by rw[zag n];exact s27 _ _ (k2 b o n e)⟩;rw[ybg];refine zcL (zaO (λa b h=>BrAt.but kp yau h7p (BrAt.same s27 h)) hB) ?_;refine BrAt.but kp yau h7p ⟨b,o,D,ys,rfl,λz=>nop (yaq.mp z),λz=>hpD (yaq.mp z).symm,?_,sb _ _ h6,s57 _ _ h5,?_⟩
   .rw[hbb,hwl]
   .exact zaO (λa b h=>zbS.same s57 (zbS.less (λa z=>by rw[yaq.mp z];exact yau) h)) hJ
 .rintro U H2 ⟨xs,x4,x5,x6,rfl,h2,hB,k2⟩;refine ⟨_,rfl,?_⟩;rw[yab,<-hql]at hB;refine q p xs H2 hp (λb o e=>k2 b o (zac e hp) e) h2 (zaO (λa b=>BrAt.less) hB)
theorem zlZ (T:Txt K mg)(qct:DF K mg "bridges" zfi zeB)(qaR:FC P w K mg base 8 "full_rows" zb5 (zhV K))(qbd:FC P w K mg base 2 "bridges_of" zce (zm1 K)):FC P w K mg base 9 "bridges" zeB (spBr K):=by
 refine qct.ok qdY .(c) .(b)
 .obtain ⟨st,ps,rows,t,rs,as,rfl,_⟩:=h;rfl
 obtain ⟨st,ps,rows,t,rs,as,rfl,S,q⟩:=h;refine ⟨_,(zae (zaw (zax qbd hr (zaa (zaB (zay (K:=K)) (pv 0) zai (λ_ _=>rfl)) (zaa (zax qaR hr (zaa (pv 0) zad)) zad))))),?_⟩;refine ⟨_,rfl,_,_,_,_,rfl,rfl,SqT.of S.st,rfl,?_⟩;refine ⟨_,rfl,st,ps,rows,t,rs,as,rfl,S,λpf qs H1 hpf s1 h1 hqn hqf hpq hF=>?_⟩;exact ⟨st,ps,rows,t,rs,as,pf,qs,rfl,S.same s1,h1,hF,λp xs H2 hp s2 h2 hB=>q p xs H2 (s1.free hp) (s1.trans s2) h2 hB⟩
theorem zis {rows:List .(k)}{row:List Int}(h:row∈rows):row.length<=zbz rows:=by
 unfold zbz
 induction rows with
 | nil=>cases h
 | cons r rows ih=>
  rw[yap,yaJ];rcases yag.mp h with e|e
  .rw[e];lia
  .have:=ih e;lia
theorem zoa {m:Nat}:∀{rows:List (List Int)},(∀ row∈rows,row.length<=m)->zbz rows<=rows.length*m
 | [],_=>yaG _
 | r::rows,h=>by
  have h1:=h r yau;have h2:=zoa (m:=m) (rows:=rows) λx hx=>h x (yar _ hx);unfold zbz at h2 ⊢;rw[yap,yaJ,yaM,Nat.succ_mul];lia
def zaz (es:List (Int×Int))(key:Int):Nat:=(es.filter λe=>decide (e.1<key)).length
theorem zoY {es:List (Int×Int)}{key:Int}{m:Nat}(hm:m<=es.length)(h1:∀ i,i<m->decide ((es.getD i (0,0)).1<key)=true)(h2:∀ i,m<=i->i<es.length->decide ((es.getD i (0,0)).1<key)=false):zaz es key=m:=by
 unfold zaz
 conv=>lhs;rw[<-yaX m es]
 rw[yaQ,yah];have e1:(es.take m).filter (λe=>decide (e.1<key))=es.take m:=by
  rw[yce];intro x hx;obtain ⟨i,hi,rfl⟩:=yaP hx;rw[yao]at hi;have:=h1 i .(a);rw[yad,yac .(a)]at this;rw[List.getElem_take];exact this
 have e2:(es.drop m).filter (λe=>decide (e.1<key))=[]:=by
  rw[ya8];intro x hx;obtain ⟨i,hi,rfl⟩:=yaP hx;rw[yaR]at hi;have:=h2 (m+i) .(a) .(a);rw[yad,yac .(a)]at this;rw[List.getElem_drop];intro z;rw[show decide (es[m+i].1<key)=false from this]at z;cases z
 rw[e1,e2,yao,ybi];lia
theorem zfl (h:Rise es):es.Pairwise (λa b=>a.1<=b.1):=h.imp λ{a b} h=>by
 have:=zcs.mp h;lia
theorem zcT (es:List (Int×Int))(key:Int):zaz es key<=es.length:=ya3 _ _
theorem zdT {key:Int}:∀{es:List (Int×Int)},es.Pairwise (λa b=>a.1<=b.1)->(∀ e∈es.take (zaz es key),e.1<key)/\∀ e∈es.drop (zaz es key),¬ e.1<key
 | [],_=>⟨λe he=>(by simp at he),λe he=>(by simp at he)⟩
 | a::es,h=>by
  rw[yck]at h;obtain ⟨h1,h2⟩:=zdT (key:=key) h.2;by_cases c:a.1<key
  .have e:zaz (a::es) key=zaz es key+1:=by
    unfold zaz;rw[yaS (by simpa using c),yaM]
   rw[e,List.take_succ_cons,List.drop_succ_cons];refine ⟨λx hx=>?_,h2⟩;rcases yag.mp hx with z|z
   .rw[z];exact c
   .exact h1 x z
  .have all:∀ x∈a::es,¬ x.1<key:=λx hx=>by
    rcases yag.mp hx with z|z
    .rw[z];exact c
    .have:=h.1 x z;lia
   have e:zaz (a::es) key=0:=by
    unfold zaz;rw[ya8.mpr λx hx=>by simpa using all x hx];rfl
   rw[e];exact ⟨λx hx=>(by simp at hx),λx hx=>all x (by simpa using hx)⟩
theorem zf3 {es:List (Int×Int)}(h:es.Pairwise (λa b=>a.1<=b.1)):es.take (zaz es key)=es.filter λe=>decide (e.1<key):=by
 obtain ⟨h1,h2⟩:=zdT (key:=key) h
 conv=>rhs;rw[<-yaX (zaz es key) es]
 rw[yaQ,yce.mpr λe he=>yai (h1 e he),ya8.mpr λe he z=>h2 e he (yaH z),yaC]
theorem ziF {es:List (Int×Int)}(h:es.Pairwise (λa b=>a.1<=b.1)){i:Nat}(hi:i<es.length):(i<zaz es key->es[i].1<key)/\(zaz es key<=i->¬ es[i].1<key):=by
 obtain ⟨h1,h2⟩:=zdT (key:=key) h;refine ⟨λz=>h1 _ ?_,λz=>h2 _ ?_⟩
 .exact List.mem_take_iff_getElem.mpr ⟨i,by lia,rfl⟩
 .refine List.mem_drop_iff_getElem.mpr ⟨i-zaz es key,by lia,?_⟩;congr 1;lia
structure zt8 (C F hd:List (Int×Int))(key:Int)(st:Nat):Prop where
 lo:st<=zaz C key
 hi:zaz C key<=st+2
 none:st=0->∀ e∈hd,¬ e.1<key
 some:st≠0->∃ h:st-1<C.length,C[st-1]∈hd/\C[st-1].1<key/\C[st-1]∈F
theorem znK (T:zaA ps)(R:zaL rows)(few:ps.length<=40){k c:Nat}(hk:k<ps.length+1)(hc:par ps c=some k)(key:Int) :
  zt8 .(l) .(e) (zbm .(l)) key (stN .(l) (.(e).take (zaz .(e) key))):=by
 have hcn:=(zaM T hc).2;have hst:=zsY T R hk hc (rows:=rows) (zaz .(e) key) (zcT _ _);have hF:=zfl (zaC T R hk);have hC:=zfl (zaC T R hcn);have hcome:=zoM T R hk hc (rows:=rows);have hgr:=λt=>zrx (zee T R few hcn) (zaC T R hcn) (t:=t);have hla:=zrw (zee T R few hcn) (zaC T R hcn);have hsub:=zaP .(l);have hpick:=zhD .(l);have hspl:∀ j∈spL (zaf ps rows c),j< .(l).length:=λj hj=>by
  have:=(zkZ .(l)).lt hj;rw[zbI]at this;exact this
 have ht:inN .(l) (.(e).take (zaz .(e) key))=zaz (zbm .(l)) key:=by
  unfold inN;rw[zf3 hF,<-hcome];unfold zaz;rw[ycl,ycl];congr 2
  funext e
  rw[Bool.and_comm]
 rw[hst,ht];have hmem:∀ e∈zbm (zaf ps rows c),e∈zaf ps rows k:=λe he=>by
  rw[<-hcome]at he;exact (yaY.mp he).1
 clear hst ht hcome hF;generalize zaf ps rows k=F at hmem ⊢;generalize zaf ps rows c=C at *;have hhd:(zbm C).Pairwise (λa b=>a.1<=b.1):=hC.sublist hsub;have hlen:(zbm C).length=(spL C).length:=by rw[hpick,yab]
 have hti:=zcT (zbm C) key;have hat:∀ i (h:i<(spL C).length),∃(h1:(spL C)[i]<C.length) (h2:i<(zbm C).length),(zbm C)[i]=C[(spL C)[i]]:=λi h=>by
  have h1:=hspl _ (yaA h);refine ⟨h1,by lia,?_⟩;have e:(zbm C)[i]?=some C[(spL C)[i]]:=by
   rw[hpick,yam,yac h];show some (C.getD (spL C)[i] (0,0))=_;rw[yad,yac h1];rfl
  exact (yaj.mp e).2
 have bat:=λi h=>ziF (key:=key) hhd (i:=i) h;have cat:=λi h=>ziF (key:=key) hC (i:=i) h;have hall:=zdT (key:=key) hhd;generalize zaz (zbm C) key=t at *;have hsp:∀ i (h:i<(spL C).length),stAt (spL C) (i+1)=(spL C)[i]+1:=λi h=>by
  unfold stAt;rw[if_neg .(a),ybH,yad,yac h];rfl
 have before:∀ t',t=t'+1->∃(h:t'<(spL C).length) (h1:(spL C)[t']<C.length),stAt (spL C) t=(spL C)[t']+1/\C[(spL C)[t']]∈zbm C/\C[(spL C)[t']].1<key:=λt' e=>by
  have h:t'<(spL C).length:=by lia
  obtain ⟨h1,h2,h3⟩:=hat t' h;refine ⟨h,h1,by rw[e];exact hsp t' h,?_,?_⟩
  .rw[<-h3];exact yaA h2
  .rw[<-h3];exact (bat t' h2).1 .(a)
 refine ⟨?_,?_,?_,?_⟩
 .cases t with
  | zero=>exact yaG _
  | succ t'=>
   obtain ⟨h,h1,e,_,hlt⟩:=before t' rfl;rw[e];refine Nat.succ_le_of_lt (Nat.lt_of_not_le λz=>(cat _ h1).2 z hlt)
 .rcases ybZ t (spL C).length with z|z
  .obtain ⟨h1,h2,h3⟩:=hat t z;have hge:¬ C[(spL C)[t]].1<key:=by
    rw[<-h3];exact (bat t h2).2 (yaa _)
   have hle:zaz C key<=(spL C)[t]:=ybr λy=>hge ((cat _ h1).1 y);have:=hgr t z;rw[hsp t z]at this;lia
  .have e:t=(spL C).length:=by lia
   rw[e];have:=zcT C key;lia
 .intro z;cases t with
  | zero=>exact λe he=>hall.2 e (by simpa using he)
  | succ t'=>
   obtain ⟨_,_,e,_⟩:=before t' rfl;lia
 .intro z;cases t with
  | zero=>exact absurd rfl z
  | succ t'=>
   obtain ⟨h,h1,e,hm,hlt⟩:=before t' rfl;have e2:stAt (spL C) (t'+1)-1=(spL C)[t']:=by lia
   refine ⟨by lia,?_⟩;have e3:C[stAt (spL C) (t'+1)-1]' .(a)=C[(spL C)[t']]:=by
    congr 1
   rw[e3];exact ⟨hm,hlt,hmem _ hm⟩
theorem zb3 {β:Type}{F:Nat->β->Prop}{n:Nat}{l:List β}{k:Nat}(h:Paired F (List.range n) l)(hk:k<n):∃ b,l[k]?=some b/\F k b:=zeD h (ya7 hk)
theorem zlt :∀{cs:List Nat} {xs:List V},Paired (zbS Av H es ps rows) cs xs->∃ kvs:List (Key×V),Paired (λ(z:V) (kv:Key×V)=>∃ b,z=.ref b/\H b=some (.tup [kV kv.1,kv.2])) xs kvs/\kvs.map (·.1)=cs.map (λc:Nat=>(Sum.inl (c:Int):Key))/\
  ∀ c∈cs,cs.Nodup->∃ s,valV kvs (.inl (c:Int))=some (.ref s)/\H s=some (.lst ((zfI es .(l)).map nV))
 | _,_,.nil=>⟨[],.nil,rfl,λc hc=>nomatch hc⟩
 | c0::cs,_,.cons ⟨j,s,e1,_,e3,e4⟩ t=>by
  obtain ⟨kvs,h1,h2,h3⟩:=zlt t;refine ⟨(.inl (c0:Int),.ref s)::kvs,.cons ⟨j,e1,e3⟩ h1,by rw[yap,h2];rfl,λc hc hn=>?_⟩;rw[yaK]at hn;unfold valV;by_cases z:c=c0
  .subst z;exact ⟨s,by rw[List.find?_cons_of_pos .(h)];rfl,e4⟩
  .rw[List.find?_cons_of_neg (by simp;lia)];rcases yag.mp hc with y|y
   .exact absurd y z
   .exact h3 c y hn.2
theorem zeZ (ps:List Nat)(k n:Nat):(zaK ps k n).Nodup:=by
 unfold zaK;exact List.Pairwise.filter _ ycj
def figN (n:Nat):Nat:=if h:n=0 then 0 else figN (n/2)+1
termination_by n
decreasing_by exact Nat.div_lt_self (ycu h) .(i)
theorem zg3:figN 0=0:=by
 unfold figN;rfl
theorem zgx {n:Nat}(h:n≠0):figN n=figN (n/2)+1:=by
 rw[figN,dif_neg h]
theorem zjz:∀(n a b:Nat),b<=n->a<=b->figN a<=figN b
 | 0,a,b,hb,ha=>by
  have e1:a=0:=by lia
  have e2:b=0:=by lia
  rw[e1,e2];exact yaa _
 | n+1,a,b,hb,ha=>by
  by_cases z:a=0
  .rw[z,zg3];exact yaG _
  .rw[zgx z,zgx (show b≠0 by lia)];exact Nat.succ_le_succ (zjz n _ _ .(a) .(a))
theorem ziz:∀(n m:Nat),m<=n->figN m<=m
 | 0,m,h=>by
  rw[show m=0 by lia,zg3];exact yaa _
 | n+1,m,h=>by
  by_cases z:m=0
  .rw[z,zg3];exact yaa _
  .rw[zgx z];have:=ziz n (m/2) .(a);lia
def zmZ (P:Program)(w:World)(K:Frag)(mg:Str->Option Value)(base:Heap):Sp:=λvs H Q _=>∃(n:Nat) (f:Addr) (ps:List Str) (sp:Sp) (b:Nat->Bool) (R:List Nat->Hp->Prop),vs=[.int n,.ref f]/\FV P w K mg base 3 f ps sp/\R [] H/\
 (∀(i:Nat) (L:List Nat) (H1:Hp) (Q1:VK),i<n->L.length<=figN n->R L H1->(∀ H2,R (L++[i]) H2->Q1 (.bl (b i)) H2)->sp [.int i] H1 Q1 E0)/\(∀ i j,i<=j->j<n->b j=true->b i=true)/\
 ∀(m:Nat) (L:List Nat) (H':Hp),m<=n->(∀ i,i<m->b i=true)->(∀ i,m<=i->i<n->b i=false)->L.length<=figN n->R L H'->Q (.int m) H'
def zsK:L2.St->Hp->Nat:=λU _=>match U with
 | [_,_,some (.int lo),some (.int hi),_]=>(hi-lo).toNat
 | _=>0
theorem zqZ (T:Txt K mg)(qaz:DF K mg "how_many_below" zbU zbh):FC P w K mg base 4 "how_many_below" zbh (zmZ P w K mg base):=by
 refine qaz.ok qak .(c) .(b)
 .obtain ⟨n,f,ps,sp,b,R,rfl,_⟩:=h;rfl
 obtain ⟨n,f,ps,sp,b,R,rfl,hF,hR,hask,hmono,q⟩:=h;refine ⟨_,(zaj (zaq (i:=2) qak.nd rfl (Or.inl rfl) zai)
   (zaj (zaq (i:=3) qak.nd rfl (Or.inl rfl) (pv 0))
   (zaj (zgo PassesOwn.never (zau zfu (pv 2) (pv 3) (zaH _)) (zaj (zaq (i:=4) qak.nd rfl (Or.inl rfl) (zaG zj6 (zaG zbn (pv 2) (pv 3)) zai))
   (zae (za3 (zcn (zic (kr:=3) hr (pv 1) (zaa (pv 4) zad))) (zae (zaq (i:=2) qak.nd rfl (Or.inl rfl) (zaG zbn (pv 4) zai))) (zae (zaq (i:=3) qak.nd rfl (Or.inl rfl) (pv 4)))))))
   (zae (zaw (pv 2)))))),?_⟩
 refine ⟨_,rfl,?_⟩;refine zgB (λU H2=>∃(lo hi:Nat) (x4:Option V) (L:List Nat),U=[some (.int n),some (.ref f),some (.int lo),some (.int hi),x4]/\lo<=hi/\hi<=n/\(∀ i,i<lo->b i=true)/\(∀ i,hi<=i->i<n->b i=false)/\L.length+figN (hi-lo)<=figN n/\R L H2) (λU H2=>∃(lo:Nat) (x4:Option V) (L:List Nat),U=[some (.int n),some (.ref f),some (.int lo),some (.int lo),x4]/\lo<=n/\(∀ i,i<lo->b i=true)/\(∀ i,lo<=i->i<n->b i=false)/\L.length<=figN n/\R L H2) zsK ?_ ?_ ?_ ?_
 .exact ⟨0,n,_,[],rfl,yaG _,yaa _,λi h=>absurd h (ybF _),λi h1 h2=>absurd h2 (Nat.not_lt.mpr h1),by rw[ybi,Nat.sub_zero,ybK];exact yaa _,hR⟩
 .rintro U H2 ⟨lo,hi,x4,L,rfl,h1,h2,hb1,hb2,hL,hR2⟩;refine ⟨_,rfl,_,rfl,_,_,rfl,rfl,_,rfl,?_⟩;refine ite2 .(n) .(n)
  .have c1:(lo:Int)<(hi:Int):=yaH c;have em:((lo:Int)+(hi:Int))/2=(((lo+hi)/2:Nat):Int):=by lia
   have m1:lo<=(lo+hi)/2:=by lia
   have m2:(lo+hi)/2<hi:=by lia
   have fst:figN (hi-lo)=figN ((hi-lo)/2)+1:=zgx .(a);have fle:∀ d,d<=(hi-lo)/2->(L++[(lo+hi)/2]).length+figN d<=figN n:=λd hd=>by
    have:=zjz _ d _ (yaa _) hd;rw[yah,yay];lia
   refine ⟨_,rfl,_,rfl,_,_,rfl,rfl,_,_,rfl,rfl,⟨by decide,by decide⟩,?_⟩;refine ⟨_,rfl,f,3,ps,sp,rfl,hF,yaa _,_,rfl,?_⟩;show sp [V.int (((lo:Int)+(hi:Int))/2)] H2 _ E0;rw[em];refine hask ((lo+hi)/2) L H2 _ .(a) .(a) hR2 λH3 hR3=>⟨_,rfl,?_⟩;cases hbm:b ((lo+hi)/2) with
   | true=>
    refine iteT ?_;refine ⟨_,rfl,_,_,rfl,rfl,⟨(lo+hi)/2+1,hi,some (V.int (((lo:Int)+(hi:Int))/2)),_,?_,by lia,h2,λi hi'=>hmono i ((lo+hi)/2) .(a) .(a) hbm,hb2,fle _ .(a),hR3⟩,?_⟩
    .show [some (V.int n),some (V.ref f),some (V.int (((lo:Int)+(hi:Int))/2+1)),some (V.int hi),some (V.int (((lo:Int)+(hi:Int))/2))]=_;rw[em,Int.natCast_add];rfl
    .show ((hi:Int)-(((lo:Int)+(hi:Int))/2+1)).toNat<((hi:Int)-(lo:Int)).toNat;lia
   | false=>
    refine iteF ?_;refine ⟨_,rfl,⟨lo,(lo+hi)/2,some (V.int (((lo:Int)+(hi:Int))/2)),_,?_,m1,by lia,hb1,λi hi' hin=>?_,fle _ .(a),hR3⟩,?_⟩
    .show [some (V.int n),some (V.ref f),some (V.int lo),some (V.int (((lo:Int)+(hi:Int))/2)),some (V.int (((lo:Int)+(hi:Int))/2))]=_;rw[em]
    .cases hbi:b i with
     | false=>rfl
     | true=>
      have:=hmono ((lo+hi)/2) i hi' hin hbi;rw[hbm]at this;cases this
    .show ((((lo:Int)+(hi:Int))/2)-(lo:Int)).toNat<((hi:Int)-(lo:Int)).toNat;lia
  .have c1:¬ (lo:Int)<(hi:Int):=ycv (ybX.mpr c);have e:hi=lo:=by lia
   subst e;exact ⟨hi,_,L,rfl,h2,hb1,hb2,by lia,hR2⟩
 .intro U H Q Q' m h;obtain ⟨y1,e3,y2,e4,i2,j2,f2,g2,b2,e5,q⟩:=h;exact ⟨y1,e3,y2,e4,i2,j2,f2,g2,b2,e5,m _ _ q⟩
 rintro U H2 ⟨lo,x4,L,rfl,h2,hb1,hb2,hL,hR2⟩;refine ⟨_,rfl,?_⟩;exact q lo L H2 h2 hb1 hb2 hL hR2
abbrev zjm:Str:=(envOfC ("first_place" : Str) (zah zbD) 0 0 .none).qual ++ "<lambda>"
abbrev zea:Pos:=⟨193,44,193,73⟩
inductive ziI (K:Frag)(H:Hp):V->Bool->Prop where
 | int (i:Int):ziI K H (.int i) true
 | bl (b:Bool):ziI K H (.bl b) false
 | oth (x:V) (t:String) (ty:TyOf K H x (.type t)) (h2:kitO t "int" = some false):ziI K H x false
def zjV (K:Frag):Sp:=λvs H Q _=>∃(x:V) (b:Bool),vs=[x]/\ziI K H x b/\Q (.bl b) H
theorem zpB (T:Txt K mg)(qbM:DF K mg "is_whole" zep zcI):FC P w K mg base 1 "is_whole" zcI (zjV K):=by
 refine qbM.ok qdw .(c) .(b)
 .obtain ⟨x,b,rfl,_⟩:=h;rfl
 obtain ⟨x,b,rfl,hk,q⟩:=h;refine ⟨_,(zae (zaw (znm (zan (zfF (K:=K)) rfl T.qau boot_isinstance (zaa (pv 0) (zaa (zde (v:=.ty "int") rfl T.qfQ boot_int rfl) zad))) (znk (ztj (zan (zfF (K:=K)) rfl T.qau boot_isinstance (zaa (pv 0) (zaa (zde (v:=.ty "bool") rfl T.qfy boot_bool rfl) zad)))))))),?_⟩;cases hk with
 | int i=>
  refine ⟨_,rfl,_,_,_,_,rfl,.int _,ztH,_,rfl,?_⟩;refine iteT ?_;refine ⟨_,rfl,_,_,_,_,rfl,.int _,ztI,_,rfl,?_⟩;exact q
 | bl c=>
  refine ⟨_,rfl,_,_,_,_,rfl,.bl _,(show kitO "bool" "int" = some true by decide +kernel),_,rfl,?_⟩;refine iteT ?_;refine ⟨_,rfl,_,_,_,_,rfl,.bl _,ztJ,_,rfl,?_⟩;exact q
 | oth x t ty h2=>
  refine ⟨_,rfl,_,_,_,_,rfl,ty,h2,_,rfl,?_⟩;refine iteF ?_;exact q
inductive zqx (K:Frag)(H:Hp):V->Bool->Prop where
 | int (i:Int) (b:Bool) (h:b=decide ((if i<0 then -i else i)<10^60)):zqx K H (.int i) b
 | bl (b:Bool):zqx K H (.bl b) false
 | oth (x:V) (t:String) (ty:TyOf K H x (.type t)) (h1:kitO t "bool" = some false) (h2:kitO t "int" = some false):zqx K H x false
def zjX (K:Frag):Sp:=λvs H Q _=>∃(x:V) (b:Bool),vs=[x]/\zqx K H x b/\Q (.bl b) H
theorem zpN (T:Txt K mg)(qc7:DF K mg "is_key" zgk zd3)(qbN:FC P w K mg base 1 "is_whole" zcI (zjV K)):FC P w K mg base 2 "is_key" zd3 (zjX K):=by
 refine qc7.ok qem .(c) .(b)
 .obtain ⟨x,b,rfl,_⟩:=h;rfl
 obtain ⟨x,b,rfl,hk,q⟩:=h;refine ⟨_,(zae (zaw (znm (zax qbN hr (zaa (pv 0) zad)) (znk (zeV zfu (zan ziC rfl T.qfh boot_abs (zaa (pv 0) zad)) (zaG zgS zai zai) (zaH _)))))),?_⟩;cases hk with
 | int i b hb=>
  refine ⟨_,rfl,_,true,rfl,.int i,_,rfl,?_⟩;refine iteT ?_;refine ⟨_,rfl,_,rfl,_,_,rfl,rfl,⟨by decide,by decide,by decide⟩,_,_,rfl,rfl,?_⟩;rw[hb]at q;exact q
 | bl c=>
  refine ⟨_,rfl,_,false,rfl,.bl c,_,rfl,?_⟩;refine iteF ?_;exact q
 | oth x t ty h1 h2=>
  refine ⟨_,rfl,_,false,rfl,.oth x t ty h2,_,rfl,?_⟩;refine iteF ?_;exact q
structure zhf (H:Hp)(wa:Addr)(ps w:List Nat):Prop where
 at_:H wa=some (.lst (w.map nV))
 len:w.length<=900
 ne:w≠[]
 ch:zkH ps w
 kn:∀ x∈w,x<ps.length+1
def zhS (K:Frag):Sp:=λvs H Q _=>∃(m x:Int),vs=[.int m,.int x]/\0<=x/\x<m/\Q (.bl true) H
theorem zpF (T:Txt K mg)(qaG:DF K mg "is_one_of_first" zbC zaU)(qbN:FC P w K mg base 1 "is_whole" zcI (zjV K)):FC P w K mg base 2 "is_one_of_first" zaU (zhS K):=by
 refine qaG.ok qbz .(c) .(b)
 .obtain ⟨m,x,rfl,_⟩:=h;rfl
 obtain ⟨m,x,rfl,h0,h1,q⟩:=h;refine ⟨_,(zae (zaw (znm (zax qbN hr (zaa (pv 1) zad)) (znk (zpv zrR zfu zai (pv 1) (pv 0)))))),?_⟩;refine ⟨_,rfl,_,true,rfl,.int x,_,rfl,?_⟩;refine iteT ?_;refine ⟨_,rfl,_,_,rfl,rfl,_,rfl,?_⟩;refine ztR h0 ?_;refine ⟨_,rfl,_,_,rfl,rfl,?_⟩;show Q (.bl (decide (x<m))) H;rw[yai h1];exact q
theorem zoZ {α:Type}{f:α->V}{us:List α}{c:α}:atI ((us++[c]).map f) (-1)=some (f c):=by
 unfold atI ixN;rw[yal];simp;rw[if_pos .(a)];show (List.map f us++[f c])[(-1+((us.length:Int)+1)).toNat]?=_;rw[show (-1+((us.length:Int)+1)).toNat=us.length by lia,ya4 (by rw[yab];exact yaa _),yab,ybI];rfl
def zmX (K:Frag):Sp:=λvs H Q _=>∃(t a:Addr) (ps w:List Nat),vs=[.ref t,.ref a]/\H t=some (.tup (zbZ ps))/\ps.length<=900/\H a=some (.lst (w.map nV))/\w.length<=1000/\w≠[]/\zkH ps w/\(∀ x∈w,x<ps.length+1)/\Q (.bl true) H
theorem zpM (T:Txt K mg)(qc8:DF K mg "is_way" zgj zfs)(qap:FC P w K mg base 2 "is_one_of_first" zaU (zhS K)):FC P w K mg base 3 "is_way" zfs (zmX K):=by
 refine qc8.ok qcj .(c) .(b)
 .obtain ⟨t,a,ps,w,rfl,_⟩:=h;rfl
 obtain ⟨t,a,ps,w,rfl,ht,hz,ha,hwl,hne,hC,hlt,q⟩:=h;have hpos:0 < w.length:=ybL.mpr hne;refine ⟨_,(zaN (za3 (PW.pt (znb (zcH (zcn (zan (zfF (K:=K)) rfl T.qau boot_isinstance (zaa (pv 1) (zaa (zde (v:=.ty "list") rfl T.qaZ boot_list rfl) zad))))) (zlb (zau zfv (zan (zal (K:=K)) rfl T.qaq boot_len (zaa (pv 1) zad)) zai (zaH _))))) (zae (zaw zeJ)) zaD)
   (zaj (zbr PassesOwn.never rfl (zbM (pv 1)) (zas (i:=2) qcj.nd rfl (Or.inl rfl)) (zae (za3 (zcH (zcn (zax qap hr (zaa (zan (zal (K:=K)) rfl T.qaq boot_len (zaa (pv 0) zad)) (zaa (pv 2) zad))))) (zae (zaw zeJ)) zaD)))
   (zaj (zbr PassesOwn.never rfl (zdj rfl T.qax (zaa zai (zaa (zan (zal (K:=K)) rfl T.qaq boot_len (zaa (pv 1) zad)) zad))) (zas (i:=3) qcj.nd rfl (Or.inl rfl)) (zae (za3 (zau zrQ (zaB (zay (K:=K)) (pv 0) (zaB (zat (K:=K)) (pv 1) (pv 3) (λ_ _=>rfl)) (λ_ _=>rfl)) (zaB (zat (K:=K)) (pv 1) (zaG zdb (pv 3) zai) (λ_ _=>rfl)) (zaH _)) (zae (zaw zeJ)) zaD)))
   (zae (zaw zeJ))))),?_⟩
 refine ⟨λU' H'=>U'=[some (.ref t),some (.ref a),none,none]/\H=H',?_,?_⟩
 .refine ⟨_,rfl,_,_,_,_,rfl,.lst ha,zq7,_,rfl,?_⟩;refine iteF ?_;refine ⟨_,rfl,_,_,rfl,.inl (SqL.of ha),rfl,_,rfl,?_⟩;refine zof (λz=>?_) ?_
  .have:=V.int.inj z;rw[yab]at this;lia
  exact ⟨rfl,rfl⟩
 rintro U' H' ⟨rfl,rfl⟩;refine ⟨_,rfl,a,rfl,⟨_,SqL.of ha⟩,?_⟩;refine zdS (xs:=w.map nV) (λi U H2=>∃ x2:Option V,U=[some (.ref t),some (.ref a),x2,none]/\H2=H) ?_ ?_ ?_ ?_
 .exact ⟨_,rfl,rfl⟩
 .rintro i U H2 _ ⟨x2,rfl,rfl⟩;exact SqL.of ha
 .rintro i x U H2 hx ⟨x2,rfl,rfl⟩;obtain ⟨hi,rfl⟩:=zjv hx;have hm:=hlt (w.getD i 0) (by rw[yad,yac hi];exact yaA hi);refine ⟨_,rfl,_,_,rfl,.inr (SqT.of ht),_,rfl,_,_,rfl,by lia,by rw[zav];lia,_,rfl,?_⟩;refine iteF ?_;exact ⟨_,rfl,rfl⟩
 .rintro U H2 ⟨x2,rfl,rfl⟩;refine ⟨_,rfl,_,_,rfl,.inl (SqL.of ha),1,_,rfl,⟨by lia,by lia,by rw[yab];lia,by rw[yab];lia⟩,?_⟩;have en:((((w.map nV).length:Nat):Int)-1).toNat=w.length-1:=by rw[yab];lia
  rw[en];refine zbA (n:=w.length-1) (λi U H3=>∃ x2 x3:Option V,U=[some (.ref t),some (.ref a),x2,x3]/\H3=H2) ?_ ?_ ?_
  .exact ⟨_,_,rfl,rfl⟩
  .rintro i U H3 hi ⟨x2,x3,rfl,rfl⟩;have ek:(1:Int)+(i:Int)=((i+1:Nat):Int):=by lia
   rw[ek];have h1:=hC i .(a);have hm:=hlt (w.getD (i+1) 0) (by rw[yad,yac (show i+1<w.length by lia)];exact yaA _);have hat1:atI (w.map nV) ((i+1:Nat):Int)=some (nV (w.getD (i+1) 0)):=zhK .(a);have hat0:atI (w.map nV) (((i+1:Nat):Int)-1)=some (nV (w.getD i 0)):=by
    rw[show ((i+1:Nat):Int)-1=((i:Nat):Int) by lia];exact zhK .(a)
   have hatT:=ze0 hm;rw[zd7 h1]at hatT;refine ⟨_,rfl,_,rfl,_,rfl,_,_,_,_,rfl,rfl,SqL.of ha,hat1,_,_,_,_,rfl,rfl,SqT.of ht,hatT,_,rfl,_,rfl,_,_,rfl,rfl,_,_,_,_,rfl,rfl,SqL.of ha,hat0,rfl,_,rfl,?_⟩;refine zjq rfl ?_;exact ⟨_,_,rfl,rfl⟩
  .rintro U H3 ⟨x2,x3,rfl,rfl⟩;exact q
def zqL (K:Frag):Sp:=λvs H Q _=>∃(t a:Addr) (ps w:List Nat),vs=[.ref t,.ref a]/\H t=some (.tup (zbZ ps))/\ps.length<=900/\zhf H a ps w/\Q .non H
theorem zrX (T:Txt K mg)(qbO:DF K mg "need_way" zen zdH)(qe7:FC P w K mg base 3 "is_way" zfs (zmX K)):FC P w K mg base 4 "need_way" zdH (zqL K):=by
 refine qbO.ok qdA .(c) .(b)
 .obtain ⟨t,a,ps,w,rfl,_⟩:=h;rfl
 obtain ⟨t,a,ps,w,rfl,ht,hl,W,q⟩:=h;refine ⟨_,(zae (za3 (zcH (zcn (zax qe7 hr (zaa (pv 0) (zaa (pv 1) zad))))) (zae za9) zaD)),?_⟩;refine ⟨_,rfl,_,rfl,t,a,ps,w,rfl,ht,hl,W.at_,by have:=W.len;lia,W.ne,W.ch,W.kn,_,rfl,?_⟩;refine iteF ?_;exact q
theorem zo5 {w:List Nat}{i:Nat}(h:i<w.length):w.take (i+1)=w.take i++[w.getD i 0]:=by
 rw[yaF h,yad,yac h];rfl
theorem zmw {w:List Nat}{i:Nat}(h:i<w.length):w.getD i 0∈w:=by
 rw[yad,yac h];exact yaA h
theorem zoK (xs:List V)(a:Nat):cutV xs none (some (a:Int))=xs.take a:=by
 unfold cutV;rw[zdd,show HT.sIx xs.length 0 none=0 from rfl,List.drop_zero,Nat.sub_zero];by_cases h:a<=xs.length
 .rw[ybu h]
 .rw[ycg .(a),yas (yaa _),yas .(a)]
theorem zfC (xs:List V)(a:Nat):cutV xs (some (a:Int)) none=xs.drop a:=by
 unfold cutV;rw[zdd,show HT.sIx xs.length xs.length none=xs.length from rfl];by_cases h:a<=xs.length
 .rw[ybu h,yas (by rw[yaR];exact yaa _)]
 .rw[ycg .(a),ybf (yaa _),ybf (show xs.length<=a by lia),List.take_nil]
def ownB (rows:List .(k))(k:Nat)(key:Int):Nat:=((zar rows k).filter λx=>decide (x<key)).length
theorem zlU (T:zaA ps)(R:zaL rows){k:Nat}(hk:k<ps.length+1):(.(e).filter λe=>decide (e.2=(k:Int)))=ownE rows k:=by
 have hup:=R.at_up k;refine zeR ((zaC T R hk).filter _) ?_ λe=>?_
 .unfold ownE;refine List.Pairwise.map _ (R:=λa b:Int=>a<b) (λa b (h:a<b)=>zcs.mpr (.inl h)) hup
 .rw[yaY];refine ⟨λzq0=>?_,λh=>⟨(zbg T hk).mpr (.inl h),yai (zhw hk h).2⟩⟩;obtain ⟨h1,h2⟩:=zq0;rcases (zbg T hk).mp h1 with h|⟨c,hc,h⟩
  .exact h
  .exfalso;have h2:=yaH h2;have hcn:=(zaM T hc);obtain ⟨j,hj,hb,e2,_⟩:=zdR T R hcn.2 e ((zaP _).subset h);have ej:j=k:=by lia
   subst ej;have:=zcQ T hcn.1;rw[hb]at this;cases this
theorem ztl (T:zaA ps)(R:zaL rows){k:Nat}(hk:k<ps.length+1)(key:Int):zeX k (.(e).take (zaz .(e) key))=ownB rows k key:=by
 rw[zf3 (zfl (zaC T R hk))];unfold zeX;have e:(.(e).filter λe=>decide (e.1<key)).filter (λe=>decide (e.2=(k:Int)))=(ownE rows k).filter λe=>decide (e.1<key):=by
  rw[<-zlU T R hk,ycl,ycl];congr 1
  funext e
  rw[Bool.and_comm]
 rw[e];unfold ownE ownB;rw[List.filter_map,yab];rfl
def KpV (Av:List Addr)(H H':Hp):Prop:=∀ b o,b∉Av->H b=some o->H' b=some o
def KpA (Av:List Addr)(mp:Addr)(H H':Hp):Prop:=∀ b o,b∉Av->b≠mp->H b=some o->H' b=some o
theorem KpA.trans (a:KpA Av mp H H1)(b:KpA Av mp H1 H2):KpA Av mp H H2:=λc o n1 n2 h=>b c o n1 n2 (a c o n1 n2 h)
theorem KpV.a (a:KpV Av H H1):KpA Av mp H H1:=λc o n1 _ h=>a c o n1 h
theorem KpA.of (a:Same H H1):KpA Av mp H H1:=λc o _ _ h=>a c o h
theorem KpA.gro (a:Gro mp H H1):KpA Av mp H H1:=λc o _ n h=>a c o n h
theorem FV.mono {w:World}{K:Frag}{mg:Str->Option Value}{base:Heap}{k:Nat}{f:Addr}(F:FV P w K mg base j f ps sp)(h:j<=k):FV P w K mg base k f ps sp:=by
 obtain ⟨fd,ok,r⟩:=F.ex;exact ⟨fd,ok.mono h,r⟩
structure AskF (P:Program)(w:World)(K:Frag)(mg:Str->Option Value)(base:Heap)(f:Addr)(Av:List Addr)(mp:Addr)(fp:Addr->Prop)(R:List (Nat×Nat)->Hp->Prop)(ps:List Nat)(rows:List .(k))(key:Int):Prop where
 keep:∀ L H H',R L H->(∀ b o,fp b->H b=some o->H' b=some o)->R L H'
 alloc:∀ L H b,R L H->fp b->H b≠none
 avl:∀ L H,R L H->∀ a∈Av,∃ zs,H a=some (.lst zs)
 nmp:¬ fp mp
 ask:∃(pn:List Str) (sp:Sp),FV P w K mg base 2 f pn sp/\∀(kn i:Nat) (L:List (Nat×Nat)) (H:Hp) (Q:VK),kn<ps.length+1->i<(zaf ps rows kn).length->L.length<=9000->R L H->
  (∀ H',R (L++[(kn,i)]) H'->KpV Av H H'->Q (.bl (decide (((zaf ps rows kn).getD i (0,0)).1<key))) H')->sp [.int kn,.int i] H Q E0
theorem AskF.lift {w:World}{K:Frag}{mg:Str->Option Value}{f:Addr}{R:List (Nat×Nat)->Hp->Prop}{key:Int}(A:AskF P w K mg b1 f Av mp fp R ps rows key)(S:Sub K mg b1 b2):AskF P w K mg b2 f Av mp fp R ps rows key:=by
 obtain ⟨a,b,c,d,pn,sp,hF,r⟩:=A;exact ⟨a,b,c,d,pn,sp,hF.lift S,r⟩
structure zbl (Av:List Addr)(mp:Addr)(R:List (Nat×Nat)->Hp->Prop)(ps:List Nat)(rows:List .(k))(br:Addr)(xs:List V)(L:List (Nat×Nat))(H:Hp):Prop where
 r:R L H
 avs:∀ a∈Av,∃ zs,H a=some (.lst zs)
 at_:H br=some (.lst xs)
 nb:br∉Av
 ba:Paired (BrAt Av H ps rows) (List.range (ps.length+1)) xs
 tb:zaF H mp zea zjm
section
variable {Av:List Addr}{mp:Addr}{R:List (Nat×Nat)->Hp->Prop}{ps:List Nat}{rows:List .(k)}{br:Addr}{xs:List V}{L L':List (Nat×Nat)}{H H':Hp}
theorem zbl.nm (S:zbl Av mp R ps rows br xs L H){b:Addr}{o:HO}(h:H b=some o)(n:∀ tab,o≠.tbl tab):b≠mp:=λz=>by
 obtain ⟨tab,e,_⟩:=S.tb.ex;rw[<-z,h]at e;exact n _ (yae e)
theorem zbl.na (S:zbl Av mp R ps rows br xs L H){b:Addr}{o:HO}(h:H b=some o)(n:∀ zs,o≠.lst zs):b∉Av:=λz=>by
 obtain ⟨zs,e⟩:=S.avs b z;rw[h]at e;exact n _ (yae e)
theorem zbl.tup (S:zbl Av mp R ps rows br xs L H)(k:KpA Av mp H H'){b:Addr}{us:List V}(h:H b=some (.tup us)):H' b=some (.tup us):=k _ _ (S.na h nofun) (S.nm h nofun) h
theorem zbl.lst (S:zbl Av mp R ps rows br xs L H)(k:KpA Av mp H H'){b:Addr}{us:List V}(h:H b=some (.lst us))(n:b∉Av):H' b=some (.lst us):=k _ _ n (S.nm h nofun) h
theorem zbl.kp (S:zbl Av mp R ps rows br xs L H)(k:KpA Av mp H H')(hT:zaF H' mp zea zjm)(hR:R L' H')(ha:∀ a∈Av,∃ zs,H' a=some (.lst zs)):zbl Av mp R ps rows br xs L' H':=
 ⟨hR,ha,S.lst k S.at_ S.nb,S.nb,zaO (λj x ⟨b,o,j',ys,h1,h2,h3,h4,h5,h6,h7⟩=>⟨b,o,j',ys,h1,h2,h3,S.tup k h4,S.lst k h5 h2,S.lst k h6 h3,zaO (λc y ⟨a,s,g1,g2,g3,g4⟩=>⟨a,s,g1,g2,S.tup k g3,S.lst k g4 g2⟩) h7⟩) S.ba,hT⟩
theorem zbl.tbv (S:zbl Av mp R ps rows br xs L H)(k:KpV Av H H'):zaF H' mp zea zjm:=by
 obtain ⟨tab,h1,h2,h3⟩:=S.tb.ex;refine ⟨tab,k _ _ (S.na h1 nofun) h1,h2,?_⟩;rcases h3 with h3|⟨c,h3,h4⟩
 .exact .inl h3
 .exact .inr ⟨c,h3,k _ _ (S.na h4 nofun) h4⟩
end
theorem zi9 {K:Frag}{H H':Hp}(k:∀ b us,H b=some (.tup us)->H' b=some (.tup us)):∀{es:List (Int×Int)} {ws:List V},zam K H es ws->zam K H' es ws
 | _,_,.nil=>.nil
 | _,_,.cons h t=>by
  refine .cons ?_ (zi9 k t);obtain ⟨a,x1,x2,rfl,hT,e1,e2⟩:=(show hasP K H _ _ from h);exact ⟨a,x1,x2,rfl,k _ _ hT,e1,e2⟩
theorem zrt {D:Addr}{xs:List V}(x:zaF H Pt pos q)(hD:H D=some (.lst xs)):zaF (upd H D o) Pt pos q:=by
 obtain ⟨tab,h1,h2,h3⟩:=x.ex;have n1:Pt≠D:=λz=>by
  rw[z,hD]at h1;cases h1
 refine ⟨tab,by rw[zag n1];exact h1,h2,?_⟩;rcases h3 with h3|⟨c,h3,h4⟩
 .exact .inl h3
 .refine .inr ⟨c,h3,?_⟩;have n2:c≠D:=λz=>by
   rw[z]at h4;rw[show H D=_ from h4]at hD;cases hD
  show upd H D o c=_;rw[zag n2];exact h4
theorem zbl.free {R:List (Nat×Nat)->Hp->Prop}{L:List (Nat×Nat)}(S:zbl Av mp R ps rows br xs L H1)(k:KpA Av mp H H1){D:Addr}(h:H1 D=none):H D=none/\D∉Av/\D≠mp:=by
 have n1:D∉Av:=λz=>by
  obtain ⟨zs,e⟩:=S.avs D z;rw[h]at e;cases e
 have n2:D≠mp:=λz=>by
  obtain ⟨tab,e,_⟩:=S.tb.ex;rw[<-z,h]at e;cases e
 refine ⟨?_,n1,n2⟩;cases e:H D with
 | none=>rfl
 | some o=>
  have:=k _ _ n1 n2 e;rw[h]at this;cases this
theorem zih (T:zaA ps)(R:zaL rows){k:Nat}(hk:k<ps.length+1)(key:Int):atI ((zpy k .(e)).map nV) ((zaz .(e) key:Nat):Int)=some (.int ((ownB rows k key:Nat):Int)):=by
 have hle:=zcT .(e) key;refine za5 ?_;rw[yam];unfold zpy;rw[yam,ya7 .(a),<-ztl T R hk key];rfl
theorem zgC {wy:List Nat}{i:Nat}(h:i<wy.length):(wy.map nV)[i]?=some (nV (wy.getD i 0)):=by
 rw[yam,yad,yac h];rfl
theorem zmy {wy:List Nat}{i:Nat}(h:i<wy.length):wy.getD i 0∈wy:=by
 rw[yad,yac h];exact yaA h
theorem zmv {α:Type}(f:Nat->α){wy:List Nat}{i:Nat}(h:i<wy.length):(wy.take (i+1)).map f=(wy.take i).map f++[f (wy.getD i 0)]:=by
 rw[yaF h,yal,yad,yac h];rfl
theorem zsy (l:List Nat):cutV (l.map nV) (some 1) none=(l.drop 1).map nV:=by
 rw[show (1:Int)=((1:Nat):Int) from rfl,zfC,<-ycm]
def zjY (P:Program)(w:World)(K:Frag)(mg:Str->Option Value)(base:Heap)(mp:Addr):Sp:=λvs H Q _=>∃(br f:Addr) (xs:List V) (ps:List Nat) (rows:List (List Int)) (k:Nat) (key:Int) (Av:List Addr) (fp:Addr->Prop) (R:List (Nat×Nat)->Hp->Prop) (L:List (Nat×Nat)),vs=[.ref br,.int k,.ref f]/\
 AskF P w K mg base f Av mp fp R ps rows key/\zbl Av mp R ps rows br xs L H/\zaA ps/\zaL rows/\k<ps.length+1/\L.length<=3000/\ .(e).length<=1000/\
 ∀(H':Hp) (L':List (Nat×Nat)),zbl Av mp R ps rows br xs (L++L') H'->KpA Av mp H H'->L'.length<=figN .(e).length->Q (.int (zaz .(e) key:Nat)) H'
theorem zpQ (T:Txt K mg){mc mp:Addr}(qaP:DFT K mg "first_place" zbD zbP mc mp)(hBM:BMAt mg base)(qaK:∀ b,Sub K mg base b->FC P w K mg b 4 "how_many_below" zbh (zmZ P w K mg b)):FC P w K mg base 5 "first_place" zbP (zjY P w K mg base mp):=by
 refine qaP.ok qcH .(c) (λf A outer s H vs Q E hr h=>?_)
 .obtain ⟨br,f,xs,ps,rows,k,key,Av,fp,R,L,rfl,_⟩:=h;rfl
 obtain ⟨br,f,xs,ps,rows,k,key,Av,fp,R,L,rfl,AF,S,hT,hR,hk,hLn,hFn,q⟩:=h;refine ⟨_,(zae (zaw (zj3 (kf:=2) qaK hr (zaB (zay (K:=K)) (zaB (zat (K:=K)) (pv 0) (pv 1) (λ_ _=>rfl)) zai (λ_ _=>rfl)) (zjl (osc:=zah zbD) (N:=["bridges","knot","is_below"]) (ps:=["at"]) (caps:=["is_below","knot"]) (cap:=[2,1]) ⟨rfl,rfl,rfl,by decide +kernel,by decide +kernel,by decide +kernel,by decide +kernel⟩ (by decide +kernel) (by decide +kernel) rfl rfl rfl rfl (λ_ _ _ _ us hl=>match us,hl with|[_],_=>rfl) (λ_=>rfl)) rfl qaP.hd hBM (λb _ _ _ _ _ _ _ S hr=>(zpw P w K mg b (kr:=2) hr (pv 1) (zaa (pv 2) (zaa (pv 0) zad))))))),?_⟩
 obtain ⟨x,hx,b,o,j,ys,rfl,_,_,hb,ho,hj,hJ⟩:=zb3 S.ba hk;have hF:=zfl (zaC hT hR hk (rows:=rows));refine ⟨_,rfl,_,rfl,_,_,_,_,rfl,rfl,SqL.of S.at_,za5 hx,_,_,_,_,rfl,rfl,SqT.of hb,rfl,S.tb,[.ref f,.int k],rfl,?_,λbs g c' H2 hg hT2 hC SB hV=>?_⟩
 .intro j i v h1 h2;rcases j with _|_|j
  .cases h1;cases h2;rfl
  .cases h1;cases h2;rfl
  .cases h1
 obtain ⟨pn,sp,hFV,hask⟩:=(AF.lift SB).ask;have hR2:R L H2:=AF.keep _ _ _ S.r λb o hb e=>hg _ _ (λz=>AF.nmp (z ▸ hb)) e;have S2:zbl Av mp R ps rows br xs L H2:=S.kp (.gro hg) hT2 hR2 (AF.avl _ _ hR2);refine ⟨.(e).length,g,_,_,λi=>decide ((.(e).getD i (0,0)).1<key),λL1 H1=>R (L++L1.map λi=>(k,i)) H1/\KpV Av H2 H1,rfl,hV,⟨by rw[ybB,yaC];exact hR2,λ_ _ _ h=>h⟩,λi L1 H1 Q1 hi hLi hR1 hQ=>?_,λi j hij hj hb=>?_,λm L1 H' hm hb1 hb2 hL hR1=>?_⟩
 .refine ⟨rfl,hR1.2 _ _ (S2.na hC nofun) hC,?_⟩;refine ⟨_,rfl,f,2,pn,sp,rfl,hFV,yaa _,_,rfl,_,rfl,?_⟩;refine hask k i _ H1 _ hk hi (by have:=ziz _ _ (yaa .(e).length);rw[yah,yab];lia) hR1.1 λH3 hR3 k3=>hQ _ ⟨?_,λb o n h=>k3 _ _ n (hR1.2 _ _ n h)⟩;rw[yal,<-ybs];exact hR3
 .refine yai ?_;have hb:=yaH hb;by_cases e:i=j
  .subst e;exact hb
  .have:=ya0.mp hF i j .(a) hj .(a);rw[yad,yac .(a)]at hb ⊢;exact Int.lt_of_le_of_lt this hb
 .have e:=zoY hm hb1 hb2;have q2:=q H' _ (S2.kp hR1.2.a (S2.tbv hR1.2) hR1.1 (AF.avl _ _ hR1.1)) (KpA.trans (.gro hg) hR1.2.a) (by rw[yab];exact hL);rw[e]at q2;exact q2
def zmR (K:Frag):Sp:=λvs H Q _=>∃(Av:List Addr) (br:Addr) (ps:List Nat) (rows:List (List Int)) (xs:List V) (k c m:Nat),vs=[.ref br,.int k,.int m,.int c]/\H br=some (.lst xs)/\Paired (BrAt Av H ps rows) (List.range (ps.length+1)) xs/\zaA ps/\k<ps.length+1/\par ps c=some k/\m<= .(e).length/\
 ∀ H',Same H H'->Q (.int (stN .(l) (.(e).take m):Nat)) H'
theorem zpC (T:Txt K mg)(qbP:DF K mg "start_in" zel zdz):FC P w K mg base 1 "start_in" zdz (zmR K):=by
 refine qbP.ok qdB .(c) .(b)
 .obtain ⟨Av,br,ps,rows,xs,k,c,m,rfl,_⟩:=h;rfl
 obtain ⟨Av,br,ps,rows,xs,k,c,m,rfl,hbr,hB,hT,hk,hc,hm,q⟩:=h;obtain ⟨x,hx,b,o,j,ys,rfl,_,_,hb,ho,hj,hJ⟩:=zb3 hB hk;obtain ⟨kvs,h1,h2,h3⟩:=zlt hJ;have hcm:c∈zaK ps k (ps.length+1):=zaE.mpr ⟨(zaM hT hc).2,hc⟩;obtain ⟨sa,hv,hsa⟩:=h3 c hcm (zeZ _ _ _);refine ⟨_,(zae (zaw (zaB (zat (K:=K)) (zdL (zdq hr) (zaY (zmo rfl) rfl T.qfz boot_dict (zaa (zaB (zay (K:=K)) (zaB (zat (K:=K)) (pv 0) (pv 1) (λ_ _=>rfl)) zai (λ_ _=>rfl)) zad)) (pv 3) (λ_ _=>rfl)) (pv 2) (λ_ _=>rfl)))),?_⟩;refine ⟨_,rfl,_,rfl,_,_,_,_,rfl,rfl,SqL.of hbr,za5 hx,_,_,_,_,rfl,rfl,SqT.of hb,rfl,?_⟩;refine ⟨j,ys,kvs,rfl,SqL.of hj,h1,?_,λd hd=>?_⟩
 .rw[h2];exact List.Pairwise.map (R:=λa b:Nat=>a≠b) _ (λa b (n:a≠b) z=>n (by have:=Sum.inl.inj z;lia)) (zeZ ps k _)
 have sd:=zak hd (.dK kvs);refine ⟨_,rfl,d,.ref sa,rfl,?_,?_⟩
 .have:=DGet.k (k:=(.inl (c:Int))) (zab (H:=H) (a:=d) (o:=.dK kvs));rw[hv]at this;exact this
 refine ⟨_,rfl,_,_,_,_,rfl,rfl,SqL.of (sd _ _ hsa),za5 (v:=nV (stN .(l) (.(e).take m))) ?_,q _ sd⟩;rw[yam];unfold zfI;rw[yam,ya7 .(a)];rfl
def zmS (P:Program)(w:World)(K:Frag)(mg:Str->Option Value)(base:Heap)(mp:Addr):Sp:=λvs H Q _=>∃(br f:Addr) (xs:List V) (ps:List Nat) (rows:List (List Int)) (k st:Nat) (key:Int) (Av:List Addr) (fp:Addr->Prop) (R:List (Nat×Nat)->Hp->Prop) (L:List (Nat×Nat)),vs=[.ref br,.int k,.int st,.ref f]/\
 AskF P w K mg base f Av mp fp R ps rows key/\zbl Av mp R ps rows br xs L H/\zaA ps/\zaL rows/\k<ps.length+1/\L.length<=8000/\st<=zaz .(e) key/\zaz .(e) key<=st+2/\
 ∀(H':Hp) (L':List (Nat×Nat)),zbl Av mp R ps rows br xs (L++L') H'->KpA Av mp H H'->L'.length<=2->Q (.int (zaz .(e) key:Nat)) H'
theorem znC (T:Txt K mg)(qaV:DF K mg "next_place" zcY zcc):FC P w K mg base 3 "next_place" zcc (zmS P w K mg base mp):=by
 refine qaV.ok qaO .(c) .(b)
 .obtain ⟨br,f,xs,ps,rows,k,st,key,Av,fp,R,L,rfl,_⟩:=h;rfl
 obtain ⟨br,f,xs,ps,rows,k,st,key,Av,fp,R,L,rfl,AF,S,hT,hR,hk,hLn,hlo,hhi,q⟩:=h;refine ⟨_,(zaj (zaq (i:=4) qaO.nd rfl (Or.inl rfl) (zan (zjG rfl) rfl T.qfi boot_min (zaa (zaG zbn (pv 2) (zc9 rfl T.qbo)) (zaa (zaB (zay (K:=K)) (zaB (zat (K:=K)) (pv 0) (pv 1) (λ_ _=>rfl)) zai (λ_ _=>rfl)) zad))))
   (zaj (zaq (i:=5) qaO.nd rfl (Or.inl rfl) (pv 2))
   (zaj (zgo PassesOwn.never (PW.pt (zgI (zau zfu (pv 5) (pv 4) (zaH _)) (zeT (zcn (zic (kr:=2) hr (pv 3) (zaa (pv 1) (zaa (pv 5) zad))))))) (zae (zaq (i:=5) qaO.nd rfl (Or.inl rfl) (zaG zbn (pv 5) zai))))
   (zae (zaw (pv 5)))))),?_⟩
 obtain ⟨x,hx,b,o,j,ys,rfl,_,_,hb,ho,hj,hJ⟩:=zb3 S.ba hk;have hF:=zfl (zaC hT hR hk (rows:=rows));have hle:=zcT .(e) key;have hat:=λi h=>ziF (key:=key) hF (i:=i) h;obtain ⟨pn,sp,hFV,hask⟩:=AF.ask;refine ⟨_,rfl,_,_,rfl,rfl,_,rfl,_,rfl,_,_,_,_,rfl,rfl,SqL.of S.at_,za5 hx,_,_,_,_,rfl,rfl,SqT.of hb,rfl,_,_,rfl,?_⟩;have eb:∃ m:Nat,(if ((.(e).length:Nat):Int)<(st:Int)+2 then ((.(e).length:Nat):Int) else (st:Int)+2)=(m:Int)/\m<= .(e).length/\m<=st+2/\zaz .(e) key<=m:=by
  by_cases c:((.(e).length:Nat):Int)<(st:Int)+2
  .exact ⟨_,if_pos c,yaa _,by lia,hle⟩
  .exact ⟨st+2,by rw[if_neg c];rfl,by lia,yaa _,hhi⟩
 obtain ⟨m,em,hm1,hm2,hm3⟩:=eb;rw[em];refine ⟨_,rfl,?_⟩;refine ⟨λn U H1=>∃(at_:Nat) (L1:List (Nat×Nat)),U=[some (.ref br),some (.int k),some (.int st),some (.ref f),some (.int m),some (.int at_)]/\st<=at_/\at_<=zaz .(e) key/\at_+n=m/\L1.length+st=at_/\zbl Av mp R ps rows br xs (L++L1) H1/\KpA Av mp H H1,⟨m-st,st,[],rfl,yaa _,hlo,by lia,by rw[ybi,ybK],by rw[yaC];exact S,λ_ _ _ _ h=>h⟩,?_⟩;rintro n U H1 ⟨at_,L1,rfl,h1,h2,h3,h4,S1,k1⟩;refine ⟨_,rfl,_,rfl,_,_,rfl,rfl,_,rfl,?_⟩;refine ite2 .(n) .(n)
 .have c1:(at_:Int)<(m:Int):=yaH c;refine ⟨_,rfl,f,2,pn,sp,rfl,hFV,yaa _,_,rfl,_,rfl,?_⟩;refine hask k at_ _ H1 _ hk .(a) (by rw[yah];lia) S1.r λH2 hR2 k2=>?_;have S2:=S1.kp k2.a (S1.tbv k2) hR2 (AF.avl _ _ hR2);rw[ybs]at S2;have k02:KpA Av mp H H2:=k1.trans k2.a;have hL2:(L1++[(k,at_)]).length=L1.length+1:=by rw[yah,yay]
  have hge: .(e).getD at_ (0,0)= .(e)[at_]' .(a):=by
   rw[yad,yac .(a)];rfl
  refine ⟨_,rfl,?_⟩;refine ite2 (λc2=>?_) (λc2=>?_)
  .have c3:=yaH c2;rw[hge]at c3;have hlt:at_<zaz .(e) key:=Nat.lt_of_not_le λz=>(hat at_ .(a)).2 z c3;refine ⟨λU' H'=>U'=[some (.ref br),some (.int k),some (.int st),some (.ref f),some (.int m),some (.int ((at_:Int)+1))]/\H'=H2,?_,?_⟩
   .rintro U' H' ⟨rfl,rfl⟩;exact ⟨n-1,by lia,at_+1,_,rfl,by lia,by lia,by lia,by lia,S2,k02⟩
   .exact ⟨_,rfl,_,_,rfl,rfl,rfl,rfl⟩
  .have hge2:zaz .(e) key<=at_:=ybr λz=>c2 (yai (by rw[hge];exact (hat at_ .(a)).1 z));have e:at_=zaz .(e) key:=by lia
   refine ⟨_,rfl,?_⟩;rw[e];exact q _ _ S2 k02 .(a)
 .have c1:¬ (at_:Int)<(m:Int):=ycv (ybX.mpr c);have e:at_=zaz .(e) key:=by lia
  refine iteF ?_;refine ⟨_,rfl,?_⟩;rw[e];exact q _ _ S1 k1 .(a)
def zhR (P:Program)(w:World)(K:Frag)(mg:Str->Option Value)(base:Heap)(mp:Addr):Sp:=λvs H Q _=>∃(br wa f:Addr) (xs:List V) (ps:List Nat) (rows:List (List Int)) (wy:List Nat) (key:Int) (Av:List Addr) (fp:Addr->Prop) (R:List (Nat×Nat)->Hp->Prop) (L:List (Nat×Nat)),vs=[.ref br,.ref wa,.ref f]/\
 AskF P w K mg base f Av mp fp R ps rows key/\zbl Av mp R ps rows br xs L H/\zaA ps/\zaL rows/\ps.length<=40/\zhf H wa ps wy/\wa∉Av/\L.length<=1000/\(∀ k,k<ps.length+1-> .(e).length<=1000)/\
 ∀(D:Addr) (zs:List V) (H':Hp) (L':List (Nat×Nat)),zbl Av mp R ps rows br xs (L++L') H'->KpA Av mp H H'->H D=none->H' D=some (.lst zs)->zam K H' (wy.map λk=>(((zaz .(e) key:Nat):Int),((ownB rows k key:Nat):Int))) zs->L'.length<=figN (zaf ps rows (wy.getD 0 0)).length+2*(wy.length-1)->Q (.ref D) H'
theorem znz (T:Txt K mg)(qc9:DF K mg "search" zgc zd2)(qa3:FC P w K mg base 5 "first_place" zbP (zjY P w K mg base mp))(qd3:FC P w K mg base 1 "start_in" zdz (zmR K))(qbe:FC P w K mg base 3 "next_place" zcc (zmS P w K mg base mp)):FC P w K mg base 6 "search" zd2 (zhR P w K mg base mp):=by
 refine qc9.ok qaW .(c) .(b)
 .obtain ⟨br,wa,f,xs,ps,rows,wy,key,Av,fp,R,L,rfl,_⟩:=h;rfl
 obtain ⟨br,wa,f,xs,ps,rows,wy,key,Av,fp,R,L,rfl,AF,S,hT,hR,few,W,nwa,hLn,hFn,q⟩:=h;have hwl:=W.len;have hpos:0 < wy.length:=ybL.mpr W.ne;refine ⟨_,(zaj (zaq (i:=3) qaW.nd rfl (Or.inl rfl) (zax qa3 hr (zaa (pv 0) (zaa (zaB (zat (K:=K)) (pv 1) zai (λ_ _=>rfl)) (zaa (pv 2) zad)))))
   (zaj (zaq (i:=4) qaW.nd rfl (Or.inl rfl) (zbj (zaa (zaX (zaa (pv 3) (zaa (zaB (zat (K:=K)) (zaB (zay (K:=K)) (zaB (zat (K:=K)) (pv 0) (zaB (zat (K:=K)) (pv 1) zai (λ_ _=>rfl)) (λ_ _=>rfl)) zai (λ_ _=>rfl)) (pv 3) (λ_ _=>rfl)) zad))) zad)))
   (zaj (zbr PassesOwn.never rfl (zqV rfl T.qfB (zaa (pv 1) (zaa (zbH (zhX (K:=K)) (pv 1) (zbL zai) zcK) zad))) (zgN rfl (zaZ (zas (i:=5) qaW.nd rfl (Or.inl rfl)) (zaZ (zas (i:=6) qaW.nd rfl (Or.inl rfl)) zdK))) (zaj (zaq (i:=3) qaW.nd rfl (Or.inl rfl) (zax qbe hr (zaa (pv 0) (zaa (pv 6) (zaa (zax qd3 hr (zaa (pv 0) (zaa (pv 5) (zaa (pv 3) (zaa (pv 6) zad))))) (zaa (pv 2) zad))))))
   (zae (zbi (zeW F.plainAttrs_list F.slot_list_append F.type_list_append za4 (pv 4) (zaa (zaX (zaa (pv 3) (zaa (zaB (zat (K:=K)) (zaB (zay (K:=K)) (zaB (zat (K:=K)) (pv 0) (pv 6) (λ_ _=>rfl)) zai (λ_ _=>rfl)) (pv 3) (λ_ _=>rfl)) zad))) zad))))))
   (zae (zaw (pv 4)))))),?_⟩
 have hk0:wy.getD 0 0<ps.length+1:=W.kn _ (zmy hpos);have hw0:atI (wy.map nV) 0=some (nV (wy.getD 0 0)):=za5 (j:=0) (zgC hpos);refine ⟨_,rfl,_,rfl,_,_,_,_,rfl,rfl,SqL.of W.at_,hw0,_,rfl,br,f,xs,ps,rows,wy.getD 0 0,key,Av,fp,R,L,rfl,AF,S,hT,hR,hk0,by lia,hFn _ hk0,λH1 L1 S1 k1 hL1=>?_⟩;have W1:=S.lst k1 W.at_ nwa;obtain ⟨x0,hx0,b0,o0,j0,ys0,rfl,_,_,hb0,ho0,_,_⟩:=zb3 S1.ba hk0;refine ⟨_,rfl,_,rfl,_,rfl,_,_,_,_,rfl,rfl,SqL.of W1,hw0,_,_,_,_,rfl,rfl,SqL.of S1.at_,za5 hx0,_,_,_,_,rfl,rfl,SqT.of hb0,rfl,_,rfl,_,_,_,_,rfl,rfl,SqL.of ho0,zih hT hR hk0 key,(by show 2<=sizeLine;decide),λt ht=>⟨(by show 1<=sizeLine;decide),λD hD=>?_⟩⟩;have st:=zak ht (.tup [.int ((zaz (zaf ps rows (wy.getD 0 0)) key:Nat):Int),.int ((ownB rows (wy.getD 0 0) key:Nat):Int)]);have sD:=zak hD (.lst [.ref t]);have hD1:H1 D=none:=st.free hD;obtain ⟨hDn,nDA,nDm⟩:=S1.free k1 hD1;have nfD:¬ fp D:=λz=>AF.alloc _ _ _ S1.r z hD1;have s13:=st.trans sD;have tb3:=S1.tb.ext s13.ext;have hR3:=AF.keep _ _ _ S1.r λb o _ e=>s13 b o e;have S3:=S1.kp (.of s13) tb3 hR3 (AF.avl _ _ hR3);have k03:KpA Av mp H _:=k1.trans (.of s13);have h3D:upd (upd H1 t (.tup [.int ((zaz (zaf ps rows (wy.getD 0 0)) key:Nat):Int),.int ((ownB rows (wy.getD 0 0) key:Nat):Int)])) D (.lst [.ref t]) D=some (.lst [.ref t]):=zab;have h3t:=sD _ _ (zab (H:=H1) (a:=t) (o:=.tup [.int ((zaz (zaf ps rows (wy.getD 0 0)) key:Nat):Int),.int ((ownB rows (wy.getD 0 0) key:Nat):Int)]));generalize upd (upd H1 t (.tup [.int ((zaz (zaf ps rows (wy.getD 0 0)) key:Nat):Int),.int ((ownB rows (wy.getD 0 0) key:Nat):Int)])) D (.lst [.ref t])=H3 at S3 k03 h3D h3t ⊢;clear tb3 hR3 s13 sD hD st ht hb0 ho0 hx0;have W3:=S.lst k03 W.at_ nwa;refine ⟨_,rfl,_,rfl,1,rfl,wa,_,rfl,SqL.of W3,λy hy=>?_⟩;rw[zsy];have sy:=zak hy (.lst ((wy.drop 1).map nV));obtain ⟨hyn,nyA,nym⟩:=S3.free k03 hy;have nDy:D≠y:=zac h3D hy;have tb4:=S3.tb.ext sy.ext;have hR4:=AF.keep _ _ _ S3.r λb o _ e=>sy b o e;have S4:=S3.kp (.of sy) tb4 hR4 (AF.avl _ _ hR4);have k04:KpA Av mp H _:=k03.trans (.of sy);have h4y:upd H3 y (.lst ((wy.drop 1).map nV)) y=some (.lst ((wy.drop 1).map nV)):=zab;have h4D:=sy _ _ h3D;have h4t:=sy _ _ h3t;generalize upd H3 y (.lst ((wy.drop 1).map nV))=H4 at S4 k04 h4D h4t h4y ⊢;clear tb4 hR4 sy hy h3D h3t S3 k03 W3;refine ⟨wa,y,rfl,⟨_,SqL.of (S.lst k04 W.at_ nwa)⟩,⟨_,SqL.of h4y⟩,?_⟩;have hdl:((wy.drop 1).map nV).length=wy.length-1:=by rw[yab,yaR]
 refine zqh (xs:=wy.map nV) (ys:=(wy.drop 1).map nV) (by rw[hdl,yab];lia) (λi U H5=>∃(x5 x6:Option V) (zs:List V) (L2:List (Nat×Nat)),U=[some (.ref br),some (.ref wa),some (.ref f),some (.int ((zaz (zaf ps rows (wy.getD i 0)) key:Nat):Int)),some (.ref D),x5,x6]/\H5 D=some (.lst zs)/\zam K H5 ((wy.take (i+1)).map λk=>(((zaz .(e) key:Nat):Int),((ownB rows k key:Nat):Int))) zs/\zbl Av mp R ps rows br xs (L++L2) H5/\KpA Av mp H H5/\L2.length<=figN (zaf ps rows (wy.getD 0 0)).length+2*i/\H5 y=some (.lst ((wy.drop 1).map nV))) ?_ ?_ ?_ ?_
 .refine ⟨_,_,[.ref t],L1,rfl,h4D,?_,S4,k04,by lia,h4y⟩;rw[zmv _ hpos,yca];exact .cons ⟨t,_,_,rfl,h4t,rfl,rfl⟩ .nil
 .rintro i U H5 _ ⟨x5,x6,zs,L2,rfl,h5,hA,S5,k05,hL2,h5y⟩;exact ⟨SqL.of (S.lst k05 W.at_ nwa),SqL.of h5y⟩
 .rintro i x x' U H5 p hx hx' ⟨x5,x6,zs,L2,rfl,h5,hA,S5,k05,hL2,h5y⟩ hp;have hi:i+1<wy.length:=by
   have:=(yaj.mp hx').1;lia
  rw[zgC .(a)]at hx;cases hx
  rw[ycm,ycs,Nat.add_comm 1 i,zgC hi]at hx';cases hx'
  have hpar:=W.ch i hi;have hki:wy.getD i 0<ps.length+1:=W.kn _ (zmy .(a));have hkj:wy.getD (i+1) 0<ps.length+1:=W.kn _ (zmy hi);have NO:=znK hT hR few hki hpar (rows:=rows) key;refine ⟨p,_,rfl,SqT.of zab,rfl,_,_,rfl,_,_,rfl,rfl,?_⟩;have s6:=zak hp (.tup [nV (wy.getD i 0),nV (wy.getD (i+1) 0)]);have hR6:=AF.keep _ _ _ S5.r λb o _ e=>s6 b o e;have S6:=S5.kp (.of s6) (S5.tb.ext s6.ext) hR6 (AF.avl _ _ hR6);refine ⟨_,rfl,_,rfl,_,rfl,_,rfl,_,rfl,_,rfl,Av,br,ps,rows,xs,wy.getD i 0,wy.getD (i+1) 0,_,rfl,S6.at_,S6.ba,hT,hki,hpar,zcT _ _,λH7 s7=>?_⟩;have s57:=s6.trans s7;have hR7:=AF.keep _ _ _ S5.r λb o _ e=>s57 b o e;have S7:=S5.kp (.of s57) (S5.tb.ext s57.ext) hR7 (AF.avl _ _ hR7);refine ⟨_,rfl,br,f,xs,ps,rows,wy.getD (i+1) 0,_,key,Av,fp,R,_,rfl,AF,S7,hT,hR,hkj,(by have:=ziz _ _ (yaa (zaf ps rows (wy.getD 0 0)).length);have:=hFn _ hk0;rw[yah];lia),NO.lo,NO.hi,λH8 L3 S8 k8 hL3=>?_⟩;have k58:KpA Av mp H5 H8:=(KpA.of s57).trans k8;have k08:=k05.trans k58;have h8:=k58 _ _ nDA nDm h5;have h8y:=k58 _ _ nyA nym h5y;obtain ⟨x1,hx1,b1,o1,j1,ys1,rfl,_,_,hb1,ho1,_,_⟩:=zb3 S8.ba hkj;have hzl:=hA.length;rw[yab,yao]at hzl;refine ⟨_,rfl,.inl ⟨rfl,_,SqL.of h8⟩,_,rfl,_,rfl,_,rfl,_,_,_,_,rfl,rfl,SqL.of S8.at_,za5 hx1,_,_,_,_,rfl,rfl,SqT.of hb1,rfl,_,rfl,_,_,_,_,rfl,rfl,SqL.of ho1,zih hT hR hkj key,(by show 2<=sizeLine;decide),λt2 ht2=>?_⟩;have s9:=zak ht2 (.tup [.int ((zaz (zaf ps rows (wy.getD (i+1) 0)) key:Nat):Int),.int ((ownB rows (wy.getD (i+1) 0) key:Nat):Int)]);have h9t:upd H8 t2 (.tup [.int ((zaz (zaf ps rows (wy.getD (i+1) 0)) key:Nat):Int),.int ((ownB rows (wy.getD (i+1) 0) key:Nat):Int)]) t2=_:=zab;have h9:=s9 _ _ h8;have h9y:=s9 _ _ h8y;have k09:=k08.trans (.of s9);have hR9:=AF.keep _ _ _ S8.r λb o _ e=>s9 b o e;have tb9:=S8.tb.ext s9.ext;have hA9:=zi9 (H':=upd H8 t2 (.tup [.int ((zaz (zaf ps rows (wy.getD (i+1) 0)) key:Nat):Int),.int ((ownB rows (wy.getD (i+1) 0) key:Nat):Int)])) (λb us e=>s9 _ _ (S5.tup k58 e)) hA;generalize upd H8 t2 (.tup [.int ((zaz (zaf ps rows (wy.getD (i+1) 0)) key:Nat):Int),.int ((ownB rows (wy.getD (i+1) 0) key:Nat):Int)])=H9 at h9t h9 h9y k09 hR9 tb9 hA9 ⊢;have k0D:KpA Av mp H (upd H9 D (.lst (zs++[.ref t2]))):=λb o n1 n2 e=>by
   rw[zag (zac e hDn)];exact k09 _ _ n1 n2 e
  have hRD:R (L++L2++L3) (upd H9 D (.lst (zs++[.ref t2]))):=AF.keep _ _ _ hR9 λb o hb e=>by
   have n:b≠D:=λz=>by
    rw[z]at hb;exact nfD hb
   rw[zag n];exact e
  refine ⟨_,_,_,rfl,rfl,h9,zao .(a),_,_,_,L2++L3,rfl,zab,?_,?_,k0D,?_,?_⟩
  .rw[zmv _ hi];exact zam.append (zbu h9 hA9) (.cons ⟨t2,_,_,rfl,by rw[zag (λz=>by rw[z,h9]at h9t;cases h9t)];exact h9t,rfl,rfl⟩ .nil)
  .rw[<-ybs];exact S.kp k0D (zrt tb9 h9) hRD (AF.avl _ _ hRD)
  .rw[yah];lia
  .rw[zag (Ne.symm nDy)];exact h9y
 .rintro U H5 ⟨x5,x6,zs,L2,rfl,h5,hA,S5,k05,hL2,h5y⟩;rw[hdl]at hA hL2;rw[yas .(a)]at hA;refine ⟨_,rfl,?_⟩;exact q D zs H5 L2 S5 k05 hDn h5 hA hL2
def plcB (ps:List Nat)(k0 e j:Nat):Bool:=isB ps k0 j&&(decide (j=k0)||match par ps j with|some p=>decide (p<e)|none=>false)
theorem znh (T:zaA ps){k0:Nat}:plcB ps k0 e e=isB ps k0 e:=by
 unfold plcB;cases h:isB ps k0 e with
 | false=>rfl
 | true=>
  rw[Bool.true_and];by_cases c:e=k0
  .rw[yai c];rfl
  .cases hp:par ps e with
   | none=>
    exfalso;have z:e=0:=by
     cases e with
     | zero=>rfl
     | succ e=>
      have hb:=h;unfold isB wayL at hb;unfold wayF at hb;rw[if_neg c,hp]at hb;cases hb
    rw[z]at h c;have:=zcQ T (show 0<k0 by lia);rw[h]at this;cases this
   | some p=>
    have:=(zaM T hp).1;show (decide (e=k0)||decide (p<e))=true;rw[yai this,Bool.or_true]
theorem zma (T:zaA ps){k0 e j:Nat}(hk:k0<=e)(hp:par ps j=some e):isB ps k0 j=isB ps k0 e:=zbY T (λz=>by have:=(zaM T hp).1;lia) hp
theorem zng (T:zaA ps){k0 e:Nat}(hk:k0<=e)(j:Nat):plcB ps k0 (e+1) j=(plcB ps k0 e j||(isB ps k0 e&&decide (j∈zaK ps e (ps.length+1)))):=by
 unfold plcB;cases hp:par ps j with
 | none=>
  have hn:decide (j∈zaK ps e (ps.length+1))=false:=yan λz=>by
   rw[(zaE.mp z).2]at hp;cases hp
  rw[hn,ybp,ybM];simp
 | some p=>
  have hm:j∈zaK ps e (ps.length+1)↔p=e:=by
   rw[zaE,hp];exact ⟨λz=>yae z.2,λz=>⟨(zaM T hp).2,by rw[z]⟩⟩
  by_cases c:p=e
  .subst c;rw[yai (hm.mpr rfl),<-zma T hk hp];cases isB ps k0 j<;>simp
  .rw[yan (λz=>c (hm.mp z)),ybp,ybM];congr 2;show decide (p<e+1)=decide (p<e);exact decide_eq_decide.mpr .(a)
theorem zi6 (T:zaA ps){k0:Nat}(j:Nat):plcB ps k0 k0 j=decide (j=k0):=by
 unfold plcB;by_cases c:j=k0
 .subst c;rw[zcm,yai rfl];rfl
 .rw[yan c,yb6];cases hp:par ps j with
  | none=>rw[ybp]
  | some p=>
   show (isB ps k0 j&&decide (p<k0))=false;by_cases d:p<k0
   .rw[zbY T c hp,zcQ T d];rfl
   .rw[yan d,ybp]
theorem zix {P:Nat->Bool}{c:Nat}(hc:P c=false):∀{l:List Nat},l.Nodup->c∈l->(l.filter λj=>P j||decide (j=c)).length=(l.filter P).length+1
 | [],_,h=>absurd h yaz
 | a::l,hn,h=>by
  rw[yaK]at hn;by_cases e:a=c
  .subst e;rw[yaS .(h),ya9 (by simp[hc]),yaM];congr 2;refine ybN λj hj=>?_;have:j≠a:=λz=>hn.1 (z ▸ hj);simp[this]
  .have ih:=zix hc hn.2 ((yag.mp h).resolve_left λz=>e z.symm);cases hp:P a with
   | true=>rw[yaS (by simp[hp]),yaS hp,yaM,yaM,ih]
   | false=>rw[ya9 (by simp[hp,e]),ya9 (by simp[hp]),ih]
theorem zrr {b:Addr}{o':HO}(x:zaF H Pt pos q)(hb:H b=some o')(n1:∀ tab,o'≠.tbl tab)(n2:∀ F,o'≠.ext F):zaF (upd H b o) Pt pos q:=by
 obtain ⟨tab,h1,h2,h3⟩:=x.ex;have m1:Pt≠b:=λz=>by
  rw[z,hb]at h1;exact n1 _ (yae h1)
 refine ⟨tab,by rw[zag m1];exact h1,h2,?_⟩;rcases h3 with h3|⟨c,h3,h4⟩
 .exact .inl h3
 .refine .inr ⟨c,h3,?_⟩;have m2:c≠b:=λz=>by
   rw[z]at h4;rw[show H b=_ from h4]at hb;exact n2 _ (yae hb).symm
  show upd H b o c=_;rw[zag m2];exact h4
section
variable {P:Program}{w:World}{K:Frag}{mg:Str->Option Value}{base:Heap}{f:Addr}{Av:List Addr}{mp:Addr}{fp:Addr->Prop}{R:List (Nat×Nat)->Hp->Prop}{ps:List Nat}{rows:List .(k)}{key:Int}{br:Addr}{xs:List V}{L L5:List (Nat×Nat)}{H H5 H6:Hp}
theorem zbl.put {b:Addr}{o':HO}(AF:AskF P w K mg base f Av mp fp R ps rows key)(S:zbl Av mp R ps rows br xs L H)(S5:zbl Av mp R ps rows br xs L5 H5)(k:KpA Av mp H H5)(hb:H b=none)(nf:¬ fp b)(h5:H5 b=some o')(n1:∀ tab,o'≠.tbl tab)(n2:∀ F,o'≠.ext F)(o:HO) :
  zbl Av mp R ps rows br xs L5 (upd H5 b o)/\KpA Av mp H (upd H5 b o):=by
 have k':KpA Av mp H (upd H5 b o):=λc u m1 m2 e=>by
  rw[zag (zac e hb)];exact k _ _ m1 m2 e
 have hR:R L5 (upd H5 b o):=AF.keep _ _ _ S5.r λc u hc e=>by
  have n:c≠b:=λz=>by
   rw[z]at hc;exact nf hc
  rw[zag n];exact e
 exact ⟨S.kp k' (zrr S5.tb h5 n1 n2) hR (AF.avl _ _ hR),k'⟩
theorem zbl.more (AF:AskF P w K mg base f Av mp fp R ps rows key)(S5:zbl Av mp R ps rows br xs L5 H5)(s:Same H5 H6):zbl Av mp R ps rows br xs L5 H6:=by
 have hR:=AF.keep _ _ _ S5.r λb o _ e=>s b o e;exact S5.kp (.of s) (S5.tb.ext s.ext) hR (AF.avl _ _ hR)
end
def zjQ (H:Hp)(ps:List Nat)(rows:List .(k))(key:Int)(k:Nat)(z:V):Prop:=∃ t,z=.ref t/\H t=some (.tup [.int (k:Nat),.int ((zaz .(e) key:Nat):Int),.int ((ownB rows k key:Nat):Int)])
theorem ze6 {H H':Hp}{ks:List Nat}{zs:List V}(k:∀ b us,H b=some (.tup us)->H' b=some (.tup us))(h:Paired (zjQ H ps rows key) ks zs):Paired (zjQ H' ps rows key) ks zs:=zaO (λ_ _ ⟨t,e1,e2⟩=>⟨t,e1,k _ _ e2⟩) h
def zm2 (P:Program)(w:World)(K:Frag)(mg:Str->Option Value)(base:Heap)(mp:Addr):Sp:=λvs H Q _=>∃(br f:Addr) (xs:List V) (ps:List Nat) (rows:List (List Int)) (k0:Nat) (key:Int) (Av:List Addr) (fp:Addr->Prop) (R:List (Nat×Nat)->Hp->Prop) (L:List (Nat×Nat)),vs=[.ref br,.int k0,.ref f]/\
 AskF P w K mg base f Av mp fp R ps rows key/\zbl Av mp R ps rows br xs L H/\zaA ps/\zaL rows/\ps.length<=40/\k0<ps.length+1/\L.length<=1000/\(∀ k,k<ps.length+1-> .(e).length<=1000)/\
 ∀(D:Addr) (zs:List V) (H':Hp) (L':List (Nat×Nat)),zbl Av mp R ps rows br xs (L++L') H'->KpA Av mp H H'->H D=none->H' D=some (.lst zs)->Paired (zjQ H' ps rows key) (benL ps k0 (ps.length+1)) zs->
  L'.length<=figN (zaf ps rows k0).length+2*((benL ps k0 (ps.length+1)).length-1)->Q (.ref D) H'
theorem zpS (T:Txt K mg)(qaL:DF K mg "search_beneath" zbT zbF)(qa3:FC P w K mg base 5 "first_place" zbP (zjY P w K mg base mp))(qbe:FC P w K mg base 3 "next_place" zcc (zmS P w K mg base mp)):FC P w K mg base 6 "search_beneath" zbF (zm2 P w K mg base mp):=by
 refine qaL.ok qal .(c) .(b)
 .obtain ⟨br,f,xs,ps,rows,k0,key,Av,fp,R,L,rfl,_⟩:=h;rfl
 obtain ⟨br,f,xs,ps,rows,k0,key,Av,fp,R,L,rfl,AF,S,hT,hR,few,hk0,hLn,hFn,q⟩:=h;refine ⟨_,(zaj (zaq (i:=3) qal.nd rfl (Or.inl rfl) (znl (zgs (pv 1) (zax qa3 hr (zaa (pv 0) (zaa (pv 1) (zaa (pv 2) zad)))) zne) rfl rfl (by simp) (by decide)))
   (zaj (zaq (i:=4) qal.nd rfl (Or.inl rfl) (zbj zad))
   (zaj (zbr PassesOwn.never rfl (zdj rfl T.qax (zaa (pv 1) (zaa (zan (zal (K:=K)) rfl T.qaq boot_len (zaa (pv 0) zad)) zad))) (zas (i:=5) qal.nd rfl (Or.inl rfl)) (zae (za3 (zau (ztp (zdq hr)) (pv 5) (pv 3) (by with_unfolding_all rfl)) (zaj (zaq (i:=6) qal.nd rfl (Or.inl rfl) (zdL (zdq hr) (pv 3) (pv 5) (λ_ _=>rfl)))
   (zaj (zbi (zeW F.plainAttrs_list F.slot_list_append F.type_list_append za4 (pv 4) (zaa (zaX (zaa (pv 5) (zaa (pv 6) (zaa (zaB (zat (K:=K)) (zaB (zay (K:=K)) (zaB (zat (K:=K)) (pv 0) (pv 5) (λ_ _=>rfl)) zai (λ_ _=>rfl)) (pv 6) (λ_ _=>rfl)) zad)))) zad)))
   (zae (zbr PassesOwn.never rfl (zbM (zaB (zay (K:=K)) (zaB (zat (K:=K)) (pv 0) (pv 5) (λ_ _=>rfl)) zai (λ_ _=>rfl))) (zas (i:=7) qal.nd rfl (Or.inl rfl)) (zae (zd5 (zdq hr) (pv 3) (zaB (zay (K:=K)) (pv 7) zai (λ_ _=>rfl)) (zax qbe hr (zaa (pv 0) (zaa (zaB (zay (K:=K)) (pv 7) zai (λ_ _=>rfl)) (zaa (zaB (zat (K:=K)) (zaB (zay (K:=K)) (pv 7) zai (λ_ _=>rfl)) (pv 6) (λ_ _=>rfl)) (zaa (pv 2) zad))))) rfl)))))) zaD)))
   (zae (zaw (pv 4)))))),?_⟩
 have hxl:=Paired.length S.ba;rw[yaL]at hxl;intro pl hpl;have spl:=zak hpl (.dK []);obtain ⟨_,npA,npm⟩:=S.free (λ_ _ _ _ h=>h) hpl;have nfp:¬ fp pl:=λz=>AF.alloc _ _ _ S.r z hpl;refine ⟨_,rfl,_,rfl,_,rfl,_,rfl,br,f,xs,ps,rows,k0,key,Av,fp,R,L,rfl,AF,S.more AF spl,hT,hR,hk0,by lia,hFn _ hk0,λH1 L1 S1 k1 hL1=>?_⟩;have h1p:H1 pl=some (.dK []):=k1 _ _ npA npm zab;refine ⟨h1p,[(.inl (k0:Int),.int ((zaz (zaf ps rows k0) key:Nat):Int))],rfl,by show 1<=15;decide,?_⟩;have k01:KpA Av mp H H1:=KpA.trans (.of spl) k1;obtain ⟨S2,k02⟩:=zbl.put AF S S1 k01 hpl nfp h1p nofun nofun (.dK (zd8 [] [(.inl (k0:Int),.int ((zaz (zaf ps rows k0) key:Nat):Int))]));have h2p:upd H1 pl (.dK (zd8 [] [(.inl (k0:Int),.int ((zaz (zaf ps rows k0) key:Nat):Int))])) pl=some (.dK [(.inl (k0:Int),.int ((zaz (zaf ps rows k0) key:Nat):Int))]):=zab;generalize upd H1 pl (.dK (zd8 [] [(.inl (k0:Int),.int ((zaz (zaf ps rows k0) key:Nat):Int))]))=H2 at S2 k02 h2p ⊢;refine ⟨(by show 0<=sizeLine;decide),λD hD=>?_⟩;have sD:=zak hD (.lst []);obtain ⟨hDn,nDA,nDm⟩:=S2.free k02 hD;have nfD:¬ fp D:=λz=>AF.alloc _ _ _ S2.r z hD;have npD:pl≠D:=zac h2p hD;have S3:=S2.more AF sD;have k03:KpA Av mp H _:=k02.trans (.of sD);have h3p:=sD _ _ h2p;have h3D:upd H2 D (.lst []) D=some (.lst []):=zab;generalize upd H2 D (.lst [])=H3 at S3 k03 h3p h3D ⊢;refine ⟨_,rfl,_,rfl,_,_,rfl,.inl (SqL.of S3.at_),k0,_,rfl,⟨by lia,by lia,by lia,by lia⟩,?_⟩;have en:(((xs.length:Nat):Int)-(k0:Int)).toNat=ps.length+1-k0:=by lia
 rw[en];refine zbA (n:=ps.length+1 - k0) (λi U H5=>∃(x5 x6 x7:Option V) (kvs:List (Key×V)) (zs:List V) (L5:List (Nat×Nat)),U=[some (.ref br),some (.int k0),some (.ref f),some (.ref pl),some (.ref D),x5,x6,x7]/\H5 pl=some (.dK kvs)/\(∀ j:Nat,valV kvs (.inl (j:Int))=if plcB ps k0 (k0+i) j=true then some (.int ((zaz (zaf ps rows j) key:Nat):Int)) else none)/\kvs.length=((List.range (ps.length+1)).filter (plcB ps k0 (k0+i))).length/\
  H5 D=some (.lst zs)/\Paired (zjQ H5 ps rows key) (benL ps k0 (k0+i)) zs/\zbl Av mp R ps rows br xs (L++L5) H5/\KpA Av mp H H5/\L5.length+2<=figN (zaf ps rows k0).length+2*kvs.length) ?_ ?_ ?_
 .refine ⟨_,_,_,_,[],L1,rfl,h3p,λj=>?_,?_,h3D,?_,S3,k03,by show _<=_+2*1;lia⟩
  .rw[ybk,zi6 hT];unfold valV;by_cases c:j=k0
   .subst c;rw[yai rfl,List.find?_cons_of_pos .(h)];rfl
   .rw[yan c,List.find?_cons_of_neg (by simp;lia)];rfl
  .have e:(List.range (ps.length+1)).filter (plcB ps k0 (k0+0))=(List.range (ps.length+1)).filter λj=>(λ_=>false) j||decide (j=k0):=ybN λj _=>by rw[ybk,zi6 hT,yb6]
   rw[e,zix rfl ycj (yaT.mpr hk0),ya8.mpr (λ_ _=>by simp)];rfl
  .have e:benL ps k0 (k0+0)=[]:=ya8.mpr λj hj=>by
    have:=yaT.mp hj;rw[zcQ hT .(a)];decide
   rw[e];exact .nil
 .rintro i U H5 hi ⟨x5,x6,x7,kvs,zs,L5,rfl,h5p,hval,hkl,h5D,hTr,S5,k05,hL5⟩;have ee:(k0:Int)+(i:Int)=((k0+i:Nat):Int):=by lia
  rw[ee];have he:k0+i<ps.length+1:=by lia
  have hke:k0<=k0+i:=by lia
  have hsucc:=zng hT hke;have hself:=znh hT (k0:=k0) (e:=k0+i);have hev:=hval (k0+i);have hbs:benL ps k0 (k0+(i+1))=benL ps k0 (k0+i)++(if isB ps k0 (k0+i)=true then [k0+i] else []):=zhb
  have hcn:=zeZ ps (k0+i) (ps.length+1);have hcm:=λj=>zaE (ps:=ps) (k:=k0+i) (n:=ps.length+1) (j:=j);have ec:k0+(i+1)=k0+i+1:=by lia
  rw[ec]at hbs;rw[ec];generalize k0+i=e at *;have hg:=DGet.k (k:=(.inl (e:Int))) h5p;rw[hev,hself]at hg;refine ⟨_,rfl,_,rfl,pl,_,rfl,hg,_,rfl,?_⟩;cases hB:isB ps k0 e with
  | false=>
   refine iteF ?_;refine ⟨_,_,_,kvs,zs,L5,rfl,h5p,λj=>?_,?_,h5D,?_,S5,k05,hL5⟩
   .rw[hval j,hsucc j,hB,Bool.false_and,ybM]
   .rw[hkl];congr 1;exact ybN λj _=>by rw[hsucc j,hB,Bool.false_and,ybM]
   .rw[hbs,hB,if_neg .(i),yaC];exact hTr
  | true=>
   rw[hB]at hg hbs;rw[if_pos rfl]at hg hbs;refine iteT ?_;refine ⟨_,rfl,_,rfl,pl,_,rfl,hg,?_⟩;obtain ⟨x,hx,b,o,jj,ys,rfl,_,njA,hb,ho,hj,hJ⟩:=zb3 S5.ba he;have hzl:=Paired.length hTr;have hbl:=ziE ps k0 e;refine ⟨_,rfl,.inl ⟨rfl,_,SqL.of h5D⟩,_,rfl,_,rfl,_,rfl,_,rfl,_,_,_,_,rfl,rfl,SqL.of S5.at_,za5 hx,_,_,_,_,rfl,rfl,SqT.of hb,rfl,_,rfl,_,_,_,_,rfl,rfl,SqL.of ho,zih hT hR he key,(by show 3<=sizeLine;decide),λt ht=>?_⟩;have s6:=zak ht (.tup [.int (e:Int),.int ((zaz (zaf ps rows e) key:Nat):Int),.int ((ownB rows e key:Nat):Int)]);have S6:=S5.more AF s6;have k06:KpA Av mp H _:=k05.trans (.of s6);have h6t:upd H5 t (.tup [.int (e:Int),.int ((zaz (zaf ps rows e) key:Nat):Int),.int ((ownB rows e key:Nat):Int)]) t=_:=zab;have h6D:=s6 _ _ h5D;have h6p:=s6 _ _ h5p;have hTr6:=ze6 (λb us h=>s6 b _ h) hTr;have h6b:=s6 _ _ hb;have h6j:=s6 _ _ hj;have hJ6:=zaO (λ_ _ h=>zbS.same s6 h) hJ;generalize upd H5 t (.tup [.int (e:Int),.int ((zaz (zaf ps rows e) key:Nat):Int),.int ((ownB rows e key:Nat):Int)])=H6 at S6 k06 h6t h6D h6p hTr6 h6b h6j hJ6 ⊢;refine ⟨_,_,_,rfl,rfl,h6D,zao .(a),?_⟩;obtain ⟨S7,k07⟩:=zbl.put AF S S6 k06 hDn nfD h6D nofun nofun (.lst (zs++[.ref t]));have nD:∀{x:Addr} {us:List V},H6 x=some (.tup us)->x≠D:=λ{x us} h z=>by
    rw[z,h6D]at h;cases h
   have hTr7:Paired (zjQ (upd H6 D (.lst (zs++[.ref t]))) ps rows key) (benL ps k0 (e+1)) (zs++[.ref t]):=by
    rw[hbs];exact zcL (ze6 (λb us h=>by rw[zag (nD h)];exact h) hTr6) ⟨t,rfl,by rw[zag (nD h6t)];exact h6t⟩
   have h7D:upd H6 D (.lst (zs++[.ref t])) D=some (.lst (zs++[.ref t])):=zab;have h7p:upd H6 D (.lst (zs++[.ref t])) pl=some (.dK kvs):=by rw[zag npD];exact h6p
   generalize upd H6 D (.lst (zs++[.ref t]))=H7 at S7 k07 hTr7 h7D h7p ⊢;clear hJ6 h6j h6b hTr6 h6p h6D h6t k06 S6 s6 ht hJ hj hb ho hx;obtain ⟨x,hx,b,o,jj,ys,rfl,_,njA,hb,ho,hj,hJ⟩:=zb3 S7.ba he;have hyl:=Paired.length hJ;have hcl:=zcD ps e (ps.length+1);refine ⟨_,rfl,_,rfl,_,_,_,_,rfl,rfl,SqL.of S7.at_,za5 hx,_,_,_,_,rfl,rfl,SqT.of hb,rfl,jj,rfl,⟨_,SqL.of hj⟩,?_⟩;have npj:jj≠pl:=λz=>by
    rw[z,h7p]at hj;cases hj
   refine zdS (xs:=ys) (λm U H8=>∃(x7:Option V) (kvs:List (Key×V)) (L8:List (Nat×Nat)),U=[some (.ref br),some (.int k0),some (.ref f),some (.ref pl),some (.ref D),some (.int e),some (.int ((zaz (zaf ps rows e) key:Nat):Int)),x7]/\H8 pl=some (.dK kvs)/\(∀ j:Nat,valV kvs (.inl (j:Int))=if (plcB ps k0 e j || decide (j∈(zaK ps e (ps.length+1)).take m))=true then some (.int ((zaz (zaf ps rows j) key:Nat):Int)) else none)/\kvs.length=((List.range (ps.length+1)).filter λj=>plcB ps k0 e j || decide (j∈(zaK ps e (ps.length+1)).take m)).length/\
    zbl Av mp R ps rows br xs (L++L8) H8/\KpA Av mp H H8/\L8.length+2<=figN (zaf ps rows k0).length+2*kvs.length/\∀ b o,b∉Av->b≠mp->b≠pl->H7 b=some o->H8 b=some o) ?_ ?_ ?_ ?_
   .refine ⟨_,kvs,L5,rfl,h7p,λj=>?_,?_,S7,k07,hL5,λ_ _ _ _ _ h=>h⟩
    .rw[hval j];simp
    .rw[hkl];simp
   .rintro m U H8 _ ⟨x7,kvs,L8,rfl,_,_,_,_,_,_,k78⟩;exact SqL.of (k78 _ _ njA (S7.nm hj nofun) npj hj)
   .rintro m x U H8 hxm ⟨x7,kvs,L8,rfl,h8p,hval8,hkl8,S8,k08,hL8,k78⟩;obtain ⟨c,hc,a,sa,rfl,nsA,ha,hsa⟩:=zdM hJ hxm;have hmi:=(yaj.mp hc).1;have hcm2:=(hcm c).mp (yaN hc);have hpar:=hcm2.2;have hec:=(zaM hT hpar).1;have npt:∀{x:Addr} {us:List V},H7 x=some (.tup us)->x≠pl:=λ{x us} h z=>by
     rw[z,h7p]at h;cases h
    have h8a:=k78 _ _ (S7.na ha nofun) (S7.nm ha nofun) (npt ha) ha;have h8s:=k78 _ _ nsA (S7.nm hsa nofun) (λz=>by rw[z,h7p]at hsa;cases hsa) hsa
    have NO:=znK hT hR few he hpar (rows:=rows) key;have hle:=zcT (zaf ps rows e) key;have hat:atI ((zfI (zaf ps rows e) (zaf ps rows c)).map nV) ((zaz (zaf ps rows e) key:Nat):Int)=some (nV (stN (zaf ps rows c) ((zaf ps rows e).take (zaz (zaf ps rows e) key)))):=za5 (by
     rw[yam];unfold zfI;rw[yam,ya7 (by lia)];rfl)
    have hno:(plcB ps k0 e c||decide (c∈(zaK ps e (ps.length+1)).take m))=false:=by
     have h1:plcB ps k0 e c=false:=by
      unfold plcB;rw[hpar,yan (show ¬ c=k0 by lia)];show (isB ps k0 c&&(false||decide (e<e)))=false;rw[yan (yaO _),ybM,ybp]
     have h2:decide (c∈(zaK ps e (ps.length+1)).take m)=false:=yan λz=>by
      obtain ⟨i',hi',hi2⟩:=yaP z;rw[yao]at hi';rw[List.getElem_take]at hi2;have h3:=(yaj.mp hc).2;exact ya0.mp hcn i' m .(a) hmi .(a) (hi2.trans h3.symm)
     rw[h1,h2];rfl
    have hnone:=hval8 c;rw[hno,if_neg .(i)]at hnone;refine ⟨_,rfl,_,rfl,_,_,_,_,rfl,rfl,SqT.of h8a,rfl,_,rfl,_,_,_,_,rfl,rfl,SqT.of h8a,rfl,_,rfl,_,_,_,_,rfl,rfl,SqL.of h8s,hat,_,rfl,br,f,xs,ps,rows,c,_,key,Av,fp,R,_,rfl,AF,S8,hT,hR,hcm2.1,(by have:=ziz _ _ (yaa (zaf ps rows k0).length);have:=hFn _ hk0;have h9:kvs.length<=ps.length+1:=by { rw[hkl8];exact yax (ya3 _ _) (by rw[yaL];exact yaa _) };rw[yah];lia),NO.lo,NO.hi,λH9 L9 S9 k9 hL9=>?_⟩;have k09:=k08.trans k9;have h9p:=k9 _ _ npA npm h8p;have h9a:=S8.tup k9 h8a;have hkl9:kvs.length<=ps.length+1:=by
     rw[hkl8];exact yax (ya3 _ _) (by rw[yaL];exact yaa _)
    obtain ⟨S10,k010⟩:=zbl.put AF S S9 k09 hpl nfp h9p nofun nofun (.dK (putK kvs (.inl (c:Int)) (.int ((zaz .(l) key:Nat):Int))));refine ⟨_,rfl,_,rfl,_,_,_,_,rfl,rfl,SqT.of h9a,rfl,pl,_,rfl,DPut.k (k:=.inl (c:Int)) h9p (zao .(a)),?_⟩;have htk:(zaK ps e (ps.length+1)).take (m+1)=(zaK ps e (ps.length+1)).take m++[c]:=by
     rw[yaF hmi,(yaj.mp hc).2]
    have hor:∀ j,(plcB ps k0 e j||decide (j∈(zaK ps e (ps.length+1)).take (m+1)))=((plcB ps k0 e j||decide (j∈(zaK ps e (ps.length+1)).take m))||decide (j=c)):=λj=>by
     rw[htk,Bool.or_assoc];congr 1;simp
    refine ⟨_,_,L8++L9,rfl,zab,λj=>?_,?_,by rw[<-ybs];exact S10,k010,?_,λb o n1 n2 n3 h=>?_⟩
    .rw[zo8,hor j];by_cases z:j=c
     .subst z;rw[if_pos rfl,yai rfl,Bool.or_true,if_pos rfl]
     .rw[if_neg (λy=>z (by have:=Sum.inl.inj y;lia)),hval8 j,yan z,ybM]
    .rw[zc6 _ hnone,yah,yay,hkl8];have e2:((List.range (ps.length+1)).filter λj=>plcB ps k0 e j||decide (j∈(zaK ps e (ps.length+1)).take (m+1)))=(List.range (ps.length+1)).filter λj=>(λj=>plcB ps k0 e j||decide (j∈(zaK ps e (ps.length+1)).take m)) j||decide (j=c):=ybN λj _=>hor j;rw[e2,zix (P:=λj=>plcB ps k0 e j||decide (j∈(zaK ps e (ps.length+1)).take m)) hno ycj (yaT.mpr hcm2.1)]
    .rw[zc6 _ hnone,yah,yah,yay];lia
    .rw[zag n3];exact k9 _ _ n1 n2 (k78 _ _ n1 n2 n3 h)
   .rintro U H8 ⟨x7,kvs,L8,rfl,h8p,hval8,hkl8,S8,k08,hL8,k78⟩;rw[yas .(a)]at hkl8;refine ⟨_,_,_,kvs,_,L8,rfl,h8p,λj=>?_,?_,k78 _ _ nDA nDm (Ne.symm npD) h7D,?_,S8,k08,hL8⟩
    .rw[hval8 j,yas .(a),hsucc j,hB,Bool.true_and]
    .rw[hkl8];congr 1;exact ybN λj _=>by rw[hsucc j,hB,Bool.true_and]
    .exact ze6 (λb us h=>k78 _ _ (S7.na h nofun) (S7.nm h nofun) (λz=>by rw[z,h7p]at h;cases h) h) hTr7
 rintro U H5 ⟨x5,x6,x7,kvs,zs,L5,rfl,h5p,hval,hkl,h5D,hTr,S5,k05,hL5⟩;have en2:k0+(ps.length+1-k0)=ps.length+1:=by lia
 rw[en2]at hTr hkl;refine ⟨_,rfl,q D zs H5 L5 S5 k05 hDn h5D hTr ?_⟩;have hle:((List.range (ps.length+1)).filter (plcB ps k0 (ps.length+1))).length<=(benL ps k0 (ps.length+1)).length:=by
  unfold benL;rw[<-List.countP_eq_length_filter,<-List.countP_eq_length_filter];refine List.countP_mono_left λj _ hj=>?_;unfold plcB at hj;exact (Bool.and_eq_true_iff.mp hj).1
 lia
def Kp0 (H H':Hp):Prop:=∀ b o,(∀ tab,o≠.tbl tab)->H b=some o->H' b=some o
theorem zif {K:Frag}(k:Kp0 H H'):∀{es:List (Int×Int)} {ws:List V},zam K H es ws->zam K H' es ws
 | _,_,.nil=>.nil
 | _,_,.cons h t=>by
  refine .cons ?_ (zif k t);obtain ⟨a,x1,x2,rfl,hT,e1,e2⟩:=(show hasP K H _ _ from h);exact ⟨a,x1,x2,rfl,k _ _ nofun hT,e1,e2⟩
theorem zqg {K:Frag}{js:List Nat}{qs:List Addr}(k:Kp0 H H')(h:zaJ K H ps rows js qs):zaJ K H' ps rows js qs:=zaO (λj q ⟨ws,h1,h2⟩=>⟨ws,k _ _ (λ_ z=>by cases z) h1,zif k h2⟩) h
theorem zqr {js:List Nat}{xs:List V}(k:Kp0 H H')(h:Paired (BrAt [] H ps rows) js xs):Paired (BrAt [] H' ps rows) js xs:=zaO (λj x ⟨b,o,j',ys,h1,h2,h3,h4,h5,h6,h7⟩=>
 ⟨b,o,j',ys,h1,h2,h3,k _ _ (λ_ z=>by cases z) h4,k _ _ (λ_ z=>by cases z) h5,k _ _ (λ_ z=>by cases z) h6,zaO (λc y ⟨a,s,g1,g2,g3,g4⟩=>⟨a,s,g1,g2,k _ _ (λ_ z=>by cases z) g3,k _ _ (λ_ z=>by cases z) g4⟩) h7⟩) h
theorem zmJ {U:L2.St}{H:Hp}{Q:Bool->Hp->Prop}(h:Q true H):tYes U H Q:=h
theorem Kp0.trans (a:Kp0 H H1)(b:Kp0 H1 H2):Kp0 H H2:=λc o n h=>b c o n (a c o n h)
theorem Kp0.of (a:Same H H1):Kp0 H H1:=λc o _ h=>a c o h
theorem Kp0.tup {H H1:Hp}(a:Kp0 H H1){b:Addr}{us:List V}(h:H b=some (.tup us)):H1 b=some (.tup us):=a _ _ nofun h
theorem Kp0.lst {H H1:Hp}(a:Kp0 H H1){b:Addr}{us:List V}(h:H b=some (.lst us)):H1 b=some (.lst us):=a _ _ nofun h
theorem zm8 (e:Kp0 H H'):∀{as:List Addr} {rows:List (List Int)},zaR H as rows->zaR H' as rows
 | _,_,.nil=>.nil
 | _,_,.cons h t=>.cons (e.tup h) (zm8 e t)
theorem zf9 {st t:Addr}(e:Kp0 H H')(S:za1 H st ps rows t rs as):za1 H' st ps rows t rs as:=
 ⟨e.tup S.st,e.tup S.tr,e.tup S.rs,zm8 e S.at_,S.len,S.T,S.R,S.few,S.keys⟩
theorem zmx {w:List Nat}(e:Kp0 H H')(h:zhf H wa ps w):zhf H' wa ps w:=⟨e.lst h.at_,h.len,h.ne,h.ch,h.kn⟩
theorem zq5 (s:LS K L d H)(g:Kp0 H H'):LS K L d H':=by
 obtain ⟨ns,a,l,e,q⟩:=s.ex;refine ⟨ns,a,l,g _ _ nofun e,?_⟩;rcases q with (q|⟨o,q⟩)|q
 .exact .inl (.inl (g _ _ nofun q))
 .exact .inl (.inr ⟨o,g _ _ nofun q⟩)
 .exact .inr q
theorem zh4 {rows:List .(k)}{r:List Int}(h:r∈rows):r.length<=zbz rows:=by
 unfold zbz
 induction rows with
 | nil=>cases h
 | cons a l ih=>
  rw[yap,yaJ];rcases yag.mp h with z|z
  .rw[z];lia
  .have:=ih z;lia
theorem zm9 {rows:List .(k)}{k:Nat}(h:k<rows.length):zar rows k∈rows:=by
 unfold zar;rw[yad,yac h];exact yaA h
theorem zbc (x:zaF H Pt pos q):∃ tab,H Pt=some (.tbl tab):=by
 obtain ⟨tab,e,_⟩:=x.ex;exact ⟨tab,e⟩
theorem zjc (T:Txt K mg)(qbf:DF K mg "_law_children" zc1 zcx):FC P w K mg base 1 "_law_children" zcx (zdi K):=by
 refine qbf.ok qcV .(c) .(b)
 .obtain ⟨t,ps,k,rfl,_⟩:=h;rfl
 obtain ⟨t,ps,k,rfl,ht,hz,q⟩:=h;refine ⟨_,(zae (zaw (zbN (N:=["_law_k","_law_tree_here","_law_knot"]) (own:=1) (cap:=[0,1]) rfl (zbQ rfl T.qax (zaa (zan (zal (K:=K)) rfl T.qaq boot_len (zaa (pv 0) zad)) zad)) ⟨rfl,rfl,rfl,rfl,rfl,rfl⟩ (λ_ _ _ _ _=>(zas (i:=0) (show List.Nodup (["_law_k","_law_tree_here","_law_knot"]:List Str) by decide +kernel) rfl (Or.inl rfl))) (λ_ _ _ _ _=>(zeU (zau zfv (zaB (zay (K:=K)) (pv 1) (pv 0) (λ_ _=>rfl)) (pv 2) (zaH _)))) (λ_ _ _ _ _=>(pv 0))))),?_⟩;refine ⟨_,rfl,_,_,rfl,.inr (SqT.of ht),_,rfl,by lia,by rw[zav];lia,λD hD=>?_⟩;have el:((((zbZ ps).length:Nat):Int)).toNat=ps.length+1:=by rw[zav,ya5]
 rw[el];refine zdr (n:=ps.length+1) (λj U H3=>∃ x0:Option V,U=[x0,some (.ref t),some (.int k)]/\H3 D=some (.lst ((zaK ps k j).map nV))/\But D H H3) ?_ ?_ ?_
 .exact ⟨_,rfl,zab,λb o n e=>by rw[zag n];exact e⟩
 .rintro j m U H3 hm hj ⟨x0,rfl,h3,k3⟩;rw[ybv];have h3t:=k3 _ _ (zac ht hD) ht;have hlen:=zcD ps k j;refine ⟨_,rfl,_,rfl,_,_,_,_,rfl,rfl,SqT.of h3t,ze0 hj,_,rfl,zi3 _ _ _,_,rfl,?_⟩;refine ite2 .(n) .(n)
  .have c':par ps j=some k:=zie.mp (yaH c);refine ⟨_,rfl,_,h3,zao (by rw[yab];lia),m-1,by lia,by lia,_,rfl,?_,λb o n e=>by rw[zag n];exact k3 b o n e⟩;rw[zab,zcS,if_pos c',yal];rfl
  .have c':¬ par ps j=some k:=λz=>c (yai (zie.mpr z));refine ⟨m-1,by lia,by lia,_,rfl,?_,k3⟩;rw[h3,zcS,if_neg c',yaC]
 .rintro U H3 ⟨x0,rfl,h3,k3⟩;exact q D H3 hD (λb o e=>k3 b o (zac e hD) e) h3
theorem zoP {us:List Nat}{c ch:Nat}(h:zkH ps (us++[c]))(hp:par ps ch=some c):zkH ps ((us++[c])++[ch]):=zml h λ_=>by
 rw[hp,yah,yay,ybH,yad,ya4 (yaa _),ybI];rfl
def zqM (K:Frag):Sp:=λvs H Q _=>∃(d L t:Addr) (ps:List Nat),vs=[.ref d,.ref t]/\H t=some (.tup (zbZ ps))/\zaA ps/\ps.length<=40/\LS K L d H/\
 ∀(wa:Addr) (w:List Nat) (H':Hp),H wa=none->zhf H' wa ps w->Keep d H H'->LS K L d H'->Q (.ref wa) H'
theorem zrY (T:Txt K mg)(qdH:DF K mg "_law_way" zh0 zgq)(qae:FC P w K mg base 2 "_law_take" zbx (ze8 K))(qb0:FC P w K mg base 1 "_law_children" zcx (zdi K)):FC P w K mg base 3 "_law_way" zgq (zqM K):=by
 refine qdH.ok qch .(c) .(b)
 .obtain ⟨d,L,t,ps,rfl,_⟩:=h;rfl
 obtain ⟨d,L,t,ps,rfl,ht,hT,hl,hs,q⟩:=h;have ndT:∀{H':Hp} {a:Addr} {o:List V},LS K L d H'->H' a=some (.tup o)->a≠d:=λ{H' a o} s e z=>by
  obtain ⟨_,_,_,e2,_⟩:=s.ex;rw[<-z,e]at e2;cases e2
 have nd:∀{H':Hp} {a:Addr},LS K L d H'->H' a=none->a≠d:=λ{H' a} s e z=>by
  obtain ⟨_,_,_,e2,_⟩:=s.ex;rw[<-z,e]at e2;cases e2
 have free:∀{H':Hp} {a:Addr},Keep d H H'->LS K L d H'->H' a=none->H a=none:=λ{H' a} k s e=>by
  cases e2:H a with
  | none=>rfl
  | some o=>
   have:=k _ _ (nd s e) e2;rw[e]at this;cases this
 refine ⟨_,(zaj (zaq (i:=2) qch.nd rfl (Or.inl rfl) (zbj (zaa (zax qae hr (zaa (pv 0) (zaa (zan (zal (K:=K)) rfl T.qaq boot_len (zaa (pv 1) zad)) zad))) zad)))
   (zaN (za3 (zau zfv (zax qae hr (zaa (pv 0) (zaa zai zad))) zai (zaH _)) (zae (zaq (i:=2) qch.nd rfl (Or.inl rfl) (zbj (zaa zai zad)))) zaD)
   (zaj (zgo PassesOwn.never (PW.pt (zgI (zau (zfU (List Int) (huD hr)) (zax qb0 hr (zaa (pv 1) (zaa (zaB (zat (K:=K)) (pv 2) (zib ze4 zai) (λ_ _=>rfl)) zad))) (zbj zad) (zaH _)) (zeT (zau zj5 (zax qae hr (zaa (pv 0) (zaa zai zad))) zai (zaH _))))) (zaj (zaq (i:=3) qch.nd rfl (Or.inl rfl) (zax qb0 hr (zaa (pv 1) (zaa (zaB (zat (K:=K)) (pv 2) (zib ze4 zai) (λ_ _=>rfl)) zad))))
   (zae (zbi (zeW F.plainAttrs_list F.slot_list_append F.type_list_append za4 (pv 2) (zaa (zaB (zat (K:=K)) (pv 3) (zax qae hr (zaa (pv 0) (zaa (zan (zal (K:=K)) rfl T.qaq boot_len (zaa (pv 3) zad)) zad))) (λ_ _=>rfl)) zad))))))
   (zae (zaw (pv 2)))))),?_⟩
 refine ⟨_,rfl,_,rfl,_,_,rfl,.inr (SqT.of ht),d,L,_,rfl,by rw[zav];lia,hs,λv H1 v0 v1 k1 s1=>?_⟩;rw[zav]at v1;obtain ⟨k0,rfl⟩:=zhx v0;refine ⟨(by show 1<=sizeLine;decide),λp hp=>?_⟩;have sp:=zak hp (.lst [nV k0]);have hpp:upd H1 p (.lst [nV k0]) p=some (.lst [nV k0]):=zab;have s1p:=s1.same sp;have k1p:Keep d H (upd H1 p (.lst [nV k0])):=λb o nb e=>sp _ _ (k1 _ _ nb e);have hp0:=free k1 s1 hp;generalize upd H1 p (.lst [nV k0])=H2 at hpp s1p k1p ⊢;refine ⟨λU' H'=>∃(p:Addr) (k0:Nat),U'=[some (.ref d),some (.ref t),some (.ref p),none]/\H' p=some (.lst [nV k0])/\k0<ps.length+1/\H p=none/\Keep d H H'/\LS K L d H',?_,?_⟩
 .refine ⟨_,rfl,d,L,2,rfl,by decide,s1p,λv H3 _ _ k3 s3=>⟨rfl,_,rfl,?_⟩⟩;have hpd:p≠d:=nd s1 hp;have k03:Keep d H H3:=λb o nb e=>k3 _ _ nb (k1p _ _ nb e);refine ite2 (λ_=>?_) (λ_=>?_)
  .refine ⟨(by show 1<=sizeLine;decide),λu hu=>?_⟩;have su:=zak hu (.lst [nV 0]);exact ⟨u,0,rfl,zab,by lia,free k03 s3 hu,λb o nb e=>su _ _ (k03 _ _ nb e),s3.same su⟩
  .exact ⟨p,k0,rfl,k3 _ _ hpd hpp,by lia,hp0,k03,s3⟩
 clear hpp s1p k1p hp0 sp hp k1 s1;rintro U' H3 ⟨p,k0,rfl,h3,hk0,hp,k3,s3⟩;have hpd:p≠d:=nd hs hp;have htp:t≠p:=zac ht hp;have htd:=ndT hs ht;refine zgB (λU HW=>∃(us:List Nat) (c:Nat) (x3:Option V),U=[some (.ref d),some (.ref t),some (.ref p),x3]/\HW p=some (.lst ((us++[c]).map nV))/\us.length<=c/\c<ps.length+1/\zkH ps (us++[c])/\(∀ x∈us++[c],x<ps.length+1)/\(∀ b o,b≠d->b≠p->H b=some o->HW b=some o)/\LS K L d HW)
  (λU HW=>∃(w:List Nat) (x3:Option V),U=[some (.ref d),some (.ref t),some (.ref p),x3]/\zhf HW p ps w/\(∀ b o,b≠d->b≠p->H b=some o->HW b=some o)/\LS K L d HW)
  (λ_ H2=>match H2 p with|some (.lst xs)=>1000-xs.length|_=>0) ?_ ?_ ?_ ?_
 .refine ⟨[],k0,_,rfl,h3,yaG _,hk0,λt ht=>?_,λx hx=>?_,λb o nb _ e=>k3 _ _ nb e,s3⟩
  .rw[List.nil_append,yay]at ht;lia
  .rw[yaq.mp hx];exact hk0
 .rintro U HW ⟨us,c,x3,rfl,hw,hul,hc,hch,hkn,kw,sw⟩;have hwt:=kw _ _ htd htp ht;have done:∀{HX:Hp} {x3:Option V},(∀ b o,b≠d->HW b=some o->HX b=some o)->LS K L d HX->∃(w:List Nat) (x3':Option V),[some (V.ref d),some (.ref t),some (.ref p),x3]=[some (.ref d),some (.ref t),some (.ref p),x3']/\zhf HX p ps w/\(∀ b o,b≠d->b≠p->H b=some o->HX b=some o)/\LS K L d HX:=λ{HX x3} k s=>
   ⟨us++[c],x3,rfl,⟨k _ _ hpd hw,by rw[yah,yay];lia,by simp,hch,hkn⟩,λb o n1 n2 e=>k _ _ n1 (kw _ _ n1 n2 e),s⟩
  refine ⟨_,rfl,_,rfl,_,rfl,_,_,_,_,rfl,rfl,SqL.of hw,zoZ,t,ps,c,rfl,hwt,by lia,λcl HX hcl sx hx=>?_⟩;refine ⟨(by show 0<=sizeLine;decide),λe he=>?_⟩;have se:=zak he (.lst []);have sxe:=sx.trans se;have swe:=sw.same sxe;refine ⟨(zaK ps c (ps.length+1)).map (λn:Nat=>(n:Int)),[],⟨_,_,rfl,SqL.of (se _ _ hx),zpV⟩,⟨_,_,rfl,SqL.of zab,.nil⟩,_,rfl,?_⟩;generalize upd HX e (.lst [])=HE at sxe swe ⊢;refine ite2 (λcne=>?_) (λ_=>?_)
  .refine ⟨_,rfl,d,L,6,rfl,by decide,swe,λv H4 _ _ k4 s4=>?_⟩;have k04:∀ b o,b≠d->HW b=some o->H4 b=some o:=λb o nb e=>k4 _ _ nb (sxe _ _ e);refine ⟨_,_,rfl,rfl,_,rfl,?_⟩;refine ite2 (λ_=>?_) (λ_=>?_)
   .have h4:=k04 _ _ hpd hw;have h4t:=k04 _ _ htd hwt;refine ⟨_,rfl,_,rfl,_,rfl,_,_,_,_,rfl,rfl,SqL.of h4,zoZ,t,ps,c,rfl,h4t,by lia,λc2 H5 hc2 s5 h5=>?_⟩;have hcne:zaK ps c (ps.length+1)≠[]:=λz=>by
     rw[z]at cne;cases cne
    have hcmem:=λm=>zaE (ps:=ps) (k:=c) (n:=ps.length+1) (j:=m);have hcl:=zcD ps c (ps.length+1);generalize zaK ps c (ps.length+1)=cs at hcne h5 hcmem hcl;have hpos:0<cs.length:=ybL.mpr hcne;have h5p:=s5 _ _ h4;have s45:=s4.same s5;refine ⟨_,rfl,.inl ⟨rfl,_,SqL.of h5p⟩,_,rfl,_,rfl,_,rfl,_,_,rfl,.inl (SqL.of h5),d,L,_,rfl,by rw[yab];lia,s45,λv2 H6 v20 v21 k6 s6=>?_⟩;rw[yab]at v21;obtain ⟨j,rfl⟩:=zhx v20;have hj:j<cs.length:=by lia
    have h6:=k6 _ _ hpd h5p;have hc2d:c2≠d:=nd s4 hc2;refine ⟨_,_,_,_,rfl,rfl,SqL.of (k6 _ _ hc2d h5),zhK hj,?_⟩;have hm:cs.getD j 0∈cs:=by
     rw[yad,yac hj];exact yaA hj
    generalize cs.getD j 0=ch at hm ⊢;obtain ⟨hchn,hchp⟩:=(hcmem ch).mp hm;have hlt:=(zaM hT hchp).1;refine ⟨_,_,_,rfl,rfl,h6,zao (by rw[yab,yah,yay];lia),?_⟩;have k06:∀ b o,b≠d->HW b=some o->H6 b=some o:=λb o nb e=>k6 _ _ nb (s5 _ _ (k04 _ _ nb e));refine ⟨⟨us++[c],ch,_,rfl,?_,?_,hchn,?_,?_,λb o n1 n2 e=>?_,?_⟩,?_⟩
    .rw[zab,yal (l₂:=[ch])];rfl
    .rw[yah,yay];lia
    .exact zoP hch hchp
    .intro x hx;rcases yaw.mp hx with z|z
     .exact hkn x z
     .rw[yaq.mp z];exact hchn
    .rw[zag n2];exact k06 _ _ n1 (kw _ _ n1 n2 e)
    .exact LS.put hs hp (λb o n1 n2 e=>k06 _ _ n1 (kw _ _ n1 n2 e)) s6
    .show (match upd H6 p _ p with|some (.lst xs)=>1000-xs.length|_=>0)<(match HW p with|some (.lst xs)=>1000-xs.length|_=>0)
     rw[zab,hw];show 1000-(((us++[c]).map nV)++[nV ch]).length<1000-((us++[c]).map nV).length;rw[yah,yab,yah,yay,yay];lia
   .exact done k04 s4
  .refine iteF ?_;exact done (λb o _ e=>sxe _ _ e) swe
 .refine ziT (λU H Q Q' m h=>?_) (λU H Q Q' m h=>?_)
  .obtain ⟨y1,e1,y2,e2,y3,e3,y4,y5,y6,y7,e4,e5,e6,e7,t,ps,k,e8,e9,e10,q⟩:=h;refine ⟨y1,e1,y2,e2,y3,e3,y4,y5,y6,y7,e4,e5,e6,e7,t,ps,k,e8,e9,e10,λp H' a1 a2 a3=>?_⟩;obtain ⟨z1,z2⟩:=q p H' a1 a2 a3;refine ⟨z1,λe he=>?_⟩;obtain ⟨as,bs,g1,g2,b,g3,q⟩:=z2 e he;exact ⟨as,bs,g1,g2,b,g3,m _ _ q⟩
  .obtain ⟨y1,e1,d,L,z,e2,e3,e4,q⟩:=h;refine ⟨y1,e1,d,L,z,e2,e3,e4,λv H' a1 a2 a3 a4=>?_⟩;obtain ⟨i,j,g1,g2,b,g3,q⟩:=q v H' a1 a2 a3 a4;exact ⟨i,j,g1,g2,b,g3,m _ _ q⟩
 rintro U HW ⟨w,x3,rfl,W,kw,sw⟩;refine ⟨_,rfl,?_⟩;exact q p w HW hp W (λb o nb e=>kw _ _ nb (zac e hp) e) sw
abbrev ztF:Str:=(envOfC ("search_for_key" : Str) (zah za6) 0 0 .none).qual ++ "<lambda>"
abbrev zn2:Pos:=⟨210,48,210,89⟩
structure TabS (mF mS:Addr)(H:Hp):Prop where
 f:zaF H mF zea zjm
 s:zaF H mS zn2 ztF
 n:mF≠mS
theorem TabS.ext (x:TabS mF mS H)(e:Ext H H'):TabS mF mS H':=⟨x.f.ext e,x.s.ext e,x.n⟩
theorem zhd {bs:Heap}{g c' pf:Addr}{key:Int}{qs:List Addr}{nm:List Str}{qn:Str}(hV:FV P w K mg bs 2 g nm (zjW 2 (tOp (rI0 λi j=>.bl (decide (i<j))) (tOp (rIxT K) (tOp (rIxL K) (tOp (rIxL K) (tVar 3) (tVar 0)) (tVar 1)) (tC (.int 0))) (tVar 2)) [.int key,.ref pf] c' qn))(hC:zeQ H4 c' qn)(t4:zaF H4 mF zea zjm)(h4:H4 pf=some (.lst (qs.map V.ref)))(hF4:zaJ K H4 ps rows (List.range (ps.length+1)) qs):AskF P w K mg bs g [] mF (λb=>b≠mF/\H4 b≠none) (λ_ H'=>Gro mF H4 H') ps rows key:=by
 have nm1:∀{x:Addr} {o:HO},H4 x=some o->(∀ tab,o≠.tbl tab)->x≠mF:=λ{x o} e n z=>by
  obtain ⟨tab,e2⟩:=zbc t4;rw[<-z,e]at e2;exact n _ (yae e2)
 refine ⟨λL Ha Hb hR hk b o n e=>hk b o ⟨n,by rw[e];exact λz=>nomatch z⟩ (hR b o n e),λL Ha b hR hb=>?_,λL Ha hR a ha=>absurd ha yaz,λz=>z.1 rfl,_,_,hV,λkn i L Ha Q hkn hi _ hR hQ=>⟨rfl,hR _ _ (nm1 hC nofun) hC,?_⟩⟩
 .cases e:H4 b with
  | none=>exact absurd e hb.2
  | some o=>
   rw[hR b o hb.1 e];exact λz=>nomatch z
 .obtain ⟨qk,hqk,wk,hwk,hak⟩:=zb3 hF4 hkn;have hge:(zaf ps rows kn)[i]?=some ((zaf ps rows kn).getD i (0,0)):=by
   rw[yad,yac hi];rfl
  obtain ⟨v,hv,bb,x1,x2,rfl,hb,e1,e2⟩:∃ v,wk[i]?=some v/\hasP K H4 ((zaf ps rows kn).getD i (0,0)) v:=zeD hak hge;have e1':x1=.int ((zaf ps rows kn).getD i (0,0)).1:=e1;subst e1';have ha:=hR _ _ (nm1 h4 nofun) h4;have hwa:=hR _ _ (nm1 hwk nofun) hwk;have hba:=hR _ _ (nm1 hb nofun) hb;refine ⟨_,rfl,_,rfl,_,_,_,_,rfl,rfl,SqL.of ha,za5 (v:=.ref qk) (by rw[yam,hqk];rfl),_,rfl,_,_,_,_,rfl,rfl,SqL.of hwa,za5 hv,_,_,_,_,rfl,rfl,SqT.of hba,rfl,_,rfl,_,_,rfl,rfl,?_⟩;exact hQ _ hR λ_ _ _ h=>h
def Kp2 (mF mS:Addr)(H H':Hp):Prop:=∀ b o,b≠mF->b≠mS->H b=some o->H' b=some o
theorem Kp2.kp0 (k:Kp2 mF mS H H')(x:TabS mF mS H):Kp0 H H':=λb o n e=>k b o (λz=>by
 obtain ⟨tab,e2⟩:=zbc x.f;rw[<-z,e]at e2;exact n _ (yae e2)) (λz=>by
 obtain ⟨tab,e2⟩:=zbc x.s;rw[<-z,e]at e2;exact n _ (yae e2)) e
def zk1 (K:Frag)(mF mS:Addr):Sp:=λvs H Q _=>∃(st t rs pf wa:Addr) (key:Int) (ps:List Nat) (rows:List (List Int)) (as qs:List Addr) (wy:List Nat),vs=[.ref t,.ref pf,.ref wa,.int key]/\za1 H st ps rows t rs as/\H pf=some (.lst (qs.map V.ref))/\zaJ K H ps rows (List.range (ps.length+1)) qs/\zhf H wa ps wy/\TabS mF mS H/\
 ∀(D:Addr) (zs:List V) (H':Hp),H D=none->Kp2 mF mS H H'->TabS mF mS H'->H' D=some (.lst zs)->zam K H' (wy.map λk=>(((zaz .(e) key:Nat):Int),((ownB rows k key:Nat):Int))) zs->Q (.ref D) H'
theorem znI (T:Txt K mg){mc mp:Addr}(qaA:DFT K mg "search_for_key" za6 zbE mc mp)(hBM:BMAt mg base)(qbd:FC P w K mg base 2 "bridges_of" zce (zm1 K))(qda:∀ b,Sub K mg base b->FC P w K mg b 6 "search" zd2 (zhR P w K mg b mF)):FC P w K mg base 7 "search_for_key" zbE (zk1 K mF mp):=by
 refine qaA.ok qbG .(c) (λf A outer s H vs Q E hr h=>?_)
 .obtain ⟨st,t,rs,pf,wa,key,ps,rows,as,qs,wy,rfl,_⟩:=h;rfl
 obtain ⟨st,t,rs,pf,wa,key,ps,rows,as,qs,wy,rfl,S,hpf,hF,W,TT,q⟩:=h;refine ⟨_,(zae (zaw (zi8 (kf:=1) qda hr (zax qbd hr (zaa (pv 0) (zaa (pv 1) zad))) (pv 2) (zjl (osc:=zah za6) (N:=["tree","fulls","way","key"]) (ps:=["knot","at"]) (caps:=["key","fulls"]) (cap:=[3,1]) ⟨rfl,rfl,rfl,by decide +kernel,by decide +kernel,by decide +kernel,by decide +kernel⟩ (by decide +kernel) (by decide +kernel) rfl rfl rfl rfl (λ_ _ _ _ us hl=>match us,hl with|[_,_],_=>rfl) (λ_=>rfl)) rfl qaA.hd hBM (λb _ _ _ _ _ _ _ S hr=>(zeV zfu (zaB (zay (K:=K)) (zaB (zat (K:=K)) (zaB (zat (K:=K)) (pv 3) (pv 0) (λ_ _=>rfl)) (pv 1) (λ_ _=>rfl)) zai (λ_ _=>rfl)) (pv 2) (zaH _)))))),?_⟩
 refine ⟨_,rfl,_,rfl,st,ps,rows,t,rs,as,pf,qs,rfl,S,hpf,hF,λbr xs H3 hbr s3 h3 hB=>?_⟩;have T3:=TT.ext s3.ext;refine ⟨_,rfl,T3.s,[.int key,.ref pf],rfl,?_,λbs g c' H4 hg hT4 hC SB hV=>?_⟩
 .intro j i v h1 h2;rcases j with _|_|j
  .cases h1;cases h2;rfl
  .cases h1;cases h2;rfl
  .cases h1
 have nmS:∀{x:Addr} {o:HO},H3 x=some o->(∀ tab,o≠.tbl tab)->x≠mp:=λ{x o} e n z=>by
  obtain ⟨tab,e2⟩:=zbc T3.s;rw[<-z,e]at e2;exact n _ (yae e2)
 have k34:Kp0 H3 H4:=λb o n e=>hg _ _ (nmS e n) e;have t4:zaF H4 mF zea zjm:=T3.f.gro hg T3.n (zbc T3.s);have nm1:∀{x:Addr} {o:HO},H4 x=some o->(∀ tab,o≠.tbl tab)->x≠mF:=λ{x o} e n z=>by
  obtain ⟨tab,e2⟩:=zbc t4;rw[<-z,e]at e2;exact n _ (yae e2)
 have kp04:Kp0 H H4:=Kp0.trans (.of s3) k34;have h4:=kp04.lst hpf;have hF4:=zqg kp04 hF;have AF:=zhd hV hC t4 h4 hF4;have SE:zbl [] mF (λ_ H'=>Gro mF H4 H') ps rows br xs [] H4:=⟨Gro.refl _ _,λa ha=>absurd ha yaz,k34.lst h3,yaz,zqr k34 hB,t4⟩;refine ⟨br,wa,g,xs,ps,rows,wy,key,[],_,_,[],rfl,AF,SE,S.T,S.R,S.few,zmx kp04 W,yaz,yaG _,(λk hk=>by have:=zed S.T S.len (rows:=rows) hk;have:=S.keys;lia),λD zs H5 L' S5 k5 hDn h5 hA _=>?_⟩;have k45:Gro mF H4 H5:=λb o n e=>k5 b o yaz n e;have kp45:Kp0 H4 H5:=λb o n e=>k45 _ _ (nm1 e n) e;refine q D zs H5 ?_ (λb o n1 n2 e=>k45 _ _ n1 (hg _ _ n2 (s3 _ _ e))) ⟨S5.tb,hT4.gro k45 (Ne.symm TT.n) (zbc t4),TT.n⟩ h5 hA;cases e:H D with
 | none=>rfl
 | some o=>
  by_cases z:D=mp
  .obtain ⟨tab,e2⟩:=zbc hT4;rw[z,e2]at hDn;cases hDn
  .have:=hg _ _ z (s3 _ _ e);rw[hDn]at this;cases this
def zfG (row:List Int)(key:Int):Nat:=(row.filter λx=>decide (x<key)).length
theorem zqu {row:List Int}{key:Int}{m:Nat}(hm:m<=row.length)(h1:∀ i,i<m->decide (row.getD i 0<key)=true)(h2:∀ i,m<=i->i<row.length->decide (row.getD i 0<key)=false):zfG row key=m:=by
 unfold zfG
 conv=>lhs;rw[<-yaX m row]
 rw[yaQ,yah];have e1:(row.take m).filter (λx=>decide (x<key))=row.take m:=by
  rw[yce];intro x hx;obtain ⟨i,hi,rfl⟩:=yaP hx;rw[yao]at hi;have:=h1 i .(a);rw[yad,yac .(a)]at this;rw[List.getElem_take];exact this
 have e2:(row.drop m).filter (λx=>decide (x<key))=[]:=by
  rw[ya8];intro x hx;obtain ⟨i,hi,rfl⟩:=yaP hx;rw[yaR]at hi;have:=h2 (m+i) .(a) .(a);rw[yad,yac .(a)]at this;rw[List.getElem_drop];intro z;rw[show decide (row[m+i]<key)=false from this]at z;cases z
 rw[e1,e2,yao,ybi];lia
abbrev lamQ:Str:=(envOfC ("place" : Str) (zah zfK) 0 0 .none).qual ++ "<lambda>"
abbrev zeM:Pos:=⟨44,36,44,60⟩
def zgF (K:Frag)(mp:Addr):Sp:=λvs H Q _=>∃(r:Addr) (row:List Int) (key:Int),vs=[.ref r,.int key]/\H r=some (.tup (row.map V.int))/\row.Pairwise (· < ·)/\zaF H mp zeM lamQ/\
 ∀ H':Hp,Gro mp H H'->zaF H' mp zeM lamQ->Q (.int (zfG row key:Nat)) H'
theorem zpE (T:Txt K mg){mc mp:Addr}(qdb:DFT K mg "place" zfK zdG mc mp)(hBM:BMAt mg base)(qaK:∀ base,FC P w K mg base 4 "how_many_below" zbh (zmZ P w K mg base)):FC P w K mg base 5 "place" zdG (zgF K mp):=by
 refine qdb.ok qeZ .(c) (λf A outer s H vs Q E hr h=>?_)
 .obtain ⟨r,row,key,rfl,_⟩:=h;rfl
 obtain ⟨r,row,key,rfl,h0,hup,hT,q⟩:=h;refine ⟨_,(zae (zaw (zlQ (kf:=0) qaK hr (zan (zal (K:=K)) rfl T.qaq boot_len (zaa (pv 0) zad)) (zjl (osc:=zah zfK) (N:=["row","key"]) (ps:=["at"]) (caps:=["key","row"]) (cap:=[1,0]) ⟨rfl,rfl,rfl,by decide +kernel,by decide +kernel,by decide +kernel,by decide +kernel⟩ (by decide +kernel) (by decide +kernel) rfl rfl rfl rfl (λ_ _ _ _ us hl=>match us,hl with|[_],_=>rfl) (λ_=>rfl)) rfl qdb.hd hBM (λ_ _ _ _ _ _ _ _ _=>(zeV zfu (zaB (zay (K:=K)) (pv 2) (pv 0) (λ_ _=>rfl)) (pv 1) (zaH _)))))),?_⟩
 refine ⟨_,rfl,_,_,rfl,.inr (SqT.of h0),hT,[.int key,.ref r],rfl,?_,λbase f c' H2 hg hT2 hC hV=>?_⟩
 .intro j i v h1 h2;rcases j with _|_|j
  .cases h1;cases h2;rfl
  .cases h1;cases h2;rfl
  .cases h1
 have nmp:r≠mp:=λz=>by
  obtain ⟨tab,e,_⟩:=hT.ex;rw[<-z,h0]at e;cases e
 have h2r:=hg _ _ nmp h0;rw[yab];refine ⟨row.length,f,_,_,λi=>decide (row.getD i 0<key),λ_ H'=>H'=H2,rfl,FV.mono hV .(i),rfl,λi L1 H1 Q1 hi _ hR hQ=>?_,λi j hij hj hb=>?_,λm L1 H' hm hb1 hb2 _ hR=>?_⟩
 .subst hR;refine ⟨rfl,hC,?_⟩;have hat:atI (row.map V.int) ((i:Nat):Int)=some (.int (row.getD i 0)):=za5 (by rw[yam,yac hi,yad,yac hi];rfl);refine ⟨_,rfl,_,rfl,_,_,_,_,rfl,rfl,SqT.of h2r,hat,_,rfl,_,_,rfl,rfl,?_⟩;exact hQ _ rfl
 .refine yai ?_;have hb:=yaH hb;by_cases e:i=j
  .subst e;exact hb
  .have:=ya0.mp hup i j .(a) hj .(a);rw[yad,yac .(a)]at hb ⊢;exact Int.lt_trans this hb
 .subst hR;have e:=zqu hm hb1 hb2;have q2:=q _ hg hT2;rw[e]at q2;exact q2
def za0 (a b:List En):List En:=a.filter λe=>decide (e∉b)
theorem zbv {a:List En}{e:En}:e∈za0 a b↔e∈a/\e∉b:=by
 unfold za0;rw[yaY,decide_eq_true_iff]
theorem zoC (a:List En):za0 a a=[]:=ya8.mpr λe h=>by
 rw[yan (λz=>z h)];decide
theorem zhH {a:List En}(h:a.Nodup):(za0 a b).Nodup:=h.filter _
structure Led (f f' g c:List En):Prop where
 eq:f'=zd1 (za0 f g++c)
 gone:g=za0 f f'
 come:c=za0 f' f
theorem znX (h1:Rise f)(h2:Rise f')(hg:Rise g)(hc:Rise c)(mg:∀ e,e∈g↔e∈f/\e∉f')(mc:∀ e,e∈c↔e∈f'/\e∉f):Led f f' g c:=by
 have nd:(za0 f g++c).Nodup:=by
  refine ya2.mpr ⟨zhH (zes h1),zes hc,λa ha b hb z=>?_⟩;subst z;exact ((mc a).mp hb).2 (zbv.mp ha).1
 refine ⟨zeR h2 (zfJ nd) λe=>?_,zeR hg (h1.filter _) λe=>?_,zeR hc (h2.filter _) λe=>?_⟩
 .rw[zfa,yaw,zbv,mg,mc];constructor
  .intro h;by_cases hf:e∈f
   .exact .inl ⟨hf,λz=>z.2 h⟩
   .exact .inr ⟨h,hf⟩
  .rintro (⟨h,n⟩|h)
   .exact Classical.byContradiction λz=>n ⟨h,z⟩
   .exact h.1
 .exact (mg e).trans zbv.symm
 .exact (mc e).trans zbv.symm
theorem znY (h1:Rise f)(h2:Rise f'):Led f f' (za0 f f') (za0 f' f):=znX h1 h2 (h1.filter _) (h2.filter _) (λ_=>zbv) (λ_=>zbv)
theorem zln (h1:Rise f)(h2:Rise f')(hg:za0 f f'=[])(hc:za0 f' f=[]):f'=f:=zeR h2 h1 λe=>by
 constructor
 .intro h;exact Classical.byContradiction λz=>absurd (zbv.mpr ⟨h,z⟩) (by rw[hc];exact yaz)
 .intro h;exact Classical.byContradiction λz=>absurd (zbv.mpr ⟨h,z⟩) (by rw[hg];exact yaz)
section
variable {ps:List Nat}{rows rows':List .(k)}
def zf5 (k:Nat)(rows rows':List .(k)):Prop:=∀ j,j≠k->zar rows' j=zar rows j
theorem znr {k j:Nat}(h:zf5 k rows rows')(n:j≠k):ownE rows' j=ownE rows j:=by
 unfold ownE;rw[h j n]
theorem zgv (T:zaA ps){k:Nat}(hk:k<ps.length+1)(h:zf5 k rows rows'):∀(m j:Nat),ps.length+1-j<=m->j<ps.length+1->isB ps j k=false->zaf ps rows' j=zaf ps rows j
 | 0,j,hm,hj,_=>by lia
 | m+1,j,hm,hj,hb=>by
  rw[zbJ T hj,zbJ T hj];unfold zdk;have njk:j≠k:=λz=>by
   rw[z,zcm]at hb;cases hb
  rw[znr h njk];congr 3;refine ybY λc hc=>?_;obtain ⟨hcn,hcp⟩:=zaE.mp hc;have hlt:=(zaM T hcp).1;rw[zgv T hk h m c .(a) hcn ?_];cases e:isB ps c k with
  | false=>rfl
  | true=>
   rw[(zcq T _ k (yaa _) hk).mpr (.inr ⟨c,hcp,e⟩)]at hb;cases hb
theorem zot (T:zaA ps)(R:zaL rows)(R':zaL rows'){k p:Nat}(hk:k<ps.length+1)(h:zf5 k rows rows')(hb:isB ps j k=true)(hp:par ps j=some p) :
  Led (zaf ps rows p) (zaf ps rows' p) (za0 (zbm .(m)) (zbm (zaf ps rows' j))) (za0 (zbm (zaf ps rows' j)) (zbm .(m))):=by
 have hlt:=zaM T hp;have hpn:p<ps.length+1:=by lia
 have npk:p≠k:=λz=>by
  have:=zcQ T (show k<j by lia);rw[hb]at this;cases this
 have oth:∀ c,par ps c=some p->c≠j->zaf ps rows' c=zaf ps rows c:=λc hc n=>by
  refine zgv T hk h _ c (yaa _) (zaM T hc).2 ?_;cases e:isB ps c k with
  | false=>rfl
  | true=>exact (zdo T hc hp n _ k (yaa _) e hb).elim
 have hr:=λ{r:List (List Int)} (R:zaL r)=>(zaC T R hlt.2).sublist (zaP _);have dis:∀{r r':List (List Int)},zaL r->zaL r'->(∀ c,par ps c=some p->c≠j->zaf ps r' c=zaf ps r c)->ownE r' p=ownE r p->∀ e,e∈zbm (zaf ps r j)->e∉zbm (zaf ps r' j)->e∉zaf ps r' p:=λ{r r'} Q Q' ho hw e he hn hf=>by
  obtain ⟨i,hi,hbi,ei,_⟩:=zdR T Q hlt.2 e ((zaP _).subset he);rcases (zbg T hpn).mp hf with z|⟨c,hc,z⟩
  .have:=(zhw hpn z).2;have eij:i=p:=by lia
   have:=zcQ T hlt.1;rw[<-eij,hbi]at this;cases this
  .by_cases cj:c=j
   .subst cj;exact hn z
   .obtain ⟨i2,hi2,hb2,e2,_⟩:=zdR T Q' (zaM T hc).2 e ((zaP _).subset z);have eii:i2=i:=by lia
    subst eii;exact zdo T hc hp cj _ i2 (yaa _) hb2 hbi
 have up:∀{r r':List (List Int)},(∀ c,par ps c=some p->c≠j->zaf ps r' c=zaf ps r c)->ownE r' p=ownE r p->∀ e,e∈zaf ps r p->e∉zaf ps r' p->e∈zbm (zaf ps r j)/\e∉zbm (zaf ps r' j):=λ{r r'} ho hw e he hn=>by
  refine ⟨?_,λz=>hn ((zbg T hpn).mpr (.inr ⟨j,hp,z⟩))⟩;rcases (zbg T hpn).mp he with z|⟨c,hc,z⟩
  .exact absurd ((zbg T hpn).mpr (.inl (by rw[hw];exact z))) hn
  .by_cases cj:c=j
   .subst cj;exact z
   .exact absurd ((zbg T hpn).mpr (.inr ⟨c,hc,by rw[ho c hc cj];exact z⟩)) hn
 have ow:=znr h npk;refine znX (zaC T R hpn) (zaC T R' hpn) ((hr R).filter _) ((hr R').filter _) (λe=>zbv.trans ⟨λzq0=>(by obtain ⟨a,b⟩:=zq0;exact ⟨(zbg T hpn).mpr (.inr ⟨j,hp,a⟩),dis R R' oth ow e a b⟩),λzq1=>(by obtain ⟨a,b⟩:=zq1;exact up oth ow e a b)⟩) (λe=>zbv.trans ⟨λzq2=>(by obtain ⟨a,b⟩:=zq2;exact ⟨(zbg T hpn).mpr (.inr ⟨j,hp,a⟩),dis R' R (λc hc n=>(oth c hc n).symm) ow.symm e a b⟩),λzq3=>(by obtain ⟨a,b⟩:=zq3;exact up (λc hc n=>(oth c hc n).symm) ow.symm e a b)⟩)
theorem zjw (T:zaA ps)(R:zaL rows)(R':zaL rows'){k:Nat}(hk:k<ps.length+1)(h:zf5 k rows rows'):Led .(e) (zaf ps rows' k) (za0 (ownE rows k) (ownE rows' k)) (za0 (ownE rows' k) (ownE rows k)):=by
 have oth:∀ c,par ps c=some k->zaf ps rows' c=zaf ps rows c:=λc hc=>zgv T hk h _ c (yaa _) (zaM T hc).2 (zcQ T (zaM T hc).1);have half:∀{r r':List (List Int)},zaL r'->(∀ c,par ps c=some k->zaf ps r' c=zaf ps r c)->∀ e,(e∈ownE r k/\e∉ownE r' k)↔e∈zaf ps r k/\e∉zaf ps r' k:=λ{r r'} Q' ho e=>by
  constructor
  .rintro ⟨a,b⟩;refine ⟨(zbg T hk).mpr (.inl a),λz=>?_⟩;rcases (zbg T hk).mp z with z|⟨c,hc,z⟩
   .exact b z
   .obtain ⟨i,hi,hbi,ei,_⟩:=zdR T Q' (zaM T hc).2 e ((zaP _).subset z);have:=(zhw hk a).2;have eik:i=k:=by lia
    have:=zcQ T (zaM T hc).1;rw[<-eik,hbi]at this;cases this
  .rintro ⟨a,b⟩;refine ⟨?_,λz=>b ((zbg T hk).mpr (.inl z))⟩;rcases (zbg T hk).mp a with z|⟨c,hc,z⟩
   .exact z
   .exact absurd ((zbg T hk).mpr (.inr ⟨c,hc,by rw[ho c hc];exact z⟩)) b
 have ori:∀{r:List (List Int)},zaL r->Rise (ownE r k):=λ{r} Q=>by
  unfold ownE;exact List.Pairwise.map _ (R:=λa b:Int=>a<b) (λa b (h:a<b)=>zcs.mpr (.inl h)) (Q.at_up k)
 exact znX (zaC T R hk) (zaC T R' hk) ((ori R).filter _) ((ori R').filter _) (λe=>zbv.trans (half R' oth e)) (λe=>zbv.trans (half R (λc hc=>(oth c hc).symm) e))
end
structure FA (K:Frag)(H:Hp)(p:Addr)(qs:List Addr)(n:Nat)(f:Nat->List En):Prop where
 at_:H p=some (.lst (qs.map V.ref))
 len:qs.length=n
 nd:qs.Nodup
 np:p∉qs
 get:∀(j:Nat) (q:Addr),qs[j]?=some q->∃ ws,H q=some (.lst ws)/\zam K H (f j) ws
section
variable {K:Frag}{H H':Hp}{p:Addr}{qs:List Addr}{n:Nat}{f g:Nat->List En}
theorem FA.ext (h:FA K H p qs n f)(e:Ext H H'):FA K H' p qs n f:=
 ⟨e _ _ h.at_ (λ_ z=>nomatch z),h.len,h.nd,h.np,λj q hq=>by
  obtain ⟨ws,h1,h2⟩:=h.get j q hq;exact ⟨ws,e _ _ h1 nofun,h2.mono e⟩⟩
theorem FA.congr (h:FA K H p qs n f)(e:∀ j,j<n->f j=g j):FA K H p qs n g:=
 ⟨h.at_,h.len,h.nd,h.np,λj q hq=>by
  rw[<-e j (by have:=(yaj.mp hq).1;have:=h.len;lia)];exact h.get j q hq⟩
theorem FA.set (h:FA K H p qs n f){k:Nat}{q':Addr}{l:List En}{ws:List V}(hq:H q'=some (.lst ws))(hw:zam K H l ws)(hn:q'∉qs)(hp:q'≠p):FA K (upd H p (.lst ((qs.map V.ref).set k (.ref q')))) p (qs.set k q') n (λj=>if j=k then l else f j):=by
 refine ⟨?_,by rw[yb4];exact h.len,?_,λz=>?_,λj q hj=>?_⟩
 .rw[zab,List.map_set]
 .show List.Pairwise _ _;rw[ya0];intro i j hi hj hij;rw[yb4]at hi hj;rw[List.getElem_set,List.getElem_set];have old:=ya0.mp h.nd i j hi hj hij;split
  .rw[if_neg .(a)];exact λz=>hn (z ▸ yaA hj)
  .split
   .exact λz=>hn (z ▸ yaA hi)
   .exact old
 .rcases ybO z with y|y
  .exact h.np y
  .exact hp y.symm
 .rw[ybt]at hj;show ∃ ws,_/\zam K _ (if j=k then l else f j) ws
  by_cases c:k=j
  .rw[if_pos c]at hj;by_cases c2:k<qs.length
   .rw[if_pos c2]at hj;have:=yae hj;subst this;rw[if_pos c.symm];exact ⟨ws,by rw[zag hp];exact hq,zbu h.at_ hw⟩
   .rw[if_neg c2]at hj;cases hj
  .rw[if_neg c]at hj;rw[if_neg (λz=>c z.symm)];obtain ⟨us,h1,h2⟩:=h.get j q hj;have hqp:q≠p:=λz=>h.np (by rw[<-z];exact yaN hj);exact ⟨us,by rw[zag hqp];exact h1,zbu h.at_ h2⟩
theorem FA.at (h:FA K H p qs n f){k:Nat}(hk:k<n):∃ q ws,qs[k]?=some q/\H q=some (.lst ws)/\zam K H (f k) ws:=by
 have e:qs[k]?=some (qs[k]'(by have:=h.len;lia)):=yac _;obtain ⟨ws,h1,h2⟩:=h.get k _ e;exact ⟨_,ws,e,h1,h2⟩
theorem FA.has (h:FA K H p qs n f):zam K H ((List.range n).map f) (qs.map V.ref):=by
 obtain ⟨h1,h2,h3,h4,h5⟩:=h;clear h1 h3 h4
 induction qs generalizing n f with
 | nil=>
  have:n=0:=h2.symm;subst this;exact .nil
 | cons q qs ih=>
  obtain ⟨m,rfl⟩:∃ m,n=m+1:=⟨qs.length,h2.symm⟩;rw[List.range_succ_eq_map,yap,yap,ybd];obtain ⟨ws,w1,w2⟩:=h5 0 q rfl;exact .cons ⟨q,ws,rfl,SqL.of w1,w2⟩ (ih (n:=m) (f:=f ∘ Nat.succ) (Nat.succ.inj h2) λj q' hj=>h5 (j+1) q' (by rw[ycb];exact hj))
end
theorem zlA {K:Frag}{p:Addr}:∀{n:Nat} {qs:List Addr} (m:Nat),qs.length=n->(∀(j:Nat) (q:Addr),qs[j]?=some q->∃ ws,H q=some (.lst ws)/\zam K H (zaf ps rows (m+j)) ws)->zaJ K H ps rows (List.range' m n) qs
 | _,[],_,rfl,_=>.nil
 | _,q::qs,m,rfl,h=>by
  refine .cons (h 0 q rfl) (zlA (p:=p) (m+1) rfl λj q' hj=>?_);have:=h (j+1) q' hj;rwa[show m+(j+1)=m+1+j by lia]at this
theorem FA.fulls {K:Frag}{p:Addr}{n:Nat}(h:FA K H p qs n (zaf ps rows)):zaJ K H ps rows (List.range n) qs:=by
 rw[List.range_eq_range'];exact zlA (p:=p) 0 h.len λj q hj=>by
  rw[ybK];exact h.get j q hj
structure zaW (K:Frag)(CS:Addr)(H:Hp)(sh dx st p:Addr)(qs:List Addr)(ps:List Nat)(rows:List .(k))(t rs:Addr)(as:List Addr):Prop where
 own:H dx=some (.own sh)
 ins:H sh=some (.ins CS dx [("kept",.ref st),("fulls",.ref p)])
 stand:za1 H st ps rows t rs as
 full:FA K H p qs (ps.length+1) (zaf ps rows)
def Tp (H H':Hp):Prop:=∀ b us,H b=some (.tup us)->H' b=some (.tup us)
theorem zm7 (e:Tp H H')(h:zaR H as rows):zaR H' as rows:=pImp (λ_ _=>e _ _) h
theorem zbB {st t:Addr}(e:Tp H H')(S:za1 H st ps rows t rs as):za1 H' st ps rows t rs as:=
 ⟨e _ _ S.st,e _ _ S.tr,e _ _ S.rs,zm7 e S.at_,S.len,S.T,S.R,S.few,S.keys⟩
theorem But.tp {p:Addr}(k:But p H H')(n:∀ us,H p≠some (.tup us)):Tp H H':=λb us e=>k b _ (λz=>n us (z ▸ e)) e
theorem zcl {K:Frag}(k:Tp H H'){es:List (Int×Int)}{ws:List V}(h:zam K H es ws):zam K H' es ws:=pImp (λ_ _ h=>by
  obtain ⟨a,x1,x2,rfl,hT,e1,e2⟩:=(show hasP K H _ _ from h);exact ⟨a,x1,x2,rfl,k _ _ hT,e1,e2⟩) h
theorem FA.tp {K:Frag}{p:Addr}{n:Nat}{f:Nat->List En}(h:FA K H p qs n f)(e:Tp H H')(l:∀ b us,H b=some (.lst us)->H' b=some (.lst us)):FA K H' p qs n f:=
 ⟨l _ _ h.at_,h.len,h.nd,h.np,λj q hq=>by
  obtain ⟨ws,h1,h2⟩:=h.get j q hq;exact ⟨ws,l _ _ h1,zcl e h2⟩⟩
def zmY (K:Frag)(CS:Addr):Sp:=λvs H Q _=>∃(sh dx st:Addr) (ps:List Nat) (rows:List (List Int)) (t rs:Addr) (as:List Addr),vs=[.ref sh,.ref st]/\H dx=some (.own sh)/\H sh=some (.ins CS dx [])/\za1 H st ps rows t rs as/\
 ∀(p:Addr) (qs:List Addr) (H':Hp),H p=none->(∀ q∈qs,H q=none)->But sh H H'->zaW K CS H' sh dx st p qs ps rows t rs as->Q .non H'
theorem ztZ {K:Frag}:∀{n:Nat} {qs:List Addr} (m:Nat),zaJ K H ps rows (List.range' m n) qs->qs.length=n/\∀(j:Nat) (q:Addr),qs[j]?=some q->∃ ws,H q=some (.lst ws)/\zam K H (zaf ps rows (m+j)) ws
 | 0,_,_,.nil=>⟨rfl,λj q h=>by simp at h⟩
 | n+1,_,m,.cons (b:=q) h r=>by
  obtain ⟨l,g⟩:=ztZ (m+1) r;refine ⟨by rw[yaM,l],λj q' hj=>?_⟩;cases j with
  | zero=>
   obtain rfl:=yae hj;exact h
  | succ j=>
   have:=g j q' hj;rwa[show m+1+j=m+(j+1) by lia]at this
theorem zaJ.fa {K:Frag}{p:Addr}{n:Nat}{qs:List Addr}(h:zaJ K H ps rows (List.range n) qs)(hp:H p=some (.lst (qs.map V.ref)))(nd:qs.Nodup)(np:p∉qs):FA K H p qs n (zaf ps rows):=by
 rw[List.range_eq_range']at h;obtain ⟨l,g⟩:=ztZ 0 h;exact ⟨hp,l,nd,np,λj q hj=>by
  have:=g j q hj;rwa[ybK]at this⟩
theorem zr1 (T:Txt K mg)(O:OwnC K mg CS)(qaM:DI K CS "Shelf.__init__" zbW zbG)(qaR:FC P w K mg base 8 "full_rows" zb5 (zhV K)):FI P w K mg base CS 9 zbG (zmY K CS):=by
 refine qaM.ok qbJ .(c) .(b)
 .obtain ⟨sh,dx,st,ps,rows,t,rs,as,rfl,_⟩:=h;rfl
 obtain ⟨sh,dx,st,ps,rows,t,rs,as,rfl,h1,h2,S,q⟩:=h;refine ⟨_,(zaj (zgK (pv 0) (pv 1) rfl)
   (zae (zgK (pv 0) (zax qaR hr (zaa (pv 1) zad)) rfl))),?_⟩
 refine ⟨_,rfl,_,rfl,sh,CS,dx,[],rfl,h2,O.cl,O.n_kept,by decide,?_⟩;have k1:But sh H (upd H sh (.ins CS dx (putF "kept" (.ref st) []))):=λb o n e=>by rw[zag n];exact e
 have hsd:dx≠sh:=λz=>by rw[z,h2]at h1;cases h1
 have a1:=k1 _ _ hsd h1;have a2:upd H sh (.ins CS dx (putF "kept" (.ref st) [])) sh=some (.ins CS dx [("kept",.ref st)]):=zab;have S1:=zbB (k1.tp λus z=>by rw[h2]at z;cases z) S
 have hn:∀ b,upd H sh (.ins CS dx (putF "kept" (.ref st) [])) b=none->H b=none:=λb e=>by
  by_cases z:b=sh
  .subst z;rw[a2]at e;cases e
  .rwa[zag z]at e
 generalize upd H sh (.ins CS dx (putF "kept" (.ref st) []))=H1 at k1 a1 a2 S1 hn ⊢;refine ⟨_,rfl,st,ps,rows,t,rs,as,rfl,S1,λp qs H2 hp s2 g2 nd hq np F=>?_⟩;have b2:=s2 _ _ a2;refine ⟨_,rfl,sh,CS,dx,_,rfl,b2,O.cl,O.n_fulls,(by show 1<1000;decide),?_⟩;have k2:But sh H2 (upd H2 sh (.ins CS dx (putF "fulls" (.ref p) [("kept",.ref st)]))):=λb o n e=>by rw[zag n];exact e
 have F2:FA K (upd H2 sh (.ins CS dx (putF "fulls" (.ref p) [("kept",.ref st)]))) p qs (ps.length+1) (zaf ps rows):=by
  exact (F.fa g2 nd np).tp (k2.tp λus z=>by rw[b2]at z;cases z) λb us e=>k2 b _ (λz=>by rw[z,b2]at e;cases e) e
 refine q p qs _ (hn _ hp) (λx hx=>hn _ (hq x hx)) (λb o n e=>k2 b o n (s2 _ _ (k1 b o n e))) ⟨k2 _ _ hsd (s2 _ _ a1),by rw[zab];rfl,zbB (k2.tp λus z=>by rw[b2]at z;cases z) (S1.same s2),F2⟩
def zhT (K:Frag):Sp:=λvs H Q _=>∃(t:Addr) (kn:Nat) (ps:List Nat),vs=[.ref t,.int kn]/\H t=some (.tup (zbZ ps))/\ps.length<=900/\kn<ps.length+1/\Q .non H
def zhQ (CS:Addr):Sp:=λvs H Q _=>∃(sh dx st p:Addr),vs=[.ref sh]/\H sh=some (.ins CS dx [("kept",.ref st),("fulls",.ref p)])/\Q (.ref st) H
theorem zpD (O:OwnC K mg CS)(qa4:DM K CS "stand" "Shelf.stand" zcv zbs):FM P w K mg base CS 1 "stand" zbs (zhQ CS):=by
 refine qa4.ok qcI .(c) .(b)
 .obtain ⟨sh,dx,st,p,rfl,_⟩:=h;rfl
 obtain ⟨sh,dx,st,p,rfl,h2,q⟩:=h;refine ⟨_,(zae (zaw (zbK (pv 0) rfl))),?_⟩;exact ⟨_,rfl,sh,CS,dx,_,_,rfl,h2,O.cl,O.n_kept,rfl,q⟩
theorem zpL (T:Txt K mg)(qbu:DF K mg "need_knot" zdw zb4)(qap:FC P w K mg base 2 "is_one_of_first" zaU (zhS K)):FC P w K mg base 3 "need_knot" zb4 (zhT K):=by
 refine qbu.ok qdh .(c) .(b)
 .obtain ⟨t,kn,ps,rfl,_⟩:=h;rfl
 obtain ⟨t,kn,ps,rfl,ht,hl,hk,q⟩:=h;refine ⟨_,(zae (za3 (zcH (zcn (zax qap hr (zaa (zan (zal (K:=K)) rfl T.qaq boot_len (zaa (pv 0) zad)) (zaa (pv 1) zad))))) (zae za9) zaD)),?_⟩;have el:=zav ps;refine ⟨_,rfl,_,_,rfl,.inr (SqT.of ht),_,rfl,_,_,rfl,by lia,by lia,_,rfl,?_⟩;exact iteF q
def zkG (x:Int):Prop:=-10^60<x/\x<10^60
def zmT (K:Frag):Sp:=λvs H Q _=>∃(x:Int),vs=[.int x]/\zkG x/\Q .non H
theorem zpG (T:Txt K mg)(qbQ:DF K mg "need_key" zeo zdI)(qdc:FC P w K mg base 2 "is_key" zd3 (zjX K)):FC P w K mg base 3 "need_key" zdI (zmT K):=by
 refine qbQ.ok qdx .(c) .(b)
 .obtain ⟨x,rfl,_⟩:=h;rfl
 obtain ⟨x,rfl,hx,q⟩:=h;refine ⟨_,(zae (za3 (zcH (zcn (zax qdc hr (zaa (pv 0) zad)))) (zae za9) zaD)),?_⟩;refine ⟨_,rfl,_,true,rfl,.int x _ (yai (p:=(if x<0 then -x else x)<10^60) ?_).symm,_,rfl,?_⟩
 .obtain ⟨h1,h2⟩:=hx;split<;>lia
 exact iteF q
def zm0 (K:Frag)(CS:Addr):Sp:=λvs H Q _=>∃(sh dx st p:Addr) (kn:Nat) (qs:List Addr) (ps:List Nat) (rows:List (List Int)) (t rs:Addr) (as:List Addr),vs=[.ref sh,.int kn]/\zaW K CS H sh dx st p qs ps rows t rs as/\kn<ps.length+1/\
 ∀(D:Addr) (ws:List V),H D=none->zam K H (zaf ps rows kn) ws->Q (.ref D) (upd H D (.lst ws))
theorem zpP (T:Txt K mg)(O:OwnC K mg CS)(qbg:DM K CS "full" "Shelf.full" zc4 zcz)(qaS:FC P w K mg base 3 "need_knot" zb4 (zhT K)):FM P w K mg base CS 4 "full" zcz (zm0 K CS):=by
 refine qbg.ok qcW .(c) .(b)
 .obtain ⟨sh,dx,st,p,kn,qs,ps,rows,t,rs,as,rfl,_⟩:=h;rfl
 obtain ⟨sh,dx,st,p,kn,qs,ps,rows,t,rs,as,rfl,S,hk,q⟩:=h;refine ⟨_,(zaj (zbi (zax qaS hr (zaa (zaB (zay (K:=K)) (zbK (pv 0) rfl) zai (λ_ _=>rfl)) (zaa (pv 1) zad))))
   (zae (zaw (zaY (zbq (K:=K)) rfl T.qaZ boot_list (zaa (zaB (zat (K:=K)) (zbK (pv 0) rfl) (pv 1) (λ_ _=>rfl)) zad))))),?_⟩
 obtain ⟨qk,ws,g1,g2,g3⟩:=S.full.at hk;refine ⟨_,rfl,sh,CS,dx,_,_,rfl,S.ins,O.cl,O.n_kept,rfl,_,_,_,_,rfl,rfl,SqT.of S.stand.st,rfl,_,rfl,t,kn,ps,rfl,S.stand.tr,by have:=S.stand.few;lia,hk,?_⟩;refine ⟨_,rfl,sh,CS,dx,_,_,rfl,S.ins,O.cl,O.n_fulls,rfl,_,rfl,_,_,_,_,rfl,rfl,SqL.of S.full.at_,zct g1,qk,ws,rfl,.inl (SqL.of g2),λD hD=>?_⟩;exact q D ws hD g3
def ze9 (K:Frag)(CS:Addr):Sp:=λvs H Q _=>∃(sh dx st p:Addr) (kn:Nat) (x:Int) (qs:List Addr) (ps:List Nat) (rows:List (List Int)) (t rs:Addr) (as:List Addr),vs=[.ref sh,.int kn,.int x]/\zaW K CS H sh dx st p qs ps rows t rs as/\kn<ps.length+1/\zkG x/\
 ∀(a:Addr),as[kn]?=some a->H a=some (.tup (.(g).map V.int))->Q (.ref a) H
theorem znB (T:Txt K mg)(O:OwnC K mg CS)(qaT:DM K CS "row_for" "Shelf.row_for" zca zaV)(qaS:FC P w K mg base 3 "need_knot" zb4 (zhT K))(qd4:FC P w K mg base 3 "need_key" zdI (zmT K)):FM P w K mg base CS 4 "row_for" zaV (ze9 K CS):=by
 refine qaT.ok qb3 .(c) .(b)
 .obtain ⟨sh,dx,st,p,kn,x,qs,ps,rows,t,rs,as,rfl,_⟩:=h;rfl
 obtain ⟨sh,dx,st,p,kn,x,qs,ps,rows,t,rs,as,rfl,S,hk,hx,q⟩:=h;refine ⟨_,(zaj (zbi (zax qaS hr (zaa (zaB (zay (K:=K)) (zbK (pv 0) rfl) zai (λ_ _=>rfl)) (zaa (pv 1) zad))))
   (zaj (zbi (zax qd4 hr (zaa (pv 2) zad)))
   (zae (zaw (zaB (zay (K:=K)) (zaB (zay (K:=K)) (zbK (pv 0) rfl) zai (λ_ _=>rfl)) (pv 1) (λ_ _=>rfl)))))),?_⟩
 obtain ⟨a,g1,g2⟩:=S.stand.at_.get (k:=kn) (by rw[S.stand.len];exact hk);refine ⟨_,rfl,sh,CS,dx,_,_,rfl,S.ins,O.cl,O.n_kept,rfl,_,_,_,_,rfl,rfl,SqT.of S.stand.st,rfl,_,rfl,t,kn,ps,rfl,S.stand.tr,by have:=S.stand.few;lia,hk,?_⟩;refine ⟨_,rfl,x,rfl,hx,?_⟩;refine ⟨_,rfl,sh,CS,dx,_,_,rfl,S.ins,O.cl,O.n_kept,rfl,_,_,_,_,rfl,rfl,SqT.of S.stand.st,rfl,_,rfl,_,_,_,_,rfl,rfl,SqT.of S.stand.rs,zct g1,?_⟩;exact q a g1 g2
def zqP (K:Frag)(CS mF mS:Addr):Sp:=λvs H Q _=>∃(sh dx st p wa:Addr) (key:Int) (qs:List Addr) (ps:List Nat) (rows:List (List Int)) (t rs:Addr) (as:List Addr) (wy:List Nat),vs=[.ref sh,.ref wa,.int key]/\zaW K CS H sh dx st p qs ps rows t rs as/\zhf H wa ps wy/\TabS mF mS H/\
 ∀(D:Addr) (zs:List V) (H':Hp),H D=none->Kp2 mF mS H H'->TabS mF mS H'->H' D=some (.lst zs)->zam K H' (wy.map λk=>(((zaz .(e) key:Nat):Int),((ownB rows k key:Nat):Int))) zs->Q (.ref D) H'
theorem zr3 (T:Txt K mg)(O:OwnC K mg CS)(qbh:DM K CS "find" "Shelf.find" zc5 zcA)(qd5:FC P w K mg base 4 "need_way" zdH (zqL K))(qb4:FC P w K mg base 7 "search_for_key" zbE (zk1 K mF mS)):FM P w K mg base CS 8 "find" zcA (zqP K CS mF mS):=by
 refine qbh.ok qcX .(c) .(b)
 .obtain ⟨sh,dx,st,p,wa,key,qs,ps,rows,t,rs,as,wy,rfl,_⟩:=h;rfl
 obtain ⟨sh,dx,st,p,wa,key,qs,ps,rows,t,rs,as,wy,rfl,S,W,TT,q⟩:=h;refine ⟨_,(zaj (zbi (zax qd5 hr (zaa (zaB (zay (K:=K)) (zbK (pv 0) rfl) zai (λ_ _=>rfl)) (zaa (pv 1) zad))))
   (zae (zaw (zax qb4 hr (zaa (zaB (zay (K:=K)) (zbK (pv 0) rfl) zai (λ_ _=>rfl)) (zaa (zbK (pv 0) rfl) (zaa (pv 1) (zaa (pv 2) zad)))))))),?_⟩
 refine ⟨_,rfl,sh,CS,dx,_,_,rfl,S.ins,O.cl,O.n_kept,rfl,_,_,_,_,rfl,rfl,SqT.of S.stand.st,rfl,_,rfl,t,wa,ps,wy,rfl,S.stand.tr,by have:=S.stand.few;lia,W,?_⟩;refine ⟨_,rfl,sh,CS,dx,_,_,rfl,S.ins,O.cl,O.n_kept,rfl,_,_,_,_,rfl,rfl,SqT.of S.stand.st,rfl,_,rfl,sh,CS,dx,_,_,rfl,S.ins,O.cl,O.n_fulls,rfl,_,rfl,_,rfl,st,t,rs,p,wa,key,ps,rows,as,qs,wy,rfl,S.stand,S.full.at_,S.full.fulls,W,TT,?_⟩;exact q
abbrev kS (e:En):List Key:=[.inl e.1,.inl e.2]
theorem ztO (h:kS e=kS f):e=f:=by
 obtain ⟨a,b⟩:=e;obtain ⟨c,d⟩:=f;injection h with h1 h2;injection h2 with h2 _;have h1:a=c:=Sum.inl.inj h1;have h2:b=d:=Sum.inl.inj h2;rw[h1,h2]
def kvW (es:List En):List (List Key×V):=es.map λe=>(kS e,.bl true)
theorem zkh (e:En):∀ es:List En,valV (kvW es) (kS e)=if e∈es then some (.bl true) else none
 | []=>rfl
 | f::es=>by
  show valV ((kS f,.bl true)::kvW es) (kS e)=_;by_cases z:f=e
  .subst z;rw[za8 rfl,if_pos yau]
  .rw[zaT (λy=>z (ztO y)),zkh e es];have hm:(e∈f::es)=(e∈es):=propext ⟨λh=>(yag.mp h).resolve_left λy=>z y.symm,λh=>yar _ h⟩;by_cases y:e∈es
   .rw[if_pos y,if_pos (by rw[hm];exact y)]
   .rw[if_neg y,if_neg (by rw[hm];exact y)]
def ziW (K:Frag):Sp:=λvs H Q _=>∃(a c:Addr) (ws us:List V) (es cs:List En),vs=[.ref a,.ref c]/\H a=some (.lst ws)/\zam K H es ws/\es.length<=900/\H c=some (.lst us)/\zam K H cs us/\cs.length<=900/\cs.Nodup/\
 ∀(p:Addr) (ws':List V) (H':Hp),H p=none->Same H H'->H' p=some (.lst ws')->zam K H' (za0 es cs) ws'->Q (.ref p) H'
theorem zlW (T:Txt K mg)(qcu:DF K mg "without" zfb zet):FC P w K mg base 1 "without" zet (ziW K):=by
 refine qcu.ok qbH .(c) .(b)
 .obtain ⟨a,c,ws,us,es,cs,rfl,_⟩:=h;rfl
 obtain ⟨a,c,ws,us,es,cs,rfl,ha,hw,hz,hc,hu,hzc,hnd,q⟩:=h;have hwl:=hw.length;have hul:=hu.length;refine ⟨_,(zaj (zaq (i:=2) qbH.nd rfl (Or.inr rfl) zlg)
   (zaj (zbr PassesOwn.never rfl (zbM (pv 1)) (zas (i:=3) qbH.nd rfl (Or.inl rfl)) (zae (zd5 (zdq hr) (pv 2) (pv 3) zeJ rfl)))
   (zae (zaw (zbN (N:=["entry","away"]) (own:=1) (cap:=[2]) rfl (zbM (pv 0)) ⟨rfl,rfl,rfl,rfl,rfl,rfl⟩ (λ_ _ _ _ _=>(zas (i:=0) (show List.Nodup (["entry","away"]:List Str) by decide +kernel) rfl (Or.inl rfl))) (λ_ _ _ _ _=>(zeU (zau (zlV (zdq hr)) (pv 0) (pv 1) (by with_unfolding_all rfl)))) (λ_ _ _ _ _=>(pv 0))))))),?_⟩
 intro D hD;have k0:But D H (upd H D (.dT [])):=λb o n e=>by rw[zag n];exact e
 have naD:a≠D:=zac ha hD;have ncD:c≠D:=zac hc hD;refine ⟨_,rfl,c,rfl,⟨_,SqL.of (k0 _ _ ncD hc)⟩,?_⟩;refine zdS (xs:=us) (λi U H2=>∃ x3:Option V,U=[some (.ref a),some (.ref c),some (.ref D),x3]/\H2 D=some (.dT (kvW (cs.take i)))/\But D H H2) ?_ ?_ ?_ ?_
 .exact ⟨_,rfl,zab,k0⟩
 .rintro i U H2 _ ⟨x3,rfl,_,k2⟩;exact SqL.of (k2 _ _ ncD hc)
 .rintro i x U H2 hx ⟨x3,rfl,h2,k2⟩;obtain ⟨e,he,hhas⟩:=hu.get hx;obtain ⟨b,y1,y2,rfl,hb,hy1,hy2⟩:=(show hasP K H e x from hhas);have hy1:y1=.int e.1:=hy1;have hy2:y2=.int e.2:=hy2;subst hy1 hy2;have hi:=(yaj.mp he).1;have htk:cs.take (i+1)=cs.take i++[e]:=by
   rw[yaF hi,(yaj.mp he).2]
  have h2b:=k2 _ _ (zac hb hD) hb;have hnot:e∉cs.take i:=λz=>by
   have hn2:=hnd;rw[<-yaX (i+1) cs,htk]at hn2;have:=(ya2.mp (ya2.mp hn2).1).2.2 e z e (yaq.mpr rfl);exact this rfl
  have hln:(kvW (cs.take i)).length<=1000:=by
   unfold kvW;rw[yab,yao];lia
  refine ⟨_,rfl,_,rfl,D,_,rfl,DPut.t (k:=kS e) h2 h2b (zao hln),?_⟩;refine ⟨_,rfl,?_,λb o n e=>by rw[zag n];exact k2 b o n e⟩;rw[zab,zc6 _ (by rw[zkh,if_neg hnot]),htk];unfold kvW;rw[yal];rfl
 .rintro U H2 ⟨x3,rfl,h2,k2⟩;rw[yas .(a)]at h2;have s2:Same H H2:=λb o e=>k2 b o (zac e hD) e;have h2a:=s2 _ _ ha;refine ⟨_,rfl,a,rfl,⟨_,SqL.of h2a⟩,λp hp=>?_⟩;have nDp:D≠p:=zac h2 hp;refine zbR (xs:=ws) (λj U H5=>∃(x0:Option V) (us:List V),U=[x0,some (.ref D)]/\H5 p=some (.lst us)/\zam K H5 (za0 (es.take j) cs) us/\us.length<=j/\But p H2 H5) ?_ ?_ ?_ ?_
  .exact ⟨_,[],rfl,zab,.nil,yaa _,λb o n e=>by rw[zag n];exact e⟩
  .rintro j U H5 _ ⟨x0,us,rfl,_,_,_,k5⟩;exact k5.sq (SqL.of h2a) hp
  .rintro j m x U H5 hx hm ⟨x0,us,rfl,h5,hv,hul,k5⟩;have hj:=(yaj.mp hx).1;obtain ⟨e,he,bb,x1,x2,rfl,hb,e1,e2⟩:∃ e,es[j]?=some e/\hasP K H e x:=hw.get hx;have e1':x1=.int e.1:=e1;have e2':x2=.int e.2:=e2;subst e1' e2';have htk:za0 (es.take (j+1)) cs=za0 (es.take j) cs++za0 [e] cs:=by
    unfold za0;rw[yaF .(a),(yaj.mp he).2,yaQ]
   have b2:=s2 _ _ hb;have b5:=k5 _ _ (zac b2 hp) b2;have h5D:=k5 _ _ nDp h2;refine ⟨_,rfl,_,rfl,D,_,rfl,DGet.t (k:=kS e) h5D b5,_,rfl,?_⟩;rw[zkh];by_cases c:e∈cs
   .rw[if_pos c];refine iteF ⟨m-1,by lia,by lia,_,_,rfl,h5,?_,by lia,k5⟩;rw[htk,show za0 [e] cs=[] from ya9 (p:=λe=>decide (e∉cs)) (by simpa using c),yaC];exact hv
   .rw[if_neg c];refine iteT ⟨_,rfl,_,h5,zao .(a),m-1,by lia,by lia,_,_,rfl,zab,?_,by rw[yah,yay];lia,λb o n e=>by rw[zag n];exact k5 b o n e⟩;rw[htk,show za0 [e] cs=[e] from yaS (p:=λe=>decide (e∉cs)) (yai c)];exact (zbu h5 hv).append (zbu h5 (.cons ⟨bb,.int e.1,.int e.2,rfl,b5,rfl,rfl⟩ .nil))
  rintro U H5 ⟨x0,us',rfl,h5,hv,_,k5⟩;rw[<-hwl,yas (yaa _)]at hv;have hpH:H p=none:=by
   cases e:H p with
   | none=>rfl
   | some o=>
    rw[s2 _ _ e]at hp;cases hp
  exact q p us' H5 hpH (λb o e=>k5 b o (zac (s2 _ _ e) hp) (s2 _ _ e)) h5 hv
section
variable {ps:List Nat}{rows rows':List .(k)}{k:Nat}
def upN (ps:List Nat)(k:Nat):Nat->Option Nat
 | 0=>some k
 | m+1=>(upN ps k m).bind (par ps)
theorem zo9 {m j p:Nat}(h:upN ps k m=some j)(hp:par ps j=some p):upN ps k (m+1)=some p:=by
 show (upN ps k m).bind (par ps)=_;rw[h];exact hp
theorem zkK {m j:Nat}(h:upN ps k m=some j):upN ps k (m+1)=par ps j:=by
 show (upN ps k m).bind (par ps)=_;rw[h];rfl
theorem zf7 {m p:Nat}(h:upN ps k (m+1)=some p):∃ j,upN ps k m=some j/\par ps j=some p:=by
 cases e:upN ps k m with
 | none=>
  have:(upN ps k m).bind (par ps)=some p:=h;rw[e]at this;cases this
 | some j=>
  have:(upN ps k m).bind (par ps)=some p:=h;rw[e]at this;exact ⟨j,rfl,this⟩
theorem zmC (T:zaA ps):∀{m j:Nat},upN ps k m=some j->j+m<=k
 | 0,j,h=>by
  have:k=j:=yae h;lia
 | m+1,j,h=>by
  obtain ⟨i,h1,h2⟩:=zf7 h;have:=zmC T h1;have:=(zaM T h2).1;lia
theorem ziO (T:zaA ps)(hk:k<ps.length+1){m j:Nat}(h:upN ps k m=some j):j<ps.length+1:=by
 have:=zmC T h;lia
theorem zhM (T:zaA ps){i j:Nat}:∀ d m,upN ps k (m+d)=some i->upN ps k m=some j->i+d<=j
 | 0,m,h1,h2=>by
  rw[ybk,h2]at h1;have:=yae h1;lia
 | d+1,m,h1,h2=>by
  obtain ⟨x,g1,g2⟩:=zf7 (m:=m+d) h1;have:=zhM T d m g1 h2;have:=(zaM T g2).1;lia
theorem zkL (T:zaA ps)(hk:k<ps.length+1):∀{m j:Nat},upN ps k m=some j->isB ps j k=true
 | 0,j,h=>by
  have:k=j:=yae h;subst this;exact zcm
 | m+1,j,h=>by
  obtain ⟨i,h1,h2⟩:=zf7 h;exact (zcq T _ k (yaa _) hk).mpr (.inr ⟨i,h2,zkL T hk h1⟩)
theorem zqB (T:zaA ps)(hk:k<ps.length+1):∀(n j:Nat),ps.length+1-j<=n->isB ps j k=true->∃ m,upN ps k m=some j
 | 0,j,hn,h=>by
  rcases (zcq T _ k (yaa _) hk).mp h with z|⟨c,hc,_⟩
  .exact ⟨0,congrArg some z⟩
  .have:=zaM T hc;lia
 | n+1,j,hn,h=>by
  rcases (zcq T _ k (yaa _) hk).mp h with z|⟨c,hc,hb⟩
  .exact ⟨0,congrArg some z⟩
  .have:=zaM T hc;obtain ⟨m,hm⟩:=zqB T hk n c .(a) hb;exact ⟨m+1,zo9 hm hc⟩
def stL (ps:List Nat)(rows rows':List .(k))(k:Nat):Nat->Nat->List En
 | 0,i=>zaf ps rows i
 | m+1,i=>if upN ps k m=some i then zaf ps rows' i else stL ps rows rows' k m i
theorem zmQ:∀{m i m':Nat},m'<m->upN ps k m'=some i->stL ps rows rows' k m i=zaf ps rows' i
 | m+1,i,m',h,e=>by
  unfold stL;by_cases z:upN ps k m=some i
  .rw[if_pos z]
  .rw[if_neg z];refine zmQ (m':=m') ?_ e;rcases ybZ m' m with y|y
   .exact y
   .have:m'=m:=by lia
    subst this;exact absurd e z
theorem zhP:∀{m i:Nat},(∀ m',m'<m->upN ps k m'≠some i)->stL ps rows rows' k m i=zaf ps rows i
 | 0,_,_=>rfl
 | m+1,i,h=>by
  unfold stL;rw[if_neg (h m .(a))];exact zhP λm' hm=>h m' .(a)
theorem zrz (T:zaA ps){m j:Nat}(h:upN ps k m=some j):stL ps rows rows' k m j=zaf ps rows j:=zhP λm' hm e=>by
 have:=zhM T (m-m') m' (by rw[show m'+(m-m')=m by lia];exact h) e;lia
theorem zmB (T:zaA ps)(R:zaL rows)(R':zaL rows')(hk:k<ps.length+1)(h:zf5 k rows rows'){m j:Nat}(hm:upN ps k m=some j)(e:zaf ps rows' j=zaf ps rows j):∀{d i:Nat},upN ps k (m+d)=some i->zaf ps rows' i=zaf ps rows i
 | 0,i,hi=>by
  rw[ybk,hm]at hi;have:=yae hi;subst this;exact e
 | d+1,i,hi=>by
  obtain ⟨x,g1,g2⟩:=zf7 (m:=m+d) hi;have ih:=zmB T R R' hk h hm e g1;have L:=zot T R R' hk h (zkL T hk g1) g2;rw[ih,zoC]at L;exact zln (zaC T R (ziO T hk hi)) (zaC T R' (ziO T hk hi)) L.gone.symm L.come.symm
theorem zry (T:zaA ps)(R:zaL rows)(R':zaL rows')(hk:k<ps.length+1)(h:zf5 k rows rows'){m:Nat}(hm:upN ps k m=none\/∃ j,upN ps k m=some j/\zaf ps rows' j=zaf ps rows j){i:Nat}(hi:i<ps.length+1):stL ps rows rows' k m i=zaf ps rows' i:=by
 cases e:isB ps i k with
 | false=>
  rw[zhP λm' _ z=>by rw[zkL T hk z]at e;cases e]
  exact (zgv T hk h _ i (yaa _) hi e).symm
 | true=>
  obtain ⟨m',e'⟩:=zqB T hk _ i (yaa _) e;rcases ybZ m' m with y|y
  .exact zmQ y e'
  ·rw[zhP λx hx z=>by
    have:=zhM T (m'-x) x (by rw[show x+(m'-x)=m' by lia];exact e') z;lia]
   rcases hm with hm|⟨j,hm,hj⟩
   .exfalso;have:∀ d,upN ps k (m+d)=none:=λd=>by
     induction d with
     | zero=>exact hm
     | succ d ih=>
      show (upN ps k (m+d)).bind (par ps)=none;rw[ih];rfl
    have:=this (m'-m);rw[show m+(m'-m)=m' by lia,e']at this;cases this
   .exact (zmB T R R' hk h hm hj (d:=m'-m) (by rw[show m+(m'-m)=m' by lia];exact e')).symm
end
def zrq (ps:List Nat)(rows rows':List .(k))(j:Nat):Tri Int (List En) (List En):=⟨(j:Int),za0 .(m) (zaf ps rows' j),za0 (zaf ps rows' j) .(m)⟩
def zhN (ps:List Nat)(rows rows':List .(k))(k:Nat):Nat->List (Tri Int (List En) (List En))
 | 0=>[]
 | m+1=>zhN ps rows rows' k m++((upN ps k m).map (zrq ps rows rows')).toList
structure zcU (K:Frag)(CS:Addr)(H:Hp)(sh dx st p:Addr)(qs:List Addr)(ps:List Nat)(rows rows':List .(k))(t rs:Addr)(as:List Addr)(k m:Nat):Prop where
 own:H dx=some (.own sh)
 ins:H sh=some (.ins CS dx [("kept",.ref st),("fulls",.ref p)])
 stand:za1 H st ps rows' t rs as
 full:FA K H p qs (ps.length+1) (stL ps rows rows' k m)
def zt7 (ps:List Nat)(rows rows':List .(k))(k m:Nat):Prop:=(∀ m' j,m'<m->upN ps k m'=some j->¬(za0 .(m) (zaf ps rows' j)=[]/\za0 (zaf ps rows' j) .(m)=[]))/\
 (upN ps k m=none\/∃ j,upN ps k m=some j/\za0 .(m) (zaf ps rows' j)=[]/\za0 (zaf ps rows' j) .(m)=[])
structure zt6 (K:Frag)(H:Hp)(D:Addr)(Fr:Addr->Prop)(e:Tri Int (List En) (List En))(v:V):Prop where
 ex:∃(u g c:Addr) (gw cw:List V),v=.ref u/\H u=some (.tup [.int e.a,.ref g,.ref c])/\H g=some (.lst gw)/\zam K H e.b gw/\H c=some (.lst cw)/\zam K H e.c cw/\g≠D/\c≠D/\Fr g/\Fr c
def zcr (K:Frag)(H:Hp)(D:Addr)(Fr:Addr->Prop):List (Tri Int (List En) (List En))->List V->Prop:=Paired (zt6 K H D Fr)
theorem zkN {R S:Tri Int (List En) (List En)->V->Prop}(h:∀ e v,R e v->S e v){es:List (Tri Int (List En) (List En))}{us:List V}(p:Paired R es us):Paired S es us:=by
 induction p with
 | nil=>exact .nil
 | cons a _ ih=>exact .cons (h _ _ a) ih
theorem zcr.keep {K:Frag}{H H':Hp}{D:Addr}{Fr:Addr->Prop}(k:∀ b o,b≠D->Fr b->H b=some o->H' b=some o)(tp:Tp H H'){es:List (Tri Int (List En) (List En))}{us:List V}(h:zcr K H D Fr es us):zcr K H' D Fr es us:=zkN (λe v z=>by
 obtain ⟨u,g,c,gw,cw,e1,e2,e3,e4,e5,e6,n1,n2,n3,n4⟩:=z.ex;exact ⟨u,g,c,gw,cw,e1,tp _ _ e2,k _ _ n1 n3 e3,zcl tp e4,k _ _ n2 n4 e5,zcl tp e6,n1,n2,n3,n4⟩) h
theorem zcr.imp {K:Frag}{H:Hp}{D:Addr}{Fr Fr':Addr->Prop}(k:∀ b o,H b=some o->Fr b->Fr' b){es:List (Tri Int (List En) (List En))}{us:List V}(h:zcr K H D Fr es us):zcr K H D Fr' es us:=zkN (λe v z=>by
 obtain ⟨u,g,c,gw,cw,e1,e2,e3,e4,e5,e6,n1,n2,n3,n4⟩:=z.ex;exact ⟨u,g,c,gw,cw,e1,e2,e3,e4,e5,e6,n1,n2,k _ _ e3 n3,k _ _ e5 n4⟩) h
theorem zcr.snoc {K:Frag}{D:Addr}{Fr:Addr->Prop}{es:List (Tri Int (List En) (List En))}{us:List V}(h:zcr K H D Fr es us)(g:zt6 K H D Fr e v):zcr K H D Fr (es++[e]) (us++[v]):=by
 induction h with
 | nil=>exact .cons g .nil
 | cons a _ ih=>exact .cons a ih
def zgG (K:Frag)(CS:Addr):Sp:=λvs H Q _=>∃(sh dx st p g c:Addr) (gw cw:List V) (kn:Nat) (qs:List Addr) (ps:List Nat) (rows rows':List (List Int)) (t rs:Addr) (as:List Addr) (Fr:Addr->Prop),vs=[.ref sh,.int kn,.ref g,.ref c]/\zcU K CS H sh dx st p qs ps rows rows' t rs as kn 0/\
 kn<ps.length+1/\zf5 kn rows rows'/\zaL rows/\rows.length=ps.length+1/\zbz rows<=63/\H g=some (.lst gw)/\zam K H (za0 (zaf ps rows kn) (zaf ps rows' kn)) gw/\H c=some (.lst cw)/\zam K H (za0 (zaf ps rows' kn) (zaf ps rows kn)) cw/\Fr g/\Fr c/\g∉qs/\c∉qs/\¬Fr p/\(∀ b,H b=none->Fr b)/\
 ∀(D:Addr) (us:List V) (m:Nat) (qs':List Addr) (H':Hp),zt7 ps rows rows' kn m->H D=none->(∀ q∈qs',q∈qs\/H q=none)->But p H H'->zaW K CS H' sh dx st p qs' ps rows' t rs as->H' D=some (.lst us)->zcr K H' D (λb=>Fr b/\b∉qs') (zhN ps rows rows' kn m) us->Q (.ref D) H'
def upV:Option Nat->V
 | none=>.non
 | some j=>.int j
def Goes (ps:List Nat)(rows rows':List .(k))(k m:Nat):Prop:=∀ m' j,m'<m->upN ps k m'=some j->¬(za0 .(m) (zaf ps rows' j)=[]/\za0 (zaf ps rows' j) .(m)=[])
structure CarI (K:Frag)(CS:Addr)(Fr:Addr->Prop)(H H2:Hp)(sh dx st p g c D:Addr)(gw cw us:List V)(qs qs':List Addr)(ps:List Nat)(rows rows':List .(k))(t rs:Addr)(as:List Addr)(k m:Nat):Prop where
 half:zcU K CS H2 sh dx st p qs' ps rows rows' t rs as k m
 hg:H2 g=some (.lst gw)
 hc:H2 c=some (.lst cw)
 cur:∀ j,upN ps k m=some j->zam K H2 (za0 .(m) (zaf ps rows' j)) gw/\zam K H2 (za0 (zaf ps rows' j) .(m)) cw
 goes:Goes ps rows rows' k m
 hD:H2 D=some (.lst us)
 told:zcr K H2 D (λb=>Fr b/\b∉qs') (zhN ps rows rows' k m) us
 gD:g≠D
 cD:c≠D
 gp:Fr g
 cp:Fr c
 gq:g∉qs'
 cq:c∉qs'
 nD:H D=none
 nqs:∀ q∈qs',q∈qs\/H q=none
 but:But p H H2
 dp:D≠p
 dqs:D∉qs'
theorem zcU.keep {K:Frag}{st p:Addr}{t rs:Addr}{k:Nat}{D:Addr}(S:zcU K CS H sh dx st p qs ps rows rows' t rs as k m)(kp:But D H H')(hD:∀ o,H D=some o->∃ us,o=.lst us)(dp:D≠p)(dq:D∉qs):zcU K CS H' sh dx st p qs ps rows rows' t rs as k m:=by
 have nl:∀{b:Addr} {o:HO},H b=some o->(∀ us,o≠.lst us)->H' b=some o:=λ{b o} e n=>kp b o (λz=>by
  subst z;obtain ⟨us,z⟩:=hD _ e;exact n us z) e
 have tp:Tp H H':=λb us e=>nl e nofun;refine ⟨nl S.own nofun,nl S.ins nofun,zbB tp S.stand,kp _ _ dp.symm S.full.at_,S.full.len,S.full.nd,S.full.np,λj q hq=>?_⟩;obtain ⟨ws,h1,h2⟩:=S.full.get j q hq;exact ⟨ws,kp _ _ (λz=>dq (z ▸ yaN hq)) h1,zcl tp h2⟩
theorem ziR {k:Nat}(T:zaA ps):∀ m:Nat,(zhN ps rows rows' k m).length<=m
 | 0=>yaa _
 | m+1=>by
  unfold zhN;rw[yah];have:=ziR (rows:=rows) (rows':=rows') (k:=k) T m;cases upN ps k m with
  | none=>exact Nat.le_succ_of_le this
  | some j=>exact Nat.succ_le_succ this
theorem zno (ps:List Nat)(j:Nat):parV ps j=upV (par ps j):=by
 unfold parV;cases par ps j<;>rfl
theorem zpR (T:Txt K mg)(O:OwnC K mg CS)(qaN:DM K CS "carry_up" "Shelf.carry_up" zbV zaS)(qci:FC P w K mg base 6 "handed" zd4 (zhU K))(qbq:FC P w K mg base 1 "joined_up" zco (zmW K))(qcv:FC P w K mg base 1 "without" zet (ziW K)):FM P w K mg base CS 7 "carry_up" zaS (zgG K CS):=by
 refine qaN.ok qah .(c) .(b)
 .obtain ⟨sh,dx,st,p,g,c,gw,cw,kn,qs,ps,rows,rows',t,rs,as,Fr,rfl,_⟩:=h;rfl
 obtain ⟨sh,dx,st,p,g,c,gw,cw,kn,qs,ps,rows,rows',t,rs,as,Fr,rfl,S,hk,hB,R,hlen,hkeys,hg,hgw,hc,hcw,ngp,ncp,ngq,ncq,hFp,hF0,q⟩:=h;refine ⟨_,(zaI (zaq (i:=4) qah.nd rfl (Or.inl rfl) (zbj zad))
   (zaI (zgo PassesOwn.never (PW.pt (zgI (zau zns (pv 1) zgO (zaH _)) (zeT (zau zj5 (zaG zbn (zan (zal (K:=K)) rfl T.qaq boot_len (zaa (pv 2) zad)) (zan (zal (K:=K)) rfl T.qaq boot_len (zaa (pv 3) zad))) zai (zaH _))))) (zaI (zbi (zeW F.plainAttrs_list F.slot_list_append F.type_list_append za4 (pv 4) (zaa (zaX (zaa (pv 1) (zaa (pv 2) (zaa (pv 3) zad)))) zad)))
   (zaI (zaq (i:=5) qah.nd rfl (Or.inl rfl) (zax qci hr (zaa (zaB (zat (K:=K)) (zbK (pv 0) rfl) (pv 1) (λ_ _=>rfl)) zad)))
   (zaI (zi5 (zax qbq hr (zaa (zbj (zaa (zax qcv hr (zaa (zaB (zat (K:=K)) (zbK (pv 0) rfl) (pv 1) (λ_ _=>rfl)) (zaa (pv 2) zad))) (zaa (pv 3) zad))) zad)) (znj (zbK (pv 0) rfl) (pv 1) zhY))
   (zaI (zaq (i:=6) qah.nd rfl (Or.inl rfl) (zax qci hr (zaa (zaB (zat (K:=K)) (zbK (pv 0) rfl) (pv 1) (λ_ _=>rfl)) zad)))
   (zaI (zaq (i:=2) qah.nd rfl (Or.inl rfl) (zax qcv hr (zaa (pv 5) (zaa (pv 6) zad))))
   (zaI (zaq (i:=3) qah.nd rfl (Or.inl rfl) (zax qcv hr (zaa (pv 6) (zaa (pv 5) zad))))
   (zae (zaq (i:=1) qah.nd rfl (Or.inl rfl) (zaB (zay (K:=K)) (zaB (zay (K:=K)) (zbK (pv 0) rfl) zai (λ_ _=>rfl)) (pv 1) (λ_ _=>rfl)))))))))))
   (zae (zaw (pv 4))))),?_⟩
 intro N0 n0;refine ⟨(by show 0<=sizeLine;decide),λD hD=>n0 _ _ ?_⟩;intro Nw nw;have T':=S.stand.T;have R':=S.stand.R;have s0:=zak hD (.lst []);refine zgB (λU H2=>∃(g c:Addr) (gw cw us:List V) (qs':List Addr) (m:Nat) (x5 x6:Option V),U=[some (.ref sh),some (upV (upN ps kn m)),some (.ref g),some (.ref c),some (.ref D),x5,x6]/\CarI K CS Fr H H2 sh dx st p g c D gw cw us qs qs' ps rows rows' t rs as kn m)
  (λU H2=>∃(g c:Addr) (gw cw us:List V) (qs':List Addr) (m:Nat) (x5 x6:Option V),U=[some (.ref sh),some (upV (upN ps kn m)),some (.ref g),some (.ref c),some (.ref D),x5,x6]/\CarI K CS Fr H H2 sh dx st p g c D gw cw us qs qs' ps rows rows' t rs as kn m/\(upN ps kn m=none\/∃ j,upN ps kn m=some j/\za0 .(m) (zaf ps rows' j)=[]/\za0 (zaf ps rows' j) .(m)=[]))
  (λU _=>match U with|_::some (.int j)::_=>j.toNat+1|_=>0) ?_ ?_ ?_ ?_
 .refine ⟨g,c,gw,cw,[],qs,0,_,_,rfl,⟨s0 _ _ S.own,s0 _ _ S.ins,S.stand.same s0,S.full.ext s0.ext⟩,s0 _ _ hg,s0 _ _ hc,λj e=>?_,λm' j h=>absurd h (ybF _),zab,.nil,zac hg hD,zac hc hD,ngp,ncp,ngq,ncq,hD,λq h=>.inl h,λb o _ e=>s0 b o e,(λz=>by rw[z,S.full.at_]at hD;cases hD),λz=>?_⟩
  .have:kn=j:=yae e;subst this;exact ⟨hgw.mono s0.ext,hcw.mono s0.ext⟩
  .obtain ⟨j,hj,e⟩:=yaP z;obtain ⟨ws,w1,_⟩:=S.full.get j D (by rw[yac hj,e]);rw[hD]at w1;cases w1
 .rintro U H2 ⟨g,c,gw,cw,us,qs',m,x5,x6,rfl,I⟩;cases eu:upN ps kn m with
  | none=>
   refine ⟨_,rfl,rfl,_,rfl,?_⟩;refine iteF ?_;refine iteF ?_;exact ⟨g,c,gw,cw,us,qs',m,x5,x6,by rw[eu],I,.inl eu⟩
  | some j=>
   refine ⟨_,rfl,rfl,_,rfl,?_⟩;refine iteT ?_;refine ⟨_,rfl,_,_,rfl,.inl (SqL.of I.hg),_,rfl,_,_,rfl,.inl (SqL.of I.hc),_,_,rfl,rfl,_,_,rfl,rfl,_,rfl,?_⟩;obtain ⟨cg,cc⟩:=I.cur j eu;have lg:=cg.length;have lc:=cc.length;refine ite2 (λhpos=>?_) (λhneg=>?_)
   .have hmj:=zmC T' eu;have hjn:=ziO T' hk eu;have hfew:=S.stand.few;have hul:us.length<=m:=by
     have:=Paired.length I.told;have:=ziR (rows:=rows) (rows':=rows') (k:=kn) T' m;lia
    refine zuw λN B' R0 hN hB' hR'=>?_;intro N1 n1;refine ⟨_,rfl,.inl ⟨rfl,_,SqL.of I.hD⟩,?_⟩;refine ⟨_,rfl,_,rfl,_,rfl,(by show 3<=sizeLine;decide),λu hu=>?_⟩;have su:=zak hu (.tup [upV (some j),.ref g,.ref c]);have huT:upd H2 u (.tup [upV (some j),.ref g,.ref c]) u=some (.tup [.int (j:Int),.ref g,.ref c]):=zab;generalize upd H2 u (.tup [upV (some j),.ref g,.ref c])=H3 at su huT ⊢;refine ⟨_,_,_,rfl,rfl,su _ _ I.hD,zao .(a),n1 _ _ ?_⟩;intro N2 n2;have hDq:∀ o,H3 D=some o->∃ us,o=.lst us:=λo e=>⟨us,by rw[su _ _ I.hD]at e;exact (yae e).symm⟩;have k4:But D H3 (upd H3 D (.lst (us++[.ref u]))):=λb o n e=>by rw[zag n];exact e
    have S4:zcU K CS (upd H3 D (.lst (us++[.ref u]))) sh dx st p qs' ps rows rows' t rs as kn m:=zcU.keep ⟨su _ _ I.half.own,su _ _ I.half.ins,I.half.stand.same su,I.half.full.ext su.ext⟩ k4 hDq I.dp I.dqs;have tp4:Tp H3 (upd H3 D (.lst (us++[.ref u]))):=k4.tp λus' z=>by rw[su _ _ I.hD]at z;cases z
    have tpS:Tp H2 H3:=λb us e=>su _ _ e;have g4:=k4 _ _ I.gD (su _ _ I.hg);have c4:=k4 _ _ I.cD (su _ _ I.hc);have cg4:=zcl tp4 (zcl tpS cg);have cc4:=zcl tp4 (zcl tpS cc);have D4:upd H3 D (.lst (us++[.ref u])) D=some (.lst (us++[.ref u])):=zab;have t4:zcr K (upd H3 D (.lst (us++[.ref u]))) D (λb=>Fr b/\b∉qs') (zhN ps rows rows' kn (m+1)) (us++[.ref u]):=by
     have e:zhN ps rows rows' kn (m+1)=zhN ps rows rows' kn m++[zrq ps rows rows' j]:=by
      show _++((upN ps kn m).map (zrq ps rows rows')).toList=_;rw[eu];rfl
     rw[e];refine zcr.snoc (zcr.keep (λb o n1 _ e=>k4 b o n1 (su _ _ e)) (λb us e=>tp4 _ _ (tpS _ _ e)) I.told) ⟨u,g,c,gw,cw,rfl,tp4 _ _ huT,g4,cg4,c4,cc4,I.gD,I.cD,⟨I.gp,I.gq⟩,⟨I.cp,I.cq⟩⟩
    have b4:But p H (upd H3 D (.lst (us++[.ref u]))):=λb o n e=>k4 b o (zac e hD) (su _ _ (I.but b o n e));clear k4 hDq tp4;generalize upd H3 D (.lst (us++[.ref u]))=H4 at S4 g4 c4 cg4 cc4 D4 t4 b4 ⊢;obtain ⟨qj,ws,f1,f2,f3⟩:=S4.full.at hjn;rw[zrz T' eu]at f3;have hle:=zed T' hlen hjn;have hle':=zed T' S.stand.len hjn;have hk':=S.stand.keys;refine ⟨_,rfl,sh,CS,dx,_,_,rfl,S4.ins,O.cl,O.n_fulls,rfl,_,rfl,_,_,_,_,rfl,rfl,SqL.of S4.full.at_,zct f1,qj,ws,_,rfl,f2,f3,by lia,zee T' R hfew hjn,zaC T' R hjn,λB H5 hB5 s5 h5=>n2 _ _ ?_⟩;intro N3 n3;have hh5:zam K H5 (zbm .(m)) (zdf ws (zcp .(m))):=zgu (f3.mono s5.ext);have tp5:Tp H4 H5:=λb us e=>s5 _ _ e;have S5:zcU K CS H5 sh dx st p qs' ps rows rows' t rs as kn m:=⟨s5 _ _ S4.own,s5 _ _ S4.ins,S4.stand.same s5,S4.full.ext s5.ext⟩;have ndg:(za0 .(m) (zaf ps rows' j)).Nodup:=zhH (zcR T' R hjn);refine ⟨_,rfl,sh,CS,dx,_,_,rfl,S5.ins,O.cl,O.n_fulls,rfl,_,rfl,_,_,_,_,rfl,rfl,SqL.of S5.full.at_,zct f1,_,rfl,qj,g,ws,gw,_,_,rfl,s5 _ _ f2,f3.mono s5.ext,by lia,s5 _ _ g4,cg4.mono s5.ext,?_,ndg,λW ww H6 hW s6 h6 hw6=>?_⟩
    .exact yax (ya3 _ _) .(a)
    refine ⟨_,rfl,(by show 2<=sizeLine;decide),λL hL=>?_⟩;have s7:=zak hL (.lst [.ref W,.ref c]);have c7:=s7 _ _ (s6 _ _ (s5 _ _ c4));have hL7:upd H6 L (.lst [.ref W,.ref c]) L=some (.lst ([W,c].map V.ref)):=zab;have W7:=s7 _ _ h6;have w7:=hw6.mono s7.ext;generalize upd H6 L (.lst [.ref W,.ref c])=H7 at s7 c7 hL7 W7 w7 ⊢;have s47:Same H4 H7:=s5.trans (s6.trans s7);have cl:(za0 (zaf ps rows' j) .(m)).length<=(zaf ps rows' j).length:=ya3 _ _;have gl:(za0 .(m) (za0 .(m) (zaf ps rows' j))).length<= .(m).length:=ya3 _ _;refine ⟨L,[W,c],[za0 .(m) (za0 .(m) (zaf ps rows' j)),za0 (zaf ps rows' j) .(m)],rfl,hL7,.cons ⟨ww,W7,w7⟩ (.cons ⟨cw,c7,cc4.mono s47.ext⟩ .nil),?_,λJ jw H8 hJ s8 h8 hw8=>?_⟩
    .rw[ybJ,ybJ,List.flatten_nil,yaC];have e:=congrArg List.length (znY (zaC T' R hjn) (zaC T' R' hjn)).eq;rw[(zb2 _).length_eq]at e;lia
    rw[ybJ,ybJ,List.flatten_nil,yaC,<-(znY (zaC T' R hjn) (zaC T' R' hjn)).eq]at hw8;have s48:Same H4 H8:=s47.trans s8;have S8:zcU K CS H8 sh dx st p qs' ps rows rows' t rs as kn m:=⟨s48 _ _ S4.own,s48 _ _ S4.ins,S4.stand.same s48,S4.full.ext s48.ext⟩;refine ⟨_,rfl,sh,CS,dx,_,_,rfl,S8.ins,O.cl,O.n_fulls,rfl,_,rfl,p,_,_,j,rfl,rfl,S8.full.at_,zkm (by rw[yab,S8.full.len];exact hjn),n3 _ _ ?_⟩;intro N4 n4;have nn:∀{b:Addr},H7 b=none->H4 b=none:=λ{b} e=>by
     cases e4:H4 b with
     | none=>rfl
     | some o=>
      rw[s47 _ _ e4]at e;cases e
    have hJ4:=nn hJ;have hJp:J≠p:=λz=>by rw[z,S4.full.at_]at hJ4;cases hJ4
    have hJq:J∉qs':=λz=>by
     obtain ⟨i,hi,e⟩:=yaP z;obtain ⟨ws,w1,_⟩:=S4.full.get i J (by rw[yac hi,e]);rw[hJ4]at w1;cases w1
    have hJD:D≠J:=λz=>by rw[<-z,D4]at hJ4;cases hJ4
    have hBp:B≠p:=λz=>by rw[z,S4.full.at_]at hB5;cases hB5
    have F9:=S8.full.set (k:=j) h8 hw8 hJq hJp;have k9:But p H8 (upd H8 p (.lst ((qs'.map V.ref).set j (.ref J)))):=λb o n e=>by rw[zag n];exact e
    have tp9:Tp H8 (upd H8 p (.lst ((qs'.map V.ref).set j (.ref J)))):=k9.tp λus' z=>by rw[S8.full.at_]at z;cases z
    have F9':FA K (upd H8 p (.lst ((qs'.map V.ref).set j (.ref J)))) p (qs'.set j J) (ps.length+1) (stL ps rows rows' kn (m+1)):=F9.congr λi hi=>by
     show _=if upN ps kn m=some i then zaf ps rows' i else stL ps rows rows' kn m i
     rw[eu];by_cases z:i=j
     .rw[if_pos z,if_pos (by rw[z]),z]
     .rw[if_neg z,if_neg (λy=>z (yae y).symm)]
    have nlp:∀{b:Addr} {o:HO},H8 b=some o->(∀ us,o≠.lst us)->upd H8 p (.lst ((qs'.map V.ref).set j (.ref J))) b=some o:=λ{b o} e n=>k9 b o (λz=>by
     rw[z,S8.full.at_]at e;exact n _ (yae e).symm) e
    have S9:zcU K CS (upd H8 p (.lst ((qs'.map V.ref).set j (.ref J)))) sh dx st p (qs'.set j J) ps rows rows' t rs as kn (m+1):=⟨nlp S8.own (λ_ z=>nomatch z),nlp S8.ins (λ_ z=>nomatch z),zbB tp9 S8.stand,F9'⟩;have s58:Same H5 H8:=s6.trans (s7.trans s8);have B9:=k9 _ _ hBp (s58 _ _ h5);have hB9:=zcl tp9 (hh5.mono s58.ext);have J9:=k9 _ _ hJp h8;have hJ9:=zcl tp9 hw8;have D9:=k9 _ _ I.dp (s48 _ _ D4);have t4':=t4.imp (Fr':=λb=>Fr b/\b∉qs'.set j J) λb o e n=>⟨n.1,λz=>by
     rcases ybO z with y|y
     .exact n.2 y
     .rw[y,hJ4]at e;cases e⟩
    have t9:=zcr.keep (λb o _ n e=>k9 b o (λz=>hFp (z ▸ n.1)) (s48 _ _ e)) (λb us e=>tp9 _ _ (s48 _ _ e)) t4';have b9:But p H (upd H8 p (.lst ((qs'.map V.ref).set j (.ref J)))):=λb o n e=>k9 b o n (s48 _ _ (b4 b o n e));clear k9 tp9 nlp F9 F9';generalize upd H8 p (.lst ((qs'.map V.ref).set j (.ref J)))=H9 at S9 B9 hB9 J9 hJ9 D9 t9 b9 ⊢;have fJ:(qs'.set j J)[j]?=some J:=by
     have:=I.half.full.len;rw[ybt,if_pos rfl,if_pos .(a)]
    refine ⟨_,rfl,sh,CS,dx,_,_,rfl,S9.ins,O.cl,O.n_fulls,rfl,_,rfl,_,_,_,_,rfl,rfl,SqL.of S9.full.at_,zct fJ,J,jw,_,rfl,J9,hJ9,by lia,zee T' R' hfew hjn,zaC T' R' hjn,λA' H10 hA10 s10 h10=>n4 _ _ ?_⟩;intro N5 n5;have hh10:zam K H10 (zbm (zaf ps rows' j)) (zdf jw (zcp (zaf ps rows' j))):=zgu (hJ9.mono s10.ext);have hl1:=(zaP .(m)).length_le;have hl2:=(zaP (zaf ps rows' j)).length_le;have nd1:=(zcR T' R hjn).sublist (zaP .(m));have nd2:=(zcR T' R' hjn).sublist (zaP (zaf ps rows' j));refine ⟨_,rfl,_,rfl,B,A',_,_,_,_,rfl,s10 _ _ B9,hB9.mono s10.ext,by lia,h10,hh10,by lia,nd2,λG gw' H11 hG s11 h11 hw11=>n5 _ _ ?_⟩;intro N6 n6;refine ⟨_,rfl,_,rfl,A',B,_,_,_,_,rfl,s11 _ _ h10,hh10.mono s11.ext,by lia,s11 _ _ (s10 _ _ B9),(hB9.mono s10.ext).mono s11.ext,by lia,nd1,λC cw' H12 hC s12 h12 hw12=>n6 _ _ ?_⟩;have s92:Same H9 H12:=s10.trans (s11.trans s12);have S12:zcU K CS H12 sh dx st p (qs'.set j J) ps rows rows' t rs as kn (m+1):=⟨s92 _ _ S9.own,s92 _ _ S9.ins,S9.stand.same s92,S9.full.ext s92.ext⟩;refine ⟨_,rfl,sh,CS,dx,_,_,rfl,S12.ins,O.cl,O.n_kept,rfl,_,_,_,_,rfl,rfl,SqT.of S12.stand.st,rfl,_,rfl,_,_,_,_,rfl,rfl,SqT.of S12.stand.tr,ze0 hjn,?_⟩;have tp92:Tp H9 H12:=λb us e=>s92 _ _ e;have hnH:∀{b:Addr},H9 b=none->H b=none\/b=p:=λ{b} e=>by
     by_cases z:b=p
     .exact .inr z
     .refine .inl ?_;cases e4:H b with
      | none=>rfl
      | some o=>
       rw[b9 _ _ z e4]at e;cases e
    have nG:H9 G=none:=s10.free hG;have nC:H9 C=none:=s10.free (s11.free hC);have nqs:∀{b:Addr},H9 b=none->b∉qs'.set j J:=λ{b} e z=>by
     obtain ⟨i,hi,ei⟩:=yaP z;obtain ⟨ws,w1,_⟩:=S9.full.get i b (by rw[yac hi,ei]);rw[e]at w1;cases w1
    refine hN _ _ ⟨⟨G,C,gw',cw',us++[.ref u],qs'.set j J,m+1,some (.ref B),some (.ref A'),?_,S12,s12 _ _ h11,h12,λi hi=>?_,λm' i hm' hi=>?_,s92 _ _ D9,zcr.keep (λb o _ _ e=>s92 _ _ e) tp92 t9,?_,?_,?_,?_,nqs nG,nqs nC,hD,λx hx=>?_,λb o n e=>s92 _ _ (b9 b o n e),I.dp,λz=>?_⟩,?_⟩
    .rw[zkK eu,zno];rfl
    .have L:=zot T' R R' hk hB (zkL T' hk eu) ((zkK eu).symm.trans hi);rw[<-L.gone,<-L.come];exact ⟨hw11.mono s12.ext,hw12⟩
    .rcases ybZ m' m with y|y
     .exact I.goes m' i y hi
     .have:m'=m:=by lia
      subst this;rw[eu]at hi;have:=yae hi;subst this;rintro ⟨z1,z2⟩;rw[z1]at lg;rw[z2]at lc;have:(0:Int)<(gw.length:Int)+cw.length:=yaH hpos;rw[ybi]at lg lc;lia
    .exact λz=>by rw[z,D9]at nG;cases nG
    .exact λz=>by rw[z,D9]at nC;cases nC
    .exact (hnH nG).elim (hF0 _) λz=>by rw[z,S9.full.at_]at nG;cases nG
    .exact (hnH nC).elim (hF0 _) λz=>by rw[z,S9.full.at_]at nC;cases nC
    .rcases ybO hx with y|y
     .exact I.nqs x y
     .rw[y];refine .inr ?_;cases e4:H J with
      | none=>rfl
      | some o=>
       rw[b4 _ _ hJp e4]at hJ4;cases hJ4
    .rcases ybO z with y|y
     .exact I.dqs y
     .exact hJD y
    .rw[zno];cases ep:par ps j with
     | none=>exact Nat.succ_pos _
     | some i=>
      have:=(zaM T' ep).1;show ((i:Int)).toNat+1<((j:Int)).toNat+1;lia
   .have e0:gw.length=0/\cw.length=0:=by
     have:¬ (0:Int)<(gw.length:Int)+cw.length:=λz=>hneg (yai z);lia
    exact ⟨g,c,gw,cw,us,qs',m,x5,x6,by rw[eu],I,.inr ⟨j,eu,ycx.mp .(a),ycx.mp .(a)⟩⟩
 .refine ziT (λU H Q Q' m h=>?_) (λU H Q Q' m h=>?_)
  .obtain ⟨y1,e1,e3,b,e4,q⟩:=h;exact ⟨y1,e1,e3,b,e4,m _ _ q⟩
  .obtain ⟨y1,e1,p1,z1,e2,e3,y2,e4,p2,z2,e5,e6,i1,j1,e7,e8,i2,j2,e9,e10,b,e11,q⟩:=h;exact ⟨y1,e1,p1,z1,e2,e3,y2,e4,p2,z2,e5,e6,i1,j1,e7,e8,i2,j2,e9,e10,b,e11,m _ _ q⟩
 .rintro U H2 ⟨g,c,gw,cw,us,qs',m,x5,x6,rfl,I,hm⟩;have hm':upN ps kn m=none\/∃ j,upN ps kn m=some j/\zaf ps rows' j=zaf ps rows j:=hm.imp id λ⟨j,h1,h2,h3⟩=>⟨j,h1,zln (zaC T' R (ziO T' hk h1)) (zaC T' R' (ziO T' hk h1)) h2 h3⟩;refine nw _ _ ?_;refine ⟨_,rfl,?_⟩;exact q D us m qs' H2 ⟨I.goes,hm⟩ hD I.nqs I.but ⟨I.half.own,I.half.ins,I.half.stand,I.half.full.congr λi hi=>zry T' R R' hk hB hm' hi⟩ I.hD I.told
def loN (row:List Int)(x:Int):Nat:=(row.filter λy=>decide (y<x)).length
def putR (row:List Int)(x:Int):List Int:=row.take (loN row x)++[x]++row.drop (loN row x)
def outR (row:List Int)(x:Int):List Int:=row.take (loN row x)++row.drop (loN row x+1)
theorem znW {x:Int}:∀{row:List Int},row.Pairwise (· < ·)->(∀ y∈row.take (loN row x),y<x)/\∀ y∈row.drop (loN row x),x<=y
 | [],_=>⟨(λ_ h=>by simp at h),λ_ h=>by simp at h⟩
 | a::r,h=>by
  obtain ⟨h1,h2⟩:=yck.mp h;by_cases c:a<x
  .have e:loN (a::r) x=loN r x+1:=by
    unfold loN;rw[yaS (p:=λy=>decide (y<x)) (yai c),yaM]
   obtain ⟨i1,i2⟩:=znW (x:=x) h2;rw[e];refine ⟨λy hy=>?_,λy hy=>i2 y hy⟩;rcases yag.mp hy with z|z
   .rw[z];exact c
   .exact i1 y z
  .have e:loN (a::r) x=0:=by
    unfold loN;rw[ya8.mpr,ybi];intro y hy z;have z:=yaH z;rcases yag.mp hy with w|w
    .omega
    .have:=h1 y w;lia
   rw[e];refine ⟨(λy hy=>by simp at hy),λy hy=>?_⟩;rcases yag.mp hy with w|w
   .omega
   .have:=h1 y w;lia
theorem zj0 {y:Int}:y∈putR row x↔y∈row\/y=x:=by
 unfold putR;rw[yaw,yaw,yaq];constructor
 .rintro ((h|h)|h)
  .exact .inl (List.mem_of_mem_take h)
  .exact .inr h
  .exact .inl (ycy h)
 .rintro (h|h)
  .rw[<-yaX (loN row x) row]at h;rcases yaw.mp h with h|h
   .exact .inl (.inl h)
   .exact .inr h
  .exact .inl (.inr h)
theorem ztf {row:List Int}{x:Int}(h:row.Pairwise (· < ·))(n:x∉row):(putR row x).Pairwise (· < ·):=by
 obtain ⟨h1,h2⟩:=znW (x:=x) h;have h3:∀ y∈row.drop (loN row x),x<y:=λy hy=>by
  have:=h2 y hy;have:y≠x:=λz=>n (z ▸ ycy hy);lia
 have hp:=h;rw[<-yaX (loN row x) row]at hp;obtain ⟨p1,p2,_⟩:=yci.mp hp;unfold putR;refine yci.mpr ⟨yci.mpr ⟨p1,ycw _ _,λa ha b hb=>?_⟩,p2,λa ha b hb=>?_⟩
 .rw[yaq.mp hb];exact h1 a ha
 .have:=h3 b hb;rcases yaw.mp ha with z|z
  .have:=h1 a z;lia
  .rw[yaq.mp z];exact this
theorem zii (row:List Int)(x:Int):(outR row x).Sublist row:=by
 unfold outR;have:(row.take (loN row x)++row.drop (loN row x+1)).Sublist (row.take (loN row x)++row.drop (loN row x)):=by
  refine List.Sublist.append (List.Sublist.refl _) ?_;rw[<-List.drop_drop];exact List.drop_sublist _ _
 rwa[yaX]at this
theorem zrO {row:List Int}{x y:Int}(h:row.Pairwise (· < ·))(hx:x∈row):y∈outR row x↔y∈row/\y≠x:=by
 obtain ⟨h1,h2⟩:=znW (x:=x) h;have hd:∃ r,row.drop (loN row x)=x::r:=by
  have hm:x∈row.drop (loN row x):=by
   have hx':=hx;rw[<-yaX (loN row x) row]at hx';rcases yaw.mp hx' with z|z
   .exact absurd (h1 x z) .(a)
   .exact z
  cases e:row.drop (loN row x) with
  | nil=>rw[e]at hm;cases hm
  | cons a r=>
   have ha:=h2 a (by rw[e];exact yau);rw[e]at hm;rcases yag.mp hm with z|z
   .exact ⟨r,by rw[z]⟩
   .have hs:=h.sublist (List.drop_sublist (loN row x) row);rw[e]at hs;have:=(yck.mp hs).1 x z;lia
 obtain ⟨r,hr⟩:=hd;have hr1:row.drop (loN row x+1)=r:=by
  rw[<-List.drop_drop,hr];rfl
 have hs:=h.sublist (List.drop_sublist (loN row x) row);rw[hr]at hs;have hlt:=(yck.mp hs).1;unfold outR;rw[yaw,hr1];constructor
 .rintro (z|z)
  .exact ⟨List.mem_of_mem_take z,λe=>absurd (h1 y z) .(a)⟩
  .refine ⟨ycy (by rw[hr];exact yar _ z),λe=>?_⟩;have:=hlt y z;lia
 .rintro ⟨z,n⟩;rw[<-yaX (loN row x) row,hr]at z;rcases yaw.mp z with z|z
  .exact .inl z
  .rcases yag.mp z with z|z
   .exact absurd z n
   .exact .inr z
section
variable {rows:List .(k)}{kn:Nat}{x:Int}{r:List Int}
theorem zfk (h:kn<rows.length):zar (rows.set kn r) kn=r:=by
 unfold zar;rw[yad,ybt,if_pos rfl,if_pos h];rfl
theorem ziD:zf5 kn rows (rows.set kn r):=λj n=>by
 unfold zar;rw[yad,ybt,if_neg (λz=>n z.symm),yad]
theorem zda {k:Nat}{e:En}:e∈ownE rows k↔e.1∈zar rows k/\e.2=(k:Int):=by
 unfold ownE;rw[yaE];constructor
 .rintro ⟨y,hy,rfl⟩;exact ⟨hy,rfl⟩
 .rintro ⟨h1,h2⟩;exact ⟨e.1,h1,by rw[<-h2]⟩
theorem zpo (h:kn<rows.length):za0 (ownE rows kn) (ownE (rows.set kn (putR .(g) x)) kn)=[]:=by
 refine ya8.mpr λe he z=>?_;have z:=yaH z;obtain ⟨h1,h2⟩:=zda.mp he;exact z (zda.mpr ⟨by rw[zfk h];exact zj0.mpr (.inl h1),h2⟩)
theorem zpA (h:kn<rows.length):za0 (ownE (rows.set kn (outR .(g) x)) kn) (ownE rows kn)=[]:=by
 refine ya8.mpr λe he z=>?_;have z:=yaH z;obtain ⟨h1,h2⟩:=zda.mp he;rw[zfk h]at h1;exact z (zda.mpr ⟨(zii _ _).mem h1,h2⟩)
theorem zlk {e:En}(h:Rise l)(m:∀ f,f∈l↔f=e):l=[e]:=zeR h (ycw _ _) λf=>by rw[m f,yaq]
theorem zpp (h:kn<rows.length)(hup: .(g).Pairwise (· < ·))(hr:Rise (ownE (rows.set kn (putR .(g) x)) kn))(n:x∉zar rows kn):za0 (ownE (rows.set kn (putR .(g) x)) kn) (ownE rows kn)=[(x,(kn:Int))]:=by
 refine zlk (hr.filter _) λe=>?_;rw[zbv,zda,zda,zfk h,zj0];constructor
 .rintro ⟨⟨h1|h1,h2⟩,h3⟩
  .exact absurd ⟨h1,h2⟩ h3
  .exact Prod.ext h1 h2
 .rintro rfl;exact ⟨⟨.inr rfl,rfl⟩,λz=>n z.1⟩
theorem zpz (h:kn<rows.length)(hup: .(g).Pairwise (· < ·))(hr:Rise (ownE rows kn))(hx:x∈zar rows kn):za0 (ownE rows kn) (ownE (rows.set kn (outR .(g) x)) kn)=[(x,(kn:Int))]:=by
 refine zlk (hr.filter _) λe=>?_;rw[zbv,zda,zda,zfk h,zrO hup hx];constructor
 .rintro ⟨⟨h1,h2⟩,h3⟩;exact Prod.ext (Classical.byContradiction λz=>h3 ⟨⟨h1,z⟩,h2⟩) h2
 .rintro rfl;exact ⟨⟨hx,rfl⟩,λz=>z.1.2 rfl⟩
theorem zk8 (R:zaL rows)(hup:r.Pairwise (· < ·))(hk:∀ y∈r,-(10^60)<y/\y<10^60):zaL (rows.set kn r):=by
 refine ⟨λrow hrow=>?_,λrow hrow=>?_⟩
 .rcases ybO hrow with z|z
  .exact R.1 row z
  .rw[z]
   first|exact hup|exact hk
 .rcases ybO hrow with z|z
  .exact R.2 row z
  .rw[z]
   first|exact hup|exact hk
end
def zmq (H:Hp)(q:Addr)(n:Nat):Prop:=∃ xs,(H q=some (.lst xs)\/H q=some (.tup xs))/\xs.length=n
theorem zpg (l:List Nat):(l.map λn:Nat=>(n:Int)).sum=((l.sum:Nat):Int):=by
 induction l with
 | nil=>rfl
 | cons a l ih=>
  rw[yap,yaJ,ih,yaJ,Int.natCast_add]
def zkX (K:Frag):Sp:=λvs H Q _=>∃(a:Addr) (qs:List Addr) (ls:List Nat),vs=[.ref a]/\(H a=some (.lst (qs.map V.ref))\/H a=some (.tup (qs.map V.ref)))/\Paired (zmq H) qs ls/\ls.length<=900/\∀ H',Same H H'->Q (.int ((ls.sum:Nat):Int)) H'
theorem zr0 (T:Txt K mg)(qaU:DF K mg "long_together" zb9 za7):FC P w K mg base 1 "long_together" za7 (zkX K):=by
 refine qaU.ok qb2 .(c) .(b)
 .obtain ⟨a,qs,ls,rfl,_⟩:=h;rfl
 obtain ⟨a,qs,ls,rfl,ha,hP,hz,q⟩:=h;have hl:=Paired.length hP;refine ⟨_,(zae (zaw (zan (zoQ rfl) rfl T.qfS boot_sum (zaa (zbN (N:=["each"]) (own:=1) (cap:=[]) rfl (zth (pv 0)) ⟨rfl,rfl,rfl,rfl,rfl,rfl⟩ (λ_ _ _ _ _=>(zas (i:=0) (show List.Nodup (["each"]:List Str) by decide +kernel) rfl (Or.inl rfl))) (λ_ _ _ _ _=>zcb) (λ_ _ _ _ _=>(zan (zal (K:=K)) rfl T.qaq boot_len (zaa (pv 0) zad)))) zad)))),?_⟩;have step:∀{D:Addr} (hD:H D=none) {i m:Nat} {x:V} {U:L2.St} {H2:Hp} {fin:Nat->L2.St->Hp->Prop},(qs.map V.ref)[i]?=some x->i+m=(qs.map V.ref).length->(∀ b o,b≠D->H b=some o->H2 b=some o)->H2 D=some (.lst ((ls.take i).map nV))->∃ xs,(SqL K H2 (match x with|.ref q=>q|_=>0) xs\/SqT K H2 (match x with|.ref q=>q|_=>0) xs)/\(∃ q,x=.ref q)/\ls.take (i+1)=ls.take i++[xs.length]/\i<ls.length:=by
  intro D hD i m x U H2 fin hx hm k2 h2;rw[yam]at hx;obtain ⟨qq,hq,rfl⟩:=ybq.mp hx;obtain ⟨n,hn,hL⟩:∃ n,ls[i]?=some n/\zmq H qq n:=by
   have:∀{qs:List Addr} {ls:List Nat} {i:Nat},Paired (zmq H) qs ls->qs[i]?=some qq->∃ n,ls[i]?=some n/\zmq H qq n:=by
    intro qs ls i r
    induction r generalizing i with
    | nil=>intro h;simp at h
    | cons a _ ih=>
     intro h;cases i with
     | zero=>
      have e:=yae (show some _=some qq from h);subst e;exact ⟨_,rfl,a⟩
     | succ i=>
      obtain ⟨n,h1,h2⟩:=ih (i:=i) (by simpa using h);exact ⟨n,by simpa using h1,h2⟩
   exact this hP hq
  have hi:=(yaj.mp hn).1;obtain ⟨xs,hxs,hxl⟩:=hL;refine ⟨xs,?_,⟨qq,rfl⟩,?_,hi⟩
  .rcases hxs with hxs|hxs
   .exact .inl (SqL.of (k2 _ _ (zac hxs hD) hxs))
   .exact .inr (SqT.of (k2 _ _ (zac hxs hD) hxs))
  .rw[yaF hi,(yaj.mp hn).2,hxl]
 have end_:∀{D:Addr} {H2:Hp},H D=none->H2 D=some (.lst (ls.map nV))->But D H H2->(λxs H Q=>∃(p:Addr) (ns:List Int),xs=[V.ref p]/\SqL K H p (ns.map V.int)/\Q (.int ns.sum) H) [V.ref D] H2 Q:=λ{D H2} hD h2 k2=>by
  refine ⟨D,ls.map λn:Nat=>(n:Int),rfl,?_,?_⟩
  .rw[ybd];exact SqL.of h2
  .rw[zpg];exact q H2 (λb o e=>k2 b o (zac e hD) e)
 rcases ha with ha|ha
 .refine ⟨_,rfl,a,rfl,.inl ⟨⟨_,SqL.of ha⟩,λD hD=>?_⟩⟩;refine zbR (xs:=qs.map V.ref) (λi U H2=>∃ x0:Option V,U=[x0]/\H2 D=some (.lst ((ls.take i).map nV))/\But D H H2) ?_ ?_ ?_ ?_
  .exact ⟨_,rfl,zab,λb o n e=>by rw[zag n];exact e⟩
  .rintro i U H2 _ ⟨x0,rfl,_,k2⟩;exact k2.sq (SqL.of ha) hD
  .rintro i m x U H2 hx hm ⟨x0,rfl,h2,k2⟩;obtain ⟨xs,hS,⟨qq,rfl⟩,htk,hi⟩:=step hD (U:=[x0]) (fin:=λ_ _ _=>True) hx hm k2 h2;rw[yab]at hm;refine zdn ?_;refine ⟨_,rfl,qq,xs,rfl,hS,_,h2,zao (by rw[yab,yao];lia),m-1,by lia,by rw[yab];lia,_,rfl,?_,λb o n e=>by rw[zag n];exact k2 b o n e⟩;rw[zab,htk,yal];rfl
  .rintro U H2 ⟨x0,rfl,h2,k2⟩;rw[yab,yas .(a)]at h2;exact end_ hD h2 k2
 .refine ⟨_,rfl,a,rfl,.inr ⟨⟨_,SqT.of ha⟩,λD hD=>?_⟩⟩;refine zfD (xs:=qs.map V.ref) (λi U H2=>∃ x0:Option V,U=[x0]/\H2 D=some (.lst ((ls.take i).map nV))/\But D H H2) ?_ ?_ ?_ ?_
  .exact ⟨_,rfl,zab,λb o n e=>by rw[zag n];exact e⟩
  .rintro i U H2 _ ⟨x0,rfl,_,k2⟩;exact SqT.of (k2 _ _ (zac ha hD) ha)
  .rintro i m x U H2 hx hm ⟨x0,rfl,h2,k2⟩;obtain ⟨xs,hS,⟨qq,rfl⟩,htk,hi⟩:=step hD (U:=[x0]) (fin:=λ_ _ _=>True) hx hm k2 h2;rw[yab]at hm;refine zdn ?_;refine ⟨_,rfl,qq,xs,rfl,hS,_,h2,zao (by rw[yab,yao];lia),m-1,by lia,by rw[yab];lia,_,rfl,?_,λb o n e=>by rw[zag n];exact k2 b o n e⟩;rw[zab,htk,yal];rfl
  .rintro U H2 ⟨x0,rfl,h2,k2⟩;rw[yab,yas .(a)]at h2;exact end_ hD h2 k2
theorem zqv :atI (zbZ ps) 0=some .non:=by
 have h:=ze0 (ps:=ps) (k:=0) .(a);rw[zgR rfl]at h;exact h
def ziY (K:Frag):Sp:=λvs H Q _=>∃(t:Addr) (ps:List Nat),vs=[.ref t]/\H t=some (.lst (zbZ ps))/\zaA ps/\ps.length<=39/\∀(u:Addr) (H':Hp),H u=none->Same H H'->H' u=some (.tup (zbZ ps))->Q (.ref u) H'
theorem zlX (T:Txt K mg)(qcw:DF K mg "tree_of" zfc zeu)(qap:FC P w K mg base 2 "is_one_of_first" zaU (zhS K)):FC P w K mg base 3 "tree_of" zeu (ziY K):=by
 refine qcw.ok qcP .(c) .(b)
 .obtain ⟨t,ps,rfl,_⟩:=h;rfl
 obtain ⟨t,ps,rfl,ht,hT,hz,q⟩:=h;refine ⟨_,(zaN (za3 (zcH (zcn (zan zfR rfl T.qau boot_isinstance (zaa (pv 0) (zaa (zaX (zaa (zde (v:=.ty "list") rfl T.qaZ boot_list rfl) (zaa (zde (v:=.ty "tuple") rfl T.qa1 boot_tuple rfl) zad))) zad))))) (zae za9) zaD)
   (zaN (za3 (zcH (zpq zrR zrR zai (zan (zal (K:=K)) rfl T.qaq boot_len (zaa (pv 0) zad)) (zc9 rfl T.qbZ))) (zae za9) zaD)
   (zaN (za3 (zau zns (zaB (zat (K:=K)) (pv 0) zai (λ_ _=>rfl)) zgO (zaH _)) (zae za9) zaD)
   (zaj (zbr PassesOwn.never rfl (zdj rfl T.qax (zaa zai (zaa (zan (zal (K:=K)) rfl T.qaq boot_len (zaa (pv 0) zad)) zad))) (zas (i:=1) qcP.nd rfl (Or.inl rfl)) (zae (za3 (zcH (zcn (zax qap hr (zaa (pv 1) (zaa (zaB (zat (K:=K)) (pv 0) (pv 1) (λ_ _=>rfl)) zad))))) (zae za9) zaD)))
   (zae (zaw (zaY (zbt (K:=K)) rfl T.qa1 boot_tuple (zaa (pv 0) zad)))))))),?_⟩
 refine ⟨λU' H'=>U'=[some (.ref t),none]/\Same H H',?_,?_⟩
 .refine ⟨_,rfl,(by show 2<=sizeLine;decide),λp hp=>?_⟩;have sp:=zak hp (.tup [.ty "list",.ty "tuple"]);refine ⟨t,p,rfl,zab,.inl ⟨_,sp _ _ ht⟩,_,rfl,?_⟩;refine iteF ?_;exact ⟨rfl,sp⟩
 rintro U' H1 ⟨rfl,s1⟩;have h1:=s1 _ _ ht;refine ⟨λU' H'=>U'=[some (.ref t),none]/\H1=H',?_,?_⟩
 .refine ⟨_,rfl,_,_,rfl,.inl (SqL.of h1),_,_,rfl,rfl,_,rfl,?_⟩;refine ztR (by rw[zav];lia) ?_;refine ⟨_,_,rfl,rfl,_,rfl,?_⟩;rw[yai (by rw[zav];lia)];refine iteF ?_;exact ⟨rfl,rfl⟩
 rintro U' H' ⟨rfl,rfl⟩;refine ⟨λU' H'=>U'=[some (.ref t),none]/\H1=H',?_,?_⟩
 .refine ⟨_,rfl,_,_,_,_,rfl,rfl,SqL.of h1,zqv,rfl,_,rfl,?_⟩;refine iteF ?_;exact ⟨rfl,rfl⟩
 rintro U' H' ⟨rfl,rfl⟩;refine ⟨_,rfl,_,_,rfl,.inl (SqL.of h1),1,_,rfl,⟨by lia,by lia,by rw[zav];lia,by rw[zav];lia⟩,?_⟩;have en:((((zbZ ps).length:Nat):Int)-1).toNat=ps.length:=by rw[zav];lia
 rw[en];refine zbA (n:=ps.length) (λi U H2=>∃ x1:Option V,U=[some (.ref t),x1]/\H2=H1) ?_ ?_ ?_
 .exact ⟨_,rfl,rfl⟩
 .rintro i U H2 hi ⟨x1,rfl,rfl⟩;have ek:(1:Int)+(i:Int)=((i+1:Nat):Int):=by lia
  rw[ek];obtain ⟨u,hu⟩:=zid (ps:=ps) (k:=i+1) .(a) .(a);have hlt:=(zaM hT hu).1;have hat:=ze0 (ps:=ps) (k:=i+1) .(a);rw[zd7 hu]at hat;refine ⟨_,rfl,_,rfl,_,rfl,_,_,_,_,rfl,rfl,SqL.of h1,hat,_,_,rfl,by lia,by lia,_,rfl,?_⟩;refine iteF ?_;exact ⟨_,rfl,rfl⟩
 .rintro U H2 ⟨x1,rfl,rfl⟩;refine ⟨_,rfl,t,_,rfl,.inl ⟨SqL.of h1,λu hu=>?_⟩⟩;exact q u _ (s1.free hu) (s1.trans (zak hu _)) zab
def zqy (H:Hp)(a:Addr)(row:List Int):Prop:=∃ r:List Int,H a=some (.lst (r.map V.int))/\r.Perm row
theorem zm4 {r row:List Int}(hp:r.Perm row)(hup:row.Pairwise (· < ·)):zd1 r=row:=
 (zk4 (as:=r) (bs:=row) hp.symm (List.Pairwise.imp (λ{a b} (h:a<b)=>yan .(a)) hup)).symm
def zkV (K:Frag):Sp:=λvs H Q _=>∃(a:Addr) (r row:List Int),vs=[.ref a]/\H a=some (.lst (r.map V.int))/\r.Perm row/\row.Pairwise (· < ·)/\(∀ x∈row,-(10^60)<x/\x<10^60)/\row.length<=63/\
 ∀(b:Addr) (H':Hp),H b=none->Same H H'->H' b=some (.tup (row.map V.int))->Q (.ref b) H'
theorem znA (T:Txt K mg)(qdd:DF K mg "row_of" zgd zfn)(qdc:FC P w K mg base 2 "is_key" zd3 (zjX K)):FC P w K mg base 3 "row_of" zfn (zkV K):=by
 refine qdd.ok qdi .(c) .(b)
 .obtain ⟨a,r,row,rfl,_⟩:=h;rfl
 obtain ⟨a,r,row,rfl,ha,hpm,hup,hky,hz,q⟩:=h;refine ⟨_,(zaN (za3 (zcH (zcn (zan zfR rfl T.qau boot_isinstance (zaa (pv 0) (zaa (zaX (zaa (zde (v:=.ty "list") rfl T.qaZ boot_list rfl) (zaa (zde (v:=.ty "tuple") rfl T.qa1 boot_tuple rfl) zad))) zad))))) (zae za9) zaD)
   (zaj (zbr PassesOwn.never rfl (zbM (pv 0)) (zas (i:=1) qdi.nd rfl (Or.inl rfl)) (zae (za3 (zcH (zcn (zax qdc hr (zaa (pv 1) zad)))) (zae za9) zaD)))
   (zaN (za3 (zau zfu (zan zmn rfl T.qaq boot_len (zaa (zaY (zoR rfl) rfl T.qfR boot_set (zaa (pv 0) zad)) zad)) (zan (zal (K:=K)) rfl T.qaq boot_len (zaa (pv 0) zad)) (zaH _)) (zae za9) zaD)
   (zae (zaw (zaY (zbt (K:=K)) rfl T.qa1 boot_tuple (zaa (zan (zeg Int) rfl T.qcY boot_sorted (zaa (pv 0) zad)) zad))))))),?_⟩
 have hrn:row.Nodup:=List.Pairwise.imp (λ{a b} (q:a<b)=>by lia) hup;have hnd:r.Nodup:=hpm.nodup_iff.mpr hrn;have hrl:r.length=row.length:=hpm.length_eq;have hsort:=zm4 hpm hup;refine ⟨λU' H'=>U'=[some (.ref a),none]/\Same H H',?_,?_⟩
 .refine ⟨_,rfl,(by show 2<=sizeLine;decide),λp hp=>?_⟩;have sp:=zak hp (.tup [.ty "list",.ty "tuple"]);refine ⟨a,p,rfl,zab,.inl ⟨_,sp _ _ ha⟩,_,rfl,?_⟩;refine iteF ?_;exact ⟨rfl,sp⟩
 rintro U' H1 ⟨rfl,s1⟩;have h1:=s1 _ _ ha;refine ⟨_,rfl,a,rfl,⟨_,SqL.of h1⟩,?_⟩;refine zdS (xs:=r.map V.int) (λi U H2=>∃ x1:Option V,U=[some (.ref a),x1]/\H2=H1) ?_ ?_ ?_ ?_
 .exact ⟨_,rfl,rfl⟩
 .rintro i U H2 _ ⟨x1,rfl,rfl⟩;exact SqL.of h1
 .rintro i x U H2 hx ⟨x1,rfl,rfl⟩;rw[yam]at hx;obtain ⟨y,hy,rfl⟩:=ybq.mp hx;have hb:=hky y (hpm.mem_iff.mp (yaN hy));refine ⟨_,rfl,_,true,rfl,.int y true ?_,_,rfl,?_⟩
  .rw[yai (by split<;>lia)]
  refine iteF ?_;exact ⟨_,rfl,rfl⟩
 .rintro U H2 ⟨x1,rfl,rfl⟩;refine ⟨λU' H'=>U'=[some (.ref a),x1]/\Same H2 H',?_,?_⟩
  .refine ⟨_,rfl,a,r,rfl,SqL.of h1,by lia,λl hl=>?_⟩;have sl:=zak hl (.set (λk=>(metI r).any (· == k)) (metI r).length);refine ⟨l,_,_,rfl,zab,by rw[zhz hnd];lia,_,rfl,_,_,rfl,.inl (SqL.of (sl _ _ h1)),_,_,rfl,rfl,_,rfl,?_⟩;refine zof (by rw[zhz hnd,yab];lia) ?_;exact ⟨rfl,sl⟩
  rintro U' H3 ⟨rfl,s3⟩;have h3:=s3 _ _ h1;refine ⟨_,rfl,a,_,r,rfl,SqL.of h3,zam.ints,by lia,λl ws hl hw=>?_⟩;rw[hw.toInts,hsort];have sl:=zak hl (.lst (row.map V.int));refine ⟨l,_,rfl,.inl ⟨SqL.of zab,λb hb=>?_⟩⟩;have sb:=zak hb (.tup (row.map V.int));have s03:Same H H3:=s1.trans s3;exact q b _ (s03.free (sl.free hb)) (s03.trans (sl.trans sb)) zab
theorem zaR.lens :∀{as:List Addr} {rows:List (List Int)},zaR H as rows->Paired (zmq H) as (rows.map List.length)
 | _,_,.nil=>.nil
 | _,_,.cons h t=>.cons ⟨_,.inr h,by rw[yab]⟩ (zaR.lens t)
def zhs (K:Frag):Sp:=λvs H Q _=>∃(t r:Addr) (ps:List Nat) (rows:List (List Int)) (as:List Addr),vs=[.ref t,.ref r]/\H t=some (.tup (zbZ ps))/\H r=some (.lst (as.map V.ref))/\Paired (zqy H) as rows/\rows.length=ps.length+1/\zaA ps/\zaL rows/\ps.length<=40/\zbz rows<=63/\
 ∀(st rs:Addr) (bs:List Addr) (H':Hp),H st=none->Same H H'->za1 H' st ps rows t rs bs->Q (.ref st) H'
theorem zj7 (T:Txt K mg)(qbR:DF K mg "stand_of" zem zdF)(qe8:FC P w K mg base 3 "row_of" zfn (zkV K))(qav:FC P w K mg base 1 "long_together" za7 (zkX K)):FC P w K mg base 4 "stand_of" zdF (zhs K):=by
 refine qbR.ok qck .(c) .(b)
 .obtain ⟨t,r,ps,rows,as,rfl,_⟩:=h;rfl
 obtain ⟨t,r,ps,rows,as,rfl,ht,hr0,hA,hlen,hT,hR,hfew,hkeys,q⟩:=h;have hal:as.length=rows.length:=Paired.length hA;refine ⟨_,(zaN (za3 (zcH (zcn (zan zfR rfl T.qau boot_isinstance (zaa (pv 1) (zaa (zaX (zaa (zde (v:=.ty "list") rfl T.qaZ boot_list rfl) (zaa (zde (v:=.ty "tuple") rfl T.qa1 boot_tuple rfl) zad))) zad))))) (zae za9) zaD)
   (zaN (za3 (zau zrQ (zan (zal (K:=K)) rfl T.qaq boot_len (zaa (pv 1) zad)) (zan (zal (K:=K)) rfl T.qaq boot_len (zaa (pv 0) zad)) (zaH _)) (zae za9) zaD)
   (zaj (zaq (i:=2) qck.nd rfl (Or.inl rfl) (zaY (zbt (K:=K)) rfl T.qa1 boot_tuple (zaa (zbN (N:=["row"]) (own:=1) (cap:=[]) rfl (zbM (pv 1)) ⟨rfl,rfl,rfl,rfl,rfl,rfl⟩ (λ_ _ _ _ _=>(zas (i:=0) (show List.Nodup (["row"]:List Str) by decide +kernel) rfl (Or.inl rfl))) (λ_ _ _ _ _=>zcb) (λ_ _ _ _ _=>(zax qe8 hr (zaa (pv 0) zad)))) zad)))
   (zaN (za3 (zau zj5 (zax qav hr (zaa (pv 2) zad)) (zc9 rfl T.qbn) (zaH _)) (zae za9) zaD)
   (zae (zaw (zaX (zaa (pv 0) (zaa (pv 2) zad))))))))),?_⟩
 refine ⟨λU' H'=>U'=[some (.ref t),some (.ref r),none]/\Same H H',?_,?_⟩
 .refine ⟨_,rfl,(by show 2<=sizeLine;decide),λp hp=>?_⟩;have sp:=zak hp (.tup [.ty "list",.ty "tuple"]);refine ⟨r,p,rfl,zab,.inl ⟨_,sp _ _ hr0⟩,_,rfl,?_⟩;refine iteF ?_;exact ⟨rfl,sp⟩
 rintro U' H1 ⟨rfl,s1⟩;have h1t:=s1 _ _ ht;have h1r:=s1 _ _ hr0;have A1:Paired (zqy H1) as rows:=zaO (λ_ _ ⟨x,h,p⟩=>⟨x,s1 _ _ h,p⟩) hA;refine ⟨λU' H'=>U'=[some (.ref t),some (.ref r),none]/\H1=H',?_,?_⟩
 .refine ⟨_,rfl,_,_,rfl,.inl (SqL.of h1r),_,rfl,_,_,rfl,.inr (SqT.of h1t),rfl,_,rfl,?_⟩;refine zjq (by rw[yab,zav,hal,hlen]) ?_;exact ⟨rfl,rfl⟩
 rintro U' H' ⟨rfl,rfl⟩;refine ⟨_,rfl,r,rfl,⟨_,SqL.of h1r⟩,λD hD=>?_⟩;refine zbR (xs:=as.map V.ref) (λi U H2=>∃(bs:List Addr) (x0:Option V),U=[x0]/\H2 D=some (.lst (bs.map V.ref))/\zaR H2 bs (rows.take i)/\But D H1 H2) ?_ ?_ ?_ ?_
 .exact ⟨[],_,rfl,zab,.nil,λb o n e=>by rw[zag n];exact e⟩
 .rintro i U H2 _ ⟨bs,x0,rfl,_,_,k2⟩;exact SqL.of (k2 _ _ (zac h1r hD) h1r)
 .rintro i m x U H2 hx hm ⟨bs,x0,rfl,h2,hB,k2⟩;have hbl:=hB.length;rw[yao]at hbl;rw[yab]at hm;have hi:i<rows.length:=by
   have:=(yaj.mp hx).1;rw[yab]at this;lia
  obtain ⟨b,hb1,x2,hb2,hxp⟩:∃ b,as[i]?=some b/\zqy H1 b (zar rows i):=by
   have hri:rows[i]?=some (zar rows i):=by
    unfold zar;rw[yad,yac hi];rfl
   exact zdM A1 hri
  rw[yam,hb1]at hx;have:=yae hx;subst this;have hmem:zar rows i∈rows:=by
   unfold zar;rw[yad,yac hi];exact yaA hi
  have hrl:=zis hmem;have htk:rows.take (i+1)=rows.take i++[zar rows i]:=by
   rw[yaF hi];unfold zar;rw[yad,yac hi];rfl
  have h2b:=k2 _ _ (zac hb2 hD) hb2;refine zdn ?_;refine ⟨_,rfl,b,x2,zar rows i,rfl,h2b,hxp,hR.at_up i,hR.at_key i,by lia,λc H3 hc s3 h3=>?_⟩;have h3D:=s3 _ _ h2;have ncD:∀{x:Addr} {o:List V},H3 x=some (.tup o)->x≠D:=λ{x o} e z=>by
   rw[z,h3D]at e;cases e
  have kD:∀ b o,b≠D->H3 b=some o->upd H3 D (.lst (bs.map V.ref++[.ref c])) b=some o:=λb o n e=>by rw[zag n];exact e
  refine ⟨_,h3D,zao (by rw[yab];lia),m-1,by lia,by rw[yab];lia,bs++[c],_,rfl,?_,?_,λb o n e=>kD _ _ n (s3 _ _ (k2 b o n e))⟩
  .rw[zab,yal];rfl
  .rw[htk];exact zaR.snoc (zaR.keep (p:=D) (d:=D) (λa row e=>ncD e) kD (hB.ext s3)) (kD _ _ (ncD h3) h3)
 rintro U H2 ⟨bs,x0,rfl,h2,hB,k2⟩;rw[yab,yas .(a)]at hB;have s2:Same H1 H2:=λb o e=>k2 b o (zac e hD) e;refine ⟨D,_,rfl,.inl ⟨SqL.of h2,λrs hrs=>?_⟩⟩;have s3:=zak hrs (.tup (bs.map V.ref));have h3:upd H2 rs (.tup (bs.map V.ref)) rs=some (.tup (bs.map V.ref)):=zab;have s13:=s2.trans s3;have B3:=hB.ext s3;generalize upd H2 rs (.tup (bs.map V.ref))=H3 at s3 h3 s13 B3 ⊢;refine ⟨λU' H'=>U'=[some (.ref t),some (.ref r),some (.ref rs)]/\Same H3 H',?_,?_⟩
 .refine ⟨_,rfl,rs,bs,rows.map List.length,rfl,.inr h3,B3.lens,by rw[yab];lia,λH4 s4=>?_⟩;have hk:(rows.map List.length).sum=zbz rows:=rfl;rw[hk];refine ⟨_,_,rfl,rfl,_,rfl,?_⟩;refine zof .(a) ?_;exact ⟨rfl,s4⟩
 rintro U' H4 ⟨rfl,s4⟩;have s04:=s1.trans (s13.trans s4);refine ⟨_,rfl,_,rfl,(by show 2<=sizeLine;decide),λst hst=>?_⟩;have ss:=zak hst (.tup [.ref t,.ref rs]);exact q st rs bs _ (s04.free hst) (s04.trans ss) ⟨zab,ss _ _ (s04 _ _ ht),ss _ _ (s4 _ _ h3),(B3.ext s4).ext ss,hlen,hT,hR,hfew,by lia⟩
theorem zm5 {zs:List V}{k:Nat}{x:V}(h:k<zs.length):zs.set k x=zs.take k++[x]++zs.drop (k+1):=by
 rw[List.set_eq_take_append_cons_drop,if_pos h,ybs];rfl
def ziX (K:Frag):Sp:=λvs H Q _=>∃(st t rs:Addr) (zs:List V) (k:Nat) (x:V),vs=[.ref st,.int k,x]/\H st=some (.tup [.ref t,.ref rs])/\H rs=some (.tup zs)/\k<zs.length/\zs.length<=60/\
 ∀(st' rs':Addr) (H':Hp),Same H H'->H' st'=some (.tup [.ref t,.ref rs'])->H' rs'=some (.tup (zs.set k x))->Q (.ref st') H'
theorem zrS (T:Txt K mg)(qbS:DF K mg "with_row" zek zb0):FC P w K mg base 1 "with_row" zb0 (ziX K):=by
 refine qbS.ok qcl .(c) .(b)
 .obtain ⟨st,t,rs,zs,k,x,rfl,_⟩:=h;rfl
 obtain ⟨st,t,rs,zs,k,x,rfl,hst,hrs,hk,hz,q⟩:=h;refine ⟨_,(zaj (zaq (i:=3) qcl.nd rfl (Or.inl rfl) (zaB (zay (K:=K)) (pv 0) zai (λ_ _=>rfl)))
   (zae (zaw (zaX (zaa (zaB (zay (K:=K)) (pv 0) zai (λ_ _=>rfl)) (zaa (zaG zgU (zaG zgT (zbH (zcj (K:=K)) (pv 3) zcK (zbL (pv 1))) (zaX (zaa (pv 2) zad))) (zbH (zcj (K:=K)) (pv 3) (zbL (zaG zbn (pv 1) zai)) zcK)) zad)))))),?_⟩
 refine ⟨_,rfl,_,_,_,_,rfl,rfl,SqT.of hst,rfl,?_⟩;refine ⟨_,rfl,_,_,_,_,rfl,rfl,SqT.of hst,rfl,?_⟩;refine ⟨_,rfl,_,rfl,_,rfl,rs,zs,rfl,SqT.of hrs,(λz=>?_),λ_ p hp=>?_⟩
 .have:=z.2;rw[zdd]at this;lia
 rw[zoK];have g1:=zak hp (.tup (zs.take k));have w1:upd H p (.tup (zs.take k)) p=some (.tup (zs.take k)):=zab;generalize upd H p (.tup (zs.take k))=H1 at g1 w1 ⊢;refine ⟨_,rfl,(by show 1<=sizeLine;decide),λm hm=>?_⟩;have g2:=zak hm (.tup [x]);have w2:upd H1 m (.tup [x]) m=some (.tup [x]):=zab;have w12:=g2 _ _ w1;generalize upd H1 m (.tup [x])=H2 at g2 w2 w12 ⊢;have hl1:(zs.take k).length=k:=by rw[yao];lia
 have rest:∀(u:Addr) (H3:Hp),Same H2 H3->H3 u=some (.tup (zs.take k++[x]))->∀{Q':VK},(∀(v:Addr) (H':Hp),Same H3 H'->H' v=some (.tup (zs.set k x))->Q' (.ref v) H')->∀(p2:Addr) (H4:Hp),Same H3 H4->H4 p2=some (.tup (zs.drop (k+1)))->zrE K (.ref u) (.ref p2) H4 Q':=λu H3 _ hu Q' q' p2 H4 s4 hp2=>by
  refine ⟨u,p2,_,_,rfl,rfl,SqT.of (s4 _ _ hu),SqT.of hp2,by simp,?_,λz=>?_,λz v hv=>?_⟩
  .refine yaU (zao ?_);rw[yah,hl1,yaR,yay];lia
  .refine q' u H4 s4 ?_;rw[zm5 hk,z,yaC];exact s4 _ _ hu
  .refine q' v _ (s4.trans (zak hv _)) ?_;rw[zab,zm5 hk]
 have fin:∀(u:Addr) (H3:Hp),Same H2 H3->H3 u=some (.tup (zs.take k++[x]))->∀(v:Addr) (H':Hp),Same H3 H'->H' v=some (.tup (zs.set k x))->∀ p,H' p=none->Q (.ref p) (upd H' p (.tup [.ref t,.ref v])):=λu H3 s3 _ v H' s' hv p hp=>by
  have gp:=zak hp (.tup [.ref t,.ref v]);exact q p v _ (g1.trans (g2.trans (s3.trans (s'.trans gp)))) zab (gp _ _ hv)
 have e1k:(k:Int)+1=((k+1:Nat):Int):=by lia
 refine ⟨p,m,_,_,rfl,rfl,SqT.of w12,SqT.of w2,by simp,yaU (zao (by rw[hl1];show k+1<=1000;lia)),λz=>?_,λz u hu=>?_⟩
 .have e0:zs.take k++[x]=[x]:=by rw[z];rfl
  refine ⟨_,rfl,_,rfl,_,_,rfl,rfl,_,rfl,rs,zs,rfl,SqT.of (g2 _ _ (g1 _ _ hrs)),(λz=>?_),λ_ p2 hp2=>?_⟩
  .have:=z.1;rw[e1k,zdd]at this;lia
  rw[e1k,zfC];exact rest m H2 (λ_ _ e=>e) (by rw[e0];exact w2) (λv H' s' hv=>⟨(by show 2<=sizeLine;decide),fin m H2 (λ_ _ e=>e) (by rw[e0];exact w2) v H' s' hv⟩) p2 _ (zak hp2 _) zab
 .have gu:=zak hu (.tup (zs.take k++[x]));have wu:upd H2 u (.tup (zs.take k++[x])) u=some (.tup (zs.take k++[x])):=zab;generalize upd H2 u (.tup (zs.take k++[x]))=H3 at gu wu ⊢;refine ⟨_,rfl,_,rfl,_,_,rfl,rfl,_,rfl,rs,zs,rfl,SqT.of (gu _ _ (g2 _ _ (g1 _ _ hrs))),(λz=>?_),λ_ p2 hp2=>?_⟩
  .have:=z.1;rw[e1k,zdd]at this;lia
  rw[e1k,zfC];exact rest u H3 gu wu (λv H' s' hv=>⟨(by show 2<=sizeLine;decide),fin u H3 gu wu v H' s' hv⟩) p2 _ (zak hp2 _) zab
theorem zfA {r:List Int}:∀{rows:List (List Int)} {kn:Nat},kn<rows.length->zbz (rows.set kn r)+ .(g).length=zbz rows+r.length
 | [],_,h=>absurd h (ybF _)
 | a::rows,0,_=>by
  unfold zbz;rw[List.set_cons_zero,yap,yaJ,yap,yaJ];show r.length+_+a.length=_;lia
 | a::rows,kn+1,h=>by
  have ih:=zfA (r:=r) (rows:=rows) (kn:=kn) (Nat.lt_of_succ_lt_succ h);unfold zbz at ih ⊢;rw[List.set_cons_succ,yap,yaJ,yap,yaJ];have e:zar (a::rows) (kn+1)=zar rows kn:=rfl;rw[e];lia
theorem ziu (n:Int)(xs:List Int):inV (.int n) (xs.map V.int)=decide (n∈xs):=by
 unfold inV
 induction xs with
 | nil=>rfl
 | cons x xs ih=>
  rw[yap,ybc,ih];show (x==n||decide (n∈xs))=decide (n∈x::xs);by_cases h:x=n
  .subst h;simp
  .have h2:¬ n=x:=λz=>h z.symm;simp[h,h2]
theorem zi4 :∀{as:List Addr} {rows:List (List Int)},zaR H as rows->Paired (zmq H) as (rows.map List.length)
 | _,_,.nil=>.nil
 | _,_,.cons h t=>.cons ⟨_,.inr h,by rw[yab]⟩ (zi4 t)
section
variable {K:Frag}{H:Hp}{a b:Addr}{xs ys:List V}{n:Nat}{Q:VK}
theorem zqS (h:H a=some (.tup xs))(q:∀ v H',Same H H'->H' v=some (.tup (xs.take n))->Q (.ref v) H'):rSlX K (.ref a) none (some (n:Int)) H Q:=
 ⟨a,xs,rfl,SqT.of h,λz=>q a H (λ_ _ e=>e) (by
  have:=z.2;rw[zdd]at this;rw[yas (by lia)];exact h),λ_ p hp=>q p _ (zak hp _) (by rw[zab,zoK])⟩
theorem zk5 (h:H a=some (.tup xs))(q:∀ v H',Same H H'->H' v=some (.tup (xs.drop n))->Q (.ref v) H'):rSlX K (.ref a) (some (n:Int)) none H Q:=
 ⟨a,xs,rfl,SqT.of h,λz=>q a H (λ_ _ e=>e) (by
  have:=z.1;rw[zdd]at this;have e:xs.drop n=xs:=by
   rcases Nat.eq_zero_or_pos n with y|y
   .rw[y];rfl
   .have:xs=[]:=ycx.mp .(a);rw[this];exact List.drop_nil
  rw[e];exact h),λ_ p hp=>q p _ (zak hp _) (by rw[zab,zfC])⟩
theorem ziA (ha:H a=some (.tup xs))(hb:H b=some (.tup ys))(hy:ys≠[])(hl:xs.length+ys.length<=sizeLine)(q:∀ v H',Same H H'->H' v=some (.tup (xs++ys))->Q (.ref v) H'):ztd K (.ref a) (.ref b) H Q:=
 ⟨a,b,xs,ys,rfl,rfl,SqT.of ha,SqT.of hb,hy,hl,λz=>q b H (λ_ _ e=>e) (by rw[z];exact hb),λ_ p hp=>q p _ (zak hp _) zab⟩
theorem zqo (ha:H a=some (.tup xs))(hb:H b=some (.tup ys))(hx:xs≠[])(hl:xs.length+ys.length<=sizeLine)(q:∀ v H',Same H H'->H' v=some (.tup (xs++ys))->Q (.ref v) H'):zrE K (.ref a) (.ref b) H Q:=
 ⟨a,b,xs,ys,rfl,rfl,SqT.of ha,SqT.of hb,hx,hl,λz=>q a H (λ_ _ e=>e) (by rw[z,yaC];exact ha),λ_ p hp=>q p _ (zak hp _) zab⟩
end
theorem zgH {H:Hp}{v:Addr}{r:List Int}(hv:H v=some (.tup (r.map V.int))):∀{as:List Addr} {rows:List (List Int)} (kn:Nat),zaR H as rows->zaR H (as.set kn v) (rows.set kn r)
 | _,_,_,.nil=>.nil
 | _,_,0,.cons _ t=>.cons hv t
 | _,_,kn+1,.cons h t=>.cons h (zgH hv kn t)
theorem znc :(putR row x).length=row.length+1:=by
 unfold putR;rw[yah,yah,yao,yaR];have:loN row x<=row.length:=ya3 _ _;show _+1+_=_;lia
theorem zjT (x:zaF H Pt pos q)(k:But b H H')(h1:∀ tab,H b≠some (.tbl tab))(h2:∀ f,H b≠some (.ext f)):zaF H' Pt pos q:=by
 obtain ⟨tab,e1,e2,e3⟩:=x.ex;refine ⟨tab,k _ _ (λz=>h1 tab (z ▸ e1)) e1,e2,?_⟩;rcases e3 with e3|⟨c,e3,e4⟩
 .exact .inl e3
 .exact .inr ⟨c,e3,k _ _ (λz=>h2 _ (z ▸ (show H c=_ from e4))) e4⟩
theorem zja (Q:zaL r)(k:Nat):Rise (ownE r k):=by
 unfold ownE;exact List.Pairwise.map _ (R:=λa b:Int=>a<b) (λa b (h:a<b)=>zcs.mpr (.inl h)) (Q.at_up k)
def Kd (sh p mp:Addr)(H H':Hp):Prop:=∀ b o,b≠sh->b≠p->b≠mp->H b=some o->H' b=some o
def zk2 (K:Frag)(CS mp:Addr)(f:List Int->Int->List Int)(ok:List .(k)->Nat->Int->Prop):Sp:=λvs H Q _=>∃(sh dx st p:Addr) (kn:Nat) (x:Int) (qs:List Addr) (ps:List Nat) (rows:List (List Int)) (t rs:Addr) (as:List Addr),vs=[.ref sh,.int kn,.int x]/\zaW K CS H sh dx st p qs ps rows t rs as/\kn<ps.length+1/\zkG x/\ok rows kn x/\zaF H mp zeM lamQ/\
 ∀(D:Addr) (us:List V) (m:Nat) (qs':List Addr) (st' rs':Addr) (as':List Addr) (H':Hp),zt7 ps rows (rows.set kn (f .(g) x)) kn m->H D=none->(∀ q∈qs',q∈qs\/H q=none)->Kd sh p mp H H'->zaW K CS H' sh dx st' p qs' ps (rows.set kn (f .(g) x)) t rs' as'->zaF H' mp zeM lamQ->H' D=some (.lst us)->
  zcr K H' D (λb=>H b=none/\b∉qs') (zhN ps rows (rows.set kn (f .(g) x)) kn m) us->Q (.ref D) H'
def ztz (rows:List .(k))(kn:Nat)(x:Int):Prop:=x∉zar rows kn/\zbz rows<63
def ztA (rows:List .(k))(kn:Nat)(x:Int):Prop:=x∈zar rows kn
theorem zjB {K:Frag}{st st' rs' v7 t:Addr}{kn:Nat}{r:List Int}(S:zaW K CS H sh dx st p qs ps rows t rs as)(S2:zaW K CS H2 sh dx st p qs ps rows t rs as)(hT2:zaF H2 mp zeM lamQ)
  (g:∀ b o,b≠mp->H b=some o->H2 b=some o) (s28:Same H2 H8) (h7:H8 v7=some (.tup (r.map V.int))) (h8:H8 st'=some (.tup [.ref t,.ref rs'])) (r8:H8 rs'=some (.tup ((as.map V.ref).set kn (.ref v7)))) (R':zaL (rows.set kn r)) (hk:zbz (rows.set kn r)<=63) :
  zcU K CS (upd H8 sh (.ins CS dx (putF "kept" (.ref st') [("kept",.ref st),("fulls",.ref p)]))) sh dx st' p qs ps rows (rows.set kn r) t rs' (as.set kn v7) kn 0/\zaF (upd H8 sh (.ins CS dx (putF "kept" (.ref st') [("kept",.ref st),("fulls",.ref p)]))) mp zeM lamQ/\(∀ b o,b≠sh->b≠mp->H b=some o->upd H8 sh (.ins CS dx (putF "kept" (.ref st') [("kept",.ref st),("fulls",.ref p)])) b=some o)/\
  (∀{b},upd H8 sh (.ins CS dx (putF "kept" (.ref st') [("kept",.ref st),("fulls",.ref p)])) b=none->H b=none)/\∀{b},upd H8 sh (.ins CS dx (putF "kept" (.ref st') [("kept",.ref st),("fulls",.ref p)])) b=none->b∉qs:=by
 have i8:=s28 _ _ S2.ins;have i9:upd H8 sh (.ins CS dx (putF "kept" (.ref st') [("kept",.ref st),("fulls",.ref p)])) sh=some (.ins CS dx [("kept",.ref st'),("fulls",.ref p)]):=zab;have k9:But sh H8 (upd H8 sh (.ins CS dx (putF "kept" (.ref st') [("kept",.ref st),("fulls",.ref p)]))):=λb o n e=>by rw[zag n];exact e
 generalize upd H8 sh (.ins CS dx (putF "kept" (.ref st') [("kept",.ref st),("fulls",.ref p)]))=H9 at i9 k9 ⊢;have tp9:Tp H8 H9:=k9.tp λus' z=>by rw[i8]at z;cases z
 have l9:∀ b us,H8 b=some (.lst us)->H9 b=some (.lst us):=λb us e=>k9 b _ (λz=>by rw[z,i8]at e;cases e) e
 have o9:=k9 _ _ (λz=>by have:=S.own;rw[z,S.ins]at this;cases this) (s28 _ _ S2.own)
 have S9:zcU K CS H9 sh dx st' p qs ps rows (rows.set kn r) t rs' (as.set kn v7) kn 0:=by
  refine ⟨o9,i9,⟨tp9 _ _ h8,tp9 _ _ (s28 _ _ S2.stand.tr),?_,zgH (tp9 _ _ h7) kn (zm7 (λb us e=>tp9 _ _ (s28 _ _ e)) S2.stand.at_),by rw[yb4];exact S.stand.len,S.stand.T,R',S.stand.few,hk⟩,(S2.full.ext s28.ext).tp tp9 l9⟩;rw[List.map_set];exact tp9 _ _ r8
 have T9:=zjT (hT2.ext s28.ext) k9 (λtab z=>by rw[i8]at z;cases z) (λf z=>by rw[i8]at z;cases z)
 refine ⟨S9,T9,λb o n1 n2 e=>k9 b o n1 (s28 _ _ (g b o n2 e)),λ{b} e=>?_,λ{b} e z=>?_⟩
 .cases eb:H b with
  | none=>rfl
  | some o=>
   by_cases z1:b=sh
   .rw[z1,S9.ins]at e;cases e
   .by_cases z2:b=mp
    .obtain ⟨tab,e1,_⟩:=T9.ex;rw[z2,e1]at e;cases e
    .rw[k9 b o z1 (s28 _ _ (g b o z2 eb))]at e;cases e
 .obtain ⟨i,hi,ei⟩:=yaP z;obtain ⟨ws,w1,_⟩:=S9.full.get i b (by rw[yac hi,ei]);rw[e]at w1;cases w1
theorem zts (T:Txt K mg)(O:OwnC K mg CS)(qaH:DM K CS "put" "Shelf.put" zcF zb6)(qam:FM P w K mg base CS 4 "row_for" zaV (ze9 K CS))(qav:FC P w K mg base 1 "long_together" za7 (zkX K))(qbv:FC P w K mg base 5 "place" zdG (zgF K mp))(qaI:FC P w K mg base 1 "with_row" zb0 (ziX K))(qai:FM P w K mg base CS 7 "carry_up" zaS (zgG K CS)):FM P w K mg base CS 8 "put" zb6 (zk2 K CS mp putR ztz):=by
 refine qaH.ok qaD .(c) .(b)
 .obtain ⟨sh,dx,st,p,kn,x,qs,ps,rows,t,rs,as,rfl,_⟩:=h;rfl
 obtain ⟨sh,dx,st,p,kn,x,qs,ps,rows,t,rs,as,rfl,S,hk,hx,⟨hnx,hroom⟩,hT,q⟩:=h;refine ⟨_,(zaj (zaq (i:=3) qaD.nd rfl (Or.inl rfl) (zgP qam O.cl hr (pv 0) (zaa (pv 1) (zaa (pv 2) zad))))
   (zaN (za3 (zau (zfL (K:=K)) (pv 2) (pv 3) (by with_unfolding_all rfl)) (zae za9) zaD)
   (zaN (za3 (zau znv (zax qav hr (zaa (zaB (zay (K:=K)) (zbK (pv 0) rfl) zai (λ_ _=>rfl)) zad)) (zc9 rfl T.qbn) (zaH _)) (zae za9) zaD)
   (zaj (zaq (i:=4) qaD.nd rfl (Or.inl rfl) (zax qbv hr (zaa (pv 3) (zaa (pv 2) zad))))
   (zaj (zgK (pv 0) (zax qaI hr (zaa (zbK (pv 0) rfl) (zaa (pv 1) (zaa (zaG zgU (zaG zgT (zbH (zcj (K:=K)) (pv 3) zcK (zbL (pv 4))) (zaX (zaa (pv 2) zad))) (zbH (zcj (K:=K)) (pv 3) (zbL (pv 4)) zcK)) zad)))) rfl)
   (zae (zaw (zgP qai O.cl hr (pv 0) (zaa (pv 1) (zaa (zbj zad) (zaa (zbj (zaa (zaX (zaa (pv 2) (zaa (pv 1) zad))) zad)) zad))))))))))),?_⟩
 refine ⟨_,rfl,sh,dx,_,rfl,S.ins,rfl,_,rfl,_,rfl,sh,dx,st,p,kn,x,qs,ps,rows,t,rs,as,rfl,S,hk,hx,λa ha hrow=>?_⟩;have hfl:(.(g).map V.int).all zfP=true:=yaW.mpr λy hy=>by
  obtain ⟨z,_,rfl⟩:=yaE.mp hy;rfl
 refine ⟨λU' H'=>U'=[some (.ref sh),some (.int kn),some (.int x),some (.ref a),none]/\H=H',?_,?_⟩
 .refine ⟨_,rfl,_,rfl,a,_,rfl,.inr (SqT.of hrow),rfl,hfl,_,rfl,?_⟩;show if inV (.int x) (.(g).map V.int)=true then _ else _
  rw[ziu,yan hnx];exact iteF ⟨rfl,rfl⟩
 rintro _ _ ⟨rfl,rfl⟩;have hfew:=S.stand.few;refine ⟨λU' H1=>U'=[some (.ref sh),some (.int kn),some (.int x),some (.ref a),none]/\Same H H1,?_,?_⟩
 .refine ⟨_,rfl,sh,CS,dx,_,_,rfl,S.ins,O.cl,O.n_kept,rfl,_,_,_,_,rfl,rfl,SqT.of S.stand.st,rfl,rs,as,_,rfl,.inr S.stand.rs,zi4 S.stand.at_,by rw[yab,S.stand.len];lia,λH1 s1=>?_⟩;refine ⟨_,_,rfl,rfl,_,rfl,?_⟩;exact zof (show ¬ (300:Int)<=((zbz rows:Nat):Int) by lia) ⟨rfl,s1⟩
 rintro _ H1 ⟨rfl,s1⟩;have hrow1:=s1 _ _ hrow;refine ⟨_,rfl,_,rfl,a,zar rows kn,x,rfl,hrow1,S.stand.R.at_up kn,hT.ext s1.ext,λH2 g2 hT2=>?_⟩;obtain ⟨tab,hmp⟩:∃ tab,H1 mp=some (.tbl tab):=by
  obtain ⟨tab,e,_⟩:=(hT.ext s1.ext).ex;exact ⟨tab,e⟩
 have keep2:∀{b:Addr} {o:HO},H b=some o->(∀ tab,o≠.tbl tab)->H2 b=some o:=λ{b o} e n=>g2 b o (λz=>by
  rw[z]at e;have:=s1 _ _ e;rw[hmp]at this;exact n _ (yae this).symm) (s1 _ _ e)
 have tp2:Tp H H2:=λb us e=>keep2 e nofun;have S2:zaW K CS H2 sh dx st p qs ps rows t rs as:=⟨keep2 S.own nofun,keep2 S.ins nofun,zbB tp2 S.stand,S.full.tp tp2 λb us e=>keep2 e nofun⟩;have row2:=tp2 _ _ hrow;refine ⟨_,rfl,sh,CS,dx,_,_,rfl,S2.ins,O.cl,O.n_kept,rfl,_,rfl,?_⟩;refine ⟨_,rfl,_,rfl,_,rfl,zqS row2 λv3 H3 s3 h3=>?_⟩;refine ⟨_,rfl,(by show 1<=sizeLine;decide),λv4 hv4=>?_⟩;have s4:=zak hv4 (.tup [.int x]);have h4:upd H3 v4 (.tup [.int x]) v4=some (.tup [.int x]):=zab;have h34:=s4 _ _ h3;have row4:=s4 _ _ (s3 _ _ row2);generalize upd H3 v4 (.tup [.int x])=H4 at s4 h4 h34 row4 ⊢;have hrl: .(g).length<=63:=by
  have:=S.stand.keys;refine yax (zis ?_) this;unfold zar;rw[yad,yac (show kn<rows.length by rw[S.stand.len];exact hk)];exact yaA _
 refine ziA h34 h4 nofun (yaU (zao (by rw[yao,yab];show _+1<=1000;lia))) λv5 H5 s5 h5=>?_;refine ⟨_,rfl,_,rfl,_,rfl,?_⟩;unfold zjU;dsimp only;refine zk5 (s5 _ _ row4) λv6 H6 s6 h6=>?_;refine zqo (s6 _ _ h5) h6 .(h) (yaU (zao (by rw[yah,yao,yaR,yab];show _+1+_<=1000;lia))) λv7 H7 s7 h7=>?_;have s27:Same H2 H7:=s3.trans (s4.trans (s5.trans (s6.trans s7)));have er:(.(g).map V.int).take (zfG .(g) x)++[V.int x]++(.(g).map V.int).drop (zfG .(g) x)=(putR .(g) x).map V.int:=by
  unfold putR;rw[yal,yal,ybV,ycm];rfl
 rw[er]at h7;have hal:=S.stand.at_.length;refine ⟨st,t,rs,as.map V.ref,kn,.ref v7,rfl,s27 _ _ S2.stand.st,s27 _ _ S2.stand.rs,by rw[yab,hal,S.stand.len];exact hk,by rw[yab,hal,S.stand.len];lia,λst' rs' H8 s8 h8 r8=>?_⟩;have s28:Same H2 H8:=s27.trans s8;have hkr:kn<rows.length:=by rw[S.stand.len];exact hk
 have R':zaL (rows.set kn (putR .(g) x)):=zk8 S.stand.R (ztf (S.stand.R.at_up kn) hnx) λy hy=>by
  rcases zj0.mp hy with z|z
  .exact S.stand.R.at_key kn y z
  .rw[z];exact hx
 have hks:=zfA (r:=putR .(g) x) hkr;rw[znc]at hks;refine ⟨_,rfl,sh,CS,dx,_,rfl,s28 _ _ S2.ins,O.cl,O.n_kept,(by show 2<1000;decide),?_⟩;obtain ⟨S9,T9,kd9,al,nq9⟩:=zjB (r:=putR .(g) x) S S2 hT2 (λb o n e=>g2 b o n (s1 _ _ e)) s28 (s8 _ _ h7) h8 r8 R' .(a);generalize upd H8 sh (.ins CS dx (putF "kept" (.ref st') [("kept",.ref st),("fulls",.ref p)]))=H9 at S9 T9 kd9 al nq9 ⊢;refine ⟨_,rfl,sh,dx,_,rfl,S9.ins,rfl,_,rfl,(by show 0<=sizeLine;decide),λg hg=>?_⟩;have s10:=zak hg (.lst []);have g10:upd H9 g (.lst []) g=some (.lst []):=zab;generalize upd H9 g (.lst [])=H10 at s10 g10 ⊢;refine ⟨_,rfl,_,rfl,(by show 2<=sizeLine;decide),λu hu=>?_⟩;have s11:=zak hu (.tup [.int x,.int kn]);have u11:upd H10 u (.tup [.int x,.int kn]) u=some (.tup [.int x,.int kn]):=zab;generalize upd H10 u (.tup [.int x,.int kn])=H11 at s11 u11 ⊢;refine ⟨(by show 1<=sizeLine;decide),λc hc=>?_⟩;have s12:=zak hc (.lst [.ref u]);have c12:upd H11 c (.lst [.ref u]) c=some (.lst [.ref u]):=zab;generalize upd H11 c (.lst [.ref u])=H12 at s12 c12 ⊢;have s92:Same H9 H12:=s10.trans (s11.trans s12);have S12:zcU K CS H12 sh dx st' p qs ps rows (rows.set kn (putR .(g) x)) t rs' (as.set kn v7) kn 0:=⟨s92 _ _ S9.own,s92 _ _ S9.ins,S9.stand.same s92,S9.full.ext s92.ext⟩;have L:=zjw S.stand.T S.stand.R R' hk (ziD (rows:=rows) (r:=putR .(g) x));refine ⟨sh,dx,st',p,g,c,[],[.ref u],kn,qs,ps,rows,rows.set kn (putR .(g) x),t,rs',as.set kn v7,(λb=>H b=none),rfl,S12,hk,ziD,S.stand.R,S.stand.len,S.stand.keys,s12 _ _ (s11 _ _ g10),?_,c12,?_,al hg,al (s10.free (s11.free hc)),(nq9 hg),(nq9 (s10.free (s11.free hc))),(λz=>by have z:H p=none:=z;rw[S.full.at_]at z;cases z),(λb z=>al (s92.free z)),λD us m qs' H' st hD hq bb sh' hDl told=>?_⟩
 .rw[<-L.gone,zpo hkr];exact .nil
 .rw[<-L.come,zpp hkr (S.stand.R.at_up kn) (zja R' kn) hnx];exact .cons ⟨u,.int x,.int kn,rfl,s12 _ _ u11,rfl,rfl⟩ .nil
 .refine q D us m qs' st' rs' (as.set kn v7) H' st (al (s92.free hD)) (λy hy=>(hq y hy).imp id λz=>al (s92.free z)) (λb o n1 n2 n3 e=>bb b o n2 (s92 _ _ (kd9 b o n1 n3 e))) sh' ?_ hDl told;have:=S12.full.at_;exact zjT (T9.ext s92.ext) bb (λtab z=>by rw[this]at z;cases z) (λf z=>by rw[this]at z;cases z)
section
variable {K:Frag}{H:Hp}{a b:Addr}{xs ys:List V}{Q:VK}
theorem zqp (ha:H a=some (.tup xs))(hb:H b=some (.tup ys))(hl:xs.length+ys.length<=sizeLine)(q:∀ v H',Same H H'->H' v=some (.tup (xs++ys))->Q (.ref v) H'):zte K (.ref a) (.ref b) H Q:=
 ⟨a,b,xs,ys,rfl,rfl,SqT.of ha,SqT.of hb,hl,λz=>q b H (λ_ _ e=>e) (by rw[z];exact hb),λ_=>⟨λz=>q a H (λ_ _ e=>e) (by rw[z,yaC];exact ha),λ_ p hp=>q p _ (zak hp _) zab⟩⟩
end
theorem ztu (T:Txt K mg)(O:OwnC K mg CS)(qaJ:DM K CS "out" "Shelf.out" zcG zb7)(qam:FM P w K mg base CS 4 "row_for" zaV (ze9 K CS))(qbv:FC P w K mg base 5 "place" zdG (zgF K mp))(qaI:FC P w K mg base 1 "with_row" zb0 (ziX K))(qai:FM P w K mg base CS 7 "carry_up" zaS (zgG K CS)):FM P w K mg base CS 8 "out" zb7 (zk2 K CS mp outR ztA):=by
 refine qaJ.ok qaE .(c) .(b)
 .obtain ⟨sh,dx,st,p,kn,x,qs,ps,rows,t,rs,as,rfl,_⟩:=h;rfl
 obtain ⟨sh,dx,st,p,kn,x,qs,ps,rows,t,rs,as,rfl,S,hk,hx,hin,hT,q⟩:=h;refine ⟨_,(zaj (zaq (i:=3) qaE.nd rfl (Or.inl rfl) (zgP qam O.cl hr (pv 0) (zaa (pv 1) (zaa (pv 2) zad))))
   (zaN (za3 (zau (zcB (K:=K)) (pv 2) (pv 3) (by with_unfolding_all rfl)) (zae za9) zaD)
   (zaj (zaq (i:=4) qaE.nd rfl (Or.inl rfl) (zax qbv hr (zaa (pv 3) (zaa (pv 2) zad))))
   (zaj (zgK (pv 0) (zax qaI hr (zaa (zbK (pv 0) rfl) (zaa (pv 1) (zaa (zaG znw (zbH (zcj (K:=K)) (pv 3) zcK (zbL (pv 4))) (zbH (zcj (K:=K)) (pv 3) (zbL (zaG zbn (pv 4) zai)) zcK)) zad)))) rfl)
   (zae (zaw (zgP qai O.cl hr (pv 0) (zaa (pv 1) (zaa (zbj (zaa (zaX (zaa (pv 2) (zaa (pv 1) zad))) zad)) (zaa (zbj zad) zad)))))))))),?_⟩
 refine ⟨_,rfl,sh,dx,_,rfl,S.ins,rfl,_,rfl,_,rfl,sh,dx,st,p,kn,x,qs,ps,rows,t,rs,as,rfl,S,hk,hx,λa ha hrow=>?_⟩;have hfl:(.(g).map V.int).all zfP=true:=yaW.mpr λy hy=>by
  obtain ⟨z,_,rfl⟩:=yaE.mp hy;rfl
 refine ⟨λU' H'=>U'=[some (.ref sh),some (.int kn),some (.int x),some (.ref a),none]/\H=H',?_,?_⟩
 .refine ⟨_,rfl,_,rfl,a,_,rfl,.inr (SqT.of hrow),rfl,hfl,_,rfl,?_⟩;show if (!inV (.int x) (.(g).map V.int))=true then _ else _
  rw[ziu,yai (show x∈zar rows kn from hin)];exact iteF ⟨rfl,rfl⟩
 rintro _ _ ⟨rfl,rfl⟩;have hfew:=S.stand.few;have s1:Same H H:=λ_ _ e=>e;have hrow1:=s1 _ _ hrow;refine ⟨_,rfl,_,rfl,a,zar rows kn,x,rfl,hrow1,S.stand.R.at_up kn,hT.ext s1.ext,λH2 g2 hT2=>?_⟩;obtain ⟨tab,hmp⟩:∃ tab,H mp=some (.tbl tab):=by
  obtain ⟨tab,e,_⟩:=(hT.ext s1.ext).ex;exact ⟨tab,e⟩
 have keep2:∀{b:Addr} {o:HO},H b=some o->(∀ tab,o≠.tbl tab)->H2 b=some o:=λ{b o} e n=>g2 b o (λz=>by
  rw[z]at e;have:=s1 _ _ e;rw[hmp]at this;exact n _ (yae this).symm) (s1 _ _ e)
 have tp2:Tp H H2:=λb us e=>keep2 e nofun;have S2:zaW K CS H2 sh dx st p qs ps rows t rs as:=⟨keep2 S.own nofun,keep2 S.ins nofun,zbB tp2 S.stand,S.full.tp tp2 λb us e=>keep2 e nofun⟩;have row2:=tp2 _ _ hrow;refine ⟨_,rfl,sh,CS,dx,_,_,rfl,S2.ins,O.cl,O.n_kept,rfl,_,rfl,?_⟩;refine ⟨_,rfl,_,rfl,_,rfl,zqS row2 λv3 H3 s3 h3=>?_⟩;have hrl: .(g).length<=63:=by
  have:=S.stand.keys;refine yax (zis ?_) this;unfold zar;rw[yad,yac (show kn<rows.length by rw[S.stand.len];exact hk)];exact yaA _
 refine ⟨_,rfl,_,rfl,_,_,rfl,rfl,_,rfl,?_⟩;unfold zjU;dsimp only;rw[show ((zfG .(g) x:Nat):Int)+1=((zfG .(g) x+1:Nat):Int) from rfl];refine zk5 (s3 _ _ row2) λv6 H6 s6 h6=>?_;refine zqp (s6 _ _ h3) h6 (yaU (zao (by rw[yao,yaR,yab];lia))) λv7 H7 s7 h7=>?_;have s27:Same H2 H7:=s3.trans (s6.trans s7);have er:(.(g).map V.int).take (zfG .(g) x)++(.(g).map V.int).drop (zfG .(g) x+1)=(outR .(g) x).map V.int:=by
  unfold outR;rw[yal,ybV,ycm];rfl
 rw[er]at h7;have hal:=S.stand.at_.length;refine ⟨st,t,rs,as.map V.ref,kn,.ref v7,rfl,s27 _ _ S2.stand.st,s27 _ _ S2.stand.rs,by rw[yab,hal,S.stand.len];exact hk,by rw[yab,hal,S.stand.len];lia,λst' rs' H8 s8 h8 r8=>?_⟩;have s28:Same H2 H8:=s27.trans s8;have hkr:kn<rows.length:=by rw[S.stand.len];exact hk
 have R':zaL (rows.set kn (outR .(g) x)):=zk8 S.stand.R ((S.stand.R.at_up kn).sublist (zii _ _)) λy hy=>S.stand.R.at_key kn y ((zii _ _).mem hy);have hks:=zfA (r:=outR .(g) x) hkr;have hol:=(zii .(g) x).length_le;have hkk:=S.stand.keys;refine ⟨_,rfl,sh,CS,dx,_,rfl,s28 _ _ S2.ins,O.cl,O.n_kept,(by show 2<1000;decide),?_⟩;obtain ⟨S9,T9,kd9,al,nq9⟩:=zjB (r:=outR .(g) x) S S2 hT2 (λb o n e=>g2 b o n (s1 _ _ e)) s28 (s8 _ _ h7) h8 r8 R' .(a);generalize upd H8 sh (.ins CS dx (putF "kept" (.ref st') [("kept",.ref st),("fulls",.ref p)]))=H9 at S9 T9 kd9 al nq9 ⊢;refine ⟨_,rfl,sh,dx,_,rfl,S9.ins,rfl,_,rfl,_,rfl,_,rfl,(by show 2<=sizeLine;decide),λu hu=>?_⟩;have s10:=zak hu (.tup [.int x,.int kn]);have u10:upd H9 u (.tup [.int x,.int kn]) u=some (.tup [.int x,.int kn]):=zab;generalize upd H9 u (.tup [.int x,.int kn])=H10 at s10 u10 ⊢;refine ⟨(by show 1<=sizeLine;decide),λg hg=>?_⟩;have s11:=zak hg (.lst [.ref u]);have g11:upd H10 g (.lst [.ref u]) g=some (.lst [.ref u]):=zab;generalize upd H10 g (.lst [.ref u])=H11 at s11 g11 ⊢;refine ⟨(by show 0<=sizeLine;decide),λc hc=>?_⟩;have s12:=zak hc (.lst []);have c12:upd H11 c (.lst []) c=some (.lst []):=zab;generalize upd H11 c (.lst [])=H12 at s12 c12 ⊢;have s92:Same H9 H12:=s10.trans (s11.trans s12);have S12:zcU K CS H12 sh dx st' p qs ps rows (rows.set kn (outR .(g) x)) t rs' (as.set kn v7) kn 0:=⟨s92 _ _ S9.own,s92 _ _ S9.ins,S9.stand.same s92,S9.full.ext s92.ext⟩;have L:=zjw S.stand.T S.stand.R R' hk (ziD (rows:=rows) (r:=outR .(g) x));refine ⟨sh,dx,st',p,g,c,[.ref u],[],kn,qs,ps,rows,rows.set kn (outR .(g) x),t,rs',as.set kn v7,(λb=>H b=none),rfl,S12,hk,ziD,S.stand.R,S.stand.len,S.stand.keys,s12 _ _ g11,?_,c12,?_,al (s10.free hg),al (s10.free (s11.free hc)),(nq9 (s10.free hg)),(nq9 (s10.free (s11.free hc))),(λz=>by have z:H p=none:=z;rw[S.full.at_]at z;cases z),(λb z=>al (s92.free z)),λD us m qs' H' st hD hq bb sh' hDl told=>?_⟩
 .rw[<-L.gone,zpz hkr (S.stand.R.at_up kn) (zja S.stand.R kn) hin];exact .cons ⟨u,.int x,.int kn,rfl,s12 _ _ (s11 _ _ u10),rfl,rfl⟩ .nil
 .rw[<-L.come,zpA hkr];exact .nil
 .refine q D us m qs' st' rs' (as.set kn v7) H' st (al (s92.free hD)) (λy hy=>(hq y hy).imp id λz=>al (s92.free z)) (λb o n1 n2 n3 e=>bb b o n2 (s92 _ _ (kd9 b o n1 n3 e))) sh' ?_ hDl told;have:=S12.full.at_;exact zjT (T9.ext s92.ext) bb (λtab z=>by rw[this]at z;cases z) (λf z=>by rw[this]at z;cases z)
section
variable {ps:List Nat}{rows:List .(k)}{k:Nat}
theorem zfB (T:zaA ps)(hk:k<ps.length+1):zaA (ps++[k]):=λi h=>by
 rw[yah,yay]at h;rw[List.getElem_append];split
 .exact T i _
 .rw[List.getElem_singleton];lia
theorem zqc {j:Nat}(hj:j<ps.length+1):par (ps++[k]) j=par ps j:=by
 cases j with
 | zero=>rfl
 | succ j=>
  show (ps++[k])[j]?=ps[j]?;rw[yba .(a)]
theorem zqb {j:Nat}(hl:rows.length=ps.length+1)(hj:j<ps.length+1):zar (rows++[[]]) j=zar rows j:=by
 unfold zar;rw[yad,yad,yba .(a)]
theorem zoo:zar (rows++[[]]) rows.length=[]:=by
 unfold zar;rw[yad,ya4 (yaa _),ybI];rfl
theorem zor:zbm []=[]:=List.eq_nil_of_sublist_nil (zaP [])
theorem zpj:zd1 ([]:List (Int×Int))=[]:=List.Perm.eq_nil (zb2 _)
theorem zlx (T:zaA ps)(hk:k<ps.length+1)(hl:rows.length=ps.length+1):zaf (ps++[k]) (rows++[[]]) (ps.length+1)=[]:=by
 have e:(ps++[k]).length=ps.length+1:=by rw[yah,yay]
 rw[zbJ (zfB T hk) (by rw[e];lia)];have c0:zaK (ps++[k]) (ps.length+1) ((ps++[k]).length+1)=[]:=List.eq_nil_iff_forall_not_mem.mpr λc hc=>by
  have h:=zaE.mp hc;have:=zaM (zfB T hk) h.2;rw[e]at h;lia
 unfold zdk ownE;rw[c0,<-hl,zoo];exact zpj
theorem zop (T:zaA ps)(hk:k<ps.length+1)(hl:rows.length=ps.length+1):∀(m j:Nat),ps.length+1-j<=m->j<ps.length+1->zaf (ps++[k]) (rows++[[]]) j=zaf ps rows j:=λm=>by
 have e:(ps++[k]).length=ps.length+1:=by rw[yah,yay]
 have T':=zfB T hk
 induction m with
 | zero=>exact λj h1 h2=>by lia
 | succ m ih=>
  intro j h1 h2;rw[zbJ T' (by rw[e];lia),zbJ T h2];congr 1;unfold zdk;rw[ybw,ybw,ych,ych,e,zcS];have ec:zaK (ps++[k]) j (ps.length+1)=zaK ps j (ps.length+1):=ybN λc hc=>by rw[zqc (yaT.mp hc)]
  have eo:ownE (rows++[[]]) j=ownE rows j:=by unfold ownE;rw[zqb hl h2]
  rw[ec,eo,yal,ybw];have e1:((zaK ps j (ps.length+1)).map λc=>zbm (zaf (ps++[k]) (rows++[[]]) c))=(zaK ps j (ps.length+1)).map λc=>zbm .(l):=ybY λc hc=>by
   have h:=zaE.mp hc;have:=zaM T h.2;rw[ih c .(a) h.1]
  have e2:((if par (ps++[k]) (ps.length+1)=some j then [ps.length+1] else []).map λc=>zbm (zaf (ps++[k]) (rows++[[]]) c)).flatten=[]:=by
   split
   .rw[List.map_singleton,zlx T hk hl,zor];rfl
   .rfl
  rw[e1,e2,yaC]
theorem zsn:zbZ (ps++[k])=zbZ ps++[.int (k:Int)]:=by
 unfold zbZ;simp
theorem zon (R:zaL rows):zaL (rows++[[]]):=⟨λr hr=>(yaw.mp hr).elim (R.up r) λh=>by rw[yaq.mp h];exact .nil,λr hr=>(yaw.mp hr).elim (R.key r) λh=>by rw[yaq.mp h];exact λy hy=>nomatch hy⟩
theorem zjs:zbz (rows++[[]])=zbz rows:=by
 unfold zbz;rw[yal,List.sum_append];rfl
end
theorem FA.snoc {K:Frag}{p:Addr}{n:Nat}{f:Nat->List En}{E:Addr}{ws:List V}(h:FA K H p qs n f)(hE:H E=none)(hw:zam K H (f n) ws):FA K (upd (upd H E (.lst ws)) p (.lst (qs.map V.ref++[.ref E]))) p (qs++[E]) (n+1) f:=by
 have s1:=zak hE (.lst ws);have e1:upd H E (.lst ws) E=some (.lst ws):=zab;have nEp:E≠p:=λz=>by rw[z,h.at_]at hE;cases hE
 have p1:=s1 _ _ h.at_;have nq:E∉qs:=λz=>by
  obtain ⟨i,hi,ei⟩:=yaP z;obtain ⟨ws,w1,_⟩:=h.get i E (by rw[yac hi,ei]);rw[hE]at w1;cases w1
 have hl:=h.len;refine ⟨by rw[zab,yal];rfl,by rw[yah,yay,hl],?_,?_,λj q hj=>?_⟩
 .rw[ya2];exact ⟨h.nd,yaK.mpr ⟨nofun,ybj⟩,λa ha b hb e=>nq ((e.trans (yaq.mp hb)) ▸ ha)⟩
 .intro z;rcases yaw.mp z with y|y
  .exact h.np y
  .exact nEp (yaq.mp y).symm
 .rcases ybZ j qs.length with c|c
  .rw[yba c]at hj;obtain ⟨us,g1,g2⟩:=h.get j q hj;have hne:q≠p:=λz=>h.np (z ▸ yaN hj);exact ⟨us,by rw[zag hne];exact s1 _ _ g1,zbu p1 (g2.mono s1.ext)⟩
  .rw[ya4 c]at hj;have hj0:j-qs.length=0:=by
    have:=(yaj.mp hj).1;rw[yay]at this;lia
   rw[hj0]at hj;cases hj
   have:j=n:=by lia
   subst this;exact ⟨ws,by rw[zag nEp];exact e1,zbu p1 (hw.mono s1.ext)⟩
structure zt9 (K:Frag)(CS:Addr)(H H':Hp)(sh dx p:Addr)(qs:List Addr)(E st' t' rs':Addr)(as':List Addr)(ps:List Nat)(rows:List .(k))(kn:Nat):Prop where
 new:H E=none
 kd:∀ b o,b≠sh->b≠p->H b=some o->H' b=some o
 shelf:zaW K CS H' sh dx st' p (qs++[E]) (ps++[kn]) (rows++[[]]) t' rs' as'
def zqN (K:Frag)(CS:Addr):Sp:=λvs H Q _=>∃(sh dx st p:Addr) (kn:Nat) (qs:List Addr) (ps:List Nat) (rows:List (List Int)) (t rs:Addr) (as:List Addr),vs=[.ref sh,.int kn]/\zaW K CS H sh dx st p qs ps rows t rs as/\kn<ps.length+1/\ps.length+1<40/\
 ∀(E st' t' rs':Addr) (as':List Addr) (H':Hp),zt9 K CS H H' sh dx p qs E st' t' rs' as' ps rows kn->Q (.int ((ps.length+1:Nat):Int)) H'
theorem zr2 (T:Txt K mg)(O:OwnC K mg CS)(qbi:DM K CS "hang" "Shelf.hang" zc3 zcy)(qaS:FC P w K mg base 3 "need_knot" zb4 (zhT K)):FM P w K mg base CS 4 "hang" zcy (zqN K CS):=by
 refine qbi.ok qbB .(c) .(b)
 .obtain ⟨sh,dx,st,p,kn,qs,ps,rows,t,rs,as,rfl,_⟩:=h;rfl
 obtain ⟨sh,dx,st,p,kn,qs,ps,rows,t,rs,as,rfl,S,hk,h40,q⟩:=h;refine ⟨_,(zaj (zaq (i:=2) qbB.nd rfl (Or.inl rfl) (zaB (zay (K:=K)) (zbK (pv 0) rfl) zai (λ_ _=>rfl)))
   (zaj (zbi (zax qaS hr (zaa (pv 2) (zaa (pv 1) zad))))
   (zaN (za3 (zau znv (zan (zal (K:=K)) rfl T.qaq boot_len (zaa (pv 2) zad)) (zc9 rfl T.qbZ) (zaH _)) (zae za9) zaD)
   (zaj (zgK (pv 0) (zaX (zaa (zaG zgT (pv 2) (zaX (zaa (pv 1) zad))) (zaa (zaG zgT (zaB (zay (K:=K)) (zbK (pv 0) rfl) zai (λ_ _=>rfl)) (zaX (zaa (zaX zad) zad))) zad))) rfl)
   (zaj (zbi (zeW F.plainAttrs_list F.slot_list_append F.type_list_append za4 (zbK (pv 0) rfl) (zaa (zbj zad) zad)))
   (zae (zaw (zan (zal (K:=K)) rfl T.qaq boot_len (zaa (pv 2) zad))))))))),?_⟩
 have el:=zav ps;refine ⟨_,rfl,sh,CS,dx,_,_,rfl,S.ins,O.cl,O.n_kept,rfl,_,_,_,_,rfl,rfl,SqT.of S.stand.st,rfl,?_⟩;refine ⟨_,rfl,_,rfl,t,kn,ps,rfl,S.stand.tr,by lia,hk,?_⟩;refine ⟨λU' H'=>U'=[some (.ref sh),some (.int kn),some (.ref t)]/\H=H',?_,?_⟩
 .refine ⟨_,rfl,_,_,rfl,.inr (SqT.of S.stand.tr),_,_,rfl,rfl,_,rfl,?_⟩;refine zof (show ¬ (40:Int)<=(((zbZ ps).length:Nat):Int) by rw[el];lia) ⟨rfl,rfl⟩
 rintro _ _ ⟨rfl,rfl⟩;refine ⟨_,rfl,_,rfl,(by show 1<=sizeLine;decide),λu hu=>?_⟩;have s1:=zak hu (.tup [.int kn]);have h1:upd H u (.tup [.int kn]) u=some (.tup [.int kn]):=zab;generalize upd H u (.tup [.int kn])=H1 at s1 h1 ⊢;refine ziA (s1 _ _ S.stand.tr) h1 nofun (yaU (zao (by rw[el];show _+1<=1000;lia))) λt' H2 s2 h2=>?_;rw[<-zsn]at h2;have s02:=s1.trans s2;refine ⟨_,rfl,sh,CS,dx,_,_,rfl,s02 _ _ S.ins,O.cl,O.n_kept,rfl,_,_,_,_,rfl,rfl,SqT.of (s02 _ _ S.stand.st),rfl,?_⟩;refine ⟨(by show 0<=sizeLine;decide),λe he=>?_⟩;have s3:=zak he (.tup []);have h3:upd H2 e (.tup []) e=some (.tup []):=zab;generalize upd H2 e (.tup [])=H3 at s3 h3 ⊢;refine ⟨(by show 1<=sizeLine;decide),λu2 hu2=>?_⟩;have s4:=zak hu2 (.tup [.ref e]);have h4:upd H3 u2 (.tup [.ref e]) u2=some (.tup [.ref e]):=zab;generalize upd H3 u2 (.tup [.ref e])=H4 at s4 h4 ⊢;have s04:=s02.trans (s3.trans s4);have hal:=S.stand.at_.length;have hlen:=S.stand.len;refine ziA (s04 _ _ S.stand.rs) h4 nofun (yaU (zao (by rw[yab,hal];show _+1<=1000;lia))) λrs' H5 s5 h5=>?_;rw[show as.map V.ref++[V.ref e]=(as++[e]).map V.ref by rw[yal];rfl]at h5;refine ⟨(by show 2<=sizeLine;decide),λst' hst'=>?_⟩;have s6:=zak hst' (.tup [.ref t',.ref rs']);have h6:upd H5 st' (.tup [.ref t',.ref rs']) st'=some (.tup [.ref t',.ref rs']):=zab;generalize upd H5 st' (.tup [.ref t',.ref rs'])=H6 at s6 h6 ⊢;have s06:=s04.trans (s5.trans s6);refine ⟨_,rfl,sh,CS,dx,_,rfl,s06 _ _ S.ins,O.cl,O.n_kept,(by show 2<1000;decide),?_⟩;have eF:(ps++[kn]).length=ps.length+1:=by rw[yah,yay]
 have SN:za1 H6 st' (ps++[kn]) (rows++[[]]) t' rs' (as++[e]):=⟨h6,s6 _ _ (s5 _ _ (s4 _ _ (s3 _ _ h2))),s6 _ _ h5,zaR.snoc (S.stand.at_.ext s06) (s6 _ _ (s5 _ _ (s4 _ _ h3))),by rw[yah,yay,eF,hlen],zfB S.stand.T hk,zon S.stand.R,by rw[eF];lia,by rw[zjs];exact S.stand.keys⟩;have k7:But sh H6 (upd H6 sh (.ins CS dx (putF "kept" (.ref st') [("kept",.ref st),("fulls",.ref p)]))):=λb o n e=>by rw[zag n];exact e
 have i7:upd H6 sh (.ins CS dx (putF "kept" (.ref st') [("kept",.ref st),("fulls",.ref p)])) sh=some (.ins CS dx [("kept",.ref st'),("fulls",.ref p)]):=by rw[zab];rfl
 generalize upd H6 sh (.ins CS dx (putF "kept" (.ref st') [("kept",.ref st),("fulls",.ref p)]))=H7 at k7 i7 ⊢;have ins6:=s06 _ _ S.ins;have tp7:Tp H6 H7:=k7.tp λus z=>by rw[ins6]at z;cases z
 have nsp:p≠sh:=λz=>by have:=S.full.at_;rw[z,S.ins]at this;cases this
 have p7:=k7 _ _ nsp (s06 _ _ S.full.at_);have ndx:dx≠sh:=λz=>by have:=S.own;rw[z,S.ins]at this;cases this
 have o7:=k7 _ _ ndx (s06 _ _ S.own);have F7:FA K H7 p qs (ps.length+1) (zaf ps rows):=(S.full.ext s06.ext).tp tp7 λb us e=>k7 b _ (λz=>by rw[z,ins6]at e;cases e) e
 refine ⟨_,rfl,sh,CS,dx,_,_,rfl,i7,O.cl,O.n_fulls,rfl,.inl ⟨rfl,_,SqL.of p7⟩,(by show 0<=sizeLine;decide),λE1 hE1=>?_⟩;have nE:E1≠p:=λz=>by rw[z,p7]at hE1;cases hE1
 have fE:H E1=none:=by
  cases e:H E1 with
  | none=>rfl
  | some o=>
   by_cases z:E1=sh
   .rw[z,i7]at hE1;cases hE1
   .rw[k7 _ _ z (s06 _ _ e)]at hE1;cases hE1
 have s8:=zak hE1 (.lst []);have hql:=F7.len;refine ⟨_,_,_,rfl,rfl,s8 _ _ p7,zao (by rw[yab];lia),?_⟩;have F9:=F7.congr (g:=zaf (ps++[kn]) (rows++[[]])) λj hj=>(zop S.stand.T hk hlen _ j (yaa _) hj).symm;have F10:=F9.snoc hE1 (ws:=[]) (by rw[zlx S.stand.T hk hlen];exact .nil);have k10:But p H7 (upd (upd H7 E1 (.lst [])) p (.lst (qs.map V.ref++[.ref E1]))):=λb o n e=>by rw[zag n];exact s8 _ _ e
 generalize upd (upd H7 E1 (.lst [])) p (.lst (qs.map V.ref++[.ref E1]))=H10 at F10 k10 ⊢;have tp10:Tp H7 H10:=k10.tp λus z=>by rw[p7]at z;cases z
 refine ⟨_,rfl,_,_,rfl,.inr (SqT.of (tp10 _ _ (tp7 _ _ (s06 _ _ S.stand.tr)))),?_⟩;rw[el];refine q E1 st' t' rs' (as++[e]) H10 ⟨fE,λb o n1 n2 e=>k10 b o n2 (k7 b o n1 (s06 _ _ e)),k10 _ _ (λz=>by rw[z,p7]at o7;cases o7) o7,k10 _ _ nsp.symm i7,zbB tp10 (zbB tp7 SN),?_⟩
 rw[eF];exact F10
def dl (Av:List Addr)(H:Hp):Hp:=λb=>if b∈Av then none else H b
section
variable {Av:List Addr}{H H':Hp}
theorem zuB {b:Addr}(h:b∉Av):dl Av H b=H b:=if_neg h
theorem zoB:Same (dl Av H) H:=λb o e=>by
 unfold dl at e;split at e
 .cases e
 .exact e
theorem zt1 (k:KpV Av H H'):Same (dl Av H) (dl Av H'):=λb o e=>by
 unfold dl at e ⊢;split at e
 .cases e
 .rename_i n;rw[if_neg n];exact k b o n e
theorem zsv {b:Addr}{o:HO}(e:H b=some o)(h:b∉Av):dl Av H b=some o:=by rw[zuB h];exact e
theorem KpV.of (s:Same H H'):KpV Av H H':=λc o _ e=>s c o e
end
def optL (ps:List Nat):List (Option Int):=none::ps.map λ(p:Nat)=>some (Int.ofNat p)
theorem zkM {K:Frag}(ps:List Nat):zam K H (optL ps) (zbZ ps):=by
 refine .cons rfl ?_
 induction ps with
 | nil=>exact .nil
 | cons p ps ih=>exact .cons rfl ih
theorem zh3 {K:Frag}:∀{as:List Addr} {rows:List (List Int)},zaR H as rows->zam K H (rows.map Tup.mk) (as.map V.ref)
 | _,_,.nil=>.nil
 | _,_,.cons h t=>.cons ⟨_,_,rfl,SqT.of h,zam.ints⟩ (zh3 t)
abbrev StD:Type:=Tup (Option Int)×Tup (Tup Int)
def ziV (ps:List Nat)(rows:List .(k)):StD:=(⟨optL ps⟩,⟨rows.map Tup.mk⟩)
theorem zgE {K:Frag}{st t:Addr}(S:za1 H st ps rows t rs as):Rep.has K H (ziV ps rows) (.ref st):=
 ⟨st,_,_,rfl,S.st,⟨_,_,rfl,SqT.of S.tr,zkM ps⟩,⟨_,_,rfl,SqT.of S.rs,zh3 S.at_⟩⟩
abbrev zp2:Str:=(envOfC ("_law_looked" : Str) (zah zci) 0 0 .none).qual ++ "<lambda>"
abbrev zn4:Pos:=⟨384,63,384,147⟩
abbrev zn3:Pos:=⟨387,55,387,139⟩
structure Tab4 (m0 mF mS mL:Addr)(H:Hp):Prop where
 p:zaF H m0 zeM lamQ
 f:zaF H mF zea zjm
 s:zaF H mS zn2 ztF
 a:zaF H mL zn4 zp2
 b:zaF H mL zn3 zp2
 n:[m0,mF,mS,mL].Nodup
def K4 (m0 mF mS mL:Addr)(H H':Hp):Prop:=∀ b o,b∉[m0,mF,mS,mL]->H b=some o->H' b=some o
section
variable {m0 mF mS mL:Addr}{H H1 H':Hp}
theorem K4.of (a:Same H H'):K4 m0 mF mS mL H H':=λc o _ h=>a c o h
theorem zmI (x:zaF H m pos q)(k:Kp0 H H')(e:∀ o,H m=some o->H' m=some o):zaF H' m pos q:=by
 obtain ⟨tab,h1,h2,h3⟩:=x.ex;refine ⟨tab,e _ h1,h2,?_⟩;rcases h3 with h3|⟨c,h3,h4⟩
 .exact .inl h3
 .exact .inr ⟨c,h3,k _ _ nofun h4⟩
theorem Tab4.nt (x:Tab4 m0 mF mS mL H){b:Addr}{o:HO}(h:H b=some o)(n:∀ tab,o≠.tbl tab):b∉[m0,mF,mS,mL]:=λz=>by
 simp only[yag,yaz,or_false]at z;have:∃ tab,H b=some (.tbl tab):=by
  rcases z with rfl|rfl|rfl|rfl
  .exact zbc x.p
  .exact zbc x.f
  .exact zbc x.s
  .exact zbc x.a
 obtain ⟨tab,e⟩:=this;rw[h]at e;exact n _ (yae e)
theorem Tab4.k0 (x:Tab4 m0 mF mS mL H)(k:K4 m0 mF mS mL H H'):Kp0 H H':=λb o n e=>k b o (x.nt e n) e
theorem Tab4.same (x:Tab4 m0 mF mS mL H)(e:Same H H'):Tab4 m0 mF mS mL H':=⟨x.p.ext e.ext,x.f.ext e.ext,x.s.ext e.ext,x.a.ext e.ext,x.b.ext e.ext,x.n⟩
theorem Tab4.ts (x:Tab4 m0 mF mS mL H):TabS mF mS H:=⟨x.f,x.s,λz=>by
 have:=x.n;simp[z]at this⟩
theorem Tab4.gS (x:Tab4 m0 mF mS mL H)(k:Kp2 mF mS H H')(t:TabS mF mS H'):Tab4 m0 mF mS mL H'/\K4 m0 mF mS mL H H':=by
 have n:=x.n;simp only[yaK,yag,yaz,or_false,not_or]at n;have k0:=k.kp0 x.ts;exact ⟨⟨zmI x.p k0 λo e=>k _ _ n.1.1 n.1.2.1 e,t.f,t.s,zmI x.a k0 λo e=>k _ _ (Ne.symm n.2.1.2) (Ne.symm n.2.2.1) e,zmI x.b k0 λo e=>k _ _ (Ne.symm n.2.1.2) (Ne.symm n.2.2.1) e,x.n⟩,λb o nb e=>k b o (λz=>nb (by simp[z])) (λz=>nb (by simp[z])) e⟩
theorem Tab4.gF (x:Tab4 m0 mF mS mL H)(g:Gro mF H H')(t:zaF H' mF zea zjm):Tab4 m0 mF mS mL H'/\K4 m0 mF mS mL H H':=by
 have n:=x.n;simp only[yaK,yag,yaz,or_false,not_or]at n;exact ⟨⟨x.p.gro g n.1.1 (zbc x.f),t,x.s.gro g (Ne.symm n.2.1.1) (zbc x.f),x.a.gro g (Ne.symm n.2.1.2) (zbc x.f),x.b.gro g (Ne.symm n.2.1.2) (zbc x.f),x.n⟩,λb o nb e=>g b o (λz=>nb (by simp[z])) e⟩
theorem Tab4.gL (x:Tab4 m0 mF mS mL H)(g:Gro mL H H')(a:zaF H' mL zn4 zp2)(b:zaF H' mL zn3 zp2):Tab4 m0 mF mS mL H'/\K4 m0 mF mS mL H H':=by
 have n:=x.n;simp only[yaK,yag,yaz,or_false,not_or]at n;exact ⟨⟨x.p.gro g n.1.2.2 (zbc x.a),x.f.gro g n.2.1.2 (zbc x.a),x.s.gro g n.2.2.1 (zbc x.a),a,b,x.n⟩,λb o nb e=>g b o (λz=>nb (by simp[z])) e⟩
end
section
variable {H H':Hp}
theorem ztG (k:Kp0 H H'):Kp0 (dl Av H) (dl Av H'):=λb o n e=>by
 unfold dl at e ⊢;split at e
 .cases e
 .rename_i z;rw[if_neg z];exact k b o n e
end
theorem Tab4.ext (x:Tab4 m0 mF mS mL H)(e:Ext H H'):Tab4 m0 mF mS mL H':=⟨x.p.ext e,x.f.ext e,x.s.ext e,x.a.ext e,x.b.ext e,x.n⟩
def zk0 (K:Frag):Sp:=λvs H Q _=>∃(d L:Addr) (m kk:Nat),vs=[.ref d,.int m,.int kk]/\0<m/\m<=40/\kk<=10/\m*kk<=63/\LS K L d H/\
 ∀(st:Addr) (ps:List Nat) (rows:List (List Int)) (t rs:Addr) (as:List Addr) (H':Hp),H st=none->za1 H' st ps rows t rs as->ps.length<m->zbz rows<=m*kk->Keep d H H'->LS K L d H'->Q (.ref st) H'
theorem znD (T:Txt K mg)(qcx:DF K mg "_law_stand" zfe zew)(qe9:FC P w K mg base 3 "_law_tree" zfp (zqG K))(qfa:FC P w K mg base 5 "_law_rows" zfq (zqH K)):FC P w K mg base 6 "_law_stand" zew (zk0 K):=by
 refine qcx.ok qcQ .(c) .(b)
 .obtain ⟨d,L,m,kk,rfl,_⟩:=h;rfl
 obtain ⟨d,L,m,kk,rfl,hm0,hm,hkk,hmk,hs,q⟩:=h;refine ⟨_,(zaj (zaq (i:=3) qcQ.nd rfl (Or.inl rfl) (zax qe9 hr (zaa (pv 0) (zaa (pv 1) zad))))
   (zae (zaw (zaX (zaa (pv 3) (zaa (zax qfa hr (zaa (pv 0) (zaa (zan (zal (K:=K)) rfl T.qaq boot_len (zaa (pv 3) zad)) (zaa (pv 2) zad)))) zad)))))),?_⟩
 refine ⟨_,rfl,_,rfl,d,L,m,rfl,⟨by lia,by lia⟩,hs,λt ps H1 ht hT hl h1 k1 s1=>?_⟩;refine ⟨_,rfl,_,rfl,_,rfl,_,_,rfl,.inr (SqT.of h1),_,rfl,?_⟩;refine ⟨d,L,(zbZ ps).length,kk,rfl,by rw[zav];lia,by lia,s1,λr as rows H2 hr2 hA hrl hR hlen h2 k2 s2=>?_⟩;rw[zav]at hrl;have ntd:t≠d:=λz=>by
  obtain ⟨_,_,_,e,_⟩:=s1.ex;rw[<-z,h1]at e;cases e
 refine ⟨(by show 2<=sizeLine;decide),λst hst=>?_⟩;have ss:=zak hst (.tup [.ref t,.ref r]);have hk:=zoa hlen;have hk2:rows.length*kk<=m*kk:=Nat.mul_le_mul_right kk .(a);have std:st≠d:=λz=>by
  obtain ⟨_,_,_,e,_⟩:=s2.ex;rw[<-z,hst]at e;cases e
 refine q st ps rows t r as _ ?_ ⟨zab,ss _ _ (k2 _ _ ntd h1),ss _ _ h2,hA.ext ss,hrl,hT,hR,by lia,by lia⟩ .(a) .(a) (λb o n e=>ss _ _ (k2 _ _ n (k1 _ _ n e))) (s2.same ss);cases e:H st with
 | none=>rfl
 | some o=>
  have:=k2 _ _ std (k1 _ _ std e);rw[hst]at this;cases this
def zqI (K:Frag)(CS C:Addr):Sp:=λvs H _ E=>∃(sh dx st p:Addr) (kn:Nat) (x:Int) (qs:List Addr) (ps:List Nat) (rows:List (List Int)) (t rs:Addr) (as:List Addr),vs=[.ref sh,.int kn,.int x]/\zaW K CS H sh dx st p qs ps rows t rs as/\kn<ps.length+1/\zkG x/\x∈zar rows kn/\E (.ref C) none H
theorem zjr (row:List Int):(row.map V.int).all zfP=true:=yaW.mpr λy hy=>by
 obtain ⟨z,_,rfl⟩:=yaE.mp hy;rfl
theorem zrU (T:Txt K mg){qab qan qar qag qad qaa qac qao qas qat:Addr}(CL:Cls K mg qab qan qar qag qad qaa qac qao qas qat)(O:OwnC K mg CS)(qaH:DM K CS "put" "Shelf.put" zcF zb6)(qam:FM P w K mg base CS 4 "row_for" zaV (ze9 K CS))(qav:FC P w K mg base 1 "long_together" za7 (zkX K))(qbv:FC P w K mg base 5 "place" zdG (zgF K mp))(qaI:FC P w K mg base 1 "with_row" zb0 (ziX K))(qai:FM P w K mg base CS 7 "carry_up" zaS (zgG K CS)):FMX P w K mg base CS 8 "put" zb6 (zqI K CS qad):=by
 refine qaH.okx qaD .(c) .(b)
 .obtain ⟨sh,dx,st,p,kn,x,qs,ps,rows,t,rs,as,rfl,_⟩:=h;rfl
 obtain ⟨sh,dx,st,p,kn,x,qs,ps,rows,t,rs,as,rfl,S,hk,hx,hin,e⟩:=h;refine ⟨_,(zaj (zaq (i:=3) qaD.nd rfl (Or.inl rfl) (zgP qam O.cl hr (pv 0) (zaa (pv 1) (zaa (pv 2) zad))))
   (zaN (za3 (zau (zfL (K:=K)) (pv 2) (pv 3) (by with_unfolding_all rfl)) (zae (zh9 CL.qfk thrX rfl rfl (zaa zc8 zad))) zaD)
   (zaN (za3 (zau znv (zax qav hr (zaa (zaB (zay (K:=K)) (zbK (pv 0) rfl) zai (λ_ _=>rfl)) zad)) (zc9 rfl T.qbn) (zaH _)) (zae (zh9 CL.qe4 thrX rfl rfl (zaa zc8 zad))) zaD)
   (zaj (zaq (i:=4) qaD.nd rfl (Or.inl rfl) (zax qbv hr (zaa (pv 3) (zaa (pv 2) zad))))
   (zaj (zgK (pv 0) (zax qaI hr (zaa (zbK (pv 0) rfl) (zaa (pv 1) (zaa (zaG zgU (zaG zgT (zbH (zcj (K:=K)) (pv 3) zcK (zbL (pv 4))) (zaX (zaa (pv 2) zad))) (zbH (zcj (K:=K)) (pv 3) (zbL (pv 4)) zcK)) zad)))) rfl)
   (zae (zaw (zgP qai O.cl hr (pv 0) (zaa (pv 1) (zaa (zbj zad) (zaa (zbj (zaa (zaX (zaa (pv 2) (zaa (pv 1) zad))) zad)) zad))))))))))),?_⟩
 refine ⟨_,rfl,sh,dx,_,rfl,S.ins,rfl,_,rfl,_,rfl,sh,dx,st,p,kn,x,qs,ps,rows,t,rs,as,rfl,S,hk,hx,λa ha hrow=>?_⟩;refine ⟨λU' H'=>False,?_,λ_ _ z=>z.elim⟩;refine ⟨_,rfl,_,rfl,a,_,rfl,.inr (SqT.of hrow),rfl,zjr _,_,rfl,?_⟩;show if inV (.int x) (.(g).map V.int)=true then _ else _
 rw[ziu,yai hin];exact iteT ⟨(by show 1<=sizeLine;decide),e⟩
def zqK (K:Frag)(CS C:Addr):Sp:=λvs H _ E=>∃(sh dx st p:Addr) (kn:Nat) (x:Int) (qs:List Addr) (ps:List Nat) (rows:List (List Int)) (t rs:Addr) (as:List Addr),vs=[.ref sh,.int kn,.int x]/\zaW K CS H sh dx st p qs ps rows t rs as/\kn<ps.length+1/\zkG x/\x∉zar rows kn/\E (.ref C) none H
theorem zrW (T:Txt K mg){qab qan qar qag qad qaa qac qao qas qat:Addr}(CL:Cls K mg qab qan qar qag qad qaa qac qao qas qat)(O:OwnC K mg CS)(qaJ:DM K CS "out" "Shelf.out" zcG zb7)(qam:FM P w K mg base CS 4 "row_for" zaV (ze9 K CS))(qbv:FC P w K mg base 5 "place" zdG (zgF K mp))(qaI:FC P w K mg base 1 "with_row" zb0 (ziX K))(qai:FM P w K mg base CS 7 "carry_up" zaS (zgG K CS)):FMX P w K mg base CS 8 "out" zb7 (zqK K CS qaa):=by
 refine qaJ.okx qaE .(c) .(b)
 .obtain ⟨sh,dx,st,p,kn,x,qs,ps,rows,t,rs,as,rfl,_⟩:=h;rfl
 obtain ⟨sh,dx,st,p,kn,x,qs,ps,rows,t,rs,as,rfl,S,hk,hx,hni,e⟩:=h;refine ⟨_,(zaj (zaq (i:=3) qaE.nd rfl (Or.inl rfl) (zgP qam O.cl hr (pv 0) (zaa (pv 1) (zaa (pv 2) zad))))
   (zaN (za3 (zau (zcB (K:=K)) (pv 2) (pv 3) (by with_unfolding_all rfl)) (zae (zh9 CL.qeq thrX rfl rfl (zaa zc8 zad))) zaD)
   (zaj (zaq (i:=4) qaE.nd rfl (Or.inl rfl) (zax qbv hr (zaa (pv 3) (zaa (pv 2) zad))))
   (zaj (zgK (pv 0) (zax qaI hr (zaa (zbK (pv 0) rfl) (zaa (pv 1) (zaa (zaG znw (zbH (zcj (K:=K)) (pv 3) zcK (zbL (pv 4))) (zbH (zcj (K:=K)) (pv 3) (zbL (zaG zbn (pv 4) zai)) zcK)) zad)))) rfl)
   (zae (zaw (zgP qai O.cl hr (pv 0) (zaa (pv 1) (zaa (zbj (zaa (zaX (zaa (pv 2) (zaa (pv 1) zad))) zad)) (zaa (zbj zad) zad)))))))))),?_⟩
 refine ⟨_,rfl,sh,dx,_,rfl,S.ins,rfl,_,rfl,_,rfl,sh,dx,st,p,kn,x,qs,ps,rows,t,rs,as,rfl,S,hk,hx,λa ha hrow=>?_⟩;refine ⟨λU' H'=>False,?_,λ_ _ z=>z.elim⟩;refine ⟨_,rfl,_,rfl,a,_,rfl,.inr (SqT.of hrow),rfl,zjr _,_,rfl,?_⟩;show if (!inV (.int x) (.(g).map V.int))=true then _ else _
 rw[ziu,yan hni];exact iteT ⟨(by show 1<=sizeLine;decide),e⟩
structure SNow (K:Frag)(CS m0 mF mS mL a:Addr)(H:Hp)(d sh p:Addr)(qs:List Addr)(ps:List Nat)(rows:List .(k)):Prop where
 shelf:∃ dx st t rs as,zaW K CS H sh dx st p qs ps rows t rs as
 tab:Tab4 m0 mF mS mL H
 ls:LS K a d (dl [sh,p,m0,mF,mS,mL] H)
section
variable {K:Frag}{CS m0 mF mS mL a d sh p dx st t rs:Addr}{H H':Hp}{qs as:List Addr}{ps:List Nat}{rows:List .(k)}
theorem zaW.k0 (S:zaW K CS H sh dx st p qs ps rows t rs as)(k:Kp0 H H'):zaW K CS H' sh dx st p qs ps rows t rs as:=⟨k _ _ nofun S.own,k _ _ nofun S.ins,zf9 k S.stand,S.full.tp (λ_ _ e=>k.tup e) λ_ _ e=>k.lst e⟩
theorem zaW.ext (S:zaW K CS H sh dx st p qs ps rows t rs as)(e:Ext H H'):zaW K CS H' sh dx st p qs ps rows t rs as:=⟨e _ _ S.own nofun,e _ _ S.ins nofun,zbB (λb us h=>e _ _ h nofun) S.stand,S.full.ext e⟩
theorem SNow.lsH (h:SNow K CS m0 mF mS mL a H d sh p qs ps rows):LS K a d H:=h.ls.same zoB
theorem SNow.k4 (h:SNow K CS m0 mF mS mL a H d sh p qs ps rows)(k:K4 m0 mF mS mL H H')(T':Tab4 m0 mF mS mL H'):SNow K CS m0 mF mS mL a H' d sh p qs ps rows:=by
 obtain ⟨dx,st,t,rs,as,S⟩:=h.shelf;exact ⟨⟨dx,st,t,rs,as,S.k0 (h.tab.k0 k)⟩,T',zq5 h.ls (ztG (h.tab.k0 k))⟩
theorem SNow.same (h:SNow K CS m0 mF mS mL a H d sh p qs ps rows)(s:Same H H'):SNow K CS m0 mF mS mL a H' d sh p qs ps rows:=h.k4 (.of s) (h.tab.same s)
theorem zsb (s:LS K L d (dl Bv H))(k:Keep d H H')(s':LS K L d H'):LS K L d (dl Bv H'):=by
 obtain ⟨ns,a,l,e,q⟩:=s.ex;obtain ⟨ns',a',l',e',_⟩:=s'.ex;have nd:d∉Bv:=λz=>by
  unfold dl at e;rw[if_pos z]at e;cases e
 have k':Keep d (dl Bv H) (dl Bv H'):=λb o n h=>by
  unfold dl at h ⊢;split at h
  .cases h
  .rename_i nb;rw[if_neg nb];exact k b o n h
 exact ⟨ns,a',l',zsv e' nd,zga e k' q⟩
theorem SNow.take (h:SNow K CS m0 mF mS mL a H d sh p qs ps rows)(k:Keep d H H')(s:LS K a d H'):SNow K CS m0 mF mS mL a H' d sh p qs ps rows:=by
 obtain ⟨dx,st,t,rs,as,S⟩:=h.shelf;have e:=h.lsH.ext k;exact ⟨⟨dx,st,t,rs,as,S.ext e⟩,h.tab.ext e,zsb h.ls k s⟩
theorem SNow.tp (h:SNow K CS m0 mF mS mL a H d sh p qs ps rows)(k:Keep d H H'):Tp H H':=λb us e=>h.lsH.ext k b _ e nofun
theorem Tab4.deed (x:Tab4 m0 mF mS mL H)(k:∀ b o,b≠sh->b≠p->b≠m0->H b=some o->H' b=some o)(h1:∃ f,H sh=some (.ins CS dx f))(h2:∃ us,H p=some (.lst us))(t:zaF H' m0 zeM lamQ):Tab4 m0 mF mS mL H':=by
 have n:=x.n;simp only[yaK,yag,yaz,or_false,not_or]at n;obtain ⟨f1,h1⟩:=h1;obtain ⟨f2,h2⟩:=h2;have one:∀{m:Addr} {pos:Pos} {q:Str},m≠m0->zaF H m pos q->zaF H' m pos q:=λ{m pos q} nm x0=>by
  obtain ⟨tab,e1,e2,e3⟩:=x0.ex;refine ⟨tab,k _ _ (λz=>by rw[z,h1]at e1;cases e1) (λz=>by rw[z,h2]at e1;cases e1) nm e1,e2,?_⟩
  rcases e3 with e3|⟨c,e3,e4⟩
  .exact .inl e3
  .have e5:H c=_:=e4;obtain ⟨tb,eb⟩:=zbc x.p;exact .inr ⟨c,e3,k _ _ (λz=>by rw[z,h1]at e5;cases e5) (λz=>by rw[z,h2]at e5;cases e5) (λz=>by rw[z,eb]at e5;cases e5) e5⟩
 exact ⟨t,one (Ne.symm n.1.1) x.f,one (Ne.symm n.1.2.1) x.s,one (Ne.symm n.1.2.2) x.a,one (Ne.symm n.1.2.2) x.b,x.n⟩
theorem SNow.deed (h:SNow K CS m0 mF mS mL a H d sh p qs ps rows)(k:∀ b o,b≠sh->b≠p->b≠m0->H b=some o->H' b=some o)(S':zaW K CS H' sh dx' st' p qs' ps' rows' t' rs' as')(t:zaF H' m0 zeM lamQ):SNow K CS m0 mF mS mL a H' d sh p qs' ps' rows'/\Tp H H':=by
 obtain ⟨dx,st,t1,rs,as,S⟩:=h.shelf;have kv:KpV [sh,p,m0,mF,mS,mL] H H':=λb o n e=>k b o (λz=>n (by simp[z])) (λz=>n (by simp[z])) (λz=>n (by simp[z])) e;refine ⟨⟨⟨dx',st',t',rs',as',S'⟩,h.tab.deed (CS:=CS) (dx:=dx) k ⟨_,S.ins⟩ ⟨_,S.full.at_⟩ t,h.ls.same (zt1 kv)⟩,λb us e=>k b _ (λz=>?_) (λz=>?_) (λz=>?_) e⟩
 .rw[z,S.ins]at e;cases e
 .rw[z,S.full.at_]at e;cases e
 .obtain ⟨tb,eb⟩:=zbc h.tab.p;rw[z,eb]at e;cases e
theorem SNow.new (s0:LS K a d H0)(hT:Tab4 m0 mF mS mL H0)(s:Same H0 H)(hsh:H0 sh=none)(hp:H0 p=none)(S:zaW K CS H sh dx st p qs ps rows t rs as):SNow K CS m0 mF mS mL a H d sh p qs ps rows:=by
 refine ⟨⟨dx,st,t,rs,as,S⟩,hT.same s,zq5 s0 λb o n e=>zsv (s _ _ e) λz=>?_⟩;rcases yag.mp z with z|z
 .rw[z,hsh]at e;cases e
 rcases yag.mp z with z|z
 .rw[z,hp]at e;cases e
 exact hT.nt e n z
end
def zs3 (K:Frag)(CS mp C:Addr):Sp:=λvs H Q E=>zk2 K CS mp putR ztz vs H Q E\/zqI K CS C vs H Q E
def zs5 (K:Frag)(CS mp C:Addr):Sp:=λvs H Q E=>zk2 K CS mp outR ztA vs H Q E\/zqK K CS C vs H Q E
theorem zrP :(outR row x).length<=row.length:=by
 unfold outR;rw[yah,yao,yaR];lia
theorem zrs {H':Hp}{sh p CS dx:Addr}(x:zaF H m pos q)(k:∀ b o,b≠sh->b≠p->H b=some o->H' b=some o)(h1:∃ f,H sh=some (.ins CS dx f))(h2:∃ us,H p=some (.lst us)):zaF H' m pos q:=by
 obtain ⟨f1,h1⟩:=h1;obtain ⟨f2,h2⟩:=h2;obtain ⟨tab,e1,e2,e3⟩:=x.ex;refine ⟨tab,k _ _ (λz=>by rw[z,h1]at e1;cases e1) (λz=>by rw[z,h2]at e1;cases e1) e1,e2,?_⟩
 rcases e3 with e3|⟨c,e3,e4⟩
 .exact .inl e3
 .have e5:H c=_:=e4;exact .inr ⟨c,e3,k _ _ (λz=>by rw[z,h1]at e5;cases e5) (λz=>by rw[z,h2]at e5;cases e5) e5⟩
def zqQ (K:Frag)(CS m0 mF mS mL:Addr):Sp:=λvs H Q _=>∃(d a sh p:Addr) (qs:List Addr) (ps:List Nat) (rows:List (List Int)),vs=[.ref d,.ref sh]/\SNow K CS m0 mF mS mL a H d sh p qs ps rows/\zbz rows<=60/\ps.length<=30/\
 ∀(b:Bool) (qs':List Addr) (ps':List Nat) (rows':List (List Int)) (H':Hp),SNow K CS m0 mF mS mL a H' d sh p qs' ps' rows'->Tp H H'->zbz rows'<=zbz rows+1->ps'.length<=ps.length+1->(b=false->ps'=ps/\rows'=rows)->Q (.bl b) H'
theorem zr4 (T:Txt K mg){qab qan qar qag qad qaa qac qao qas qat:Addr}(CL:Cls K mg qab qan qar qag qad qaa qac qao qas qat)(O:OwnC K mg CS)(qde:DF K mg "_law_done" zgi zfr)(qae:FC P w K mg base 2 "_law_take" zbx (ze8 K))(qcr:FC P w K mg base 3 "_law_key" zey (zpi K))(qaw:FM P w K mg base CS 1 "stand" zbs (zhQ CS))(qdI:FMX P w K mg base CS 8 "put" zb6 (zs3 K CS m0 qad))(qdJ:FMX P w K mg base CS 8 "out" zb7 (zs5 K CS m0 qaa))(qdm:FMX P w K mg base CS 4 "hang" zcy (zqN K CS)):FC P w K mg base 9 "_law_done" zfr (zqQ K CS m0 mF mS mL):=by
 refine qde.ok qay .(c) .(b)
 .obtain ⟨d,a,sh,p,qs,ps,rows,rfl,_⟩:=h;rfl
 obtain ⟨d,a,sh,p,qs,ps,rows,rfl,N,hk,hl,q⟩:=h;refine ⟨_,(zaI (zi5 (zlf qaw O.cl hr (pv 1)) (zgN rfl (zaZ (zas (i:=2) qay.nd rfl (Or.inl rfl)) (zaZ (zas (i:=3) qay.nd rfl (Or.inl rfl)) zdK))))
   (zaI (zaq (i:=4) qay.nd rfl (Or.inl rfl) (zax qae hr (zaa (pv 0) (zaa (zan (zal (K:=K)) rfl T.qaq boot_len (zaa (pv 2) zad)) zad))))
   (zaI (zaq (i:=5) qay.nd rfl (Or.inl rfl) (zax qcr hr (zaa (pv 0) zad)))
   (zaI (zaq (i:=6) qay.nd rfl (Or.inl rfl) (zax qae hr (zaa (pv 0) (zaa zai zad))))
   (zbO (za3 (PW.pt (zgI (zau zj5 (pv 6) zai (zaH _)) (zeT (zau (zfU (Tup Int) (huD hr)) (zaB (zay (K:=K)) (pv 3) (pv 4) (λ_ _=>rfl)) (zaX zad) (zaH _))))) (zae (zaq (i:=5) qay.nd rfl (Or.inl rfl) (zaB (zay (K:=K)) (zaB (zay (K:=K)) (pv 3) (pv 4) (λ_ _=>rfl)) (zax qae hr (zaa (pv 0) (zaa (zan (zal (K:=K)) rfl T.qaq boot_len (zaa (zaB (zay (K:=K)) (pv 3) (pv 4) (λ_ _=>rfl)) zad)) zad))) (λ_ _=>rfl)))) zaD)
   (zaI (zaq (i:=7) qay.nd rfl (Or.inl rfl) zgO)
   (zbO (zrI (i:=8) (zqT (zau zfv (pv 6) zai (zaH _)) (zh8 (zjZ qdm O.cl hr (pv 1) (zaa (pv 4) zad))) (zqT (zau zj5 (pv 6) zai (zaH _)) (zh8 (zjZ qdJ O.cl hr (pv 1) (zaa (pv 4) (zaa (pv 5) zad)))) (zh8 (zjZ qdI O.cl hr (pv 1) (zaa (pv 4) (zaa (pv 5) zad)))))) rfl rfl qay.nd rfl rfl CL.qcZ rfl (λ_=>(zae (zaq (i:=7) qay.nd rfl (Or.inl rfl) (pv 8)))))
   (zae (zaw (zeV zqW (pv 7) zgO (zaH _))))))))))),?_⟩
 obtain ⟨dx,st,t,rs,as,S⟩:=N.shelf;have el:=zav ps;intro N1 n1;refine ⟨_,rfl,sh,dx,_,rfl,S.ins,rfl,sh,dx,st,p,rfl,S.ins,st,_,rfl,SqT.of S.stand.st,rfl,_,_,rfl,_,_,rfl,rfl,n1 _ _ ?_⟩;intro N2 n2;refine ⟨_,rfl,_,rfl,_,_,rfl,.inr (SqT.of S.stand.tr),d,a,_,rfl,by rw[el];lia,N.lsH,λv H1 v0 v1 k1 s1=>n2 _ _ ?_⟩;rw[el]at v1;obtain ⟨kn,rfl⟩:=zhx v0;have hkn:kn<ps.length+1:=by lia
 have T1:=N.tp k1;have N1':=N.take k1 s1;intro N3 n3;refine ⟨_,rfl,d,a,rfl,s1,λx H2 x0 x1 k2 s2=>n3 _ _ ?_⟩;have T2:=N1'.tp k2;have N2':=N1'.take k2 s2;intro N4 n4;refine ⟨_,rfl,d,a,8,rfl,by decide,s2,λwy H3 w0 w1 k3 s3=>n4 _ _ ?_⟩;have T3:Tp H H3:=λb us e=>N2'.tp k3 _ _ (T2 _ _ (T1 _ _ e));have N3':=N2'.take k3 s3;clear N1' N2' T1 T2 k1 k2 k3 s1 s2;refine ⟨λU' H'=>∃ x,U'=[some (.ref d),some (.ref sh),some (.ref t),some (.ref rs),some (.int kn),some (.int x),some (.int wy),none,none]/\zkG x/\SNow K CS m0 mF mS mL a H' d sh p qs ps rows/\Tp H H',?_,?_⟩
 .intro N5 n5;have R3:=zbB T3 S.stand;obtain ⟨b,hb1,hb2⟩:=R3.at_.get (k:=kn) (by rw[S.stand.len];exact hkn);refine ⟨_,rfl,_,_,rfl,rfl,_,rfl,?_⟩;have els:∀{H'} (_:Same H3 H'),∃ y,[some (V.ref d),some (.ref sh),some (.ref t),some (.ref rs),some (.int kn),some (.int x),some (.int wy),none,none]=[some (.ref d),some (.ref sh),some (.ref t),some (.ref rs),some (.int kn),some (.int y),some (.int wy),none,none]/\zkG y/\SNow K CS m0 mF mS mL a H' d sh p qs ps rows/\Tp H H':=λ{H'} s=>⟨x,rfl,⟨x0,x1⟩,N3'.same s,λb us e=>s _ _ (T3 _ _ e)⟩;refine ite2 (λ_=>?_) (λ_=>iteF (n5 _ _ (els λ_ _ e=>e)));refine ⟨_,rfl,_,rfl,_,_,_,_,rfl,rfl,SqT.of R3.rs,zct hb1,(by show 0<=sizeLine;decide),λe he=>?_⟩;have se:=zak he (.tup []);refine ⟨⟨zar rows kn⟩,⟨[]⟩,⟨b,_,rfl,SqT.of (se _ _ hb2),zam.ints⟩,⟨e,[],rfl,SqT.of zab,.nil⟩,_,rfl,?_⟩;refine ite2 .(n) (λ_=>n5 _ _ (els se));have hne:zar rows kn≠[]:=λz=>by
   rw[z]at c;exact absurd c .(i)
  have hpos:0< .(g).length:=ybL.mpr hne;have hle:=yax (zh4 (zm9 (by rw[S.stand.len];exact hkn))) hk;have R4:=R3.same se;have hb4:=se _ _ hb2;refine ⟨_,rfl,_,rfl,_,_,_,_,rfl,rfl,SqT.of R4.rs,zct hb1,_,rfl,_,rfl,_,rfl,_,_,_,_,rfl,rfl,SqT.of R4.rs,zct hb1,_,_,rfl,.inr (SqT.of hb4),?_⟩;rw[yab];refine ⟨d,a,((.(g).length:Nat):Int),rfl,⟨by lia,by lia⟩,s3.same se,λv H5 v0 v1 k5 s5=>?_⟩;obtain ⟨i,rfl⟩:=zhx v0;have hi:i< .(g).length:=by lia
  have N5':=(N3'.same se).take k5 s5;have T5:=(N3'.same se).tp k5;refine ⟨_,_,_,_,rfl,rfl,SqT.of (T5 _ _ hb4),za5 (v:=.int (.(g)[i])) (by rw[yam,yac hi];rfl),n5 _ _ ⟨_,rfl,S.stand.R.at_key kn _ (yaA hi),N5',λb us e=>T5 _ _ (se _ _ (T3 _ _ e))⟩⟩
 rintro _ H4 ⟨x,rfl,hx,N4',T4⟩;clear N3' T3 w0 w1 x0 x1 s3;obtain ⟨dx,st',t',rs',as',S4⟩:=N4'.shelf;intro N6 n6;refine n6 _ _ ?_;refine ⟨λU' H'=>∃(v:V) (qs':List Addr) (ps':List Nat) (rows':List (List Int)),U'=[some (.ref d),some (.ref sh),some (.ref t),some (.ref rs),some (.int kn),some (.int x),some (.int wy),some v,none]/\SNow K CS m0 mF mS mL a H' d sh p qs' ps' rows'/\Tp H H'/\zbz rows'<=zbz rows+1/\ps'.length<=ps.length+1/\(decide (v=.non)=false->ps'=ps/\rows'=rows),?_,?_⟩
 .intro N7 n7;have no:∀{e:Addr} {H':Hp},Same H4 H'->∃(v:V) (qs':List Addr) (ps':List Nat) (rows':List (List Int)),[some (V.ref d),some (.ref sh),some (.ref t),some (.ref rs),some (.int kn),some (.int x),some (.int wy),some (.ref e),none]=[some (.ref d),some (.ref sh),some (.ref t),some (.ref rs),some (.int kn),some (.int x),some (.int wy),some v,none]/\SNow K CS m0 mF mS mL a H' d sh p qs' ps' rows'/\Tp H H'/\zbz rows'<=zbz rows+1/\ps'.length<=ps.length+1/\(decide (v=.non)=false->ps'=ps/\rows'=rows):=λ{e H'} s=>⟨_,qs,ps,rows,rfl,N4'.same s,λb us e=>s _ _ (T4 _ _ e),by lia,by lia,λ_=>⟨rfl,rfl⟩⟩;have hrl:kn<rows.length:=by rw[S.stand.len];exact hkn
  refine ⟨_,rfl,rfl,_,rfl,?_⟩;refine ite2 (λ_=>?_) (λ_=>?_)
  .refine ⟨_,rfl,sh,dx,_,rfl,S4.ins,rfl,_,rfl,sh,dx,st',p,kn,qs,ps,rows,t',rs',as',rfl,S4,hkn,by lia,λE1 st2 t2 rs2 as2 H5 X=>n7 _ _ ?_⟩;have tb:zaF H5 m0 zeM lamQ:=zrs N4'.tab.p X.kd ⟨_,S4.ins⟩ ⟨_,S4.full.at_⟩;obtain ⟨N5',T5⟩:=N4'.deed (λb o n1 n2 _ e=>X.kd b o n1 n2 e) X.shelf tb;exact ⟨_,_,_,_,rfl,N5',λb us e=>T5 _ _ (T4 _ _ e),by rw[zjs];lia,by rw[yah,yay];lia,λz=>nomatch z⟩
  refine ⟨_,rfl,_,_,rfl,rfl,_,rfl,?_⟩;refine ite2 (λ_=>?_) (λ_=>?_)
  .refine ⟨_,rfl,sh,dx,_,rfl,S4.ins,rfl,_,rfl,_,rfl,?_⟩;by_cases hin:x∈zar rows kn
   .refine .inl ⟨sh,dx,st',p,kn,x,qs,ps,rows,t',rs',as',rfl,S4,hkn,hx,hin,N4'.tab.p,λD us m qs' st2 rs2 as2 H5 _ _ _ kd S5 t5 _ _=>n7 _ _ ?_⟩;obtain ⟨N5',T5⟩:=N4'.deed kd S5 t5;have e1:=zfA (r:=outR .(g) x) hrl;have e2:=zrP (row:=zar rows kn) (x:=x);exact ⟨_,_,_,_,rfl,N5',λb us e=>T5 _ _ (T4 _ _ e),by lia,by lia,λz=>nomatch z⟩
   .exact .inr ⟨sh,dx,st',p,kn,x,qs,ps,rows,t',rs',as',rfl,S4,hkn,hx,hin,⟨_,rfl,CL.qer,λe he=>⟨_,rfl,n7 _ _ (no (zak he _))⟩⟩⟩
  .refine ⟨_,rfl,sh,dx,_,rfl,S4.ins,rfl,_,rfl,_,rfl,?_⟩;by_cases hin:x∈zar rows kn
   .exact .inr ⟨sh,dx,st',p,kn,x,qs,ps,rows,t',rs',as',rfl,S4,hkn,hx,hin,⟨_,rfl,CL.qfl,λe he=>⟨_,rfl,n7 _ _ (no (zak he _))⟩⟩⟩
   .refine .inl ⟨sh,dx,st',p,kn,x,qs,ps,rows,t',rs',as',rfl,S4,hkn,hx,⟨hin,by lia⟩,N4'.tab.p,λD us m qs' st2 rs2 as2 H5 _ _ _ kd S5 t5 _ _=>n7 _ _ ?_⟩;obtain ⟨N5',T5⟩:=N4'.deed kd S5 t5;have e1:=zfA (r:=putR .(g) x) hrl;rw[znc]at e1;exact ⟨_,_,_,_,rfl,N5',λb us e=>T5 _ _ (T4 _ _ e),by lia,by lia,λz=>nomatch z⟩
 rintro _ H5 ⟨v,qs',ps',rows',rfl,N5',T5,b1,b2,b3⟩;refine ⟨_,rfl,rfl,?_⟩;exact q _ qs' ps' rows' H5 N5' T5 b1 b2 b3
theorem zps {K:Frag}{st:Expr}{p2 pos:Pos}(he:PE X e te)(hu:PO X (some st) th)(h:X.K=K:=by rfl):PE X (.Subscript e (.Slice none none (some st) p2) pos) (tRev K te th):=by
 subst h;exact zrJ he hu
theorem zrc :Same (dl [d] H) (dl [d] (upd H d o)):=λb x e=>by
 unfold dl at e ⊢;split at e
 .cases e
 .rename_i z;rw[if_neg z,zag (λq=>z (yaq.mpr q))];exact e
structure LNow (K:Frag)(CS m0 mF mS mL a:Addr)(H:Hp)(d sh p:Addr)(qs:List Addr)(ps:List Nat)(rows:List .(k))(st t rs:Addr)(as:List Addr)(wa:Addr)(wy:List Nat):Prop where
 N:SNow K CS m0 mF mS mL a H d sh p qs ps rows
 S:za1 H st ps rows t rs as
 W:zhf H wa ps wy
section
variable {K:Frag}{CS m0 mF mS mL a d sh p st t rs wa:Addr}{H H':Hp}{qs as:List Addr}{ps wy:List Nat}{rows:List .(k)}
theorem LNow.k4 (h:LNow K CS m0 mF mS mL a H d sh p qs ps rows st t rs as wa wy)(k:K4 m0 mF mS mL H H')(T':Tab4 m0 mF mS mL H'):LNow K CS m0 mF mS mL a H' d sh p qs ps rows st t rs as wa wy:=⟨h.N.k4 k T',zf9 (h.N.tab.k0 k) h.S,zmx (h.N.tab.k0 k) h.W⟩
theorem LNow.same (h:LNow K CS m0 mF mS mL a H d sh p qs ps rows st t rs as wa wy)(s:Same H H'):LNow K CS m0 mF mS mL a H' d sh p qs ps rows st t rs as wa wy:=h.k4 (.of s) (h.N.tab.same s)
theorem LNow.take (h:LNow K CS m0 mF mS mL a H d sh p qs ps rows st t rs as wa wy)(k:Keep d H H')(s:LS K a d H'):LNow K CS m0 mF mS mL a H' d sh p qs ps rows st t rs as wa wy:=⟨h.N.take k s,zbB (h.N.tp k) h.S,⟨h.N.lsH.ext k _ _ h.W.at_ nofun,h.W.len,h.W.ne,h.W.ch,h.W.kn⟩⟩
end
def zej (K:Frag)(H:Hp)(ps:List Nat)(rows:List .(k))(key:Int)(wy:List Nat)(D:Addr):Prop:=∃ zs,H D=some (.lst zs)/\zam K H (wy.map λk=>(((zaz .(e) key:Nat):Int),((ownB rows k key:Nat):Int))) zs
theorem zej.kp {K:Frag}{key:Int}{D:Addr}(h:zej K H ps rows key wy D)(k:Kp0 H H'):zej K H' ps rows key wy D:=by
 obtain ⟨zs,h1,h2⟩:=h;exact ⟨zs,k.lst h1,zif k h2⟩
structure ANow (K:Frag)(CS m0 mF mS mL a:Addr)(H:Hp)(d sh p:Addr)(qs:List Addr)(ps:List Nat)(rows:List .(k))(st t rs:Addr)(as:List Addr)(wa:Addr)(wy:List Nat)(pf:Addr)(qa:List Addr)(st2 t2 rs2:Addr)(as2:List Addr)(D:Addr)(key:Int):Prop where
 L:LNow K CS m0 mF mS mL a H d sh p qs ps rows st t rs as wa wy
 F:FA K H pf qa (ps.length+1) (zaf ps rows)
 S:za1 H st2 ps rows t2 rs2 as2
 D:zej K H ps rows key wy D
section
variable {K:Frag}{CS m0 mF mS mL a d sh p st t rs wa pf st2 t2 rs2 D:Addr}{H H':Hp}{qs as qa as2:List Addr}{ps wy:List Nat}{rows:List .(k)}{key:Int}
theorem ANow.k4 (h:ANow K CS m0 mF mS mL a H d sh p qs ps rows st t rs as wa wy pf qa st2 t2 rs2 as2 D key)(k:K4 m0 mF mS mL H H')(T':Tab4 m0 mF mS mL H'):ANow K CS m0 mF mS mL a H' d sh p qs ps rows st t rs as wa wy pf qa st2 t2 rs2 as2 D key:=
 have k0:=h.L.N.tab.k0 k
 ⟨h.L.k4 k T',h.F.tp (λ_ _ e=>k0.tup e) λ_ _ e=>k0.lst e,zf9 k0 h.S,h.D.kp k0⟩
theorem ANow.same (h:ANow K CS m0 mF mS mL a H d sh p qs ps rows st t rs as wa wy pf qa st2 t2 rs2 as2 D key)(s:Same H H'):ANow K CS m0 mF mS mL a H' d sh p qs ps rows st t rs as wa wy pf qa st2 t2 rs2 as2 D key:=h.k4 (.of s) (h.L.N.tab.same s)
end
theorem zrf {K:Frag}{H:Hp}{b D:Addr}{row:List Int}{key:Int}{U:L2.St}{Q:Hp->Prop}(hb:H b=some (.tup (row.map V.int)))(hD:H D=none)(hz:row.length<=63)(hst:U=[none,some (.int key)])(q:∀ H',Same H H'->H' D=some (.lst ((row.filter λx=>decide (x<key)).map V.int))->Q H') :
  ∃ W:Nat->Nat->L2.St->Hp->Prop,(∃ m,W 0 m U (upd H D (.lst [])))/\∀ i m U H,W i m U H->((Itt K b).stop i H/\Q H)\/((Itt K b).go i H/\∀ x H',(Itt K b).yld i H x H'->zko 0 x U H' λU2 H2=>zru (tOp (rI0 λi j=>.bl (decide (i<j))) (tVar 0) (tVar 1)) U2 H2 λb H3=>if b=true then tVar 0 U2 H3 λy H4=>∃ xs,H4 D=some (.lst xs)/\xs.length<sizeLine/\∃ m',m'<m/\W (i+1) m' U2 (upd H4 D (.lst (xs++[y]))) else ∃ m',m'<m/\W (i+1) m' U2 H3):=by
 rw[hst];refine zfD (xs:=row.map V.int) (λj U H5=>∃(x0:Option V),U=[x0,some (.int key)]/\H5 D=some (.lst (((row.take j).filter λx=>decide (x<key)).map V.int))/\But D H H5) ?_ ?_ ?_ ?_
 .exact ⟨_,rfl,zab,λb o n e=>by rw[zag n];exact e⟩
 .rintro j U H5 _ ⟨x0,rfl,_,k5⟩;exact SqT.of (k5 _ _ (zac hb hD) hb)
 .rintro j m x U H5 hx hm ⟨x0,rfl,h5,k5⟩;rw[yam]at hx;obtain ⟨y,hy,rfl⟩:=ybq.mp hx;have hj:=(yaj.mp hy).1;rw[yab]at hm;have htk:row.take (j+1)=row.take j++[y]:=by rw[yaF hj,(yaj.mp hy).2]
  have hsl:((row.take j).filter λx=>decide (x<key)).length<=j:=yax (ya3 _ _) (by rw[yao];lia);refine ⟨_,rfl,_,rfl,_,_,rfl,rfl,_,rfl,?_⟩;refine ite2 .(n) .(n)
  .refine ⟨_,rfl,_,h5,zao (by rw[yab];lia),m-1,by lia,by rw[yab];lia,_,rfl,?_,λb o n e=>by rw[zag n];exact k5 b o n e⟩;rw[zab,htk,yaQ,yaS (p:=λx=>decide (x<key)) c,yal];rfl
  .refine ⟨m-1,by lia,by rw[yab];lia,_,rfl,?_,k5⟩;rw[htk,yaQ,ya9 (p:=λx=>decide (x<key)) c,List.filter_nil,yaC];exact h5
 rintro U H5 ⟨y0,rfl,h5,k5⟩;rw[yab,yas (yaa _)]at h5;exact q H5 (λb o e=>k5 b o (zac e hD) e) h5
def zra (ps:List Nat)(rows:List .(k)):List (List En):=(List.range (ps.length+1)).map (zaf ps rows)
def zkW (K:Frag)(CS m0 mF mS mL:Addr):Sp:=λvs H Q _=>∃(d a sh p:Addr) (qs:List Addr) (ps:List Nat) (rows:List (List Int)),vs=[.ref d,.ref sh]/\SNow K CS m0 mF mS mL a H d sh p qs ps rows/\ps.length<=39/\∀ H',SNow K CS m0 mF mS mL a H' d sh p qs ps rows->Q (.bl true) H'
theorem znE (T:Txt K mg){mc mp:Addr}(O:OwnC K mg CS)(qa0:DFT K mg "_law_looked" zci zdJ mc mp)(hBM:BMAt mg base)(qae:FC P w K mg base 2 "_law_take" zbx (ze8 K))(qcr:FC P w K mg base 3 "_law_key" zey (zpi K))(qfo:FC P w K mg base 3 "_law_way" zgq (zqM K))(qaw:FM P w K mg base CS 1 "stand" zbs (zhQ CS))(qdn:FM P w K mg base CS 4 "full" zcz (zm0 K CS))(qb1:FM P w K mg base CS 8 "find" zcA (zqP K CS mF mS))(qeE:FC P w K mg base 3 "tree_of" zeu (ziY K))(qd6:FC P w K mg base 4 "stand_of" zdF (zhs K))(qaR:FC P w K mg base 8 "full_rows" zb5 (zhV K))(qdo:FC P w K mg base 9 "bridges" zeB (spBr K))(qda:∀ b,Sub K mg base b->FC P w K mg b 6 "search" zd2 (zhR P w K mg b mF))(qb5:∀ b,Sub K mg base b->FC P w K mg b 6 "search_beneath" zbF (zm2 P w K mg b mF)):FC P w K mg base 11 "_law_looked" zdJ (zkW K CS m0 mF mS mp):=by
 refine qa0.ok qaf .(c) (λf A outer s H vs Q E hr h=>?_)
 .obtain ⟨d,a,sh,p,qs,ps,rows,rfl,_⟩:=h;rfl
 obtain ⟨d,a,sh,p,qs,ps,rows,rfl,N,hl,q⟩:=h;refine ⟨_,(zaI (zi5 (zlf qaw O.cl hr (pv 1)) (zgN rfl (zaZ (zas (i:=2) qaf.nd rfl (Or.inl rfl)) (zaZ (zas (i:=3) qaf.nd rfl (Or.inr rfl)) zdK))))
   (zaI (zaq (i:=4) qaf.nd rfl (Or.inl rfl) (zax qfo hr (zaa (pv 0) (zaa (pv 2) zad))))
   (zaI (zaq (i:=5) qaf.nd rfl (Or.inr rfl) (zax qcr hr (zaa (pv 0) zad)))
   (zbO (za3 (zau (zfU (Tup Int) (huD hr)) (zaB (zay (K:=K)) (pv 3) (zaB (zat (K:=K)) (pv 4) zai (λ_ _=>rfl)) (λ_ _=>rfl)) (zaX zad) (zaH _)) (zae (zaq (i:=5) qaf.nd rfl (Or.inr rfl) (zan (zjG rfl) rfl T.qfi boot_min (zaa (zaG zdb (zaG zgS zai zai) zai) (zaa (zaG zbn (zaB (zay (K:=K)) (zaB (zay (K:=K)) (pv 3) (zaB (zat (K:=K)) (pv 4) zai (λ_ _=>rfl)) (λ_ _=>rfl)) (zax qae hr (zaa (pv 0) (zaa (zan (zal (K:=K)) rfl T.qaq boot_len (zaa (zaB (zay (K:=K)) (pv 3) (zaB (zat (K:=K)) (pv 4) zai (λ_ _=>rfl)) (λ_ _=>rfl)) zad)) zad))) (λ_ _=>rfl)) (zax qae hr (zaa (pv 0) (zaa zai zad)))) zad))))) zaD)
   (zaI (zaq (i:=6) qaf.nd rfl (Or.inl rfl) zgO)
   (zbO (za3 (zau zfv (zax qae hr (zaa (pv 0) (zaa zai zad))) zai (zaH _)) (zae (zaq (i:=6) qaf.nd rfl (Or.inl rfl) (zgP qb1 O.cl hr (pv 1) (zaa (zaY (zbq (K:=K)) rfl T.qaZ boot_list (zaa (pv 4) zad)) (zaa (pv 5) zad))))) zaD)
   (zaI (zaq (i:=7) qaf.nd rfl (Or.inr rfl) (zbN (N:=["_law_knot","_law_shelf"]) (own:=1) (cap:=[1]) rfl (zbQ rfl T.qax (zaa (zan (zal (K:=K)) rfl T.qaq boot_len (zaa (pv 2) zad)) zad)) ⟨rfl,rfl,rfl,rfl,rfl,rfl⟩ (λ_ _ _ _ _=>(zas (i:=0) (show List.Nodup (["_law_knot","_law_shelf"]:List Str) by decide +kernel) rfl (Or.inl rfl))) (λ_ _ _ _ _=>zcb) (λ_ _ _ _ _=>(zgP qdn O.cl hr (pv 1) (zaa (pv 0) zad)))))
   (zaI (zaq (i:=8) qaf.nd rfl (Or.inl rfl) (zax qd6 hr (zaa (zax qeE hr (zaa (zaY (zbq (K:=K)) rfl T.qaZ boot_list (zaa (pv 2) zad)) zad)) (zaa (zbN (N:=["_law_row_here"]) (own:=1) (cap:=[]) rfl (zhv (pv 3)) ⟨rfl,rfl,rfl,rfl,rfl,rfl⟩ (λ_ _ _ _ _=>(zas (i:=0) (show List.Nodup (["_law_row_here"]:List Str) by decide +kernel) rfl (Or.inl rfl))) (λ_ _ _ _ _=>zcb) (λ_ _ _ _ _=>(zps (K:=K) (zaY (zbq (K:=K)) rfl T.qaZ boot_list (zaa (pv 0) zad)) (zbL (zib ze4 zai))))) zad))))
   (zbO (za3 (PW.pt (znb (zau (zfU (Tup (Option Int)×Tup (Tup Int)) (huD hr)) (pv 8) (zaX (zaa (pv 2) (zaa (pv 3) zad))) (zaH _)) (zlb (zau (zfU (List (List (Int×Int))) (huD hr)) (pv 7) (zax qaR hr (zaa (pv 8) zad)) (zaH _))))) (zae (zaw zeJ)) zaD)
   (zbO (za3 (zau zqW (pv 6) zgO (zaH _)) (zae (zaq (i:=6) qaf.nd rfl (Or.inl rfl) (zgP qb1 O.cl hr (pv 1) (zaa (zaY (zbq (K:=K)) rfl T.qaZ boot_list (zaa (pv 4) zad)) (zaa (pv 5) zad))))) zaD)
   (zaI (zaq (i:=9) qaf.nd rfl (Or.inl rfl) (zgQ (kf:=1) qda hr (zax qdo hr (zaa (pv 8) zad)) (zaY (zbq (K:=K)) rfl T.qaZ boot_list (zaa (pv 4) zad)) (zjl (osc:=zah zci) (N:=["_law_state","_law_shelf","_law_tree_here","_law_rows_here","_law_way_here","_law_key_here","_law_found","_law_fulls","_law_anew","_law_due","_law_under","_law_all_due"]) (ps:=["_law_knot","_law_number"]) (caps:=["_law_key_here","_law_fulls"]) (cap:=[5,7]) ⟨rfl,rfl,rfl,by decide +kernel,by decide +kernel,by decide +kernel,by decide +kernel⟩ (by decide +kernel) (by decide +kernel) rfl rfl rfl rfl (λ_ _ _ _ us hl=>match us,hl with | [_,_],_=>rfl) (λ_=>rfl)) rfl qa0.hd hBM (λb _ _ _ _ _ _ _ S hr=>(zeV zfu (zaB (zay (K:=K)) (zaB (zat (K:=K)) (zaB (zat (K:=K)) (pv 3) (pv 0) (λ_ _=>rfl)) (pv 1) (λ_ _=>rfl)) zai (λ_ _=>rfl)) (pv 2) (zaH _)))))
   (zbO (za3 (PW.pt (znb (zcH (zcn (zan (zfF (K:=K)) rfl T.qau boot_isinstance (zaa (pv 6) (zaa (zde (v:=.ty "list") rfl T.qaZ boot_list rfl) zad))))) (znb (zau (zfU (List (Int×Int)) (huD hr)) (pv 6) (pv 9) (zaH _)) (zlb (zau zrQ (zan (zal (K:=K)) rfl T.qaq boot_len (zaa (pv 6) zad)) (zan (zal (K:=K)) rfl T.qaq boot_len (zaa (pv 4) zad)) (zaH _)))))) (zae (zaw zeJ)) zaD)
   (zaI (zaq (i:=10) qaf.nd rfl (Or.inl rfl) (zgQ (kf:=1) qb5 hr (zax qdo hr (zaa (pv 8) zad)) zai (zjl (osc:=zah zci) (N:=["_law_state","_law_shelf","_law_tree_here","_law_rows_here","_law_way_here","_law_key_here","_law_found","_law_fulls","_law_anew","_law_due","_law_under","_law_all_due"]) (ps:=["_law_knot","_law_number"]) (caps:=["_law_key_here","_law_fulls"]) (cap:=[5,7]) ⟨rfl,rfl,rfl,by decide +kernel,by decide +kernel,by decide +kernel,by decide +kernel⟩ (by decide +kernel) (by decide +kernel) rfl rfl rfl rfl (λ_ _ _ _ us hl=>match us,hl with | [_,_],_=>rfl) (λ_=>rfl)) rfl qa0.hd hBM (λb _ _ _ _ _ _ _ S hr=>(zeV zfu (zaB (zay (K:=K)) (zaB (zat (K:=K)) (zaB (zat (K:=K)) (pv 3) (pv 0) (λ_ _=>rfl)) (pv 1) (λ_ _=>rfl)) zai (λ_ _=>rfl)) (pv 2) (zaH _)))))
   (zaI (zgJ (i:=11) (N:=["_law_knot","_law_rows_here","_law_key_here"]) (own:=1) (cap:=[3,5]) qaf.nd rfl rfl rfl (zbQ rfl T.qax (zaa (zan (zal (K:=K)) rfl T.qaq boot_len (zaa (pv 2) zad)) zad)) ⟨rfl,rfl,rfl,rfl,rfl,rfl⟩ (λ_ _ _ _ _=>(zas (i:=0) (show List.Nodup (["_law_knot","_law_rows_here","_law_key_here"]:List Str) by decide +kernel) rfl (Or.inl rfl))) (λ_ _ _ _ _=>zcb) (λ_ _ _ _ _=>(zaX (zaa (pv 0) (zaa (zan (zal (K:=K)) rfl T.qaq boot_len (zaa (zbN (N:=["_law_one","_law_key_here"]) (own:=1) (cap:=[2]) rfl (zni (K:=K) (zaB (zay (K:=K)) (pv 1) (pv 0) (λ_ _=>rfl))) ⟨rfl,rfl,rfl,rfl,rfl,rfl⟩ (λ_ _ _ _ _=>(zas (i:=0) (show List.Nodup (["_law_one","_law_key_here"]:List Str) by decide +kernel) rfl (Or.inl rfl))) (λ_ _ _ _ _=>(zeU (zau zfu (pv 0) (pv 1) (zaH _)))) (λ_ _ _ _ _=>(pv 0))) zad)) zad)))))
   (zbO (za3 (zau (zfU (List (Int×Int)) (huD hr)) (zbN (N:=["_law_knot","_law_spot","_law_own"]) (own:=3) (cap:=[]) rfl (zbM (pv 10)) ⟨rfl,rfl,rfl,rfl,rfl,rfl⟩ (λ_ _ _ _ _=>(zj2 (K:=K) (n:=3) rfl (zaZ (zas (i:=0) (show List.Nodup (["_law_knot","_law_spot","_law_own"]:List Str) by decide +kernel) rfl (Or.inl rfl)) (zaZ (zas (i:=1) (show List.Nodup (["_law_knot","_law_spot","_law_own"]:List Str) by decide +kernel) rfl (Or.inl rfl)) (zaZ (zas (i:=2) (show List.Nodup (["_law_knot","_law_spot","_law_own"]:List Str) by decide +kernel) rfl (Or.inl rfl)) zdK))))) (λ_ _ _ _ _=>zcb) (λ_ _ _ _ _=>(zaX (zaa (pv 0) (zaa (pv 2) zad))))) (pv 11) (zaH _)) (zae (zaw zeJ)) zaD)
   (zae (zaw (zeV (ztq (List Int) (huD hr)) (zbN (N:=["_law_spot","_law_own"]) (own:=2) (cap:=[]) rfl (zbM (pv 6)) ⟨rfl,rfl,rfl,rfl,rfl,rfl⟩ (λ_ _ _ _ _=>(zj2 (K:=K) (n:=2) rfl (zaZ (zas (i:=0) (show List.Nodup (["_law_spot","_law_own"]:List Str) by decide +kernel) rfl (Or.inl rfl)) (zaZ (zas (i:=1) (show List.Nodup (["_law_spot","_law_own"]:List Str) by decide +kernel) rfl (Or.inl rfl)) zdK)))) (λ_ _ _ _ _=>zcb) (λ_ _ _ _ _=>(pv 1))) (zbN (N:=["_law_knot","_law_rows_here","_law_key_here"]) (own:=1) (cap:=[3,5]) rfl (zbM (pv 4)) ⟨rfl,rfl,rfl,rfl,rfl,rfl⟩ (λ_ _ _ _ _=>(zas (i:=0) (show List.Nodup (["_law_knot","_law_rows_here","_law_key_here"]:List Str) by decide +kernel) rfl (Or.inl rfl))) (λ_ _ _ _ _=>zcb) (λ_ _ _ _ _=>(zan (zal (K:=K)) rfl T.qaq boot_len (zaa (zbN (N:=["_law_one","_law_key_here"]) (own:=1) (cap:=[2]) rfl (zni (K:=K) (zaB (zay (K:=K)) (pv 1) (pv 0) (λ_ _=>rfl))) ⟨rfl,rfl,rfl,rfl,rfl,rfl⟩ (λ_ _ _ _ _=>(zas (i:=0) (show List.Nodup (["_law_one","_law_key_here"]:List Str) by decide +kernel) rfl (Or.inl rfl))) (λ_ _ _ _ _=>(zeU (zau zfu (pv 0) (pv 1) (zaH _)))) (λ_ _ _ _ _=>(pv 0))) zad)))) (zaH _))))))))))))))))))),?_⟩
 obtain ⟨dx,st,t,rs,as,S⟩:=N.shelf;have el:=zav ps;intro N1 n1;refine ⟨_,rfl,sh,dx,_,rfl,S.ins,rfl,sh,dx,st,p,rfl,S.ins,st,_,rfl,SqT.of S.stand.st,rfl,_,_,rfl,_,_,rfl,rfl,n1 _ _ ?_⟩;intro N2 n2;refine ⟨_,rfl,_,rfl,d,a,t,ps,rfl,S.stand.tr,S.stand.T,by lia,N.lsH,λwa wy H1 _ W1 k1 s1=>n2 _ _ ?_⟩;have L1:LNow K CS m0 mF mS mp a H1 d sh p qs ps rows st t rs as wa wy:=⟨N.take k1 s1,zbB (N.tp k1) S.stand,W1⟩;have SS:=S.stand;clear S k1 W1 N;intro N3 n3;refine ⟨_,rfl,d,a,rfl,s1,λx H2 x0 x1 k2 s2=>n3 _ _ ?_⟩;have L2:=L1.take k2 s2;clear L1 s1 k2;have hw0:0<wy.length:=ybL.mpr L2.W.ne;have hk0:wy.getD 0 0<ps.length+1:=L2.W.kn _ (zmw hw0);refine ⟨λU' H'=>∃ key:Int,U'=[some (.ref d),some (.ref sh),some (.ref t),some (.ref rs),some (.ref wa),some (.int key),none,none,none,none,none,none]/\LNow K CS m0 mF mS mp a H' d sh p qs ps rows st t rs as wa wy,?_,?_⟩
 .intro N4 n4;obtain ⟨b,hb1,hb2⟩:=L2.S.at_.get (k:=wy.getD 0 0) (by rw[SS.len];exact hk0);refine ⟨_,rfl,_,rfl,_,_,_,_,rfl,rfl,SqL.of L2.W.at_,za5 (zgC hw0),_,_,_,_,rfl,rfl,SqT.of L2.S.rs,zct hb1,(by show 0<=sizeLine;decide),λe he=>?_⟩;have se:=zak he (.tup []);refine ⟨⟨zar rows (wy.getD 0 0)⟩,⟨[]⟩,⟨b,_,rfl,SqT.of (se _ _ hb2),zam.ints⟩,⟨e,[],rfl,SqT.of zab,.nil⟩,_,rfl,?_⟩;have L3:=L2.same se;have hb3:=se _ _ hb2;have s3:=s2.same se;generalize upd H2 e (.tup [])=H3 at L3 hb3 s3 ⊢;refine ite2 .(n) (λ_=>n4 _ _ ⟨_,rfl,L3⟩);have hne:zar rows (wy.getD 0 0)≠[]:=λz=>by
   rw[z]at c;exact absurd c .(i)
  have hpos:0<(zar rows (wy.getD 0 0)).length:=ybL.mpr hne;have hle:=yax (zh4 (zm9 (by rw[SS.len];exact hk0))) SS.keys;refine ⟨_,_,rfl,rfl,⟨by decide,by decide,by decide⟩,_,_,rfl,rfl,?_⟩;refine ⟨_,rfl,_,rfl,_,_,_,_,rfl,rfl,SqL.of L3.W.at_,za5 (zgC hw0),_,_,_,_,rfl,rfl,SqT.of L3.S.rs,zct hb1,?_⟩;refine ⟨_,rfl,_,rfl,_,rfl,_,_,_,_,rfl,rfl,SqL.of L3.W.at_,za5 (zgC hw0),_,_,_,_,rfl,rfl,SqT.of L3.S.rs,zct hb1,_,_,rfl,.inr (SqT.of hb3),?_⟩;rw[yab];refine ⟨d,a,(((zar rows (wy.getD 0 0)).length:Nat):Int),rfl,⟨by lia,by lia⟩,s3,λv H4 v0 v1 k4 s4=>?_⟩;obtain ⟨i,rfl⟩:=zhx v0;have hi:i<(zar rows (wy.getD 0 0)).length:=by lia
  have L4:=L3.take k4 s4;refine ⟨_,_,_,_,rfl,rfl,SqT.of (L3.N.tp k4 _ _ hb3),za5 (v:=.int ((zar rows (wy.getD 0 0))[i])) (by rw[yam,yac hi];rfl),?_⟩;refine ⟨_,rfl,d,a,2,rfl,by decide,s4,λu H5 u0 u1 k5 s5=>?_⟩;exact ⟨_,_,rfl,rfl,_,_,rfl,n4 _ _ ⟨_,rfl,L4.take k5 s5⟩⟩
 rintro _ H3 ⟨key,rfl,L3⟩;clear L2 s2 x0 x1;intro N5 n5;refine n5 _ _ ?_;refine ⟨λU' H'=>∃ v:V,U'=[some (.ref d),some (.ref sh),some (.ref t),some (.ref rs),some (.ref wa),some (.int key),some v,none,none,none,none,none]/\LNow K CS m0 mF mS mp a H' d sh p qs ps rows st t rs as wa wy/\(v=.non\/∃ D,v=.ref D/\zej K H' ps rows key wy D),?_,?_⟩
 .intro N6 n6;refine ⟨_,rfl,d,a,2,rfl,by decide,L3.N.lsH,λv H4 v0 v1 k4 s4=>⟨rfl,_,rfl,?_⟩⟩;have L4:=L3.take k4 s4;refine ite2 (λ_=>?_) (λ_=>n6 _ _ ⟨_,rfl,L4,.inl rfl⟩);obtain ⟨dx,st',t',rs',as',S'⟩:=L4.N.shelf;refine ⟨_,rfl,sh,dx,_,rfl,S'.ins,rfl,_,rfl,wa,_,rfl,.inl (SqL.of L4.W.at_),λy hy=>?_⟩;have sy:=zak hy (.lst (wy.map nV));have L5:=L4.same sy;refine ⟨_,rfl,sh,dx,st',p,y,key,qs,ps,rows,t',rs',as',wy,rfl,S'.k0 (.of sy),⟨zab,L4.W.len,L4.W.ne,L4.W.ch,L4.W.kn⟩,L5.N.tab.ts,λD zs H6 _ k6 t6 h6 hA=>?_⟩;obtain ⟨T6,k6'⟩:=L5.N.tab.gS k6 t6;exact n6 _ _ ⟨_,rfl,L5.k4 k6' T6,.inr ⟨D,rfl,zs,h6,hA⟩⟩
 rintro _ H4 ⟨v,rfl,L4,hv⟩;clear L3;intro N7 n7;refine ⟨_,rfl,_,_,rfl,.inr (SqT.of L4.S.tr),_,rfl,by rw[el];lia,by rw[el];lia,λpf hpf=>?_⟩;rw[el,ya5];obtain ⟨dx,st',t',rs',as',S4⟩:=L4.N.shelf;refine zdr (n:=ps.length+1) (λi U H2=>∃(x0:Option V) (qa:List Addr),U=[x0,some (.ref sh)]/\FA K H2 pf qa i (zaf ps rows)/\But pf H4 H2) ?_ ?_ ?_
 .exact ⟨_,[],rfl,⟨zab,rfl,ybj,nofun,λj q e=>by simp at e⟩,λb o n e=>by rw[zag n];exact e⟩
 .rintro i2 m U H2 hm hi2 ⟨x0,qa,rfl,F3,k2⟩;rw[ybv];have s2:Same H4 H2:=λb o e=>k2 b o (zac e hpf) e;have S2:=S4.k0 (.of s2);have hql:=F3.len;refine zdn ?_;refine ⟨_,rfl,sh,dx,_,rfl,S2.ins,rfl,_,rfl,sh,dx,st',p,i2,qs,ps,rows,t',rs',as',rfl,S2,hi2,λB0 ws hB0 hw=>?_⟩;have nB:B0≠pf:=λz=>by rw[z,F3.at_]at hB0;cases hB0
  exact ⟨_,by rw[zag (Ne.symm nB)];exact F3.at_,zao (by rw[yab];lia),m-1,by lia,by lia,_,_,rfl,F3.snoc hB0 hw,λb o n e=>by rw[zag n];exact zak hB0 _ _ _ (k2 b o n e)⟩
 rintro U H5 ⟨x0,qa,rfl,F5,k5⟩;have s5:Same H4 H5:=λb o e=>k5 b o (zac e hpf) e;have L5:=L4.same s5;have hv5:v=.non\/∃ D,v=.ref D/\zej K H5 ps rows key wy D:=hv.imp id λ⟨D,e,h⟩=>⟨D,e,h.kp (.of s5)⟩;refine n7 _ _ ?_;clear hv L4 S4 k5 s5 hpf n7 N7;intro N8 n8;refine ⟨_,rfl,t,_,rfl,.inr (SqT.of L5.S.tr),λl hl=>?_⟩;have sl:=zak hl (.lst (zbZ ps));refine ⟨l,ps,rfl,zab,SS.T,by lia,λt2 H6 _ s6 h6=>?_⟩;have s56:=sl.trans s6;have L6:=L5.same s56;refine ⟨_,rfl,rs,rfl,⟨_,SqT.of L6.S.rs⟩,λD8 hD8=>?_⟩;refine zfD (xs:=as.map V.ref) (λi U H2=>∃(x0:Option V) (bs:List Addr),U=[x0]/\H2 D8=some (.lst (bs.map V.ref))/\Paired (zqy (dl [D8] H2)) bs (rows.take i)/\But D8 H6 H2) ?_ ?_ ?_ ?_
 .exact ⟨_,[],rfl,zab,.nil,λb o n e=>by rw[zag n];exact e⟩
 .rintro i U H2 _ ⟨x0,bs,rfl,_,_,k2⟩;exact SqT.of (k2 _ _ (zac L6.S.rs hD8) L6.S.rs)
 .rintro i m x U H2 hx hm ⟨x0,bs,rfl,h2,hB,k2⟩;have hal:=L6.S.at_.length;have hi:=(yaj.mp hx).1;rw[yab]at hi hm;have hir:i<rows.length:=by lia
  obtain ⟨b,hb1,hb2⟩:=L6.S.at_.get (k:=i) hir;rw[yam,hb1]at hx;obtain rfl:=yae hx;have h2b:=k2 _ _ (zac hb2 hD8) hb2;refine zdn ?_;refine ⟨_,rfl,b,_,rfl,.inr (SqT.of h2b),λl2 hl2=>?_⟩;have s8:=zak hl2 (.lst ((zar rows i).map V.int));refine ⟨_,rfl,_,rfl,l2,_,rfl,rfl,SqL.of zab,λl3 hl3=>?_⟩;have s9:=zak hl3 (.lst ((zar rows i).map V.int).reverse);have s29:=s8.trans s9;have n3:l3≠D8:=λz=>by rw[z,s8 _ _ h2]at hl3;cases hl3
  have hbl:=Paired.length hB;rw[yao]at hbl;have htk:rows.take (i+1)=rows.take i++[zar rows i]:=by
   rw[yaF hir];unfold zar;rw[yad,yac hir];rfl
  have hfew:=SS.few;have hlen:=SS.len;refine ⟨_,s29 _ _ h2,zao (by rw[yab];lia),m-1,by lia,by rw[yab];lia,_,bs++[l3],rfl,by rw[zab,yal];rfl,?_,λb o n e=>by rw[zag n];exact s29 _ _ (k2 b o n e)⟩;rw[htk];refine zcL (zaO (λ_ _ zq0=>(by obtain ⟨r,h,e⟩:=zq0;exact ⟨r,((zt1 (KpV.of s29)).trans zrc) _ _ h,e⟩)) hB) ⟨(zar rows i).reverse,zrc _ _ (zsv ?_ (λz=>n3 (yaq.mp z))),List.reverse_perm _⟩;rw[zab,List.map_reverse]
 rintro U H7 ⟨x0',bs,rfl,h7,hB7,k7⟩;rw[yab,L6.S.at_.length,yas (yaa _)]at hB7;have s7:Same H6 H7:=λb o e=>k7 b o (zac e hD8) e;refine ⟨t2,D8,ps,rows,bs,rfl,s7 _ _ h6,h7,zaO (λ_ _ zq0=>(by obtain ⟨r,h,e⟩:=zq0;exact ⟨r,zoB _ _ h,e⟩)) hB7,SS.len,SS.T,SS.R,SS.few,SS.keys,λst2 rs2 as2 H8 _ s8 S8=>n8 _ _ ?_⟩;have s58:Same H5 H8:=s56.trans (s7.trans s8);have L8:=L5.same s58;have F8:=F5.ext s58.ext;have hv8:v=.non\/∃ D,v=.ref D/\zej K H8 ps rows key wy D:=hv5.imp id λ⟨D,e,h⟩=>⟨D,e,h.kp (.of s58)⟩;clear hv5 L5 L6 s56 s58 sl s6 s7 s8 h6 h7 hB7 k7 hD8 hl F5 n8 N8;refine ⟨λU' H'=>U'=[some (.ref d),some (.ref sh),some (.ref t),some (.ref rs),some (.ref wa),some (.int key),some v,some (.ref pf),some (.ref st2),none,none,none]/\Same H8 H',?_,?_⟩
 .intro N9 n9;refine ⟨_,rfl,_,rfl,_,rfl,(by show 2<=sizeLine;decide),λu hu=>?_⟩;have su:=zak hu (.tup [.ref t,.ref rs]);have S9:=L8.S.same su;refine ⟨ziV ps rows,ziV ps rows,zgE (S8.same su),⟨u,_,_,rfl,zab,⟨_,_,rfl,SqT.of S9.tr,zkM ps⟩,⟨_,_,rfl,SqT.of S9.rs,zh3 S9.at_⟩⟩,_,rfl,?_⟩;refine zjq rfl ?_;refine ⟨_,rfl,_,rfl,st2,ps,rows,t2,rs2,as2,rfl,S8.same su,λp2 qs2 H9 _ s9 h9 nd9 _ np9 F9=>?_⟩;have su9:=su.trans s9;refine ⟨zra ps rows,zra ps rows,⟨pf,_,rfl,SqL.of (su9 _ _ F8.at_),(F8.ext su9.ext).has⟩,⟨p2,_,rfl,SqL.of h9,(F9.fa h9 nd9 np9).has⟩,_,rfl,?_⟩;exact zjq rfl (n9 _ _ ⟨rfl,su9⟩)
 rintro _ H9 ⟨rfl,s9⟩;have L9:=L8.same s9;have F9:=F8.ext s9.ext;have S9:=S8.same s9;have hv9:v=.non\/∃ D,v=.ref D/\zej K H9 ps rows key wy D:=hv8.imp id λ⟨D,e,h⟩=>⟨D,e,h.kp (.of s9)⟩;clear hv8 L8 F8 S8 s9;refine ⟨λU' H'=>∃ D,U'=[some (.ref d),some (.ref sh),some (.ref t),some (.ref rs),some (.ref wa),some (.int key),some (.ref D),some (.ref pf),some (.ref st2),none,none,none]/\ANow K CS m0 mF mS mp a H' d sh p qs ps rows st t rs as wa wy pf qa st2 t2 rs2 as2 D key,?_,?_⟩
 .intro N10 n10;rcases hv9 with rfl|⟨D,rfl,hD⟩
  .refine ⟨_,rfl,rfl,_,rfl,iteT ?_⟩;obtain ⟨dx,st',t',rs',as',S'⟩:=L9.N.shelf;refine ⟨_,rfl,sh,dx,_,rfl,S'.ins,rfl,_,rfl,wa,_,rfl,.inl (SqL.of L9.W.at_),λy hy=>?_⟩;have sy:=zak hy (.lst (wy.map nV));have L5:=L9.same sy;refine ⟨_,rfl,sh,dx,st',p,y,key,qs,ps,rows,t',rs',as',wy,rfl,S'.k0 (.of sy),⟨zab,L9.W.len,L9.W.ne,L9.W.ch,L9.W.kn⟩,L5.N.tab.ts,λD zs H6 _ k6 t6 h6 hA=>?_⟩;obtain ⟨T6,k6'⟩:=L5.N.tab.gS k6 t6;have k0:=Kp0.trans (.of sy) (L5.N.tab.k0 k6');exact n10 _ _ ⟨D,rfl,L5.k4 k6' T6,F9.tp (λ_ _ e=>k0.tup e) λ_ _ e=>k0.lst e,zf9 k0 S9,zs,h6,hA⟩
  .exact ⟨_,rfl,rfl,_,rfl,iteF (n10 _ _ ⟨D,rfl,L9,F9,S9,hD⟩)⟩
 clear hv9 L9 F9 S9;rintro _ H10 ⟨D,rfl,A10⟩;have hwl:=A10.L.W.len;have cap:∀(U:L2.St),U[5]?=some (some (.int key))->U[7]?=some (some (.ref pf))->∀(j i:Nat) (v:V),([5,7]:List Nat)[j]?=some i->([.int key,.ref pf]:List V)[j]?=some v->U[i]?=some (some v):=λU a1 a2 j i v e1 e2=>by
  rcases j with _|_|j
  .cases e1;cases e2;exact a1
  .cases e1;cases e2;exact a2
  .cases e1
 have hfl:∀ k,k<ps.length+1-> .(e).length<=1000:=λk hk=>by
  have:=zed SS.T SS.len (rows:=rows) hk;have:=SS.keys;lia
 intro N11 n11;refine ⟨_,rfl,st2,ps,rows,t2,rs2,as2,rfl,A10.S,λbr xs H11 _ s11 h11 hB=>?_⟩;have A11:=A10.same s11;refine ⟨_,rfl,wa,_,rfl,.inl (SqL.of A11.L.W.at_),λy hy=>?_⟩;have sy:=zak hy (.lst (wy.map nV));have A12:=A11.same sy;have W12:zhf (upd H11 y (.lst (wy.map nV))) y ps wy:=⟨zab,A11.L.W.len,A11.L.W.ne,A11.L.W.ch,A11.L.W.kn⟩;have h12:=sy _ _ h11;have B12:=zqr (.of sy) hB;generalize upd H11 y (.lst (wy.map nV))=H12 at A12 W12 h12 B12 ⊢;refine ⟨A12.L.N.tab.a,[.int key,.ref pf],rfl,cap _ rfl rfl,λbs g c' H13 hg hT13 hC hO SB hV=>?_⟩;obtain ⟨T13,k13⟩:=A12.L.N.tab.gL hg hT13 (hO _ _ rfl A12.L.N.tab.b);have A13:=A12.k4 k13 T13;have k013:=A12.L.N.tab.k0 k13;have AF:=zhd hV hC T13.f A13.F.at_ A13.F.fulls;have SE:zbl [] mF (λ_ H'=>Gro mF H13 H') ps rows br xs [] H13:=⟨Gro.refl _ _,λa ha=>absurd ha yaz,k013.lst h12,yaz,zqr k013 B12,T13.f⟩;refine ⟨br,y,g,xs,ps,rows,wy,key,[],_,_,[],rfl,AF,SE,SS.T,SS.R,SS.few,zmx k013 W12,yaz,yaG _,hfl,λD1 zs1 H14 L' S14 kk14 hD1 h14 hA14 _=>n11 _ _ ?_⟩;obtain ⟨T14,k14⟩:=T13.gF (λb o n e=>kk14 b o yaz n e) S14.tb;have A14:=A13.k4 k14 T14;clear AF SE A13 A12 A11 A10 W12 hV hC SB hO hT13 hg T13 k13 k14 k013 B12 h12 hB h11 s11 sy hy n11 N11;refine ⟨λU' H'=>U'=[some (.ref d),some (.ref sh),some (.ref t),some (.ref rs),some (.ref wa),some (.int key),some (.ref D),some (.ref pf),some (.ref st2),some (.ref D1),none,none]/\H14=H',?_,?_⟩
 .intro N12 n12;obtain ⟨zs,hD,hA⟩:=A14.D;have hlz:=hA.length;rw[yab]at hlz;refine ⟨_,rfl,_,_,_,_,rfl,.lst hD,zq7,_,rfl,iteF ?_⟩;refine ⟨_,rfl,_,rfl,_,_,⟨D,zs,rfl,SqL.of hD,hA⟩,⟨D1,zs1,rfl,SqL.of h14,hA14⟩,_,rfl,zjq rfl ?_⟩;refine ⟨_,rfl,_,_,rfl,.inl (SqL.of hD),_,rfl,_,_,rfl,.inl (SqL.of A14.L.W.at_),rfl,_,rfl,?_⟩;exact zjq (by rw[yab,hlz]) (n12 _ _ ⟨rfl,rfl⟩)
 rintro _ _ ⟨rfl,rfl⟩;clear h14 hA14 hD1;intro N13 n13;refine ⟨_,rfl,st2,ps,rows,t2,rs2,as2,rfl,A14.S,λbr xs H15 _ s15 h15 hB=>?_⟩;have A15:=A14.same s15;refine ⟨A15.L.N.tab.b,[.int key,.ref pf],rfl,cap _ rfl rfl,λbs g c' H16 hg hT16 hC hO SB hV=>?_⟩;obtain ⟨T16,k16⟩:=A15.L.N.tab.gL hg (hO _ _ rfl A15.L.N.tab.a) hT16;have A16:=A15.k4 k16 T16;have k016:=A15.L.N.tab.k0 k16;have AF:=zhd hV hC T16.f A16.F.at_ A16.F.fulls;have SE:zbl [] mF (λ_ H'=>Gro mF H16 H') ps rows br xs [] H16:=⟨Gro.refl _ _,λa ha=>absurd ha yaz,k016.lst h15,yaz,zqr k016 hB,T16.f⟩;refine ⟨br,g,xs,ps,rows,0,key,[],_,_,[],rfl,AF,SE,SS.T,SS.R,SS.few,by lia,yaG _,hfl,λD2 zs2 H17 L' S17 kk17 hD2 h17 hP17 _=>n13 _ _ ?_⟩;obtain ⟨T17,k17⟩:=T16.gF (λb o n e=>kk17 b o yaz n e) S17.tb;have A17:=A16.k4 k17 T17;rw[zjO SS.T]at hP17;clear AF SE A16 A15 A14 hV hC SB hO hT16 hg T16 k16 k17 k016 hB h15 s15 hD2 n13 N13 S17 kk17 cap hfl T17;intro N14 n14;refine ⟨_,rfl,_,_,rfl,.inr (SqT.of A17.L.S.tr),_,rfl,by rw[el];lia,by rw[el];lia,λD3 hD3=>?_⟩;rw[el,ya5];have rowz:∀ k,k<ps.length+1->(zar rows k).length<=63:=λk hk=>yax (zh4 (zm9 (by rw[SS.len];exact hk))) SS.keys;refine zdr (n:=ps.length+1) (λi U H2=>∃(x0:Option V) (us:List V),U=[x0,some (.ref rs),some (.int key)]/\H2 D3=some (.lst us)/\zam K H2 ((List.range i).map λk:Nat=>((k:Int),((ownB rows k key:Nat):Int))) us/\But D3 H17 H2) ?_ ?_ ?_
 .exact ⟨_,[],rfl,zab,.nil,λb o n e=>by rw[zag n];exact e⟩
 .rintro i m U H2 hm hi ⟨x0,us,rfl,h2,hA2,k2⟩;rw[ybv];have s2:Same H17 H2:=λb o e=>k2 b o (zac e hD3) e;have S2:=A17.L.S.same s2;obtain ⟨b,hb1,hb2⟩:=S2.at_.get (k:=i) (by rw[SS.len];exact hi);refine zdn ?_;refine ⟨_,rfl,_,rfl,_,rfl,_,_,_,_,rfl,rfl,SqT.of S2.rs,zct hb1,b,rfl,⟨_,SqT.of hb2⟩,λD4 hD4=>?_⟩;refine zrf hb2 hD4 (rowz i hi) rfl λH3 s3 h3=>?_;refine ⟨_,_,rfl,.inl (SqL.of h3),(by show 2<=sizeLine;decide),λu hu=>?_⟩;rw[yab,show ((zar rows i).filter λx=>decide (x<key)).length=ownB rows i key from rfl];have su:=zak hu (.tup [.int (i:Int),.int ((ownB rows i key:Nat):Int)]);have s2u:=s3.trans su;have h2u:=s2u _ _ h2;have hul:=hA2.length;rw[yab,yaL]at hul;refine ⟨us,h2u,zao .(a),m-1,by lia,by lia,_,us++[.ref u],rfl,zab,?_,λb o n e=>by rw[zag n];exact s2u _ _ (k2 b o n e)⟩;rw[ybg,yal];exact zbu h2u ((hA2.mono s2u.ext).append (.one ⟨u,_,_,rfl,zab,rfl,rfl⟩))
 rintro U H18 ⟨x0',us,rfl,h18,hA18,k18⟩;have s18:Same H17 H18:=λb o e=>k18 b o (zac e hD3) e;have A18:=A17.same s18;have h2:=s18 _ _ h17;have hP18:=ze6 (λb us e=>s18 _ _ e) hP17;refine n14 _ _ ?_;clear A17 h17 hP17 s18 k18 hD3 n14 N14;have hzl:=Paired.length hP18;rw[yaL]at hzl;refine ⟨λU' H'=>U'=[some (.ref d),some (.ref sh),some (.ref t),some (.ref rs),some (.ref wa),some (.int key),some (.ref D),some (.ref pf),some (.ref st2),some (.ref D1),some (.ref D2),some (.ref D3)]/\Same H18 H',?_,?_⟩
 .intro N15 n15;refine ⟨_,rfl,D2,rfl,⟨_,SqL.of h2⟩,λD4 hD4=>?_⟩;refine zbR (xs:=zs2) (λi U H2=>∃(x0 x1 x2:Option V) (vs:List V),U=[x0,x1,x2]/\H2 D4=some (.lst vs)/\zam K H2 ((List.range i).map λk:Nat=>((k:Int),((ownB rows k key:Nat):Int))) vs/\But D4 H18 H2) ?_ ?_ ?_ ?_
  .exact ⟨_,_,_,[],rfl,zab,.nil,λb o n e=>by rw[zag n];exact e⟩
  .rintro i U H2 _ ⟨x0,x1,x2,vs,rfl,_,_,k2⟩;exact k2.sq (SqL.of h2) hD4
  .rintro i m x U H2 hx hm ⟨x0,x1,x2,vs,rfl,g2,hA2,k2⟩;have hi:=(yaj.mp hx).1;have s2:Same H18 H2:=λb o e=>k2 b o (zac e hD4) e;obtain ⟨v',hv',tr⟩:=zeD hP18 (a:=i) (i:=i) (ya7 .(a));rw[hx]at hv';cases hv'
   obtain ⟨t3,rfl,ht3⟩:=tr;have ht2:=s2 _ _ ht3;refine ⟨t3,_,rfl,SqT.of ht2,rfl,_,_,rfl,_,_,rfl,_,_,rfl,rfl,zmJ (iteT ?_)⟩;refine ⟨_,rfl,_,rfl,(by show 2<=sizeLine;decide),λu hu=>?_⟩;have su:=zak hu (.tup [.int (i:Int),.int ((ownB rows i key:Nat):Int)]);have h2u:=su _ _ g2;have hul:=hA2.length;rw[yab,yaL]at hul;refine ⟨vs,h2u,zao .(a),m-1,by lia,by lia,_,_,_,vs++[.ref u],rfl,zab,?_,λb o n e=>by rw[zag n];exact su _ _ (k2 b o n e)⟩;rw[ybg,yal];exact zbu h2u ((hA2.mono su.ext).append (.one ⟨u,_,_,rfl,zab,rfl,rfl⟩))
  rintro U H19 ⟨y0,y1,y2,vs,rfl,g9,hA9,k9⟩;rw[<-hzl]at hA9;have s9:Same H18 H19:=λb o e=>k9 b o (zac e hD4) e;refine ⟨_,rfl,_,_,⟨D4,vs,rfl,SqL.of g9,hA9⟩,⟨D3,us,rfl,SqL.of (s9 _ _ h18),hA18.mono s9.ext⟩,_,rfl,?_⟩;exact zjq rfl (n15 _ _ ⟨rfl,s9⟩)
 rintro _ H19 ⟨rfl,s19⟩;have A19:=A18.same s19;clear A18 h18 hA18 h2 hP18 s19 hzl;obtain ⟨zs,hD,hA⟩:=A19.D;have hlz:=hA.length;rw[yab]at hlz;refine ⟨_,rfl,D,rfl,⟨_,SqL.of hD⟩,λD5 hD5=>?_⟩;refine zbR (xs:=zs) (λi U H2=>∃(x0 x1:Option V),U=[x0,x1]/\H2 D5=some (.lst (((wy.take i).map λk:Nat=>((ownB rows k key:Nat):Int)).map V.int))/\But D5 H19 H2) ?_ ?_ ?_ ?_
 .exact ⟨_,_,rfl,zab,λb o n e=>by rw[zag n];exact e⟩
 .rintro i U H2 _ ⟨x0,x1,rfl,_,k2⟩;exact k2.sq (SqL.of hD) hD5
 .rintro i m x U H2 hx hm ⟨x0,x1,rfl,h2,k2⟩;have hi:=(yaj.mp hx).1;have hiw:i<wy.length:=by lia
  have s2:Same H19 H2:=λb o e=>k2 b o (zac e hD5) e;obtain ⟨e,he,b,x1',x2',rfl,hb,e1,e2⟩:∃ e,(wy.map λk=>(((zaz (zaf ps rows k) key:Nat):Int),((ownB rows k key:Nat):Int)))[i]?=some e/\hasP K H19 e x:=zdM hA hx;rw[yam,yac hiw]at he;cases he
  have e2':x2'=.int ((ownB rows wy[i] key:Nat):Int):=e2;subst e2';refine ⟨b,_,rfl,SqT.of (s2 _ _ hb),rfl,_,_,rfl,_,_,rfl,rfl,zmJ (iteT ?_)⟩;refine ⟨_,rfl,_,h2,zao (by rw[yab,yab,yao];lia),m-1,by lia,by lia,_,_,rfl,?_,λb o n e=>by rw[zag n];exact k2 b o n e⟩;rw[zab,yaF hiw,yal,yal];rfl
 rintro U H20 ⟨y0,y1,rfl,h20,k20⟩;rw[<-hlz,yas (yaa _)]at h20;have s20:Same H19 H20:=λb o e=>k20 b o (zac e hD5) e;have A20:=A19.same s20;clear A19 hD hA s20 k20 hD5 hlz;have W20:=A20.L.W;refine ⟨_,rfl,wa,rfl,⟨_,SqL.of W20.at_⟩,λD6 hD6=>?_⟩;refine zbR (xs:=wy.map nV) (λi U H2=>∃(x0:Option V),U=[x0,some (.ref rs),some (.int key)]/\H2 D6=some (.lst (((wy.take i).map λk:Nat=>((ownB rows k key:Nat):Int)).map V.int))/\But D6 H20 H2) ?_ ?_ ?_ ?_
 .exact ⟨_,rfl,zab,λb o n e=>by rw[zag n];exact e⟩
 .rintro i U H2 _ ⟨x0,rfl,_,k2⟩;exact k2.sq (SqL.of W20.at_) hD6
 .rintro i m x U H2 hx hm ⟨x0,rfl,h2,k2⟩;have hi:=(yaj.mp hx).1;rw[yab]at hi hm;rw[zgC hi]at hx;obtain rfl:=yae hx;have hkn:=W20.kn _ (zmw hi);rw[zo5 hi];generalize wy.getD i 0=k at hkn ⊢;have s2:Same H20 H2:=λb o e=>k2 b o (zac e hD6) e;have S2:=A20.L.S.same s2;obtain ⟨b,hb1,hb2⟩:=S2.at_.get (k:=k) (by rw[SS.len];exact hkn);refine zdn ?_;refine ⟨_,rfl,_,rfl,_,_,_,_,rfl,rfl,SqT.of S2.rs,zct hb1,b,rfl,⟨_,SqT.of hb2⟩,λD4 hD4=>?_⟩;refine zrf hb2 hD4 (rowz k hkn) rfl λH3 s3 h3=>?_;refine ⟨_,_,rfl,.inl (SqL.of h3),_,s3 _ _ h2,zao (by rw[yab,yab,yao];lia),m-1,by lia,by rw[yab];lia,_,rfl,?_,λb o n e=>by rw[zag n];exact s3 _ _ (k2 b o n e)⟩;rw[zab,yal,yal,yab];rfl
 rintro U H21 ⟨z0,rfl,h21,k21⟩;rw[yab,yas (yaa _)]at h21;have s21:Same H20 H21:=λb o e=>k21 b o (zac e hD6) e;refine ⟨_,_,⟨D5,_,rfl,SqL.of (s21 _ _ h20),zam.ints⟩,⟨D6,_,rfl,SqL.of h21,zam.ints⟩,?_⟩;rw[yai (Eq.refl _)];exact q _ (A20.same s21).L.N
theorem zl7 {K:Frag}{sh dx st:Addr}{t:Addr}{Q:VK}{E:XK}(S:za1 H st ps rows t rs as)(hsh:H sh=none)(hdx:H dx=none)(hne:dx≠sh)
  (q:∀(p:Addr) (qs:List Addr) (H':Hp),H p=none->(∀ q∈qs,H q=none)->Same H H'->zaW K CS H' sh dx st p qs ps rows t rs as->Q .non H'):zmY K CS [.ref sh,.ref st] (upd (upd H dx (.own sh)) sh (.ins CS dx [])) Q E:=by
 have s1:=zak hdx (.own sh);have hsh1:upd H dx (.own sh) sh=none:=by rw[zag (Ne.symm hne)];exact hsh
 have s2:=zak hsh1 (.ins CS dx []);have s12:=s1.trans s2;refine ⟨sh,dx,st,ps,rows,t,rs,as,rfl,s2 _ _ zab,zab,S.same s12,λp qs H' hp hq hb S'=>?_⟩;exact q p qs H' (s12.free hp) (λx hx=>s12.free (hq x hx)) (λb o e=>hb b o (zac e hsh) (s12 _ _ e)) S'
def ziZ (K:Frag)(m0 mF mS mL:Addr):Sp:=λvs H Q _=>∃(a:Addr) (ns:List Int),vs=[.ref a]/\SqL K H a (ns.map V.int)/\ns.length<=63/\[m0,mF,mS,mL].Nodup/\H m0=some (.tbl #[])/\H mF=some (.tbl #[])/\H mS=some (.tbl #[])/\H mL=some (.tbl #[])/\∀ H',Q (.bl true) H'
theorem ztw (T:Txt K mg)(O:OwnC K mg CS)(qfp:DF K mg "law" zpl zld)(qeF:FC P w K mg base 1 "_law_begin" zez (zm3 K))(qae:FC P w K mg base 2 "_law_take" zbx (ze8 K))(qeG:FC P w K mg base 6 "_law_stand" zew (zk0 K))(qfq:FI P w K mg base CS 9 zbG (zmY K CS))(qcR:FC P w K mg base 11 "_law_looked" zdJ (zkW K CS m0 mF mS mL))(qfb:FC P w K mg base 9 "_law_done" zfr (zqQ K CS m0 mF mS mL))(qaw:FM P w K mg base CS 1 "stand" zbs (zhQ CS)):FC P w K mg base 12 "law" zld (ziZ K m0 mF mS mL):=by
 refine qfp.ok qdj .(c) .(b)
 .obtain ⟨a,ns,rfl,_⟩:=h;rfl
 obtain ⟨a,ns,rfl,hS,_,hnd,hm0,hmF,hmS,hmL,q⟩:=h;have hT0:Tab4 m0 mF mS mL H:=⟨⟨#[],hm0,trivial,.inl rfl⟩,⟨#[],hmF,trivial,.inl rfl⟩,⟨#[],hmS,trivial,.inl rfl⟩,⟨#[],hmL,trivial,.inl rfl⟩,⟨#[],hmL,trivial,.inl rfl⟩,hnd⟩;refine ⟨_,(zaI (zaq (i:=1) qdj.nd rfl (Or.inl rfl) (zax qeF hr (zaa (pv 0) zad)))
   (zaI (zaq (i:=2) qdj.nd rfl (Or.inl rfl) (zuq qfq hr O.mgC (zaa (zax qeG hr (zaa (pv 1) (zaa zai (zaa zai zad)))) zad)))
   (zbO (za3 (zcH (zcn (zax qcR hr (zaa (pv 1) (zaa (pv 2) zad))))) (zae (zaw zeJ)) zaD)
   (zaI (zbr PassesOwn.never rfl (zbQ rfl T.qax (zaa (zaG zbn zai (zax qae hr (zaa (pv 1) (zaa zai zad)))) zad)) (zas (i:=3) qdj.nd rfl (Or.inl rfl)) (zaI (zaq (i:=4) qdj.nd rfl (Or.inl rfl) (zlf qaw O.cl hr (pv 2)))
   (zbO (za3 (PW.pt (zgI (zcH (zcn (zax qfb hr (zaa (pv 1) (zaa (pv 2) zad))))) (zeT (zau (zfU (Tup (Option Int)×Tup (Tup Int)) (huD hr)) (zlf qaw O.cl hr (pv 2)) (pv 4) (zaH _))))) (zae (zaw zeJ)) zaD)
   (zae (za3 (zcH (zcn (zax qcR hr (zaa (pv 1) (zaa (pv 2) zad))))) (zae (zaw zeJ)) zaD)))))
   (zae (zaw zeJ)))))),?_⟩
 intro N1 n1;refine ⟨_,rfl,a,ns,rfl,hS,λd H1 _ g1 s1=>n1 _ _ ?_⟩;intro N2 n2;refine ⟨_,rfl,d,a,7,5,rfl,by decide,by decide,by decide,by decide,s1,λst ps rows t rs as H2 _ S2 hl hk k2 s2=>?_⟩;have T2:=(hT0.ext g1.ext).ext (s1.ext k2);intro sh dx hsh hdx hne;refine zl7 S2 hsh hdx hne λp qs H3 hp _ s3 S3=>⟨rfl,n2 _ _ ?_⟩;have M3:SNow K CS m0 mF mS mL a H3 d sh p qs ps rows:=.new s2 T2 s3 hsh hp S3;refine ⟨λU' H'=>U'=[some (.ref a),some (.ref d),some (.ref sh),none,none]/\SNow K CS m0 mF mS mL a H' d sh p qs ps rows,?_,?_⟩
 .intro N4 n4;exact ⟨_,rfl,_,rfl,d,a,sh,p,qs,ps,rows,rfl,M3,by lia,λH4 M4=>⟨_,rfl,iteF (n4 _ _ ⟨rfl,M4⟩)⟩⟩
 clear M3 S3 S2 T2 k2 s2 s3;rintro _ H4 ⟨rfl,M4⟩;intro N5 n5;refine ⟨_,rfl,d,a,9,rfl,by decide,M4.lsH,λv H5 v0 v1 k5 s5=>⟨_,_,rfl,rfl,_,rfl,by lia,by lia,?_⟩⟩;have M5:=M4.take k5 s5;refine zbA (n:=(6+v).toNat) (λi U HA=>∃(x3 x4:Option V) (qs:List Addr) (ps:List Nat) (rows:List (List Int)),U=[some (.ref a),some (.ref d),some (.ref sh),x3,x4]/\SNow K CS m0 mF mS mL a HA d sh p qs ps rows/\ps.length<=6+i/\zbz rows<=35+i) ?_ ?_ ?_
 .exact ⟨_,_,qs,ps,rows,rfl,M5,by lia,by lia⟩
 .clear M4 M5 hl hk k5 s5;rintro i U HA hi ⟨x3,x4,qs,ps,rows,rfl,MA,hl,hk⟩;refine zux λN B R hN hB hR=>?_;intro N6 n6;obtain ⟨dx,st,t,rs,as,S⟩:=MA.shelf;refine ⟨_,rfl,sh,dx,_,rfl,S.ins,rfl,sh,dx,st,p,rfl,S.ins,n6 _ _ ?_⟩;refine ⟨λU' H'=>∃(x3:Option V) (qs':List Addr) (ps':List Nat) (rows':List (List Int)),U'=[some (.ref a),some (.ref d),some (.ref sh),x3,some (.ref st)]/\SNow K CS m0 mF mS mL a H' d sh p qs' ps' rows'/\ps'.length<=7+i/\zbz rows'<=36+i,?_,?_⟩
  .intro N7 n7;refine ⟨_,rfl,_,rfl,d,a,sh,p,qs,ps,rows,rfl,MA,by lia,by lia,λb qs' ps' rows' HB MB TB b1 b2 b3=>⟨_,rfl,?_⟩⟩;cases b with
   | true=>exact iteF (iteF (n7 _ _ ⟨_,qs',ps',rows',rfl,MB,by lia,by lia⟩))
   | false=>
    obtain ⟨rfl,rfl⟩:=b3 rfl;obtain ⟨dx',st',t',rs',as',S'⟩:=MB.shelf;refine iteT ⟨_,rfl,sh,dx',_,rfl,S'.ins,rfl,sh,dx',st',p,rfl,S'.ins,_,rfl,ziV ps' rows',ziV ps' rows',zgE S'.stand,zgE (zbB TB S.stand),_,rfl,?_⟩;exact zjq rfl (n7 _ _ ⟨_,qs',ps',rows',rfl,MB,by lia,by lia⟩)
  rintro _ HB ⟨x3',qs',ps',rows',rfl,MB,h1,h2⟩;exact ⟨_,rfl,_,rfl,d,a,sh,p,qs',ps',rows',rfl,MB,by lia,λHC MC=>⟨_,rfl,iteF (hN _ _ ⟨_,_,qs',ps',rows',rfl,MC,by lia,by lia⟩)⟩⟩
 .rintro U HA ⟨x3,x4,qs,ps,rows,rfl,_⟩;exact n5 _ _ (q _)
abbrev lawRoom:Nat:=12
theorem all_ok (T:Txt K mg){qab qan qar qag qad qaa qac qao qas qat:Addr}(CL:Cls K mg qab qan qar qag qad qaa qac qao qas qat)(O:OwnC K mg CS){mc6 mp6 mc34 mp34 mc38 mp38 mc52 mp52:Addr}(hBM:BMAt mg base)(qbM:DF K mg "is_whole" zep zcI)(qc7:DF K mg "is_key" zgk zd3)(qbQ:DF K mg "need_key" zeo zdI)(qeA:DF K mg "code" zk6 zia)(qaz:DF K mg "how_many_below" zbU zbh)(qdb:DFT K mg "place" zfK zdG mc6 mp6)(qbp:DF K mg "joined_up" zdx zco)(qaQ:DF K mg "lowest_unlike" zb8 zbX)(qc1:DF K mg "turned" zgb zfm)(qc2:DF K mg "labels" zge zfo)(qa9:DF K mg "neighbours" zcZ zcd)(qba:DF K mg "least_free" zc0 zcw)(qcp:DF K mg "colours" zfh zeA)(qdE:DF K mg "marks" zhZ zgp)(qc3:DF K mg "handed" zgl zd4)(qaG:DF K mg "is_one_of_first" zbC zaU)(qcw:DF K mg "tree_of" zfc zeu)(qbu:DF K mg "need_knot" zdw zb4)(qbK:DF K mg "children" zeq zcJ)(qcq:DF K mg "beneath" zfj zeC)(qc8:DF K mg "is_way" zgj zfs)(qbO:DF K mg "need_way" zen zdH)(qdd:DF K mg "row_of" zgd zfn)(qaU:DF K mg "long_together" zb9 za7)(qbR:DF K mg "stand_of" zem zdF)(qbS:DF K mg "with_row" zek zb0)(qa2:DF K mg "own_entries" zcu zck)(qaB:DF K mg "full_rows_beneath" zbo zbf)(qbr:DF K mg "full_rows" zdy zb5)(qcs:DF K mg "owns_of" zfd zev)(qbt:DF K mg "starts_of" zdv zc7)(qbc:DF K mg "bridges_of" zc2 zce)(qct:DF K mg "bridges" zfi zeB)(qaP:DFT K mg "first_place" zbD zbP mc34 mp34)(qbP:DF K mg "start_in" zel zdz)(qaV:DF K mg "next_place" zcY zcc)(qc9:DF K mg "search" zgc zd2)(qaA:DFT K mg "search_for_key" za6 zbE mc38 mp38)(qaL:DF K mg "search_beneath" zbT zbF)(qcu:DF K mg "without" zfb zet)(qcn:DF K mg "_law_begin" zfg zez)(qcm:DF K mg "_law_mixed" zff zex)(qc0:DF K mg "_law_take" zgg zbx)(qdD:DF K mg "_law_key" zh2 zey)(qc4:DF K mg "_law_tree" zgf zfp)(qdF:DF K mg "_law_row" zh1 zgr)(qc6:DF K mg "_law_rows" zgh zfq)(qbf:DF K mg "_law_children" zc1 zcx)(qdH:DF K mg "_law_way" zh0 zgq)(qcx:DF K mg "_law_stand" zfe zew)(qde:DF K mg "_law_done" zgi zfr)(qa0:DFT K mg "_law_looked" zci zdJ mc52 mp52)(qfp:DF K mg "law" zpl zld)(qaM:DI K CS "Shelf.__init__" zbW zbG)(qaT:DM K CS "row_for" "Shelf.row_for" zca zaV)(qaN:DM K CS "carry_up" "Shelf.carry_up" zbV zaS)(qaH:DM K CS "put" "Shelf.put" zcF zb6)(qaJ:DM K CS "out" "Shelf.out" zcG zb7)(qbi:DM K CS "hang" "Shelf.hang" zc3 zcy)(qa4:DM K CS "stand" "Shelf.stand" zcv zbs)(qbg:DM K CS "full" "Shelf.full" zc4 zcz)(qbh:DM K CS "find" "Shelf.find" zc5 zcA):FC P w K mg base 12 "law" zld (ziZ K mp6 mp34 mp38 mp52):=
 have m:=zpH (P:=P) (w:=w) (base:=base) T qcm;have t:=zrT T qc0 m;have c:=zr5 (P:=P) (w:=w) (base:=base) T qeA;have nb:=zij (P:=P) (w:=w) (base:=base) T qa9;have mk:=zpI T qdE (znF T qc2 c (znx T qc1 (ztv T qaQ))) (zlY T qcp nb (zik T qba)) nb;have hd:=znH T qc3 mk;have ch:=zj8 (P:=P) (w:=w) (base:=base) T qbK;have jo:=znG (P:=P) (w:=w) (base:=base) T qbp;have fr:=zty T qaB (zl0 T qcq) ch hd (ztt T qa2) jo;have fu:=zpO T qbr fr;have bo:=zr6 T qbc ch (zny T qbt) (zrV T qcs);have br:=zlZ T qct fu bo;have ky:=ztx T qdD t;have ls:=znD T qcx (zpJ T qc4 t) (zpK T qc6 t (zrZ T qdF t ky));have fi:=λ(b:Heap) (S:Sub K mg base b)=>zpQ (P:=P) (w:=w) (base:=b) T qaP (hBM.lift S) (λb' _=>zqZ (base:=b') T qaz);have se:=λ(b:Heap) (S:Sub K mg base b)=>znz (P:=P) (w:=w) (base:=b) (mp:=mp34) T qc9 (fi b S) (zpC T qbP) (znC T qaV);have be:=λ(b:Heap) (S:Sub K mg base b)=>zpS (P:=P) (w:=w) (base:=b) (mp:=mp34) T qaL (fi b S) (znC T qaV);have wh:=zpB (P:=P) (w:=w) (base:=base) T qbM;have one:=zpF T qaG wh;have nd:=zrX T qbO (zpM T qc8 one);have fk:=znI T qaA hBM bo se;have ik:=zpN T qc7 wh;have lg:=zr0 (P:=P) (w:=w) (base:=base) T qaU;have so:=zj7 T qbR (znA T qdd ik) lg;have kn:=zpL T qbu one;have nk:=zpG T qbQ ik;have rf:=znB T O qaT kn nk;have pl:=zpE (P:=P) (w:=w) (base:=base) T qdb hBM (λb=>zqZ (base:=b) T qaz);have wr:=zrS (P:=P) (w:=w) (base:=base) T qbS;have cu:=zpR T O qaN hd jo (zlW T qcu);have pu:=(zts T O qaH rf lg pl wr cu).fx.or (zrU T CL O qaH rf lg pl wr cu);have ou:=(ztu T O qaJ rf pl wr cu).fx.or (zrW T CL O qaJ rf pl wr cu);have sd:=zpD (P:=P) (w:=w) (base:=base) O qa4;have dn:=zr4 T CL O qde t ky sd pu ou (zr2 T O qbi kn).fx;have lk:=znE T O qa0 hBM t ky (zrY T qdH t (zjc T qbf)) sd (zpP T O qbg kn) (zr3 T O qbh nd fk) (zlX T qcw one) so fu br se be
 ztw T O qfp (zpT T qcn) t ls (zr1 T O qaM fu) lk dn sd
end
theorem u1 {P:List Value->Prop}(h:∀ a,P [a])(us:List Value)(hl:us.length=1):P us:=by
 rcases us with _|⟨a,_|⟨z,us⟩⟩
 .cases hl
 .exact h a
 .exact absurd hl .(h)
theorem u2 {P:List Value->Prop}(h:∀ a b,P [a,b])(us:List Value)(hl:us.length=2):P us:=by
 rcases us with _|⟨a,_|⟨b,_|⟨z,us⟩⟩⟩
 .cases hl
 .cases hl
 .exact h a b
 .exact absurd hl .(h)
theorem u3 {P:List Value->Prop}(h:∀ a b c,P [a,b,c])(us:List Value)(hl:us.length=3):P us:=by
 rcases us with _|⟨a,_|⟨b,_|⟨c,_|⟨z,us⟩⟩⟩⟩
 .cases hl
 .cases hl
 .cases hl
 .exact h a b c
 .exact absurd hl .(h)
theorem u4 {P:List Value->Prop}(h:∀ a b c d,P [a,b,c,d])(us:List Value)(hl:us.length=4):P us:=by
 rcases us with _|⟨a,_|⟨b,_|⟨c,_|⟨d,_|⟨z,us⟩⟩⟩⟩⟩
 .cases hl
 .cases hl
 .cases hl
 .cases hl
 .exact h a b c d
 .exact absurd hl .(h)
structure AD (K:Frag)(x:Str)(st:Stmt):Prop where
 ex:∃(f:Addr) (oc:Value) (od:Option Addr) (kV dc pm:Value) (an:Option Addr) (cd ct:Value) (sl:Array (Option Value)),nsIn K mainGlobals x=some (some (.ref f))/\K.lookup f=some ⟨oc,od,.func (fnOf x x (zcf st) (zbk st) (zah st) .none kV dc pm an cd ct),sl⟩/\codeIn K cd x=true/\keepIn K (.ref f)=true
theorem AD.of {K:Frag}{x:Str}{st:Stmt}{f:Addr}{oc:Value}{od:Option Addr}{kV dc pm:Value}{an:Option Addr}{cd ct:Value}{sl:Array (Option Value)}(a:nsIn K mainGlobals x=some (some (.ref f)))(l:K.lookup f=some ⟨oc,od,.func (fnOf x x (zcf st) (zbk st) (zah st) .none kV dc pm an cd ct),sl⟩)(c:codeIn K cd x=true)(k:keepIn K (.ref f)=true):AD K x st:=⟨f,oc,od,kV,dc,pm,an,cd,ct,sl,a,l,c,k⟩
theorem AD.df {K:Frag}{h:Heap}{mg:Str->Option Value}{st:Stmt}{ps:List Str}(a:AD K x st)(X:K.In h)(G:h.Ns mainGlobals mg)
  (hb:∀(kV doc pm:Value) (an:Option Addr) (cdv ct:Value) (us:List Value),us.length=ps.length->bindArgs (fnOf x x (zcf st) (zbk st) (zah st) .none kV doc pm an cdv ct) ⟨us,[]⟩=pure (ps.zip us):=by
   first|exact λ_ _ _ _ _ _=>u1 λ_=>rfl|exact λ_ _ _ _ _ _=>u2 λ_ _=>rfl|exact λ_ _ _ _ _ _=>u3 λ_ _ _=>rfl|exact λ_ _ _ _ _ _=>u4 λ_ _ _ _=>rfl|exact λ_ _ _ _ _ _=>u5 λ_ _ _ _ _=>rfl|exact λ_ _ _ _ _ _=>u6 λ_ _ _ _ _ _=>rfl):DF K mg x st ps:=by
 obtain ⟨f,oc,od,kV,dc,pm,an,cd,ct,sl,a,l,c,k⟩:=a.ex;exact ⟨_,_,zg1 l c k,(zg1 l c k).binds hb,mg_of X G a⟩
theorem AD.dft {K:Frag}{h:Heap}{mg:Str->Option Value}{st:Stmt}{ps:List Str}{mc mp:Addr}(a:AD K x st)(X:K.In h)(G:h.Ns mainGlobals mg)(t:tabIn K x=some (mc,mp))(hh:codeHdIn K mc mp=true)
  (hb:∀(kV doc pm:Value) (an:Option Addr) (cdv ct:Value) (us:List Value),us.length=ps.length->bindArgs (fnOf x x (zcf st) (zbk st) (zah st) .none kV doc pm an cdv ct) ⟨us,[]⟩=pure (ps.zip us):=by
   first|exact λ_ _ _ _ _ _=>u1 λ_=>rfl|exact λ_ _ _ _ _ _=>u2 λ_ _=>rfl|exact λ_ _ _ _ _ _=>u3 λ_ _ _=>rfl|exact λ_ _ _ _ _ _=>u4 λ_ _ _ _=>rfl|exact λ_ _ _ _ _ _=>u5 λ_ _ _ _ _=>rfl|exact λ_ _ _ _ _ _=>u6 λ_ _ _ _ _ _=>rfl):DFT K mg x st ps mc mp:=by
 obtain ⟨f,oc,od,kV,dc,pm,an,cd,ct,sl,a,l,c,k⟩:=a.ex;have e:cd=.ref mc:=L2.zpc a l t;subst e;exact ⟨⟨_,_,_,_,_,_,_,_,_,l,c,k,mg_of X G a,(zg1 l c k).binds hb⟩,hh⟩
structure AM (K:Frag)(C:Addr)(m q:Str)(st:Stmt):Prop where
 ex:∃(f:Addr) (oc:Value) (od:Option Addr) (kV dc pm:Value) (an:Option Addr) (cd ct:Value) (sl:Array (Option Value)),findIn K (.ref C) m=some (some (.ref f))/\PySem.W.isFn K (.ref f)=true/\K.lookup f=some ⟨oc,od,.func (fnOf m q (zcf st) (zbk st) (zah st) .none kV dc pm an cd ct),sl⟩/\codeIn K cd q=true/\keepIn K (.ref f)=true
theorem AM.of {K:Frag}{C:Addr}{m q:Str}{st:Stmt}{f:Addr}{oc:Value}{od:Option Addr}{kV dc pm:Value}{an:Option Addr}{cd ct:Value}{sl:Array (Option Value)}(a:findIn K (.ref C) m=some (some (.ref f)))(i:PySem.W.isFn K (.ref f)=true)(l:K.lookup f=some ⟨oc,od,.func (fnOf m q (zcf st) (zbk st) (zah st) .none kV dc pm an cd ct),sl⟩)(c:codeIn K cd q=true)(k:keepIn K (.ref f)=true):AM K C m q st:=⟨f,oc,od,kV,dc,pm,an,cd,ct,sl,a,i,l,c,k⟩
theorem AM.dm {K:Frag}{st:Stmt}{ps:List Str}(a:AM K C m q st)
  (hb:∀(kV doc pm:Value) (an:Option Addr) (cdv ct:Value) (us:List Value),us.length=ps.length->bindArgs (fnOf m q (zcf st) (zbk st) (zah st) .none kV doc pm an cdv ct) ⟨us,[]⟩=pure (ps.zip us):=by
   first|exact λ_ _ _ _ _ _=>u1 λ_=>rfl|exact λ_ _ _ _ _ _=>u2 λ_ _=>rfl|exact λ_ _ _ _ _ _=>u3 λ_ _ _=>rfl|exact λ_ _ _ _ _ _=>u4 λ_ _ _ _=>rfl|exact λ_ _ _ _ _ _=>u5 λ_ _ _ _ _=>rfl|exact λ_ _ _ _ _ _=>u6 λ_ _ _ _ _ _=>rfl):DM K C m q st ps:=by
 obtain ⟨f,oc,od,kV,dc,pm,an,cd,ct,sl,a,i,l,c,k⟩:=a.ex;exact ⟨_,_,zg1 l c k,(zg1 l c k).binds hb,⟨a,i,k⟩⟩
theorem AM.di {K:Frag}{q:Str}{st:Stmt}{ps:List Str}(a:AM K C "__init__" q st)(mk:PySem.W.makesIn K C=true)(kc:keepIn K (.ref C)=true)
  (hb:∀(kV doc pm:Value) (an:Option Addr) (cdv ct:Value) (us:List Value),us.length=ps.length->bindArgs (fnOf "__init__" q (zcf st) (zbk st) (zah st) .none kV doc pm an cdv ct) ⟨us,[]⟩=pure (ps.zip us):=by
   first|exact λ_ _ _ _ _ _=>u1 λ_=>rfl|exact λ_ _ _ _ _ _=>u2 λ_ _=>rfl|exact λ_ _ _ _ _ _=>u3 λ_ _ _=>rfl|exact λ_ _ _ _ _ _=>u4 λ_ _ _ _=>rfl|exact λ_ _ _ _ _ _=>u5 λ_ _ _ _ _=>rfl|exact λ_ _ _ _ _ _=>u6 λ_ _ _ _ _ _=>rfl):DI K C q st ps:=by
 obtain ⟨f,oc,od,kV,dc,pm,an,cd,ct,sl,a,i,l,c,k⟩:=a.ex;exact ⟨_,_,zg1 l c k,(zg1 l c k).binds hb,⟨mk,a,i,kc⟩⟩
theorem zt5 {l:OpenLaw}{K:Frag}{h:Heap}{mg:Str->Option Value}{fa mc6 mp6 mc34 mp34 mc38 mp38 mc52 mp52 qab qan qar qag qad qaa qac qao qas qat CS:Addr}(X:K.In h)(G:h.Ns mainGlobals mg)(hfa:mg "law" = some (.ref fa)){t_KNOT_NUMBERS:Tok}{t_TURNS:Tok}{t_MOST_KNOTS:Tok}{t_MOST_KEYS:Tok}{t_MOST_BEHIND_START:Tok}(a1:AD K "is_whole" zep)(a2:AD K "is_key" zgk)(a3:AD K "need_key" zeo)(a4:AD K "code" zk6)(a5:AD K "how_many_below" zbU)(a6:AD K "place" zfK)(a7:AD K "joined_up" zdx)(a8:AD K "lowest_unlike" zb8)(a9:AD K "turned" zgb)(a10:AD K "labels" zge)(a11:AD K "neighbours" zcZ)(a12:AD K "least_free" zc0)(a13:AD K "colours" zfh)(a14:AD K "marks" zhZ)(a15:AD K "handed" zgl)(a16:AD K "is_one_of_first" zbC)(a17:AD K "tree_of" zfc)(a18:AD K "need_knot" zdw)(a19:AD K "children" zeq)(a20:AD K "beneath" zfj)(a21:AD K "is_way" zgj)(a22:AD K "need_way" zen)(a23:AD K "row_of" zgd)(a24:AD K "long_together" zb9)(a25:AD K "stand_of" zem)(a26:AD K "with_row" zek)(a27:AD K "own_entries" zcu)(a28:AD K "full_rows_beneath" zbo)(a29:AD K "full_rows" zdy)(a30:AD K "owns_of" zfd)(a31:AD K "starts_of" zdv)(a32:AD K "bridges_of" zc2)(a33:AD K "bridges" zfi)(a34:AD K "first_place" zbD)(a35:AD K "start_in" zel)(a36:AD K "next_place" zcY)(a37:AD K "search" zgc)(a38:AD K "search_for_key" za6)(a39:AD K "search_beneath" zbT)(a40:AD K "without" zfb)(a41:AD K "_law_begin" zfg)(a42:AD K "_law_mixed" zff)(a43:AD K "_law_take" zgg)(a44:AD K "_law_key" zh2)(a45:AD K "_law_tree" zgf)(a46:AD K "_law_row" zh1)(a47:AD K "_law_rows" zgh)(a48:AD K "_law_children" zc1)(a49:AD K "_law_way" zh0)(a50:AD K "_law_stand" zfe)(a51:AD K "_law_done" zgi)(a52:AD K "_law_looked" zci)(a53:AD K "law" zpl)(t6:tabIn K "place" = some (mc6,mp6))(h6:codeHdIn K mc6 mp6=true)(t34:tabIn K "first_place" = some (mc34,mp34))(h34:codeHdIn K mc34 mp34=true)(t38:tabIn K "search_for_key" = some (mc38,mp38))(h38:codeHdIn K mc38 mp38=true)(t52:tabIn K "_law_looked" = some (mc52,mp52))(h52:codeHdIn K mc52 mp52=true)(o_C:nsIn K mainGlobals "Shelf" = some (some (.ref CS)))(o_g:PySem.W.plainGet K CS Str.empty=true)(o_h:PySem.W.hasDictIn K CS=true)(o_p:PySem.W.plainOver K CS=true)(o_s:findIn K (.ref CS) "__setattr__" = some (some (.builtin "object.__setattr__")))(o_m:PySem.W.makesIn K CS=true)(o_k:keepIn K (.ref CS)=true)(qfr:findIn K (.ref CS) "kept" = some none)(qfc:findIn K (.ref CS) "fulls" = some none)(qb6:AM K CS "__init__" "Shelf.__init__" zbW)(qcy:AM K CS "row_for" "Shelf.row_for" zca)(qb7:AM K CS "carry_up" "Shelf.carry_up" zbV)(qdK:AM K CS "put" "Shelf.put" zcF)(qdL:AM K CS "out" "Shelf.out" zcG)(qdp:AM K CS "hang" "Shelf.hang" zc3)(qdf:AM K CS "stand" "Shelf.stand" zcv)(qdq:AM K CS "full" "Shelf.full" zc4)(qdr:AM K CS "find" "Shelf.find" zc5)(qdg:nsIn K mainGlobals "BridgeError" = some (some (.ref qab)))(qfd:nsIn K mainGlobals "NoTree" = some (some (.ref qan)))(qfs:nsIn K mainGlobals "NoWay" = some (some (.ref qar)))(qeH:nsIn K mainGlobals "NoStand" = some (some (.ref qag)))(qeI:nsIn K mainGlobals "Twice" = some (some (.ref qad)))(qds:nsIn K mainGlobals "Missing" = some (some (.ref qaa)))(qdX:nsIn K mainGlobals "NoRoom" = some (some (.ref qac)))(qfe:nsIn K mainGlobals "NoKnot" = some (some (.ref qao)))(qft:nsIn K mainGlobals "NoKey" = some (some (.ref qas)))(qfu:nsIn K mainGlobals "Shelf" = some (some (.ref qat)))(qff:PySem.W.excIn K qad zo7 "ValueError.__new__" = true)(qeJ:findIn K (.ref qad) "__getattribute__" = some (some (.builtin "BaseException.__getattribute__")))(qeK:findIn K (.ref qad) "__getattr__" = some none)(qeL:findIn K (.ref qad) "__class__" = some (some (.builtin "object.__class__")))(qeM:mroIn K qad (.type "object")=some true)(qeN:mroIn K qad (.type "BaseException")=some true)(qeO:(PySem.W.clsIn K qad).isSome=true)(qeP:mroIn K qad (.ref qab)=some true)(qeQ:kitOne K (.ref qad) (.type "ValueError")=some true)(qbl:kitOne K (.ref qad) (.ref qab)=some true)(qcz:kitOne K (.ref qad) (.ref qan)=some false)(qcK:kitOne K (.ref qad) (.ref qar)=some false)(qb8:kitOne K (.ref qad) (.ref qag)=some false)(qcL:kitOne K (.ref qad) (.ref qad)=some true)(qb9:kitOne K (.ref qad) (.ref qaa)=some false)(qcA:kitOne K (.ref qad) (.ref qac)=some false)(qcB:kitOne K (.ref qad) (.ref qao)=some false)(qcM:kitOne K (.ref qad) (.ref qas)=some false)(qcN:kitOne K (.ref qad) (.ref qat)=some false)(qd7:PySem.W.excIn K qaa zo7 "ValueError.__new__" = true)(qdM:findIn K (.ref qaa) "__getattribute__" = some (some (.builtin "BaseException.__getattribute__")))(qdN:findIn K (.ref qaa) "__getattr__" = some none)(qdO:findIn K (.ref qaa) "__class__" = some (some (.builtin "object.__class__")))(qdP:mroIn K qaa (.type "object")=some true)(qdQ:mroIn K qaa (.type "BaseException")=some true)(qdR:(PySem.W.clsIn K qaa).isSome=true)(qdS:mroIn K qaa (.ref qab)=some true)(qdT:kitOne K (.ref qaa) (.type "ValueError")=some true)(qa6:kitOne K (.ref qaa) (.ref qab)=some true)(qbT:kitOne K (.ref qaa) (.ref qan)=some false)(qca:kitOne K (.ref qaa) (.ref qar)=some false)(qbC:kitOne K (.ref qaa) (.ref qag)=some false)(qcb:kitOne K (.ref qaa) (.ref qad)=some false)(qbD:kitOne K (.ref qaa) (.ref qaa)=some true)(qbU:kitOne K (.ref qaa) (.ref qac)=some false)(qbV:kitOne K (.ref qaa) (.ref qao)=some false)(qcc:kitOne K (.ref qaa) (.ref qas)=some false)(qcd:kitOne K (.ref qaa) (.ref qat)=some false)(qeR:PySem.W.excIn K qac zo7 "ValueError.__new__" = true)(qd8:findIn K (.ref qac) "__getattribute__" = some (some (.builtin "BaseException.__getattribute__")))(qd9:findIn K (.ref qac) "__getattr__" = some none)(qea:findIn K (.ref qac) "__class__" = some (some (.builtin "object.__class__")))(qeb:mroIn K qac (.type "object")=some true)(qec:mroIn K qac (.type "BaseException")=some true)(qed:(PySem.W.clsIn K qac).isSome=true)(qee:mroIn K qac (.ref qab)=some true)(qef:kitOne K (.ref qac) (.type "ValueError")=some true)(qbj:kitOne K (.ref qac) (.ref qab)=some true)(qce:kitOne K (.ref qac) (.ref qan)=some false)(qcC:kitOne K (.ref qac) (.ref qar)=some false)(qbW:kitOne K (.ref qac) (.ref qag)=some false)(qcD:kitOne K (.ref qac) (.ref qad)=some false)(qbX:kitOne K (.ref qac) (.ref qaa)=some false)(qcf:kitOne K (.ref qac) (.ref qac)=some true)(qcg:kitOne K (.ref qac) (.ref qao)=some false)(qcE:kitOne K (.ref qac) (.ref qas)=some false)(qcF:kitOne K (.ref qac) (.ref qat)=some false)(ug1:PySem.W.specialIn K (.builtin "object.__class__") "__get__" = some (some (.builtin "getset_descriptor.__get__")))(ug2:PySem.W.takesIn K (.builtin "object.__class__")=some true)(ub1:(PySem.W.clsIn K qab).isSome=true)(ub2:PySem.W.typeIn K (.ref qab)=some (.type "type"))(ub3:mroIn K qab (.type "BaseException")=some true)(qfZ:nsIn K mainGlobals "abs" = some none)(qfH:nsIn K mainGlobals "bool" = some none)(qfI:nsIn K mainGlobals "dict" = some none)(qdU:nsIn K mainGlobals "enumerate" = some none)(qf0:nsIn K mainGlobals "int" = some none)(qdt:nsIn K mainGlobals "isinstance" = some none)(qf1:nsIn K mainGlobals "len" = some none)(qfJ:nsIn K mainGlobals "list" = some none)(qf2:nsIn K mainGlobals "max" = some none)(qf3:nsIn K mainGlobals "min" = some none)(qfv:nsIn K mainGlobals "range" = some none)(qeg:nsIn K mainGlobals "reversed" = some none)(qf4:nsIn K mainGlobals "set" = some none)(qfg:nsIn K mainGlobals "sorted" = some none)(qf5:nsIn K mainGlobals "sum" = some none)(qfw:nsIn K mainGlobals "tuple" = some none)(qf6:nsIn K mainGlobals "zip" = some none)(qcO:nsIn K mainGlobals "KNOT_NUMBERS" = some (some (.int 64 t_KNOT_NUMBERS)))(qfx:nsIn K mainGlobals "TURNS" = some (some (.int 5 t_TURNS)))(qdu:nsIn K mainGlobals "MOST_KNOTS" = some (some (.int 40 t_MOST_KNOTS)))(qdV:nsIn K mainGlobals "MOST_KEYS" = some (some (.int 300 t_MOST_KEYS)))(qbw:nsIn K mainGlobals "MOST_BEHIND_START" = some (some (.int 2 t_MOST_BEHIND_START))) :
  ∃ fd:FuncData,(∀(s:Shared) (v:Value),BindsTo s fd ⟨[v],[]⟩ [("_law_script",v)])/\∀ base:Heap,K.In base->base.Ns mainGlobals mg->L2.BMAt mg base->FnOk l.prog w K mg base CX0 lawRoom fa fd ["_law_script"] (ziZ K mp6 mp34 mp38 mp52):=by
 obtain ⟨f,oc,od,kV,dc,pm,an,cd,ct,sl,a,l,c,k⟩:=a53.ex;have e:=hfa.symm.trans (mg_of X G a);cases e
 have T:Txt K mg:=⟨mg_none_of X G qfZ,mg_none_of X G qfH,mg_none_of X G qfI,mg_none_of X G qdU,mg_none_of X G qf0,mg_none_of X G qdt,mg_none_of X G qf1,mg_none_of X G qfJ,mg_none_of X G qf2,mg_none_of X G qf3,mg_none_of X G qfv,mg_none_of X G qeg,mg_none_of X G qf4,mg_none_of X G qfg,mg_none_of X G qf5,mg_none_of X G qfw,mg_none_of X G qf6,⟨_,mg_of X G qcO⟩,⟨_,mg_of X G qfx⟩,⟨_,mg_of X G qdu⟩,⟨_,mg_of X G qdV⟩,⟨_,mg_of X G qbw⟩⟩;have CL:Cls K mg qab qan qar qag qad qaa qac qao qas qat:=⟨mg_of X G qdg,mg_of X G qfd,mg_of X G qfs,mg_of X G qeH,mg_of X G qeI,mg_of X G qds,mg_of X G qdX,mg_of X G qfe,mg_of X G qft,mg_of X G qfu,⟨mg_of X G qeI,qff⟩,⟨qeJ,qeK,qeL,ug1,ug2,qeM,qeN,qeO⟩,⟨qeP,ub1,ub2,ub3⟩,qeQ,qbl,qcz,qcK,qb8,qcL,qb9,qcA,qcB,qcM,qcN,⟨mg_of X G qds,qd7⟩,⟨qdM,qdN,qdO,ug1,ug2,qdP,qdQ,qdR⟩,⟨qdS,ub1,ub2,ub3⟩,qdT,qa6,qbT,qca,qbC,qcb,qbD,qbU,qbV,qcc,qcd,⟨mg_of X G qdX,qeR⟩,⟨qd8,qd9,qea,ug1,ug2,qeb,qec,qed⟩,⟨qee,ub1,ub2,ub3⟩,qef,qbj,qce,qcC,qbW,qcD,qbX,qcf,qcg,qcE,qcF⟩;have O:OwnC K mg CS:=⟨⟨o_g,o_h,o_p,o_s⟩,mg_of X G o_C,qfr,qfc⟩;exact ⟨_,λs v=>.of_eq rfl,λbase _ _ hBM=>(all_ok (P:=_) (w:=w) (base:=base) T CL O hBM (a1.df X G) (a2.df X G) (a3.df X G) (a4.df X G) (a5.df X G) (a6.dft X G t6 h6) (a7.df X G) (a8.df X G) (a9.df X G) (a10.df X G) (a11.df X G) (a12.df X G) (a13.df X G) (a14.df X G) (a15.df X G) (a16.df X G) (a17.df X G) (a18.df X G) (a19.df X G) (a20.df X G) (a21.df X G) (a22.df X G) (a23.df X G) (a24.df X G) (a25.df X G) (a26.df X G) (a27.df X G) (a28.df X G) (a29.df X G) (a30.df X G) (a31.df X G) (a32.df X G) (a33.df X G) (a34.dft X G t34 h34) (a35.df X G) (a36.df X G) (a37.df X G) (a38.dft X G t38 h38) (a39.df X G) (a40.df X G) (a41.df X G) (a42.df X G) (a43.df X G) (a44.df X G) (a45.df X G) (a46.df X G) (a47.df X G) (a48.df X G) (a49.df X G) (a50.df X G) (a51.df X G) (a52.dft X G t52 h52) (a53.df X G) (qb6.di o_m o_k) (qcy.dm) (qb7.dm) (qdK.dm) (qdL.dm) (qdp.dm) (qdf.dm) (qdq.dm) (qdr.dm)).at (mg_of X G a) l⟩
theorem walk {l:OpenLaw}{q:Program}{loose:List Str}{XP:(Str->Option Value)->Heap->Prop}{YP:World->Heap->Prop}{d:DefRec}{K:Params->Frag}{mc6 mp6 mc34 mp34 mc38 mp38 mc52 mp52:Addr}(hn:l.most=some 63)(hdf:d.params.defaults=[])
  (hY:∀(w:World) (h:Heap),YP w h->(K w.params).In h) (hYT6:∀(w:World) (h:Heap),YP w h->h.get? mp6=some (PySem.W.tabObj #[])) (hC6:∀(w:World),codeHdIn (K w.params) mc6 mp6=true) (hD6:∀(w:World),(K w.params).lookup mp6=none) (hYT34:∀(w:World) (h:Heap),YP w h->h.get? mp34=some (PySem.W.tabObj #[])) (hC34:∀(w:World),codeHdIn (K w.params) mc34 mp34=true) (hD34:∀(w:World),(K w.params).lookup mp34=none) (hYT38:∀(w:World) (h:Heap),YP w h->h.get? mp38=some (PySem.W.tabObj #[])) (hC38:∀(w:World),codeHdIn (K w.params) mc38 mp38=true) (hD38:∀(w:World),(K w.params).lookup mp38=none) (hYT52:∀(w:World) (h:Heap),YP w h->h.get? mp52=some (PySem.W.tabObj #[])) (hC52:∀(w:World),codeHdIn (K w.params) mc52 mp52=true) (hD52:∀(w:World),(K w.params).lookup mp52=none) (hNE:[mp6,mp34,mp38,mp52].Nodup)
  (F:∀(w:World) (mg:Str->Option Value) (fa:Addr) (h:Heap),(K w.params).In h->h.Ns mainGlobals mg->mg d.name=some (.ref fa)->
   ∃ fd:FuncData,(∀(s:Shared) (u:Value),BindsTo s fd ⟨[u],[]⟩ [("_law_script",u)])/\∀ base:Heap,(K w.params).In base->base.Ns mainGlobals mg->L2.BMAt mg base->FnOk l.prog w (K w.params) mg base CX0 lawRoom fa fd ["_law_script"] (ziZ (K w.params) mp6 mp34 mp38 mp52)) :
  PySem.W.WalkO q loose XP YP l.row.toRowW d [] (λf vs=>PySem.call f vs):=
 L2.zo6 (n:=63) (k:=lawRoom) (x := "_law_script") (tabs:=[(mc6,mp6),(mc34,mp34),(mc38,mp38),(mc52,mp52)]) (sp:=λw=>ziZ (K w.params) mp6 mp34 mp38 mp52) hn .(i) hdf ⟨rfl,by decide,by decide,rfl⟩ hY (λw h Y q hq=>(yag.mp hq).elim (λz=>z ▸ hYT6 w h Y) (λhq=>(yag.mp hq).elim (λz=>z ▸ hYT34 w h Y) (λhq=>(yag.mp hq).elim (λz=>z ▸ hYT38 w h Y) (λhq=>(yag.mp hq).elim (λz=>z ▸ hYT52 w h Y) (λhq=>absurd hq yaz))))) (λw q hq=>(yag.mp hq).elim (λz=>z ▸ ⟨hC6 w,hD6 w⟩) (λhq=>(yag.mp hq).elim (λz=>z ▸ ⟨hC34 w,hD34 w⟩) (λhq=>(yag.mp hq).elim (λz=>z ▸ ⟨hC38 w,hD38 w⟩) (λhq=>(yag.mp hq).elim (λz=>z ▸ ⟨hC52 w,hD52 w⟩) (λhq=>absurd hq yaz))))) F (λ_ _ a ns hl hT hS=>⟨a,ns,rfl,hS,hl,hNE,hT _ yau,hT _ (yar _ yau),hT _ (yar _ (yar _ yau)),hT _ (yar _ (yar _ (yar _ yau))),λ_=>rfl⟩)
end My
open PySem PySem.W PyProof.Rows
namespace PySem.W.Fast
def tw16370690862854954340:=0
def tw14117082690067509705:=0
def tw7616371515465178007:=0
def tw9613150434594185082:=0
def tw7339997148710718948:=0
def tw2252192461645625665:=0
def tw7928617643432434620:=0
def tw6330874335861239915:=0
def tw11693809981707929522:=0
def tw7243581333025089406:=0
def tw6491267404066291654:=0
def tw926791126544165620:=0
def tw8616189415844310758:=0
def tw16979574606462547659:=0
def tw17709244927106886130:=0
def tw15465071815071161496:=0
def tw4942590951215606277:=0
def tw4715778549983501154:=0
def tw15802504111506732879:=0
def tw3907938389204793916:=0
def tw18350432835912338789:=0
def tw5392583085434611469:=0
def tw17584326189715124851:=0
def tw6253827566361426827:=0
def tw13926316260929435839:=0
def tw15500348087108804367:=0
def tw17309658274325033610:=0
def tw4600646953937701965:=0
def tw13452963858037179226:=0
def tw7886396283179518850:=0
def tw13261849386014756642:=0
def tw16925000421655021005:=0
def tw11024910092185191491:=0
def tw15696199938006089953:=0
def tw3214852849389332450:=0
def tw101510298542946838:=0
def tw1240309682172998696:=0
def tw11359536078866757424:=0
def tw12537563756070225320:=0
def tw10382651627611539521:=0
def tw10561381602964125239:=0
def tw3464699650357346900:=0
def tw215357471539649413:=0
def tw11180409264524449:=0
def tw15852261155319805000:=0
def tw2030927392233683971:=0
def tw14235226857791091390:=0
def tw17354009495241184021:=0
def tw8634426490024596950:=0
def tw4789677372299598367:=0
def tw11050366716339270967:=0
def tw11290377045768914586:=0
def tw9900317023908964500:=0
def tw15736864270470499012:=0
def tw12242966862029627273:=0
def tw3474486354540104786:=0
def tw17667305615554017116:=0
def tw1932138505160660011:=0
def tw16892194699396069764:=0
def tw13506551838267116995:=0
def tw5885053955070425341:=0
def tw6229323628064884902:=0
def tw16405301806112289967:=0
def tw14263687714126211063:=0
def tw11883746965621386203:=0
def tw15743507059492181480:=0
def tw12371426791107496048:=0
def tw476617836627414746:=0
def tw1466161787052895897:=0
def tw11643429980918125001:=0
def tw10989688687504807706:=0
def tw11185397892957682348:=0
def tw12895211230867196212:=0
def tw3859616198954093747:=0
def tw11469947303815512634:=0
def tw940495237017457405:=0
def tw1023920655431605083:=0
def tw13469223438202393040:=0
def tw17672525586242694077:=0
def tw9295813127931410875:=0
def tw10662865589506736469:=0
def tw4862659890345573480:=0
def tw18091219742805517659:=0
def tw14135139041645662097:=0
def tw14871029953624976353:=0
def tw12214565022519418335:=0
def tw5299121656588557228:=0
def tw3110945322719700268:=0
def tw6371251155285252603:=0
def tw14743673923766010267:=0
def tw3243333580813354722:=0
def tw3202051909649260630:=0
def tw14052123487954523469:=0
def tw9595555541321421057:=0
def tw17195121816284082129:=0
def tw8628459532774479625:=0
def tw16924779905162928202:=0
def tw8483687688337658880:=0
def tw1468147132889100380:=0
def tw7881006691568014628:=0
def tw15117089292465548863:=0
def tw398090513580063284:=0
def tw5644973106397319620:=0
def tw18187224207534471851:=0
def tw657739306189792749:=0
def tw2071738559919580954:=0
def tw6005734303119844312:=0
def tw14527827979825049246:=0
def tw12756290647639773810:=0
def tw4088687893885075189:=0
def tw8111702358938463776:=0
def tw10004061741024764213:=0
def tw18312055869345393593:=0
def tw10496022741840747055:=0
def tw13337688925878030538:=0
def tw4170804091661955740:=0
def tw2142190465212596378:=0
def tw13274851068988813788:=0
def tw10983951549493887991:=0
def tw18049558713403027543:=0
def tw11547222500059184179:=0
def tw16919890886842802985:=0
def tw4911383177724575990:=0
def tw12466865538690850030:=0
def tw4078875006404861600:=0
def tw7391787876909632416:=0
def tw13312145046900367773:=0
def tw1061141088236957607:=0
def tw2021149801050942132:=0
def tw11293910915345657870:=0
def tw15521523317915150405:=0
def tw11205390222296098223:=0
def tw778334311637185477:=0
def tw8814079230418853024:=0
def tw10215764092715334326:=0
def tw17110012402064175719:=0
def tw13163737269851914079:=0
def tw14876638493160236261:=0
def tw9324340728999289666:=0
def tw2532944653516385303:=0
def tw17498032159577314446:=0
def tw776671514839553349:=0
def tw14191059749135768019:=0
def tw11511238199596253190:=0
def tw12385054532118352205:=0
def tw554127729839422925:=0
def tw16967959164168870099:=0
def tw13754619536631923220:=0
def tw11983819670946247518:=0
def tw11610446790477769155:=0
def tw16005863339946787324:=0
def tw12730249923950469701:=0
def tw1822480109168174913:=0
def tw7239260155781722217:=0
def tw14614365085868754484:=0
def tw16232909302215126141:=0
def tw2009173165710618240:=0
def tw18432966549821704276:=0
def tw8568776980989096328:=0
def tw18354961475561396093:=0
def tw2259511296451390176:=0
def tw7745841453057727624:=0
def tw11898093249946796430:=0
def tw4606378545586107538:=0
def tw12116495598010122398:=0
def tw3916115060869941950:=0
def tw11927884440871547444:=0
def tw8914356360969830684:=0
def tw13987090187665517813:=0
def tw16019638479532323710:=0
def tw3895139750643548337:=0
def tw2606375292638203961:=0
def tw10758219168895544046:=0
def tw15174194804118249932:=0
def tw6409178432995997558:=0
def tw13328884742986823767:=0
def tw698801014272742437:=0
def tw1402256637330553823:=0
def tw3121476080400550956:=0
def tw5212034072413928330:=0
def tw9527683571650002827:=0
def tw9004258322445642909:=0
def tw8080634315859709347:=0
def tw3521037933931909082:=0
def tw16357823201500586522:=0
def tw15684137094894809437:=0
def tw15628900620854943097:=0
def tw13746648587029088852:=0
def tw2222725579881316345:=0
def tw17297188422692815756:=0
def tw12591700608425722798:=0
def tw3593693299125523424:=0
def tw6507740483872503066:=0
def tw17704378512684754047:=0
def tw9578891877328119633:=0
def tw6089573729537086728:=0
def tw12097535724927962520:=0
def tw10319541284339691908:=0
def tw7686271802941001418:=0
def tw4660567223844495001:=0
def tw14570680486051713876:=0
def tw7803038331538909744:=0
def tw5600755321857338404:=0
def tw12864254981255932820:=0
def tw11167069512118647645:=0
def tw9580620636237353735:=0
def tw5800009842974221602:=0
def tw13676630821092674020:=0
def tw458345579032679401:=0
def tw17136682451699190210:=0
def tw16031978854976366883:=0
def tw6189591937393951052:=0
def tw18071827066666218208:=0
def tw7386624812463696725:=0
def tw3673447232861624106:=0
def tw7333908420243969640:=0
def tw158416294552010980:=0
def tw11028032481657124754:=0
def tw9339456359430857021:=0
def tw18345898267248198347:=0
def tw13020477762318309002:=0
def tw14045086153979895317:=0
def tw6229666592286535828:=0
def tw15508986251284709549:=0
def tw10526970710454438844:=0
def tw5133345422188486290:=0
def tw17537254434883056209:=0
def tw12976934278521040401:=0
def tw9307540443166011253:=0
def tw1731946109460752699:=0
def tw6913709578260815571:=0
def tw16619540185676476338:=0
def tw14161235721674637423:=0
def tw11981836106381411659:=0
def tw5647486595148881211:=0
def tw8258586359514114740:=0
def tw5405939427255506682:=0
def tw2468291078195799962:=0
def tw7866273643130534638:=0
def tw3786611523413499687:=0
def tw235205895479844086:=0
def tw16285005653055551732:=0
def tw14342805866567394422:=0
def tw14089885729218427114:=0
def tw11775977983717031338:=0
def tw6075399365297625687:=0
def tw3747502452533997796:=0
def tw2421757734183626019:=0
def tw1517747231811469146:=0
def tw12624301549868466665:=0
def tw2829122335295580332:=0
def tw9076498266759338713:=0
def tw6220022803481545413:=0
def tw5301059572043523198:=0
def tw3612008920884853615:=0
def tw13451205940708586550:=0
def tw8569238276810621059:=0
def tw14177121921414992606:=0
def tw9910900003575301407:=0
def tw6512795642430978508:=0
def tw15499810997648669240:=0
def tw10721217175070031806:=0
def tw6243725001553055840:=0
def tw9309555103085565900:=0
def tw2977247326913534103:=0
def tw17594709886865578706:=0
def tw6423319912661948678:=0
def tw9528616097997734659:=0
def tw16695981802883179040:=0
def tw4902785226771010955:=0
def tw17842846240175673769:=0
def tw10568969919045010538:=0
def tw12139860745763174124:=0
def tw7416821161157740340:=0
def tw13769905732152441766:=0
def tw8069067622530077643:=0
def tw14040953258416090277:=0
def tw10295610665772783868:=0
def tw3253193937790261558:=0
def tw9836435301316348313:=0
def tw17123213391274705824:=0
def tw1563573084490448579:=0
def tw15599442512902862199:=0
def tw7375033758518156439:=0
def tw9540273690590932613:=0
def tw329453235702626598:=0
def tw12687857062017264195:=0
def tw10013937981064009014:=0
def tw1314819432217993414:=0
def tw10665453168970117117:=0
def tw7622981407613010818:=0
def tw5380467027077690534:=0
def tw8097353616550183509:=0
def tw7334826530050223641:=0
def tw16538187646816632218:=0
def tw13233915410082113898:=0
def tw17521560646906987555:=0
def tw2404774161484150177:=0
def tw6733864599748108537:=0
def tw14162635340278782695:=0
def tw10647542333616322828:=0
def tw1482558396458875676:=0
def tw13132480365388203307:=0
def tw3623584694461692665:=0
end PySem.W.Fast
set_option maxRecDepth 100000 in
set_option maxHeartbeats 0 in
theorem PySem.Challenge.cw_bridgefind_k74_whole_shelves_searched_holds : PySem.Challenge.rw_bridgefind_k74_whole_shelves_searched.Holds := by
 w_on; o_law; k_head; (case hw=>w_witness2)
 k_fill
 refine My.walk (l:=PySem.Challenge.rw_bridgefind_k74_whole_shelves_searched) (mc6:=164) (mp6:=160) (mc34:=338) (mp34:=334) (mc38:=366) (mp38:=362) (mc52:=535) (mp52:=533) rfl rfl (fun w h Y=>PySem.W.km_in_of Y) (fun w h Y=>PySem.W.km_tabs_of Y 160 (by decide)) (fun w=>by kernel_rfl) (fun w=>by kernel_rfl) (fun w h Y=>PySem.W.km_tabs_of Y 334 (by decide)) (fun w=>by kernel_rfl) (fun w=>by kernel_rfl) (fun w h Y=>PySem.W.km_tabs_of Y 362 (by decide)) (fun w=>by kernel_rfl) (fun w=>by kernel_rfl) (fun w h Y=>PySem.W.km_tabs_of Y 533 (by decide)) (fun w=>by kernel_rfl) (fun w=>by kernel_rfl) (by decide) ?F
 case F=>
  intro w mg fa h KX G hmg
  refine' My.zt5 (mc6:=164) (mp6:=160) (mc34:=338) (mp34:=334) (mc38:=366) (mp38:=362) (mc52:=535) (mp52:=533) KX G hmg ?_ ?_ ?_ ?_ ?_ ?_ ?_ ?_ ?_ ?_ ?_ ?_ ?_ ?_ ?_ ?_ ?_ ?_ ?_ ?_ ?_ ?_ ?_ ?_ ?_ ?_ ?_ ?_ ?_ ?_ ?_ ?_ ?_ ?_ ?_ ?_ ?_ ?_ ?_ ?_ ?_ ?_ ?_ ?_ ?_ ?_ ?_ ?_ ?_ ?_ ?_ ?_ ?_ ?_ ?_ ?_ ?_ ?_ ?_ ?_ ?_ ?_ ?_ ?_ ?_ ?_ ?_ ?_ ?_ ?_ ?_ ?_ ?_ ?_ ?_ ?_ ?_ ?_ ?_ ?_ ?_ ?_ ?_ ?_ ?_ ?_ ?_ ?_ ?_ ?_ ?_ ?_ ?_ ?_ ?_ ?_ ?_ ?_ ?_ ?_ ?_ ?_ ?_ ?_ ?_ ?_ ?_ ?_ ?_ ?_ ?_ ?_ ?_ ?_ ?_ ?_ ?_ ?_ ?_ ?_ ?_ ?_ ?_ ?_ ?_ ?_ ?_ ?_ ?_ ?_ ?_ ?_ ?_ ?_ ?_ ?_ ?_ ?_ ?_ ?_ ?_ ?_ ?_ ?_ ?_ ?_ ?_ ?_ ?_ ?_ ?_ ?_ ?_ ?_ ?_ ?_ ?_ ?_ ?_ ?_ ?_ ?_ ?_ ?_ ?_ ?_ ?_ ?_ ?_ ?_ ?_ ?_ ?_
  any_goals k_is
  all_goals first | refine' My.AD.of ?_ ?_ ?_ ?_ | refine' My.AM.of ?_ ?_ ?_ ?_ ?_ | skip
  any_goals k_is
  all_goals kernel_rfl

