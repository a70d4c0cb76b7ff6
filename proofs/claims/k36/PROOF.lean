import PyProof.Rows.All
import Wide.All
import OpenK.AllK
import Wide.FinOn
import PyProof.EqAt
import PyProof.EqKinds
import PyProof.TupleCall
import PyProof.NeKinds
import Lean
import PyProof.ExcBaseAll.ValueError
import PyProof.NsDelKeeps
import PyProof.ExcArgsOwn
import KE.KIsAll
import PyProof.FString
import PyProof.ReprRoads
import PyProof.CallStr
import PyProof.Rows.SeqMore2
import PyProof.ZipIter
import PyProof.TupleIter
import PyProof.EnumIter
import PySem.Challenge.RW_bridgefind_k36_papers_refused
set_option Elab.async false
set_option linter.all false
set_option maxRecDepth 100000
set_option maxHeartbeats 1000000
theorem zdA {i m n:Nat}(e:i+m=n)(h:i < n):m - 1 < m:=by omega
theorem zdB {i m n:Nat}(e:i+m=n)(h:i < n):i+1+(m - 1)=n:=by omega
local macro_rules | `(tactic| omega)=>`(tactic| first | (with_reducible (first | assumption | exact Nat.le_of_lt ‹_› | exact Nat.lt_add_one_of_le ‹_› | exact Nat.lt_add_one _ | exact Nat.le_add_right _ _ | exact Nat.le_add_left _ _ | exact Nat.le_of_lt_add_one ‹_› | exact Nat.lt_of_le_of_lt (Nat.zero_le _) ‹_› | exact Nat.sub_lt ‹_› Nat.one_pos | exact zdA ‹_› ‹_› | exact zdB ‹_› ‹_› | exact Nat.sub_le _ _ | exact Nat.add_sub_of_le ‹_› | exact Nat.le_refl _ | exact Nat.le_trans ‹_› ‹_› | exact Nat.lt_of_lt_of_le ‹_› ‹_› | exact Nat.lt_of_le_of_lt ‹_› ‹_› | exact Nat.le_trans (Nat.le_of_lt ‹_›) ‹_› | exact Nat.lt_of_lt_of_eq ‹_› ‹_› | exact Nat.lt_of_lt_of_eq ‹_› (Eq.symm ‹_›) | exact Nat.le_of_eq ‹_› | exact Nat.le_of_eq (Eq.symm ‹_›) | exact Nat.lt_of_lt_of_le ‹_› (Nat.le_add_right _ _) | exact Nat.le_antisymm ‹_› ‹_› | exact Eq.symm ‹_› | exact Int.natCast_nonneg _ | exact Int.ofNat_lt.mpr ‹_› | exact Int.ofNat_lt.mp ‹_› | exact Int.ofNat_le.mpr ‹_› | exact Int.le_of_lt ‹_›)) | lia)
open PySem.W (Frag nsIn codeIn keepIn tabIn codeHdIn mg_of mg_none_of fnOf OpenLaw kitOne mroIn findIn)
abbrev yaa:=@Nat.le_refl
abbrev yab:=@List.length_map
abbrev yac:=@List.getElem?_eq_getElem
abbrev yad:=@List.getD_eq_getElem?_getD
abbrev yae:=@PySem.Heap.lt_size
abbrev yaf:=@List.length_append
abbrev yag:=@Option.some.inj
abbrev yah:=@List.mem_singleton
abbrev yai:=@List.mem_append
abbrev yaj:=@List.getElem?_map
abbrev yak:=@List.mem_cons_self
abbrev yal:=@List.mem_cons
abbrev yam:=@decide_eq_true
abbrev yan:=@List.map_append
abbrev yao:=@List.getElem?_eq_some_iff
abbrev yap:=@PySem.Heap.get?_push_of_some
abbrev yaq:=@decide_eq_false
abbrev yar:=@List.length_take
abbrev yas:=@List.mem_cons_of_mem
abbrev yat:=@List.take_of_length_le
abbrev yau:=@Nat.ne_of_lt
abbrev yav:=@Array.length_toList
abbrev yaw:=@List.map_cons
abbrev yax:=@List.mem_append_right
abbrev yay:=@List.size_toArray
abbrev yaz:=@Nat.lt_of_lt_of_le
abbrev yaA:=@List.mem_map
abbrev yaB:=@Nat.le_trans
abbrev yaC:=@Bool.false_ne_true
abbrev yaD:=@of_decide_eq_true
abbrev yaE:=@Nat.zero_le
abbrev yaF:=@List.not_mem_nil
abbrev yaG:=@List.getElem_mem
abbrev yaH:=@List.take_succ_eq_append_getElem
abbrev yaI:=@List.append_nil
abbrev yaJ:=@List.length_singleton
abbrev yaK:=@List.length_cons
abbrev yaL:=@List.length_drop
abbrev yaM:=@Bool.false_eq_true
abbrev yaN:=@List.pairwise_append
abbrev yaO:=@PySem.Heap.get?_push_size
abbrev yaP:=@List.getElem?_append_right
abbrev yaQ:=@List.mem_of_getElem?
abbrev yaR:=@Array.toList_append
abbrev yaS:=@List.sum_cons
abbrev yaT:=@List.append_assoc
abbrev yaU:=@List.all_eq_true
abbrev yaV:=@Nat.lt_irrefl
abbrev yaW:=@List.nodup_cons
abbrev yaX:=@List.mem_range
abbrev yaY:=@List.mem_append_left
abbrev yaZ:=@List.take_append_drop
abbrev ya0:=@List.getElem?_append_left
abbrev ya1:=@Array.getElem?_eq_getElem
abbrev ya2:=@List.drop_eq_nil_of_le
abbrev ya3:=@Array.getElem?_toList
abbrev ya4:=@List.lookup_cons
abbrev ya5:=@List.length_range
abbrev ya6:=@List.filter_append
abbrev ya7:=@List.mem_filter
abbrev ya8:=@List.getElem?_eq_none
abbrev ya9:=@Int.toNat_natCast
abbrev yba:=@List.pairwise_iff_getElem
abbrev ybb:=@List.getElem_of_mem
abbrev ybc:=@List.map_map
abbrev ybd:=@Nat.le_of_lt
abbrev ybe:=@Nat.lt_of_le_of_lt
abbrev ybf:=@List.ext_getElem?
abbrev ybg:=@List.filter_cons_of_pos
abbrev ybh:=@Bool.and_eq_true
abbrev ybi:=@List.any_cons
abbrev ybj:=@Bool.not_eq_true'
abbrev ybk:=@Nat.min_eq_left
abbrev ybl:=@Bool.eq_false_iff
abbrev ybm:=@List.getElem?_range
abbrev ybn:=@Int.natCast_nonneg
abbrev ybo:=@List.length_replicate
abbrev ybp:=@PySem.Heap.get?_update_other
abbrev ybq:=@Nat.le_of_not_lt
abbrev ybr:=@Nat.add_zero
abbrev ybs:=@Nat.lt_or_ge
abbrev ybt:=@Nat.zero_add
abbrev ybu:=@List.getElem?_drop
abbrev ybv:=@Nat.le_succ
abbrev ybw:=@List.length_reverse
abbrev ybx:=@List.nodup_append
abbrev yby:=@Nat.sub_self
abbrev ybz:=@List.range_succ
abbrev ybA:=@List.filterMap_cons
abbrev ybB:=@Nat.ne_of_gt
abbrev ybC:=@Option.isSome_iff_exists
abbrev ybD:=@Bool.and_false
abbrev ybE:=@List.find?_cons
abbrev ybF:=@List.length_nil
abbrev ybG:=@List.map_nil
abbrev ybH:=@Option.map_eq_some_iff
abbrev ybI:=@List.nodup_nil
abbrev ybJ:=@List.mem_of_mem_take
abbrev ybK:=@List.take_zero
abbrev ybL:=@List.getElem?_take
abbrev ybM:=@Bool.not_true
abbrev ybN:=@List.reverse_cons
abbrev ybO:=@List.mem_reverse
abbrev ybP:=@Nat.testBit_succ
abbrev ybQ:=@Nat.add_sub_cancel
abbrev ybR:=@Nat.not_lt_zero
abbrev ybS:=@List.filter_cons_of_neg
abbrev ybT:=@Int.zero_add
abbrev ybU:=@List.flatten_append
abbrev ybV:=@List.length_pos_iff
abbrev ybW:=@Bool.false_and
abbrev ybX:=@Bool.eq_iff_iff
abbrev ybY:=@List.of_mem_zip
abbrev ybZ:=@Array.toList_push
abbrev yb0:=@List.mem_of_mem_drop
abbrev yb1:=@Array.toList_reverse
abbrev yb2:=@List.pairwise_map
abbrev yb3:=@List.all_eq_false
abbrev yb4:=@List.getElem?_reverse
abbrev yb5:=@Nat.pow_succ
abbrev yb6:=@List.length_filter_le
abbrev yb7:=@List.all_cons
abbrev yb8:=@Nat.add_le_add_left
abbrev yb9:=@List.drop_eq_getElem_cons
abbrev yca:=@List.drop_drop
abbrev ycb:=@List.perm_append_comm
abbrev ycc:=@Array.toList_extract
abbrev ycd:=@List.extract_eq_take_drop
abbrev yce:=@List.nil_append
abbrev ycf:=@List.drop_take
abbrev ycg:=@List.reverse_append
abbrev ych:=@List.drop_zero
abbrev yci:=@List.getElem?_cons_succ
abbrev ycj:=@Int.emod_nonneg
abbrev yck:=@Int.emod_lt_of_pos
abbrev ycl:=@Nat.add_le_add_right
abbrev ycm:=@List.eq_nil_of_length_eq_zero
abbrev ycn:=@List.map_take
abbrev yco:=@List.length_zip
abbrev ycp:=@List.filter_eq_nil_iff
abbrev ycq:=@List.mem_flatten
abbrev ycr:=@Nat.min_eq_right
abbrev ycs:=@Nat.lt_of_not_le
abbrev yct:=@List.filter_filter
abbrev ycu:=@List.getElem?_set_ne
abbrev ycv:=@Array.perm_iff_toList_perm
abbrev ycw:=@Bool.not_eq_false'
abbrev ycx:=@List.reverse_reverse
abbrev ycy:=@List.zip_cons_cons
abbrev ycz:=@List.mem_take_iff_getElem
abbrev ycA:=@List.pairwise_lt_range
abbrev ycB:=@Nat.pos_of_ne_zero
abbrev ycC:=@List.filter_eq_self
abbrev ycD:=@List.map_congr_left
abbrev ycE:=@of_decide_eq_false
namespace L2
open PySem PySem.Spec PyProof.Rows
abbrev Key:=Sum Int Str
def zi3:Key→Value→Bool
  | .inl k,v=>Value.isInt k v
  | .inr x,v=>Value.isStrOf x v
def keyH (w:World):Key→Int
  | .inl k=>hashInt k
  | .inr x=>hashStr w x
theorem zaV:∀{k:Key} {v:Value},zi3 k v=true→(∃ i t,k=Sum.inl i∧v=Value.int i t)∨(∃ x t,k=Sum.inr x∧v=Value.str x t)
  | .inl i,v,h=>by
    obtain ⟨t,e⟩:=Value.isInt_shape (k:=i) (v:=v) h;exact .inl ⟨i,t,rfl,e⟩
  | .inr x,v,h=>by
    obtain ⟨t,e⟩:=Value.isStrOf_shape (x:=x) (v:=v) h;exact .inr ⟨x,t,rfl,e⟩
theorem zmJ (i:Int)(t:Tok):zi3 (.inl i) (.int i t)=true:=by simp[zi3,Value.isInt]
theorem zmI (x:Str)(t:Tok):zi3 (.inr x) (.str x t)=true:=by simp[zi3,Value.isStrOf]
theorem zrq (a b:Int):decide ((Sum.inl a:Key)=Sum.inl b)=(a == b):=by
  by_cases e:a=b
  · subst e;simp
  · have h:¬ (Sum.inl a:Key)=Sum.inl b:=fun q=>e (Sum.inl.inj q)
    rw[yaq h];exact (beq_eq_false_iff_ne.mpr e).symm
theorem zrn (a b:Str):decide ((Sum.inr a:Key)=Sum.inr b)=decide (a=b):=by
  by_cases e:a=b
  · subst e;simp
  · have h:¬ (Sum.inr a:Key)=Sum.inr b:=fun q=>e (Sum.inr.inj q)
    rw[yaq h,yaq e]
theorem zrp (a:Int)(b:Str):decide ((Sum.inl a:Key)=Sum.inr b)=false:=yaq (fun q=>nomatch q)
theorem zro (a:Str)(b:Int):decide ((Sum.inr a:Key)=Sum.inl b)=false:=yaq (fun q=>nomatch q)
def zaG (prog:Program)(w:World):PySem.KeyKind prog w Key where
  is:=zi3
  hash:=keyH w
  inj:=fun v a b ha hb=>by
    rcases zaV ha with ⟨i,t,rfl,rfl⟩ | ⟨x,t,rfl,rfl⟩
    · rcases zaV hb with ⟨j,u,rfl,e⟩ | ⟨y,u,rfl,e⟩
      · injection e with e1 _;rw[e1]
      · exact nomatch e
    · rcases zaV hb with ⟨j,u,rfl,e⟩ | ⟨y,u,rfl,e⟩
      · exact nomatch e
      · injection e with e1 _;rw[e1]
  byValue:=fun k v h=>by
    rcases zaV h with ⟨i,t,rfl,rfl⟩ | ⟨x,t,rfl,rfl⟩ <;> rfl
  pyHash:=fun hv h=>by
    rcases zaV hv with ⟨i,t,rfl,rfl⟩ | ⟨x,t,rfl,rfl⟩
    · exact wpAny_pyHash_int h
    · exact wpAny_pyHash_str h
  eqBool:=fun hu hv h=>by
    rcases zaV hu with ⟨i,t,rfl,rfl⟩ | ⟨x,t,rfl,rfl⟩
    · rcases zaV hv with ⟨j,u,rfl,rfl⟩ | ⟨y,u,rfl,rfl⟩
      · rw[zrq]at h;exact wpAny_eqBool_int h
      · rw[zrp]at h;exact SeqAt.EqAt.int_str i t y u _ _ _ _ h
    · rcases zaV hv with ⟨j,u,rfl,rfl⟩ | ⟨y,u,rfl,rfl⟩
      · rw[zro]at h;exact SeqAt.EqAt.str_int x t j u _ _ _ _ h
      · rw[zrn]at h;exact wpAny_eqBool_str h
  «strs»:=fun k x t v h=>by
    rcases zaV h with ⟨i,u,rfl,e⟩ | ⟨y,u,rfl,e⟩
    · exact nomatch e
    · injection e with e1 _
      subst e1;cases v <;> rfl
theorem zkY (prog:Program)(w:World)(k:Key)(v:Value):(zaG prog w).is k v=zi3 k v:=rfl
theorem ziW (prog:Program)(w:World)(i:Int)(t:Tok):(zaG prog w).is (.inl i) (.int i t)=true:=zmJ i t
theorem ziV (prog:Program)(w:World)(x:Str)(t:Tok):(zaG prog w).is (.inr x) (.str x t)=true:=zmI x t
end L2
namespace L2
open PySem PySem.Spec PyProof.Rows
inductive V where
  | non | bl (b:Bool) | int (i:Int) | str (x:Str) | byt (b:Array UInt8) | flt (b:UInt64) | ref (a:Addr) | ty (n:String)
  deriving DecidableEq
def RelV:V→Value→Prop
  | .non,u=>u=Value.none
  | .bl b,u=>u=Value.bool b
  | .int i,u=>∃ t,u=Value.int i t
  | .str x,u=>∃ t,u=Value.str x t
  | .byt b,u=>∃ t,u=Value.bytes b t
  | .flt b,u=>∃ t,u=Value.float b t
  | .ref a,u=>u=Value.ref a
  | .ty n,u=>u=Value.type n
abbrev Vals:List V→List Value→Prop:=Paired RelV
theorem Vals.length {xs:List V}{us:List Value}(r:Vals xs us):xs.length=us.length:=Paired.length r
theorem Vals.get:∀{xs:List V} {us:List Value} {i:Nat} {x:V},Vals xs us→xs[i]?=some x→∃ u,us[i]?=some u∧RelV x u
  | _,_,_,_,.nil,e=>by simp at e
  | _,_,0,_,.cons r _,e=>by simp at e;subst e;exact ⟨_,rfl,r⟩
  | _,_,i+1,x,.cons _ t,e=>by
    obtain ⟨u,h1,h2⟩:=Vals.get (i:=i) (x:=x) t (by simpa using e);exact ⟨u,by simpa using h1,h2⟩
theorem Vals.set {x:V}{u:Value}(r:RelV x u):∀{xs:List V} {us:List Value} (i:Nat),Vals xs us→Vals (xs.set i x) (us.set i u)
  | _,_,_,.nil=>.nil
  | _,_,0,.cons _ t=>.cons r t
  | _,_,i+1,.cons q t=>.cons q (Vals.set r i t)
theorem Vals.append:∀{xs ys:List V} {us ws:List Value},Vals xs us→Vals ys ws→Vals (xs++ys) (us++ws)
  | _,_,_,_,.nil,s=>s
  | _,_,_,_,.cons r t,s=>.cons r (Vals.append t s)
theorem Vals.take:∀{xs:List V} {us:List Value} (n:Nat),Vals xs us→Vals (xs.take n) (us.take n)
  | _,_,0,_=>.nil
  | _,_,_+1,.nil=>.nil
  | _,_,n+1,.cons r t=>.cons r (Vals.take n t)
theorem Vals.drop:∀{xs:List V} {us:List Value} (n:Nat),Vals xs us→Vals (xs.drop n) (us.drop n)
  | _,_,0,r=>r
  | _,_,_+1,.nil=>.nil
  | _,_,n+1,.cons _ t=>Vals.drop n t
def RelO:Option V→Option Value→Prop
  | some v,some u=>RelV v u
  | none,none=>True
  | _,_=>False
def KV {κ:Type}:List (κ×V)→List (κ×Value)→Prop:=Paired fun (p:κ×V) (q:κ×Value)=>p.1=q.1∧RelV p.2 q.2
def kV:Key→V
  | .inl i=>.int i
  | .inr x=>.str x
inductive HO where
  | lst (xs:List V)
  | tup (xs:List V)
  | dK (kvs:List (Key×V)) | dT (kvs:List (List Key×V))
  | set (S:Int→Bool) (n:Nat)
  | ins (C dx:Addr) (fs:List (Str×V))
  | own (x:Addr)
  | xd (fs:List (Str×V))
  | met (f x:Addr)
  | rng (lo hi:Int)
  | frz (o:Obj) (u:HO)
  | tbl (ps:Array Value)
  | ext (φ:Heap→Prop)
abbrev Hp:=Addr→Option HO
def upd (H:Hp)(a:Addr)(o:HO):Hp:=fun b=>if b=a then some o else H b
theorem zad {H:Hp}{a:Addr}{o:HO}:upd H a o a=some o:=by unfold upd;rw[if_pos rfl]
theorem zah {H:Hp}{a b:Addr}{o:HO}(h:b≠a):upd H a o b=H b:=by unfold upd;rw[if_neg h]
theorem zpf {H:Hp}{a:Addr}{o u:HO}:upd (upd H a o) a u=upd H a u:=by
  funext b;unfold upd;split <;> rfl
theorem zre {H:Hp}{a b:Addr}{o u:HO}(h:H a=some o)(h':H b=some u)(d:o≠u):a≠b:=by
  intro e;subst e;rw[h]at h';exact d (yag h')
theorem zab {H:Hp}{a b:Addr}{o:HO}(h:H a=some o)(h':H b=none):a≠b:=by
  intro e;subst e;rw[h]at h';cases h'
section
variable (P:Program)(w:World)
def za7 (H:Hp)(h:Heap)(a:Addr):HO→Prop
  | .lst xs=>xs.length≤sizeLine∧∃(its:List Value) (n:Nat),Vals xs its∧h.get? a=some { cls:=.type "list",data:=.seq its.toArray n }
  | .tup xs=>xs.length≤sizeLine∧∃ its:List Value,Vals xs its∧IsTup h a its.toArray
  | .dK kvs=>kvs.length≤sizeLine∧(a == sysModules)=false∧∃ vs,KV kvs vs∧h.DictOf (zaG P w) a vs
  | .dT kvs=>kvs.length≤sizeLine∧(a == sysModules)=false∧∃ xs:List (List Key×Addr×Value),
      Paired (fun (p:List Key×V) (q:List Key×Addr×Value)=>p.1=q.1∧H q.2.1=some (.tup (p.1.map kV))∧RelV p.2 q.2.2) kvs xs∧
      ∃ o es ep,h.get? a=some o∧o.ExactDict∧o.data=.dict es ep∧es.toList=xs.map (entryOfKey (tupleKind (zaG P w)))∧(xs.map (·.1)).Nodup
  | .set S n=>h.SetOf (intKind P w) a S n
  | .ins C dx fs=>H dx=some (.own a)∧fs.length≤1000∧dx≠a∧h.get? a=some (PySem.W.instObj C dx)∧
      ∃ mA,h.Ns1 dx mA∧(∀ f,RelO (fs.lookup f) (mA f))∧PySem.Within mA (fs.map (·.1))
  | .own _=>∃ o,h.get? a=some o
  | .xd fs=>∃ mA,h.Ns1 a mA∧∀ f,RelO (fs.lookup f) (mA f)
  | .rng lo hi=>∃ t u v,h.get? a=some { cls:=.type "range",data:=.fields #[.int lo t,.int hi u,.int 1 v] }
  | .frz o u=>h.get? a=some o∧za7 H h a u
  | .tbl ps=>h.get? a=some { cls:=.none,data:=.fields ps }
  | .met f x=>h.get? a=some (PySem.W.methodObj (.ref f) (.ref x))
  | .ext φ=>φ h∧(∃ o,h.get? a=some o)∧∀ h1 h2:Heap,φ h1→(∀ o,h1.get? a=some o→h2.get? a=some o)→φ h2
def HOk (H:Hp)(h:Heap):Prop:=∀ a o,H a=some o→za7 P w H h a o
end
section
variable {P:Program}{w:World}{H H':Hp}{h h':Heap}{a:Addr}{o:HO}
theorem za7.lt (x:za7 P w H h a o):a < h.objs.size:=by
  cases o with
  | lst xs=>obtain ⟨_,_,_,_,e⟩:=x;exact yae e
  | tup xs=>obtain ⟨_,_,_,p⟩:=x;exact p.lt
  | dK kvs=>obtain ⟨_,_,_,_,o,_,_,e,_⟩:=x;exact yae e
  | dT kvs=>obtain ⟨_,_,_,_,o,_,_,e,_⟩:=x;exact yae e
  | set S n=>obtain ⟨o,_,_,_,e,_⟩:=x;exact yae e
  | ins C dx fs=>obtain ⟨_,_,_,e,_⟩:=x;exact yae e
  | own y=>obtain ⟨_,e⟩:=x;exact yae e
  | xd fs=>obtain ⟨_,⟨_,_,_,e,_⟩,_⟩:=x;exact yae e
  | rng lo hi=>obtain ⟨_,_,_,e⟩:=x;exact yae e
  | frz ob u=>obtain ⟨e,_⟩:=x;exact yae e
  | tbl ps=>exact yae (show h.get? a=some _ from x)
  | met f y=>exact yae (show h.get? a=some _ from x)
  | ext φ=>obtain ⟨_,⟨_,e⟩,_⟩:=x;exact yae e
theorem Paired.mapP {α β:Type}{F G:α→β→Prop}:∀{l₁:List α} {l₂:List β},Paired F l₁ l₂→(∀ a b,F a b→G a b)→Paired G l₁ l₂
  | _,_,.nil,_=>.nil
  | _,_,.cons r t,f=>.cons (f _ _ r) (Paired.mapP t f)
theorem za7.stay (x:za7 P w H h a o)(k:∀ b u,(b=a∨H b=some (.own a))→h.get? b=some u→h'.get? b=some u)
    (ho:∀ b,H b=some (.own a)→H' b=some (.own a)) (ht:∀ b xs,H b=some (.tup xs)→H' b=some (.tup xs)):za7 P w H' h' a o:=by
  induction o with
  | lst xs=>obtain ⟨z,its,n,r,e⟩:=x;exact ⟨z,its,n,r,k _ _ (.inl rfl) e⟩
  | tup xs=>obtain ⟨z,its,r,ob,e,c⟩:=x;exact ⟨z,its,r,ob,k _ _ (.inl rfl) e,c⟩
  | dK kvs=>obtain ⟨z,y,vs,r,ob,es,ep,e,c⟩:=x;exact ⟨z,y,vs,r,ob,es,ep,k _ _ (.inl rfl) e,c⟩
  | dT kvs=>
    obtain ⟨z,y,xs,r,ob,es,ep,e,c⟩:=x;exact ⟨z,y,xs,Paired.mapP r fun p q z=>⟨z.1,ht _ _ z.2.1,z.2.2⟩,ob,es,ep,k _ _ (.inl rfl) e,c⟩
  | set S n=>obtain ⟨ob,es,ep,t,e,c⟩:=x;exact ⟨ob,es,ep,t,k _ _ (.inl rfl) e,c⟩
  | ins C dx fs=>
    obtain ⟨d,z,ne,e,mA,⟨od,es,ep,e2,c⟩,r⟩:=x;exact ⟨ho _ d,z,ne,k _ _ (.inl rfl) e,mA,⟨od,es,ep,k _ _ (.inr d) e2,c⟩,r⟩
  | own y=>obtain ⟨ob,e⟩:=x;exact ⟨ob,k _ _ (.inl rfl) e⟩
  | xd fs=>obtain ⟨mA,⟨od,es,ep,e,c⟩,r⟩:=x;exact ⟨mA,⟨od,es,ep,k _ _ (.inl rfl) e,c⟩,r⟩
  | rng lo hi=>obtain ⟨t,u,v,e⟩:=x;exact ⟨t,u,v,k _ _ (.inl rfl) e⟩
  | frz ob u ih=>obtain ⟨e,q⟩:=x;exact ⟨k _ _ (.inl rfl) e,ih q⟩
  | tbl ps=>
    have e:h.get? a=some { cls:=.none,data:=.fields ps }:=x;show h'.get? a=some { cls:=.none,data:=.fields ps };exact k a _ (.inl rfl) e
  | met f y=>
    have e:h.get? a=some (PySem.W.methodObj (.ref f) (.ref y)):=x;show h'.get? a=some (PySem.W.methodObj (.ref f) (.ref y));exact k a _ (.inl rfl) e
  | ext φ=>obtain ⟨p,⟨o,e⟩,st⟩:=x;exact ⟨st _ _ p fun o q=>k _ _ (.inl rfl) q,⟨o,k _ _ (.inl rfl) e⟩,st⟩
theorem HOk.lt (x:HOk P w H h)(e:H a=some o):a < h.objs.size:=(x a o e).lt
theorem HOk.fresh (x:HOk P w H h)(e:h.objs.size≤a):H a=none:=by
  cases q:H a with
  | none=>rfl
  | some u=>exact absurd (yaz (x.lt q) e) (yaV _)
theorem HOk.kept (x:HOk P w H h)(k:∀ b u,h.get? b=some u→h'.get? b=some u):HOk P w H h':=fun a o e=>
  (x a o e).stay (fun b u _ q=>k b u q) (fun _ q=>q) fun _ _ q=>q
theorem HOk.laid (x:HOk P w H h)(k:∀ b u,h.get? b=some u→h'.get? b=some u)(hp:h.objs.size≤a)(new:za7 P w (upd H a o) h' a o):HOk P w (upd H a o) h':=fun b u e=>by
  have hn:=x.fresh hp;by_cases hb:b=a
  · subst hb;rw[zad]at e;cases e;exact new
  · rw[zah hb]at e
    exact (x b u e).stay (fun c v _ q=>k c v q) (fun c q=>by rw[zah (zab q hn)];exact q) fun c xs q=>by rw[zah (zab q hn)];exact q
end
def Rd (H:Hp)(a:Addr)(u:HO):Prop:=H a=some u∨∃ o,H a=some (.frz o u)
theorem Rd.ok {P:Program}{w:World}{H:Hp}{h:Heap}{a:Addr}{u:HO}(r:Rd H a u)(x:HOk P w H h):za7 P w H h a u:=by
  rcases r with r | ⟨o,r⟩
  · exact x a u r
  · obtain ⟨_,q⟩:=x a _ r
    exact q
def Mut:Option HO→Prop
  | some (.lst _)=>True
  | some (.dK _)=>True
  | some (.dT _)=>True
  | some (.set _ _)=>True
  | some (.ins _ _ _)=>True
  | some (.ext _)=>True
  | _=>False
section
variable {P:Program}{w:World}{H:Hp}{h h':Heap}{x e:Addr}{o':HO}
theorem HOk.write (ok:HOk P w H h)(mu:Mut (H x))(he:e=x∨H e=some (.own x))(k:∀ b u,b≠e→h.get? b=some u→h'.get? b=some u)(heo:∃ u,h'.get? e=some u)
    (new:za7 P w (upd H x o') h' x o'):HOk P w (upd H x o') h':=fun b u q=>by
  have nown:∀ c y,H c=some (.own y)→c≠x:=fun c y r z=>by subst z;rw[r]at mu;exact mu
  have ntup:∀ c xs,H c=some (.tup xs)→c≠x:=fun c xs r z=>by subst z;rw[r]at mu;exact mu
  by_cases hb:b=x
  · subst hb;rw[zad]at q;cases q;exact new
  · rw[zah hb]at q
    by_cases hbe:b=e
    · have q':H b=some (.own x):=by
        rcases he with z | z
        · exact absurd (hbe.trans z) hb
        · rw[hbe];exact z
      rw[q]at q';cases q'
      obtain ⟨v,hv⟩:=heo;exact ⟨v,by rw[hbe];exact hv⟩
    · refine (ok b u q).stay (fun c v hc r=>k c v ?_ r) (fun c r=>by rw[zah (nown c b r)];exact r) fun c xs r=>by rw[zah (ntup c xs r)];exact r
      rcases hc with rfl | hc
      · exact hbe
      · rintro rfl
        rcases he with z | z
        · exact nown c b hc z
        · rw[hc]at z;cases z;exact hb rfl
end
structure Un (fs ex:List Addr)(H H':Hp)(h h':Heap):Prop where
  keep:∀ b o,h.get? b=some o→H b=none→b∉fs→b∉ex→h'.get? b=some o
  slot:∀ b o,h.get? b=some o→H b=none→b∈fs→b∉ex→∃ sl,h'.get? b=some { o with slots:=sl }
  free:∀ b o,h.get? b=some o→H b=none→b∉ex→H' b=none
  there:∀ b o,h.get? b=some o→b∉ex→∃ o',h'.get? b=some o'
  tups:∀ b xs,H b=some (.tup xs)→H' b=some (.tup xs)
  frzs:∀ b o u,H b=some (.frz o u)→H' b=some (.frz o u)
  tbls:∀ b ps,H b=some (.tbl ps)→∃ more,H' b=some (.tbl (ps++more))
section
variable {fs fs' ex ex':List Addr}{H H1 H2:Hp}{h h1 h2 h':Heap}{a x e:Addr}{o:HO}
theorem Un.any (u:Un fs ex H H1 h h1){b:Addr}{ob:Obj}(q:h.get? b=some ob)(n:H b=none)(hx:b∉ex):∃ sl,h1.get? b=some { ob with slots:=sl }:=by
  by_cases hb:b∈fs
  · exact u.slot b ob q n hb hx
  · exact ⟨ob.slots,u.keep b ob q n hb hx⟩
theorem Un.kept (k:∀ b u,h.get? b=some u→h'.get? b=some u):Un fs ex H H h h':=
  ⟨fun b ob q _ _ _=>k b ob q,fun b ob q _ _ _=>⟨ob.slots,k b ob q⟩,fun _ _ _ n _=>n,fun b ob q _=>⟨ob,k b ob q⟩,fun _ _ q=>q,fun _ _ _ q=>q,fun _ ps q=>⟨#[],by rw[q];simp⟩⟩
theorem Un.refl:Un fs ex H H h h:=Un.kept fun _ _ q=>q
theorem Un.laid (k:∀ b u,h.get? b=some u→h'.get? b=some u)(hp:h.objs.size≤a)(hn:H a=none):Un fs ex H (upd H a o) h h' where
  keep:=fun b u q _ _ _=>k b u q
  slot:=fun b u q _ _ _=>⟨u.slots,k b u q⟩
  free:=fun b u q n _=>by rw[zah (yau (yaz (yae q) hp))];exact n
  there:=fun b u q _=>⟨u,k b u q⟩
  tups:=fun b xs q=>by rw[zah (zab q hn)];exact q
  frzs:=fun b u xs q=>by rw[zah (zab q hn)];exact q
  tbls:=fun b ps q=>⟨#[],by rw[zah (zab q hn),q];simp⟩
theorem Un.write (mu:Mut (H x))(he:e=x∨H e=some (.own x))(k:∀ b u,b≠e→h.get? b=some u→h'.get? b=some u)(heo:∃ u,h'.get? e=some u):Un fs ex H (upd H x o) h h':=by
  have hx:∀ b,H b=none→b≠x:=fun b n z=>by subst z;rw[n]at mu;exact mu
  have hb:∀ b,H b=none→b≠e:=fun b n z=>by
    subst z;rcases he with r | r
    · exact hx b n r
    · rw[n]at r;cases r
  have hm:∀ b u,H b=some u→¬ Mut (some u)→b≠x:=fun b u q nm z=>by subst z;rw[q]at mu;exact nm mu
  refine ⟨fun b u q n _ _=>k b u (hb b n) q,fun b u q n _ _=>⟨u.slots,k b u (hb b n) q⟩,fun b u q n _=>by rw[zah (hx b n)];exact n,fun b u q _=>?_,
    fun b xs q=>by rw[zah (hm b _ q fun z=>z)];exact q,fun b u xs q=>by rw[zah (hm b _ q fun z=>z)];exact q,fun b ps q=>⟨#[],by rw[zah (hm b _ q fun z=>z),q];simp⟩⟩
  by_cases hbe:b=e
  · subst hbe;exact heo
  · exact ⟨u,k b u hbe q⟩
end
def trk (h:Heap)(H:Hp):List Addr:=(List.range h.objs.size).filter fun a=>(H a).isSome
def hidT (h:Heap)(H:Hp):Heap:=PySem.W.hideAll h (trk h H)
theorem zmP (h:Heap)(H:Hp):(hidT h H).objs.size=h.objs.size:=PySem.W.hideAll_size _ _
theorem zoi {h:Heap}{H:Hp}{b:Addr}{o:Obj}(e:h.get? b=some o)(n:H b=none):(hidT h H).get? b=some o:=
  PySem.W.hideAll_get _ e fun hm=>by
    have q:(H b).isSome=true:=(ya7.mp hm).2;rw[n]at q;simp at q
theorem zpK {h:Heap}{H:Hp}{b:Addr}{o:Obj}(e:(hidT h H).get? b=some o):h.get? b=some o∧H b=none:=by
  have e':h.get? b=some o:=PySem.W.of_hideAll (trk h H) e;refine ⟨e',?_⟩;cases q:H b with
  | none=>rfl
  | some x=>
    have hm:b∈trk h H:=ya7.mpr ⟨yaX.mpr (yae e'),by simp[q]⟩;have z:(hidT h H).get? b=none:=PySem.W.hideAll_none (trk h H) hm;rw[z]at e;cases e
def zqn (g h:Heap)(L:Addr):List (Addr×Obj):=(List.range h.objs.size).filterMap fun a=>if a=L∨(g.get? a).isSome=true then none else (h.get? a).map fun o=>(a,o)
def rest (g h:Heap)(L d:Addr):List (Addr×Obj):=(zqn g h L).filter fun p=>decide (p.1≠d)
end L2
namespace L2
open PySem PySem.Spec PyProof.Rows
structure Mod (K:Frag)(mg:Str→Option Value)(base:Heap):Prop where
  kin:K.In base
  glob:base.Ns mainGlobals mg
  blt:∃ mb,base.Ns builtinsNs mb∧∀ x:Str,x ≠ "__name__"→mb x=bootBuiltins x
  nolimit:base.NoLimit
structure Cx where
  prog:Program
  w:World
  K:Frag
  mg:Str→Option Value
  base:Heap
  A:Around
  N:List Str
  s₀:Shared
  H₀:Hp
  env:Env
  outer:List Env
  stack:List Env
  ex:List Addr
  fn:Str→Bool
  calm:Bool
  pn:List (Addr×Obj)
  xe:Value→Shared→Prop
def frs (l:List Env):List Addr:=l.filterMap (·.frame)
abbrev Cx.fs (X:Cx):List Addr:=frs X.outer
def Vis (sc:Scope)(x:Str):Prop:=sc.names.lookup x=some .local∨sc.names.lookup x=some .cell∨sc.names.lookup x=some .free
def Loc (sc:Scope)(x:Str):Prop:=sc.names.lookup x=some .local∨sc.names.lookup x=some .cell
def Look (env:Env)(h:Heap)(m:Str→Option Value)(x:Str)(u:Value):Prop:=
  (env.kindOf x=some .local∧m x=some u)∨((env.kindOf x=some .cell∨env.kindOf x=some .free)∧∃ c,env.cells.lookup x=some c∧h.IsCell c (some u))
structure Cx.Ok (X:Cx):Prop where
  mod:Mod X.K X.mg X.base
  kind:X.env.scope.kind=.function
  glob:X.env.globals=mainGlobals
  blt:X.env.builtins=builtinsNs
  above:X.s₀.heap.objs.size≤X.env.locals
  inj:∀ x y c,X.env.cells.lookup x=some c→X.env.cells.lookup y=some c→x=y
  has:∀ x,(X.env.kindOf x=some .cell∨X.env.kindOf x=some .free)→∃ c,X.env.cells.lookup x=some c
  cab:∀ x c,X.fn x=true→X.env.cells.lookup x=some c→X.s₀.heap.objs.size≤c
  hd:X.calm=true→X.A.handled=none
  frames:X.A.frames=some X.stack
  stk:X.stack=X.outer∨(X.stack=X.env::X.outer∧X.env.frame=some X.env.locals)
  exf:∀ b∈X.ex,b≠X.env.locals∧∀ x c,X.env.cells.lookup x=some c→c≠b
  bs:∀ b o,X.base.get? b=some o→X.s₀.heap.get? b=some o∧X.H₀ b=none
  bsz:X.base.objs.size≤X.s₀.heap.objs.size
  noex:∀ b o,X.base.get? b=some o→b∉X.ex
  exfs:∀ b∈X.ex,b∉X.fs
  funs:X.s₀.heap.FunFrames X.base X.outer
  frf:∀ b∈X.fs,X.H₀ b=none
structure Inv (X:Cx)(pins:List (Addr×Obj))(σ:List (Option V))(H:Hp)(s:Shared):Prop where
  ok:X.Ok
  os:s.os=X.s₀.os
  bare:AllBare s.gens
  base:Un X.fs X.ex X.H₀ H X.s₀.heap s.heap
  loc:∃ m,s.heap.Ns X.env.locals m∧∀(i:Nat) (x:Str) (v:V),X.N[i]?=some x→σ[i]?=some (some v)→Vis X.env.scope x→∃ u,RelV v u∧Look X.env s.heap m x u
  cell:∀ x c,X.env.cells.lookup x=some c→∃ v,s.heap.IsCell c v
  free:H X.env.locals=none
  freeC:∀ x c,X.env.cells.lookup x=some c→H c=none
  pin:∀ p∈X.pn++pins,s.heap.get? p.1=some p.2∧H p.1=none∧p.1≠X.env.locals∧p.1∉X.fs∧∀ v,p.2.data≠.cell v
  hok:HOk X.prog X.w H s.heap
  len:σ.length=X.N.length
section
variable {X:Cx}{pins:List (Addr×Obj)}{σ:List (Option V)}{H H':Hp}{s:Shared}{h':Heap}
theorem Cx.Ok.nofr (ok:X.Ok){b:Addr}{o:Obj}(e:X.base.get? b=some o):b∉X.fs:=fun hb=>by
  have:=(ok.funs.mem hb).1;rw[e]at this;cases this
theorem Inv.bs (I:Inv X pins σ H s):∀ b o,X.base.get? b=some o→s.heap.get? b=some o∧H b=none:=fun b o e=>
  ⟨I.base.keep b o (I.ok.bs b o e).1 (I.ok.bs b o e).2 (I.ok.nofr e) (I.ok.noex b o e),I.base.free b o (I.ok.bs b o e).1 (I.ok.bs b o e).2 (I.ok.noex b o e)⟩
theorem Inv.bk (I:Inv X pins σ H s):∀ b o,X.base.get? b=some o→s.heap.get? b=some o:=fun b o e=>(I.bs b o e).1
theorem Inv.mod (I:Inv X pins σ H s):Mod X.K X.mg X.base:=I.ok.mod
theorem Inv.kIn (I:Inv X pins σ H s):X.K.In s.heap:=I.ok.mod.kin.keeps I.bk
theorem Inv.lt (I:Inv X pins σ H s):X.env.locals < s.heap.objs.size:=let ⟨_,hn,_⟩:=I.loc;hn.lt
theorem Inv.sz (I:Inv X pins σ H s):X.s₀.heap.objs.size≤s.heap.objs.size:=yaB I.ok.above (ybd I.lt)
theorem Inv.nofs (I:Inv X pins σ H s){a:Addr}(h:s.heap.objs.size≤a):a∉X.fs:=fun hb=>by
  obtain ⟨_,o,ho,_⟩:=I.ok.funs.mem hb;exact absurd (yaz (yae ho) (yaB I.sz h)) (yaV _)
theorem Inv.cne (I:Inv X pins σ H s):∀ x c,X.env.cells.lookup x=some c→c≠X.env.locals:=fun x c e z=>by
  obtain ⟨v,o,ho,hd⟩:=I.cell x c e;obtain ⟨m,⟨o',es,ep,ho',hd',_⟩,_⟩:=I.loc;rw[z,ho']at ho;cases ho;rw[hd']at hd;cases hd
theorem Inv.funs (I:Inv X pins σ H s):s.heap.FunFrames X.base X.outer:=by
  have all:∀(l:List Env),(∀ b∈frs l,b∈X.fs)→X.s₀.heap.FunFrames X.base l→s.heap.FunFrames X.base l:=by
    intro l
    induction l with
    | nil=>intro _ _;trivial
    | cons env r ih=>
      intro hs hl;obtain ⟨hk,⟨L,o,hf,hn,ho,hd⟩,hr⟩:=hl;have hL:L∈X.fs:=hs L (by unfold frs;rw[ybA,hf];exact yak);obtain ⟨sl,e⟩:=I.base.slot L o ho (I.ok.frf L hL) hL fun z=>I.ok.exfs L z hL;exact ⟨hk,⟨L,_,hf,hn,e,hd⟩,ih (fun b hb=>hs b (by unfold frs;rw[ybA,hf];exact yas _ hb)) hr⟩
  exact all X.outer (fun _ hb=>hb) I.ok.funs
theorem Inv.stack (I:Inv X pins σ H s):s.heap.FunFrames X.base X.stack:=by
  rcases I.ok.stk with e | ⟨e,hf⟩
  · rw[e];exact I.funs
  · rw[e]
    obtain ⟨m,hn,_⟩:=I.loc;refine .cons (by rw[I.ok.kind];decide) hf hn ?_ I.funs;exact Heap.get?_none_of_le (yaB I.ok.bsz I.ok.above)
theorem Inv.stkSub (I:Inv X pins σ H s):∀ b∈frs X.stack,b∈X.env.locals::X.fs:=fun b hb=>by
  rcases I.ok.stk with e | ⟨e,hf⟩
  · rw[e]at hb;exact yas _ hb
  · rw[e]at hb
    unfold frs at hb;rw[ybA,hf]at hb;exact hb
theorem Inv.stkFree (I:Inv X pins σ H s):∀ b∈frs X.stack,H b=none:=fun b hb=>by
  rcases yal.mp (I.stkSub b hb) with e | hb
  · rw[e];exact I.free
  · obtain ⟨_,o,ho,_⟩:=I.ok.funs.mem hb
    exact I.base.free b o ho (I.ok.frf b hb) fun z=>I.ok.exfs b z hb
theorem Inv.step {g':Array GenState}{t':Nat}{d':Drawn}{ch:List Addr}(I:Inv X pins σ H s)
    (hch:∀ b∈ch,(b∈X.ex∨X.s₀.heap.objs.size≤b)∧b≠X.env.locals∧(∀ x c,X.env.cells.lookup x=some c→c≠b)∧∀ p∈X.pn++pins,p.1≠b)
    (keep:∀ b o,b≠X.env.locals→b∉X.fs→b∉ch→s.heap.get? b=some o→H b=none→h'.get? b=some o)
    (slot:∀ b o,b≠X.env.locals→b∈X.fs→b∉ch→s.heap.get? b=some o→H b=none→∃ sl,h'.get? b=some { o with slots:=sl }) (free:∀ b o,b∉ch→s.heap.get? b=some o→H b=none→H' b=none)
    (there:∀ b o,b∉ch→s.heap.get? b=some o→∃ o',h'.get? b=some o')
    (tups:∀ b xs,H b=some (.tup xs)→H' b=some (.tup xs)) (frzs:∀ b o u,H b=some (.frz o u)→H' b=some (.frz o u)) (tbls:∀ b ps,H b=some (.tbl ps)→∃ more,H' b=some (.tbl (ps++more)))
    (ns:∀ m,s.heap.Ns X.env.locals m→h'.Ns X.env.locals m) (hok:HOk X.prog X.w H' h') (hg:AllBare g') :
    Inv X pins σ H' { s with heap:=h',gens:=g',drawn:=d',toks:=t' }:=by
  have neL:∀ b o,X.s₀.heap.get? b=some o→b≠X.env.locals:=fun b o e=>yau (yaz (yae e) I.ok.above);have neC:∀ b o,X.s₀.heap.get? b=some o→b∉X.ex→b∉ch:=fun b o e hx hb=>by
    rcases (hch b hb).1 with z | z
    · exact hx z
    · exact absurd (yaz (yae e) z) (yaV _)
  have cellK:∀ x c,X.env.cells.lookup x=some c→∀ v,s.heap.IsCell c v→h'.IsCell c v:=fun x c e v ⟨o,ho,hd⟩=>by
    have nch:c∉ch:=fun z=>(hch c z).2.2.1 x c e rfl;by_cases hc:c∈X.fs
    · obtain ⟨sl,q⟩:=slot c o (I.cne x c e) hc nch ho (I.freeC x c e)
      exact ⟨_,q,hd⟩
    · exact ⟨o,keep c o (I.cne x c e) hc nch ho (I.freeC x c e),hd⟩
  refine ⟨I.ok,I.os,hg,⟨fun b o e n hb hx=>?_,fun b o e n hb hx=>?_,fun b o e n hx=>?_,fun b o e hx=>?_,fun b xs e=>tups b xs (I.base.tups b xs e),fun b o xs e=>frzs b o xs (I.base.frzs b o xs e),fun b ps e=>?_⟩,?_,fun x c e=>?_,?_,fun x c e=>?_,fun p hp=>?_,hok,I.len⟩
  · exact keep b o (neL b o e) hb (neC b o e hx) (I.base.keep b o e n hb hx) (I.base.free b o e n hx)
  · obtain ⟨sl,e1⟩:=I.base.slot b o e n hb hx
    obtain ⟨sl',e2⟩:=slot b _ (neL b o e) hb (neC b o e hx) e1 (I.base.free b o e n hx);exact ⟨sl',e2⟩
  · obtain ⟨o',e1⟩:=I.base.there b o e hx
    exact free b o' (neC b o e hx) e1 (I.base.free b o e n hx)
  · obtain ⟨o',e1⟩:=I.base.there b o e hx
    exact there b o' (neC b o e hx) e1
  · obtain ⟨m1,e1⟩:=I.base.tbls b ps e
    obtain ⟨m2,e2⟩:=tbls b _ e1;exact ⟨m1++m2,by rw[e2,Array.append_assoc]⟩
  · obtain ⟨m,hn,hl⟩:=I.loc
    refine ⟨m,ns m hn,fun i x v e1 e2 e3=>?_⟩;obtain ⟨u,r,l⟩:=hl i x v e1 e2 e3;refine ⟨u,r,?_⟩;rcases l with l | ⟨k,c,e,z⟩
    · exact .inl l
    · exact .inr ⟨k,c,e,cellK x c e _ z⟩
  · obtain ⟨v,z⟩:=I.cell x c e
    exact ⟨v,cellK x c e v z⟩
  · obtain ⟨m,⟨o,_,_,ho,_⟩,_⟩:=I.loc
    exact free _ o (fun z=>(hch _ z).2.1 rfl) ho I.free
  · obtain ⟨v,o,ho,hd⟩:=I.cell x c e
    exact free c o (fun z=>(hch c z).2.2.1 x c e rfl) ho (I.freeC x c e)
  · obtain ⟨e,n,ne,nf,d⟩:=I.pin p hp
    have nch:p.1∉ch:=fun z=>(hch p.1 z).2.2.2 p hp rfl;exact ⟨keep p.1 p.2 ne nf nch e n,free p.1 p.2 nch e n,ne,nf,d⟩
theorem Inv.un {t':Nat}(I:Inv X pins σ H s)(u:Un X.fs [] H H' s.heap h')(hok:HOk X.prog X.w H' h'):Inv X pins σ H' { s with heap:=h',toks:=t' }:=by
  obtain ⟨m,⟨o,es,ep,ho,r⟩,_⟩:=id I.loc;obtain ⟨sl,hL⟩:=u.any ho I.free (by simp);exact I.step (g':=s.gens) (d':=s.drawn) (ch:=[]) (fun _ z=>nomatch z) (fun b o _ hb _ e n=>u.keep b o e n hb (by simp)) (fun b o _ hb _ e n=>u.slot b o e n hb (by simp)) (fun b o _ e n=>u.free b o e n (by simp)) (fun b o _ e=>u.there b o e (by simp)) u.tups u.frzs u.tbls (fun m' hm=>by
    obtain ⟨o',es',ep',ho',r'⟩:=hm;rw[ho]at ho';cases ho'
    exact ⟨_,es',ep',hL,r'⟩) hok I.bare
theorem Inv.call {g':Array GenState}{t':Nat}{d':Drawn}{ch:List Addr}(I:Inv X pins σ H s)(u:Un (frs X.stack) ch H H' s.heap h')(hok:HOk X.prog X.w H' h')(hg:AllBare g')
    (hch:∀ b∈ch,(b∈X.ex∨X.s₀.heap.objs.size≤b)∧b≠X.env.locals∧(∀ x c,X.env.cells.lookup x=some c→c≠b)∧∀ p∈X.pn++pins,p.1≠b) :
    Inv X pins σ H' { s with heap:=h',gens:=g',drawn:=d',toks:=t' }:=by
  obtain ⟨m,⟨o,es,ep,ho,r⟩,_⟩:=id I.loc;obtain ⟨sl,hL⟩:=u.any ho I.free fun z=>(hch _ z).2.1 rfl;exact I.step (ch:=ch) hch (fun b o hL hb hc e n=>u.keep b o e n (fun z=>(yal.mp (I.stkSub b z)).elim hL hb) hc) (fun b o _ _ hc e n=>u.any e n hc) (fun b o hc e n=>u.free b o e n hc) (fun b o hc e=>u.there b o e hc) u.tups u.frzs u.tbls (fun m' hm=>by
    obtain ⟨o',es',ep',ho',r'⟩:=hm;rw[ho]at ho';cases ho'
    exact ⟨_,es',ep',hL,r'⟩) hok hg
theorem Inv.turned {t':Nat}{it:Addr}(I:Inv X pins σ H s)(k:∀ b o,b≠it→s.heap.get? b=some o→h'.get? b=some o)(hn:H it=none)(hL:it≠X.env.locals)
    (h1:it∈X.ex∨X.s₀.heap.objs.size≤it) (h2:∀ x c,X.env.cells.lookup x=some c→c≠it) (h3:∀ p∈X.pn++pins,p.1≠it):Inv X pins σ H { s with heap:=h',toks:=t' }:=by
  have nit:∀ b u,H b=some u→b≠it:=fun b u e z=>by rw[z,hn]at e;cases e
  refine I.step (g':=s.gens) (d':=s.drawn) (ch:=[it]) (fun b hb=>?_) (fun b o _ _ hc e _=>k b o (fun z=>hc (by simp[z])) e) (fun b o _ _ hc e _=>⟨o.slots,k b o (fun z=>hc (by simp[z])) e⟩) (fun _ _ _ _ n=>n)
    (fun b o hc e=>⟨o,k b o (fun z=>hc (by simp[z])) e⟩) (fun _ _ e=>e) (fun _ _ _ e=>e) (fun b ps e=>⟨#[],by rw[e];simp⟩) (fun m hm=>?_) (fun b u e=>?_) I.bare
  · have e:b=it:=by simpa using hb
    subst e;exact ⟨h1,hL,h2,h3⟩
  · obtain ⟨o,es,ep,ho,r⟩:=hm
    exact ⟨o,es,ep,k _ o (Ne.symm hL) ho,r⟩
  · refine (I.hok b u e).stay (fun c v hc q=>k c v ?_ q) (fun _ q=>q) fun _ _ q=>q
    rcases hc with z | z
    · rw[z];exact nit b u e
    · exact nit c _ z
theorem Inv.tok (I:Inv X pins σ H s)(t:Nat):Inv X pins σ H { s with toks:=t }:=I.un (h':=s.heap) (t':=t) Un.refl I.hok
theorem Inv.kept {t':Nat}(I:Inv X pins σ H s)(k:∀ b u,s.heap.get? b=some u→h'.get? b=some u):Inv X pins σ H { s with heap:=h',toks:=t' }:=I.un (Un.kept k) (I.hok.kept k)
theorem Inv.laid {a:Addr}{o:HO}{t':Nat}(I:Inv X pins σ H s)(k:∀ b u,s.heap.get? b=some u→h'.get? b=some u)(hp:s.heap.objs.size≤a)(new:za7 X.prog X.w (upd H a o) h' a o) :
    Inv X pins σ (upd H a o) { s with heap:=h',toks:=t' }:=I.un (Un.laid k hp (I.hok.fresh hp)) (I.hok.laid k hp new)
theorem Inv.write {x e:Addr}{o:HO}{t':Nat}(I:Inv X pins σ H s)(mu:Mut (H x))(he:e=x∨H e=some (.own x))(k:∀ b u,b≠e→s.heap.get? b=some u→h'.get? b=some u)(heo:∃ u,h'.get? e=some u)
    (new:za7 X.prog X.w (upd H x o) h' x o):Inv X pins σ (upd H x o) { s with heap:=h',toks:=t' }:=I.un (Un.write mu he k heo) (I.hok.write mu he k heo new)
theorem Inv.pins_of {pins':List (Addr×Obj)}(I:Inv X pins σ H s)(h:∀ p∈pins',s.heap.get? p.1=some p.2∧H p.1=none∧p.1≠X.env.locals∧p.1∉X.fs∧∀ v,p.2.data≠.cell v):Inv X pins' σ H s:=
  ⟨I.ok,I.os,I.bare,I.base,I.loc,I.cell,I.free,I.freeC,fun p hp=>(yai.mp hp).elim (fun z=>I.pin p (yaY _ z)) (h p),I.hok,I.len⟩
theorem zhm {N:List Str}(hN:N.Nodup){i j:Nat}{x:Str}(a:N[i]?=some x)(b:N[j]?=some x):i=j:=by
  obtain ⟨h1,e1⟩:=yao.mp a;obtain ⟨h2,e2⟩:=yao.mp b;exact (List.getElem_inj hN).mp (e1.trans e2.symm)
theorem zhO {M:Model}{A:Around}{E:Value→Shared→Prop}{i:Nat}{x:Str}{v:V}{u:Value}{Q:Unit→Shared→Prop}(I:Inv X pins σ H s)(hN:X.N.Nodup)(hi:X.N[i]?=some x)(hx:Loc X.env.scope x)(r:RelV v u)
    (h:∀ s',Inv X pins (σ.set i (some v)) H s'→(∃ a,Heap.SameBut a s.heap s'.heap∧(a=X.env.locals∨X.env.cells.lookup x=some a))→Q () s') (hf:X.fn x=true∨X.env.scope.names.lookup x=some .local:=by first | exact .inl rfl | exact .inr rfl | assumption):wpAny M A (storeName X.env x u) Q E s:=by
  obtain ⟨m,hn,hl⟩:=id I.loc;have hcls:(X.env.scope.kind == .class || (X.env.scope.kind == .module && X.env.locals != X.env.globals))=false:=by rw[I.ok.kind];rfl
  have hiσ:i < σ.length:=by rw[I.len];exact (yao.mp hi).1
  have cne:=I.cne;have tracked:∀{a:Addr} {h':Heap},(∃ o,s.heap.get? a=some o∧H a=none)→Heap.SameBut a s.heap h'→HOk X.prog X.w H h':=fun {a h'} ha hs b ob e=>by
    obtain ⟨_,_,hfree⟩:=ha;refine (I.hok b ob e).stay (fun c w' hc q=>(hs.2 c ?_).trans q) (fun _ q=>q) fun _ _ q=>q;rintro rfl;rcases hc with rfl | hc
    · rw[hfree]at e;cases e
    · rw[hfree]at hc;cases hc
  rcases hx with hk | hk
  · refine wpAny_storeName_local hk hn (fun h' hn' hs=>?_) hcls
    obtain ⟨oL,_,_,hoL,_⟩:=id hn;refine h _ ⟨I.ok,I.os,I.bare,⟨fun b o e n hb hx=>?_,fun b o e n hb hx=>?_,I.base.free,fun b o e hx=>?_,I.base.tups,I.base.frzs,I.base.tbls⟩,⟨_,hn',fun j y v' e1 e2 e3=>?_⟩,fun y c e=>?_,I.free,I.freeC,fun p hp=>?_,tracked ⟨oL,hoL,I.free⟩ hs,by simpa using I.len⟩ ⟨_,hs,.inl rfl⟩
    · exact (hs.2 b (yau (yaz (yae e) I.ok.above))).trans (I.base.keep b o e n hb hx)
    · obtain ⟨sl,e1⟩:=I.base.slot b o e n hb hx
      exact ⟨sl,(hs.2 b (yau (yaz (yae e) I.ok.above))).trans e1⟩
    · obtain ⟨o',e1⟩:=I.base.there b o e hx
      exact ⟨o',(hs.2 b (yau (yaz (yae e) I.ok.above))).trans e1⟩
    · by_cases hj:j=i
      · subst hj
        rw[hi]at e1;cases e1
        rw[List.getElem?_set_self hiσ]at e2;cases e2
        exact ⟨u,r,.inl ⟨hk,by simp⟩⟩
      · rw[ycu (Ne.symm hj)]at e2
        obtain ⟨u',r',q⟩:=hl j y v' e1 e2 e3;refine ⟨u',r',?_⟩;rcases q with ⟨k,e⟩ | ⟨k,c,e,z⟩
        · refine .inl ⟨k,?_⟩
          have:y≠x:=fun e=>hj (zhm hN e1 (e ▸ hi));simp[this,e]
        · exact .inr ⟨k,c,e,z.sameBut hs (cne y c e)⟩
    · obtain ⟨w',z⟩:=I.cell y c e
      exact ⟨w',z.sameBut hs (cne y c e)⟩
    · obtain ⟨e,n,ne,nf,d⟩:=I.pin p hp
      exact ⟨(hs.2 p.1 ne).trans e,n,ne,nf,d⟩
  · have hfn:X.fn x=true:=by
      rcases hf with z | z
      · exact z
      · rw[z]at hk;cases hk
    obtain ⟨c,hc⟩:=I.ok.has x (.inl hk);obtain ⟨w',z⟩:=I.cell x c hc;refine wpAny_storeName_cell I.ok.kind hk hc z (fun h' hc' hs=>?_);obtain ⟨oc,hoc,hocd⟩:=id z;refine h { s with heap:=h' } ⟨I.ok,I.os,I.bare,⟨fun b o e n hb hx=>?_,fun b o e n hb hx=>?_,I.base.free,fun b o e hx=>?_,I.base.tups,I.base.frzs,I.base.tbls⟩,⟨m,hn.sameBut hs (Ne.symm (cne x c hc)),fun j y v' e1 e2 e3=>?_⟩,fun y c' e=>?_,I.free,I.freeC,fun p hp=>?_,tracked ⟨oc,hoc,I.freeC x c hc⟩ hs,by simpa using I.len⟩ ⟨c,hs,.inr hc⟩
    · exact (hs.2 b (yau (yaz (yae e) (I.ok.cab x c hfn hc)))).trans (I.base.keep b o e n hb hx)
    · obtain ⟨sl,e1⟩:=I.base.slot b o e n hb hx
      exact ⟨sl,(hs.2 b (yau (yaz (yae e) (I.ok.cab x c hfn hc)))).trans e1⟩
    · obtain ⟨o',e1⟩:=I.base.there b o e hx
      exact ⟨o',(hs.2 b (yau (yaz (yae e) (I.ok.cab x c hfn hc)))).trans e1⟩
    · by_cases hj:j=i
      · subst hj
        rw[hi]at e1;cases e1
        rw[List.getElem?_set_self hiσ]at e2;cases e2
        exact ⟨u,r,.inr ⟨.inl hk,c,hc,hc'⟩⟩
      · rw[ycu (Ne.symm hj)]at e2
        obtain ⟨u',r',q⟩:=hl j y v' e1 e2 e3;refine ⟨u',r',?_⟩;rcases q with q | ⟨k,c',e,z'⟩
        · exact .inl q
        · refine .inr ⟨k,c',e,z'.sameBut hs ?_⟩
          rintro rfl;exact hj (zhm hN e1 (I.ok.inj _ _ _ e hc ▸ hi))
    · by_cases hcc:c'=c
      · subst hcc;exact ⟨_,hc'⟩
      · obtain ⟨w2,z2⟩:=I.cell y c' e
        exact ⟨w2,z2.sameBut hs hcc⟩
    · obtain ⟨e,n,ne,nf,d⟩:=I.pin p hp
      refine ⟨(hs.2 p.1 ?_).trans e,n,ne,nf,d⟩;intro q;rw[q,hoc]at e;have q':oc=p.2:=yag e;exact d w' (by rw[← q'];exact hocd)
theorem zgU {M:Model}{A:Around}{E:Value→Shared→Prop}{i:Nat}{x:Str}{v:V}{u:Value}{Q:Unit→Shared→Prop}(I:Inv X pins σ H s)(hN:X.N.Nodup)(hi:X.N[i]?=some x)(hx:Loc X.env.scope x)(r:RelV v u)
    (h:∀ s',Inv X pins (σ.set i (some v)) H s'→Q () s') (hf:X.fn x=true∨X.env.scope.names.lookup x=some .local:=by first | exact .inl rfl | exact .inr rfl | assumption):wpAny M A (storeName X.env x u) Q E s:=
  zhO I hN hi hx r (fun s' I' _=>h s' I') hf
theorem Inv.call' {s':Shared}{ch:List Addr}(I:Inv X pins σ H s)(ho:s'.os=s.os)(u:Un (frs X.stack) ch H H' s.heap s'.heap)(hok:HOk X.prog X.w H' s'.heap)(hg:AllBare s'.gens)
    (hch:∀ b∈ch,(b∈X.ex∨X.s₀.heap.objs.size≤b)∧b≠X.env.locals∧(∀ x c,X.env.cells.lookup x=some c→c≠b)∧∀ p∈X.pn++pins,p.1≠b):Inv X pins σ H' s':=by
  obtain ⟨h',g',d',t',o'⟩:=s';have e:o'=s.os:=ho;subst e;exact I.call (g':=g') (t':=t') (d':=d') u hok hg hch
end
abbrev XK:=Value→Option Addr→Hp→Prop
abbrev St:=List (Option V)
abbrev VK:=V→Hp→Prop
abbrev TE:=St→Hp→VK→Prop
abbrev TT:=St→Hp→(Bool→Hp→Prop)→Prop
abbrev TA:=St→Hp→(List V→Hp→Prop)→Prop
structure Ends where
  nx:St→Hp→Prop
  rt:VK
  bk:St→Hp→Prop:=fun _ _=>False
  ct:St→Hp→Prop:=fun _ _=>False
abbrev TS:=Ends→St→Hp→Prop
def EP (X:Cx)(pins:List (Addr×Obj))(σ:St)(Q:VK)(u:Value)(s':Shared):Prop:=∃ v H',Inv X pins σ H' s'∧RelV v u∧Q v H'
def TP (X:Cx)(pins:List (Addr×Obj))(σ:St)(Q:Bool→Hp→Prop)(b:Bool)(s':Shared):Prop:=∃ H',Inv X pins σ H' s'∧Q b H'
def AP (X:Cx)(pins:List (Addr×Obj))(σ:St)(Q:List V→Hp→Prop)(us:List Value)(s':Shared):Prop:=∃ vs H',Inv X pins σ H' s'∧Vals vs us∧Q vs H'
def SP (X:Cx)(pins:List (Addr×Obj))(D:Ends)(f:Flow)(s':Shared):Prop:=
  match f with
  | .next=>∃ σ' H',Inv X pins σ' H' s'∧D.nx σ' H'
  | .brk=>∃ σ' H',Inv X pins σ' H' s'∧D.bk σ' H'
  | .cont=>∃ σ' H',Inv X pins σ' H' s'∧D.ct σ' H'
  | .ret u=>∃ v σ' H',Inv X pins σ' H' s'∧RelV v u∧D.rt v H'
def PE (X:Cx)(e:Expr)(t:TE):Prop:=
  ∀(pins:List (Addr×Obj)) (s:Shared) (σ:St) (H:Hp) (Q:VK),Inv X pins σ H s→t σ H Q→wpAny (model X.prog X.w) X.A (eval e X.env) (EP X pins σ Q) X.xe s
def PT (X:Cx)(e:Expr)(t:TT):Prop:=
  ∀(pins:List (Addr×Obj)) (s:Shared) (σ:St) (H:Hp) (Q:Bool→Hp→Prop),Inv X pins σ H s→t σ H Q→wpAny (model X.prog X.w) X.A (isTrue e X.env (eval e X.env)) (TP X pins σ Q) X.xe s
def PW (X:Cx)(e:Expr)(t:TT):Prop:=
  ∀(whole:Sem Value) (pins:List (Addr×Obj)) (s:Shared) (σ:St) (H:Hp) (Q:Bool→Hp→Prop),Inv X pins σ H s→t σ H Q→wpAny (model X.prog X.w) X.A (isTrue e X.env whole) (TP X pins σ Q) X.xe s
theorem PW.pt {X:Cx}{e:Expr}{t:TT}(h:PW X e t):PT X e t:=h _
def PA (X:Cx)(es:List Expr)(t:TA):Prop:=
  ∀(pos:Pos) (pins:List (Addr×Obj)) (s:Shared) (σ:St) (H:Hp) (Q:List V→Hp→Prop),Inv X pins σ H s→t σ H Q→wpAny (model X.prog X.w) X.A (spliced (backTo pos (starEach es X.env))) (AP X pins σ Q) X.xe s
def PS (X:Cx)(st:Stmt)(t:TS):Prop:=
  ∀(pins:List (Addr×Obj)) (s:Shared) (σ:St) (H:Hp) (D:Ends),Inv X pins σ H s→t D σ H→wpAny (model X.prog X.w) X.A (exec st X.env) (SP X pins D) X.xe s
def PSs (X:Cx)(st:List Stmt)(t:TS):Prop:=
  ∀(pins:List (Addr×Obj)) (s:Shared) (σ:St) (H:Hp) (D:Ends),Inv X pins σ H s→t D σ H→wpAny (model X.prog X.w) X.A (execs st X.env) (SP X pins D) X.xe s
theorem thn {α:Type}{t:Sem α}{Q Q':α→Shared→Prop}{M:Model}{A:Around}{E:Value→Shared→Prop}{s:Shared}(h:wpAny M A t Q E s)(hQ:∀ a s,Q a s→Q' a s):wpAny M A t Q' E s:=wpAny_mono h hQ fun _ _ x=>x
end L2
namespace L2
open PySem PySem.Spec PyProof.Rows
section
variable {X:Cx}
def tVar (i:Nat):TE:=fun σ H Q=>∃ v,σ[i]?=some (some v)∧Q v H
def tC (v:V):TE:=fun _ H Q=>Q v H
theorem zqU {i:Nat}{x:Str}{pos:Pos}(hN:X.N[i]?=some x)(hv:Vis X.env.scope x)(hd:(x == ("__debug__" : Str))=false:=by decide)(hcd:(x == ("__classdict__" : Str))=false:=by decide):PE X (.Name x pos) (tVar i):=by
  intro pins s σ H Q I h;obtain ⟨v,e,h⟩:=h;obtain ⟨m,hn,hl⟩:=I.loc;obtain ⟨u,r,l⟩:=hl i x v hN e hv;have fin:EP X pins σ Q u s:=⟨v,H,I,r,h⟩;rcases l with ⟨hk,hm⟩ | ⟨hk,c,hc,hcell⟩
  · exact wpAny_Name (wpAny_loadName_local I.ok.kind hk hn hm fin) hd
  · rcases hk with hk | hk
    · exact wpAny_Name (wpAny_loadName_cell I.ok.kind hk hc hcell fin) hd
    · exact wpAny_Name (wpAny_loadName_free I.ok.kind hk hc hcell fin hcd) hd
theorem zae {i j pos}:PE X (.Constant (.int i) j pos) (tC (.int i)):=fun _ _ _ H _ I h=>wpAny_Constant_int ⟨.int i,H,I.tok _,⟨_,rfl⟩,h⟩
theorem zb2 {b j pos}:PE X (.Constant (.bool b) j pos) (tC (.bl b)):=fun _ _ _ H _ I h=>Constant_bool ⟨.bl b,H,I,rfl,h⟩
theorem zhX {j pos}:PE X (.Constant .none j pos) (tC .non):=fun _ _ _ H _ I h=>Constant_none ⟨.non,H,I,rfl,h⟩
theorem zbo {x j pos}:PE X (.Constant (.str x) j pos) (tC (.str x)):=fun _ _ _ H _ I h=>Calls.Constant_str ⟨.str x,H,I.tok _,⟨_,rfl⟩,h⟩
def Gl (X:Cx)(x:Str):Prop:=X.env.kindOf x=some .globalImplicit
theorem zed {E:Value→Shared→Prop}{pins:List (Addr×Obj)}{s:Shared}{σ:St}{H:Hp}{x:Str}{u:Value}{pos:Pos}{Q:Value→Shared→Prop}(I:Inv X pins σ H s)(hg:Gl X x)(hm:X.mg x=some u)(h:Q u s)
    (hd:(x == ("__debug__" : Str))=false:=by decide):wpAny (model X.prog X.w) X.A (eval (.Name x pos) X.env) Q E s:=
  Calls.Name_function_global I.ok.kind hg (Calls.loadGlobal_global (by rw[I.ok.glob];exact I.mod.glob.keeps I.bk) hm h) hd
theorem zfq {E:Value→Shared→Prop}{pins:List (Addr×Obj)}{s:Shared}{σ:St}{H:Hp}{x:Str}{u:Value}{pos:Pos}{Q:Value→Shared→Prop}(I:Inv X pins σ H s)(hg:Gl X x)(hm:X.mg x=none)(hv:bootBuiltins x=some u)(h:Q u s)
    (hn:x ≠ "__name__":=by decide) (hd:(x == ("__debug__" : Str))=false:=by decide):wpAny (model X.prog X.w) X.A (eval (.Name x pos) X.env) Q E s:=by
  obtain ⟨mb,h1,h2⟩:=I.mod.blt;exact Calls.Name_function_global I.ok.kind hg (Calls.loadGlobal_builtin (by rw[I.ok.glob];exact I.mod.glob.keeps I.bk) hm (by rw[I.ok.blt];exact h1.keeps I.bk) ((h2 x hn).trans hv) h) hd
theorem zb1 {x:Str}{v:V}{u:Value}{pos:Pos}(hg:Gl X x)(hm:X.mg x=some u)(r:RelV v u)(hd:(x == ("__debug__" : Str))=false:=by decide):PE X (.Name x pos) (tC v):=
  fun _ _ _ H _ I h=>zed I hg hm ⟨v,H,I,r,h⟩ hd
theorem zdw {x:Str}{v:V}{u:Value}{pos:Pos}(hg:Gl X x)(hm:X.mg x=none)(hv:bootBuiltins x=some u)(r:RelV v u)(hn:x ≠ "__name__":=by decide)(hd:(x == ("__debug__" : Str))=false:=by decide):PE X (.Name x pos) (tC v):=
  fun _ _ _ H _ I h=>zfq I hg hm hv ⟨v,H,I,r,h⟩ hn hd
variable {a b:Expr}{ta tb:TE}{pos:Pos}
def tB (t:TE):TT:=fun σ H Q=>t σ H fun x H1=>∃ c,x=.bl c∧Q c H1
theorem zbN {e:Expr}{t:TE}(h:PE X e t)(he:∀ whole,isTrue e X.env whole=(do let v ← whole;standAt e.pos;holding [v] (truthy v)):=by intro _;rfl):PT X e (tB t):=by
  intro pins s σ H Q I hw;refine isTrue_plain (thn (h pins s σ H _ I hw) fun v s1 zq0=>?_) (he _);obtain ⟨x,H1,I1,r1,q1⟩:=zq0;obtain ⟨d,rfl,q⟩:=q1;cases r1
  exact wpAny_truthy_bool ⟨H1,I1,q⟩
variable {tA tB':TT}{rest:List Expr}
def tAnd (t u:TT):TT:=fun σ H Q=>t σ H fun c H1=>if c=true then u σ H1 Q else Q false H1
def tOr (t u:TT):TT:=fun σ H Q=>t σ H fun c H1=>if c=true then Q true H1 else u σ H1 Q
def tNot (t:TT):TT:=fun σ H Q=>t σ H fun c H1=>Q (!c) H1
theorem zfU (ha:PT X a tA):PW X (.BoolOp .And [a] pos) tA:=by
  intro wh pins s σ H Q I h;refine isTrue_and (thn (ha pins s σ H Q I h) fun c s1 e=>?_);cases c with
  | true=>exact isTrue_and_nil e
  | false=>exact e
theorem zd4 (ha:PT X a tA):PW X (.BoolOp .Or [a] pos) tA:=by
  intro wh pins s σ H Q I h;refine isTrue_or (thn (ha pins s σ H Q I h) fun c s1 e=>?_);cases c with
  | false=>exact isTrue_or_nil e
  | true=>exact e
theorem zhV (ha:PT X a tA)(hb:PW X (.BoolOp .And (b::rest) pos) tB'):PW X (.BoolOp .And (a::b::rest) pos) (tAnd tA tB'):=by
  intro wh pins s σ H Q I h;refine isTrue_and (thn (ha pins s σ H _ I h) fun c s1 zq0=>?_);obtain ⟨H1,I1,q1⟩:=zq0;cases c with
  | true=>exact hb wh pins s1 σ H1 Q I1 q1
  | false=>exact ⟨H1,I1,q1⟩
theorem zgk (ha:PT X a tA)(hb:PW X (.BoolOp .Or (b::rest) pos) tB'):PW X (.BoolOp .Or (a::b::rest) pos) (tOr tA tB'):=by
  intro wh pins s σ H Q I h;refine isTrue_or (thn (ha pins s σ H _ I h) fun c s1 zq0=>?_);obtain ⟨H1,I1,q1⟩:=zq0;cases c with
  | true=>exact ⟨H1,I1,q1⟩
  | false=>exact hb wh pins s1 σ H1 Q I1 q1
theorem zck (ha:PT X a tA):PT X (.UnaryOp .Not a pos) (tNot tA):=by
  intro pins s σ H Q I h;exact isTrue_not (ha pins s σ H (fun c H1=>Q (!c) H1) I h)
def zrR (ta tb:TE):TE:=fun σ H Q=>ta σ H fun x H1=>∃ c,x=.bl c∧if c=true then tb σ H1 Q else Q (.bl false) H1
def tOrV (ta tb:TE):TE:=fun σ H Q=>ta σ H fun x H1=>∃ c,x=.bl c∧if c=true then Q (.bl true) H1 else tb σ H1 Q
def zrM (ta:TE):TE:=fun σ H Q=>ta σ H fun x H1=>∃ c,x=.bl c∧Q (.bl (!c)) H1
theorem zjZ {op}{t:TE}(h:PE X a t):PE X (.BoolOp op [a] pos) t:=fun pins s σ H Q I hw=>BoolOp_one (h pins s σ H Q I hw)
theorem zl1 (ha:PE X a ta)(hb:PE X (.BoolOp .And (b::rest) pos) tb):PE X (.BoolOp .And (a::b::rest) pos) (zrR ta tb):=by
  intro pins s σ H Q I h;refine BoolOp_and (thn (ha pins s σ H _ I h) fun v s1 zq0=>?_);obtain ⟨x,H1,I1,r1,q1⟩:=zq0;obtain ⟨c,rfl,q1⟩:=q1;cases r1
  refine wpAny_truthy_bool ?_;cases c with
  | true=>exact hb pins s1 σ H1 Q I1 q1
  | false=>exact ⟨.bl false,H1,I1,rfl,q1⟩
theorem zrV (ha:PE X a ta)(hb:PE X (.BoolOp .Or (b::rest) pos) tb):PE X (.BoolOp .Or (a::b::rest) pos) (tOrV ta tb):=by
  intro pins s σ H Q I h;refine BoolOp_or (thn (ha pins s σ H _ I h) fun v s1 zq0=>?_);obtain ⟨x,H1,I1,r1,q1⟩:=zq0;obtain ⟨c,rfl,q1⟩:=q1;cases r1
  refine wpAny_truthy_bool ?_;cases c with
  | false=>exact hb pins s1 σ H1 Q I1 q1
  | true=>exact ⟨.bl true,H1,I1,rfl,q1⟩
theorem zqV (ha:PE X a ta):PE X (.UnaryOp .Not a pos) (zrM ta):=by
  intro pins s σ H Q I h;refine UnaryOp_ (thn (ha pins s σ H _ I h) fun v s1 zq0=>?_);obtain ⟨x,H1,I1,r1,q1⟩:=zq0;obtain ⟨c,rfl,q1⟩:=q1;cases r1
  exact not_of (wpAny_truthy_bool ⟨.bl (!c),H1,I1,rfl,q1⟩)
def tIf (t:TT)(ta tb:TE):TE:=fun σ H Q=>t σ H fun c H1=>if c=true then ta σ H1 Q else tb σ H1 Q
theorem zj0 {c:Expr}(hc:PT X c tA)(ha:PE X a ta)(hb:PE X b tb):PE X (.IfExp c a b pos) (tIf tA ta tb):=by
  intro pins s σ H Q I h;refine wpAny_IfExp (thn (hc pins s σ H _ I h) fun d s1 zq0=>?_);obtain ⟨H1,I1,q1⟩:=zq0;cases d with
  | true=>exact ha pins s1 σ H1 Q I1 q1
  | false=>exact hb pins s1 σ H1 Q I1 q1
end
end L2
namespace L2
open PySem PySem.Spec PyProof.Rows
def SqL (K:Frag)(H:Hp)(a:Addr)(xs:List V):Prop:=
  Rd H a (.lst xs)∨
    ∃(o:Obj) (its:Array Value) (n:Nat),K.lookup a=some o∧o.cls=.type "list"∧o.dict=none∧o.data=.seq its n∧its.size≤sizeLine∧Vals xs its.toList
def SqT (K:Frag)(H:Hp)(a:Addr)(xs:List V):Prop:=
  Rd H a (.tup xs)∨
    ∃(o:Obj) (its:Array Value) (n:Nat),K.lookup a=some o∧o.cls=.type "tuple"∧o.data=.seq its n∧its.size≤sizeLine∧Vals xs its.toList
def absV:Value→Option V
  | .none=>some .non
  | .bool b=>some (.bl b)
  | .int i _=>some (.int i)
  | .str x _=>some (.str x)
  | .bytes b _=>some (.byt b)
  | .float b _=>some (.flt b)
  | .ref a=>some (.ref a)
  | .type n=>some (.ty n)
  | _=>none
theorem RelV.abs {x:V}{u:Value}(r:RelV x u):absV u=some x:=by
  cases x with
  | non=>cases r;rfl
  | bl _=>cases r;rfl
  | int _=>obtain ⟨t,rfl⟩:=r;rfl
  | str _=>obtain ⟨t,rfl⟩:=r;rfl
  | byt _=>obtain ⟨t,rfl⟩:=r;rfl
  | flt _=>obtain ⟨t,rfl⟩:=r;rfl
  | ref _=>cases r;rfl
  | ty _=>cases r;rfl
theorem RelV.inj {x y:V}{u:Value}(r:RelV x u)(q:RelV y u):x=y:=yag (r.abs.symm.trans q.abs)
theorem Vals.inj:∀{xs ys:List V} {us:List Value},Vals xs us→Vals ys us→xs=ys
  | _,_,_,.nil,.nil=>rfl
  | _,_,_,.cons r t,.cons r' t'=>by rw[r.inj r',Vals.inj t t']
section
variable {X:Cx}{pins:List (Addr×Obj)}{σ:St}{H:Hp}{s:Shared}{a:Addr}{xs ys:List V}
theorem SqL.of {K:Frag}(h:H a=some (.lst xs)):SqL K H a xs:=.inl (.inl h)
theorem SqT.of {K:Frag}(h:H a=some (.tup xs)):SqT K H a xs:=.inl (.inl h)
theorem Inv.list (I:Inv X pins σ H s)(h:SqL X.K H a xs):∃ its:List Value,Vals xs its∧PlainL s.heap a its.toArray∧xs.length≤sizeLine:=by
  rcases h with h | ⟨o,its,n,hk,hc,hd,hs,hz,r⟩
  · obtain ⟨z,its,n,r,e⟩:=h.ok I.hok
    exact ⟨its,r,⟨_,n,e,rfl,rfl,rfl⟩,z⟩
  · refine ⟨its.toList,r,⟨o,n,I.kIn a o hk,hc,hd,by simpa using hs⟩,?_⟩
    have e:=r.length;simp only[yav]at e;omega
theorem Inv.tuple (I:Inv X pins σ H s)(h:SqT X.K H a xs):∃ its:List Value,Vals xs its∧IsTup s.heap a its.toArray∧xs.length≤sizeLine:=by
  rcases h with h | ⟨o,its,n,hk,hc,hs,hz,r⟩
  · obtain ⟨z,its,r,p⟩:=h.ok I.hok
    exact ⟨its,r,p,z⟩
  · refine ⟨its.toList,r,⟨o,I.kIn a o hk,hc,n,by simpa using hs⟩,?_⟩
    have e:=r.length;simp only[yav]at e;omega
theorem Inv.list_inj (I:Inv X pins σ H s)(h:SqL X.K H a xs)(h':SqL X.K H a ys):xs=ys:=by
  obtain ⟨its,r,⟨o,n,e,_,_,d⟩,_⟩:=I.list h;obtain ⟨its',r',⟨o',n',e',_,_,d'⟩,_⟩:=I.list h';rw[e]at e';cases e'
  rw[d]at d';injection d' with d1 _;have:its=its':=by simpa using congrArg Array.toList d1
  subst this;exact r.inj r'
theorem Inv.tuple_inj (I:Inv X pins σ H s)(h:SqT X.K H a xs)(h':SqT X.K H a ys):xs=ys:=by
  obtain ⟨its,r,⟨o,e,_,n,d⟩,_⟩:=I.tuple h;obtain ⟨its',r',⟨o',e',_,n',d'⟩,_⟩:=I.tuple h';rw[e]at e';cases e'
  rw[d]at d';injection d' with d1 _;have:its=its':=by simpa using congrArg Array.toList d1
  subst this;exact r.inj r'
end
abbrev Cx.wish (X:Cx)(E:Value→Shared→Prop):Cx:={ X with xe:=E }
abbrev Cx.nox (X:Cx):Cx:=X.wish fun _ _=>False
theorem Cx.Ok.wish {X:Cx}(ok:X.Ok)(E:Value→Shared→Prop):(X.wish E).Ok:=
  ⟨ok.mod,ok.kind,ok.glob,ok.blt,ok.above,ok.inj,ok.has,ok.cab,ok.hd,ok.frames,ok.stk,ok.exf,ok.bs,ok.bsz,ok.noex,ok.exfs,ok.funs,ok.frf⟩
theorem Cx.Ok.unwish {X:Cx}{E:Value→Shared→Prop}(ok:(X.wish E).Ok):X.Ok:=
  ⟨ok.mod,ok.kind,ok.glob,ok.blt,ok.above,ok.inj,ok.has,ok.cab,ok.hd,ok.frames,ok.stk,ok.exf,ok.bs,ok.bsz,ok.noex,ok.exfs,ok.funs,ok.frf⟩
section
variable {X:Cx}{pins:List (Addr×Obj)}{σ:St}{H:Hp}{s:Shared}{E:Value→Shared→Prop}
theorem Inv.wish (I:Inv X pins σ H s)(E:Value→Shared→Prop):Inv (X.wish E) pins σ H s:=⟨I.ok.wish E,I.os,I.bare,I.base,I.loc,I.cell,I.free,I.freeC,I.pin,I.hok,I.len⟩
theorem Inv.unwish (I:Inv (X.wish E) pins σ H s):Inv X pins σ H s:=⟨I.ok.unwish,I.os,I.bare,I.base,I.loc,I.cell,I.free,I.freeC,I.pin,I.hok,I.len⟩
theorem SP.unwish {D:Ends}{f:Flow}{s':Shared}(h:SP (X.wish E) pins D f s'):SP X pins D f s':=by
  cases f with
  | next=>obtain ⟨σ',H',I,q⟩:=h;exact ⟨σ',H',I.unwish,q⟩
  | brk=>obtain ⟨σ',H',I,q⟩:=h;exact ⟨σ',H',I.unwish,q⟩
  | cont=>obtain ⟨σ',H',I,q⟩:=h;exact ⟨σ',H',I.unwish,q⟩
  | ret u=>obtain ⟨v,σ',H',I,r,q⟩:=h;exact ⟨v,σ',H',I.unwish,r,q⟩
theorem PSs.nox {st:List Stmt}{t:TS}(h:PSs X.nox st t):PSs X st t:=fun pins s σ H D I hw=>
  wpAny_mono (h pins s σ H D (I.wish _) hw) (fun _ _ q=>q.unwish) fun _ _ z=>False.elim z
end
section
variable {X:Cx}{st:Stmt}{rest:List Stmt}{t u:TS}{e:Expr}{te:TE}{pos:Pos}
def zrN:TS:=fun D σ H=>D.nx σ H
def tSeq (t u:TS):TS:=fun D σ H=>t { D with nx:=u D } σ H
theorem zaA:PSs X [] zrN:=fun _ _ σ H _ I h=>wpAny_execs_nil ⟨σ,H,I,h⟩
theorem zag (h1:PS X st t)(h2:PSs X rest u):PSs X (st::rest) (tSeq t u):=by
  intro pins s σ H D I h;refine wpAny_execs_cons (thn (h1 pins s σ H { D with nx:=u D } I h) fun f s1 q=>?_);cases f with
  | next=>
    obtain ⟨σ',H',I',q⟩:=q;exact h2 pins s1 σ' H' D I' q
  | ret v=>exact q
  | brk=>exact q
  | cont=>exact q
theorem zaf (h1:PS X st t):PSs X [st] t:=by
  intro pins s σ H D I h;refine wpAny_execs_cons (thn (h1 pins s σ H D I h) fun f s1 q=>?_);cases f with
  | next=>exact wpAny_execs_nil q
  | ret v=>exact q
  | brk=>exact q
  | cont=>exact q
theorem Inv.quiet {pins:List (Addr×Obj)}{σ:St}{H:Hp}{s:Shared}(I:Inv X pins σ H s):interactive X.env=false:=by simp[interactive,I.ok.kind]
def zrO (te:TE):TS:=fun D σ H=>te σ H fun _ H1=>D.nx σ H1
theorem zbd (he:PE X e te)(hs:swapsWith e none pos.line X.env=pure false:=by rfl):PS X (.Expr e pos) (zrO te):=by
  intro pins s σ H D I h;exact wpAny_Expr_any (thn (he pins s σ H _ I h) fun v s1 zq0=>(by obtain ⟨x,H1,I1,r1,q1⟩:=zq0;exact ⟨σ,H1,I1,q1⟩)) I.quiet hs
def tRet (te:TE):TS:=fun D σ H=>te σ H D.rt
theorem zao (he:PE X e te):PS X (.Return (some e) pos) (tRet te):=by
  intro pins s σ H D I h;exact wpAny_Return_some (thn (he pins s σ H _ I h) fun v s1 zq0=>(by obtain ⟨x,H1,I1,r1,q1⟩:=zq0;exact ⟨x,σ,H1,I1,r1,q1⟩))
def tIfS (c:TT)(t u:TS):TS:=fun D σ H=>c σ H fun b H1=>if b=true then t D σ H1 else u D σ H1
theorem za6 {c:Expr}{a b:List Stmt}{tc:TT}(hc:PT X c tc)(ha:PSs X a t)(hb:PSs X b u):PS X (.If c a b pos) (tIfS tc t u):=by
  intro pins s σ H D I h;refine wpAny_If (thn (hc pins s σ H _ I h) fun d s1 zq0=>?_);obtain ⟨H1,I1,q1⟩:=zq0;cases d with
  | true=>exact ha pins s1 σ H1 D I1 q1
  | false=>exact hb pins s1 σ H1 D I1 q1
def zqx:TS:=fun _ _ _=>False
theorem znF:PS X st zqx:=fun _ _ _ _ _ _ h=>h.elim
end
abbrev TG:=V→St→Hp→(St→Hp→Prop)→Prop
abbrev TGs:=List V→St→Hp→(St→Hp→Prop)→Prop
def PG (X:Cx)(target:Expr)(t:TG):Prop:=
  ∀(pins:List (Addr×Obj)) (s:Shared) (σ:St) (H:Hp) (v:V) (u:Value) (Q:St→Hp→Prop),Inv X pins σ H s→RelV v u→t v σ H Q→
    wpAny (model X.prog X.w) X.A (assign target X.env u) (fun _ s'=>∃ σ' H',Inv X pins σ' H' s'∧Q σ' H') X.xe s
def PGs (X:Cx)(ts:List Expr)(t:TGs):Prop:=
  ∀(pins:List (Addr×Obj)) (s:Shared) (σ:St) (H:Hp) (vs:List V) (us:List Value) (Q:St→Hp→Prop),Inv X pins σ H s→Vals vs us→t vs σ H Q→
    wpAny (model X.prog X.w) X.A (assignInOrder ((assignEach ts X.env).map (·.2)) us) (fun _ s'=>∃ σ' H',Inv X pins σ' H' s'∧Q σ' H') X.xe s
abbrev TSet:=V→V→V→Hp→(Hp→Prop)→Prop
def PSet (X:Cx)(t:TSet):Prop:=
  ∀(pins:List (Addr×Obj)) (s:Shared) (σ:St) (H:Hp) (o i v:V) (ov iv u:Value) (Q:Hp→Prop),Inv X pins σ H s→RelV o ov→RelV i iv→RelV v u→t o i v H Q→
    wpAny (model X.prog X.w) X.A (setItem ov iv u) (fun _ s'=>∃ H',Inv X pins σ H' s'∧Q H') X.xe s
section
variable {X:Cx}{pos:Pos}
def zhw (i:Nat):TG:=fun v σ H Q=>Q (σ.set i (some v)) H
theorem zan {i:Nat}{x:Str}(hN:X.N.Nodup)(hi:X.N[i]?=some x)(hx:Loc X.env.scope x)(hf:X.fn x=true∨X.env.scope.names.lookup x=some .local:=by first | exact .inl rfl | exact .inr rfl | assumption):PG X (.Name x pos) (zhw i):=by
  intro pins s σ H v u Q I r h;exact wpAny_assign_Name (zgU I hN hi hx r (fun s' I'=>⟨_,H,I',h⟩) hf)
def gNil:TGs:=fun vs σ H Q=>vs=[]∧Q σ H
def zp5 (t:TG)(u:TGs):TGs:=fun vs σ H Q=>∃ v r,vs=v::r∧t v σ H fun σ' H'=>u r σ' H' Q
theorem zcN:PGs X [] gNil:=by
  intro pins s σ H vs us Q I r h;obtain ⟨e,h⟩:=h;subst e;cases r
  exact assignInOrder_nil ⟨σ,H,I,h⟩
theorem zaM {e:Expr}{es:List Expr}{t:TG}{u:TGs}(h1:PG X e t)(h2:PGs X es u)
    (hs:(assignEach (e::es) X.env).map (·.2)=assign e X.env::(assignEach es X.env).map (·.2):=by rfl):PGs X (e::es) (zp5 t u):=by
  intro pins s σ H vs us Q I r h;obtain ⟨v,vr,e1,h⟩:=h;subst e1;cases r with
  | cons r rr=>
    rw[hs];refine assignInOrder_cons (thn (h1 pins s σ H _ _ _ I r h) fun _ s1 zq0=>?_);obtain ⟨σ1,H1,I1,q1⟩:=zq0;exact h2 pins s1 σ1 H1 _ _ Q I1 rr q1
def gTup (K:Frag)(n:Nat)(t:TGs):TG:=fun v σ H Q=>∃ a xs,v=.ref a∧SqT K H a xs∧xs.length=n∧t xs σ H Q
theorem zgx {es:List Expr}{k:Nat}{t:TGs}{n:Nat}(hc:X.calm=true)(h:PGs X es t)
    (hn:(assignEach es X.env).length=n:=by rfl) (hst:(assignEach es X.env).findIdx? (·.1)=none:=by rfl):PG X (.Tuple es k pos) (gTup X.K n t):=by
  intro pins s σ H v u Q I r hw;obtain ⟨a,xs,e1,hq,hl,hw⟩:=hw;subst e1;cases r
  obtain ⟨its,rv,ht,hz⟩:=I.tuple hq;refine assign_Tuple_tuple (I.ok.hd hc) ht (by simp[hn,← hl,rv.length]) hst fun h' hx=>?_;have I1:Inv X pins σ H { s with heap:=h' }:=I.kept (t':=s.toks) fun b o e=>hx b o (yau (yae e)) e;exact h pins _ σ H xs _ Q I1 (by simpa using rv) hw
def gSub (to ti:TE)(t:TSet):TG:=fun v σ H Q=>to σ H fun o H1=>ti σ H1 fun i H2=>t o i v H2 fun H3=>Q σ H3
theorem zoV {o i:Expr}{to ti:TE}{t:TSet}(ho:PE X o to)(hi:PE X i ti)(hs:PSet X t)
    (ha:∀ v,assign (.Subscript o i pos) X.env v=(do
      let ov ← holding [v] (eval o X.env)
      let iv ← holding [v,ov] (eval i X.env)
      standAt pos
      holding [v,ov,iv] (setItem ov iv v)
      release [v,ov,iv] []):=by intro _;rfl):PG X (.Subscript o i pos) (gSub to ti t):=by
  intro pins s σ H v u Q I r h;rw[ha];refine wpAny_bind (wpAny_holding (thn (ho pins s σ H _ I h) fun ov s1 zq0=>?_));obtain ⟨x,H1,I1,r1,q1⟩:=zq0;refine wpAny_bind (wpAny_holding (thn (hi pins s1 σ H1 _ I1 q1) fun iv s2 zq0=>?_));obtain ⟨y,H2,I2,r2,q2⟩:=zq0;refine wpAny_bind (wpAny_standAt (wpAny_bind (wpAny_holding (thn (hs pins s2 σ H2 x y v ov iv u _ I2 r1 r2 r q2) fun _ s3 zq0=>?_))));obtain ⟨H3,I3,q3⟩:=zq0;exact wpAny_release ⟨σ,H3,I3,q3⟩
def tAsg (te:TE)(g:TG):TS:=fun D σ H=>te σ H fun x H1=>g x σ H1 D.nx
theorem zlZ {tg e:Expr}{te:TE}{g:TG}(he:PE X e te)(hg:PG X tg g)(hs:swapsWithSole [tg] e pos.line X.env=pure false:=by rfl)(hw:swappedStores [tg] e X.env=pure none:=by rfl)
    (h1:(assignEach [tg] X.env).map (·.2)=[assign tg X.env]:=by rfl):PS X (.Assign [tg] e pos) (tAsg te g):=by
  intro pins s σ H D I h;refine wpAny_Assign_stores (thn (he pins s σ H _ I h) fun v s1 zq0=>?_) hs hw;obtain ⟨x,H1,I1,r1,q1⟩:=zq0;rw[h1];exact thn (hg pins s1 σ H1 x v _ I1 r1 q1) fun _ s2 q=>q
theorem zas {i:Nat}{x:Str}{e:Expr}{te:TE}{pos':Pos}(hN:X.N.Nodup)(hi:X.N[i]?=some x)(hx:Loc X.env.scope x)(he:PE X e te)(hs:swapsWith e (some (.Name x pos')) pos.line X.env=pure false:=by rfl)(hf:X.fn x=true∨X.env.scope.names.lookup x=some .local:=by first | exact .inl rfl | exact .inr rfl | assumption) :
    PS X (.Assign [.Name x pos'] e pos) (tAsg te (zhw i)):=by
  intro pins s σ H D I h;refine wpAny_Assign_Name (thn (he pins s σ H _ I h) fun v s1 zq0=>?_) hs;obtain ⟨y,H1,I1,r1,q1⟩:=zq0;exact zgU I1 hN hi hx r1 (fun s2 I2=>⟨_,H1,I2,q1⟩) hf
end
section
variable {X:Cx}{pos:Pos}
def zlA (c:TT)(tb:TS):TS:=fun D σ H=>∃ W:Nat→St→Hp→Prop,(∃ m,W m σ H)∧∀ m σ H,W m σ H→
  c σ H fun b H1=>if b=true then ∃ N:St→Hp→Prop,(∀ σ' H',N σ' H'→∃ m',m' < m∧W m' σ' H')∧tb { D with nx:=N,ct:=N,bk:=D.nx } σ H1 else D.nx σ H1
theorem zg8 {c:Expr}{body:List Stmt}{tc:TT}{tb:TS}(hp:PassesOwn (model X.prog X.w) X.A X.env X.xe)(hc:PT X c tc)(hb:PSs X body tb):PS X (.While c body [] pos) (zlA tc tb):=by
  intro pins s σ H D I h;obtain ⟨W,⟨m0,w0⟩,turn⟩:=h;refine wpAny_While (codeAny_whileLoop (fun n s'=>∃ σ' H',Inv X pins σ' H' s'∧W n σ' H') ?_ m0 ⟨σ,H,I,w0⟩);rintro n s1 ⟨σ1,H1,I1,w1⟩;refine wpAny_passesOwn hp (thn (hc pins s1 σ1 H1 _ I1 (turn n σ1 H1 w1)) fun b s2 zq0=>?_);obtain ⟨H2,I2,q2⟩:=zq0;cases b with
  | true=>
    obtain ⟨N,hN,q2⟩:=q2;rw[if_pos rfl];refine wpAny_passesOwn hp (thn (hb pins s2 σ1 H2 _ I2 q2) fun f s3 q3=>?_);cases f with
    | next=>
      obtain ⟨σ3,H3,I3,n3⟩:=q3;obtain ⟨m',hm,w3⟩:=hN σ3 H3 n3;exact ⟨m',hm,σ3,H3,I3,w3⟩
    | cont=>
      obtain ⟨σ3,H3,I3,n3⟩:=q3;obtain ⟨m',hm,w3⟩:=hN σ3 H3 n3;exact ⟨m',hm,σ3,H3,I3,w3⟩
    | brk=>exact q3
    | ret v=>exact q3
  | false=>
    rw[if_neg yaC];exact wpAny_execs_nil ⟨σ1,H2,I2,q2⟩
end
structure It where
  go:Nat→Hp→Prop
  yld:Nat→Hp→V→Hp→Prop
  stop:Nat→Hp→Prop
def FpOk (X:Cx)(pins:List (Addr×Obj))(H:Hp)(b:Addr):Prop:=
  H b=none∧b≠X.env.locals∧b∉X.fs∧(b∈X.ex∨X.s₀.heap.objs.size≤b)∧(∀ x c,X.env.cells.lookup x=some c→c≠b)∧∀ p∈X.pn++pins,p.1≠b
theorem Inv.fpOk {X:Cx}{pins:List (Addr×Obj)}{σ:St}{H H':Hp}{s:Shared}{b:Addr}(I:Inv X pins σ H s)(hb:s.heap.objs.size≤b)(hn:H' b=none):FpOk X pins H' b:=by
  refine ⟨hn,ybB (yaz I.lt hb),I.nofs hb,.inr (yaB I.sz hb),fun x c e z=>?_,fun p hp z=>?_⟩
  · obtain ⟨v,q⟩:=I.cell x c e
    exact absurd (yaz q.lt (by rw[z];exact hb)) (yaV _)
  · exact absurd (yaz (yae (I.pin p hp).1) (by rw[z];exact hb)) (yaV _)
structure Turn (P:Program)(w:World)(K:Frag)(tg:Expr)(J:It)(fp:List Addr)(it:Addr)(tn:Nat→Heap→Prop):Prop where
  mem:it∈fp
  obj:∀ i h,tn i h→∀ b∈fp,∃ o,h.get? b=some o∧∀ v,o.data≠.cell v
  keep:∀ i h h',tn i h→(∀ b∈fp,∀ o,h.get? b=some o→h'.get? b=some o)→tn i h'
  item:∀(X:Cx),X.prog=P→X.w=w→X.K=K→X.calm=true→∀(i:Nat) (pins:List (Addr×Obj)) (s:Shared) (σ:St) (H:Hp) (E:Value→Shared→Prop),Inv X pins σ H s→(∀ b∈fp,FpOk X pins H b)→tn i s.heap→J.go i H→
    wpAny (model P w) X.A (pyNext (.ref it)) (fun r s1=>∃ u,r=some u∧
      wpAny (model P w) X.A (letOwnedTupleGo tg (.ref it) u) (fun _ s2=>∃ x H',Inv X pins σ H' s2∧RelV x u∧J.yld i H x H'∧tn (i+1) s2.heap∧∀ b∈fp,H' b=none) E s1) E s
  done:∀(X:Cx),X.prog=P→X.w=w→X.K=K→X.calm=true→∀(i:Nat) (pins:List (Addr×Obj)) (s:Shared) (σ:St) (H:Hp) (E:Value→Shared→Prop),Inv X pins σ H s→(∀ b∈fp,FpOk X pins H b)→tn i s.heap→J.stop i H→
    wpAny (model P w) X.A (pyNext (.ref it)) (fun r s1=>r=none∧Inv X pins σ H s1) E s
  self:∀(A:Around) (i:Nat) (s:Shared) (Q:Value→Shared→Prop) (E:Value→Shared→Prop),tn i s.heap→Q (.ref it) s→wpAny (model P w) A (pyIter (.ref it)) Q E s
abbrev TI:=St→Hp→(It→Hp→Prop)→Prop
def PIE (X:Cx)(pins:List (Addr×Obj))(σ:St)(tg:Expr)(R:It→Hp→Prop)(itv:Value)(s2:Shared):Prop:=
  ∃(it:Addr) (fp:List Addr) (tn:Nat→Heap→Prop) (J:It) (H':Hp),itv=.ref it∧Inv X pins σ H' s2∧Turn X.prog X.w X.K tg J fp it tn∧tn 0 s2.heap∧(∀ b∈fp,FpOk X pins H' b)∧R J H'
def PI (X:Cx)(tg iter:Expr)(wi:TI):Prop:=
  ∀(pins:List (Addr×Obj)) (s:Shared) (σ:St) (H:Hp) (R:It→Hp→Prop),Inv X pins σ H s→wi σ H R→
    wpAny (model X.prog X.w) X.A (eval iter X.env) (fun v s1=>wpAny (model X.prog X.w) X.A (pyIter v) (PIE X pins σ tg R) X.xe s1) X.xe s
theorem zom {M:Model}{A:Around}{E:Value→Shared→Prop}{s:Shared}{tg:Expr}{it:Addr}{u:Value}{o:Obj}{n:String}{vs:Array Value}{Q:Unit→Shared→Prop}(ho:s.heap.get? it=some o)(hc:o.cls=.type n)(hd:o.data=.fields vs)
    (hn:["enumerate","zip","dict_itemiterator","dict_reverseitemiterator","odict_iterator","itertools.zip_longest","itertools.pairwise"].contains n=false) (hQ:Q () s):wpAny M A (letOwnedTupleGo tg (.ref it) u) Q E s:=by
  unfold letOwnedTupleGo;cases tg <;> first
    | exact wpAny_pure hQ
    | (cases u <;> first
        | exact wpAny_pure hQ
        | (refine wpAny_bind (wpAny_load ho ?_)
           rw[hc,hd];show wpAny M A (if (["enumerate","zip","dict_itemiterator","dict_reverseitemiterator","odict_iterator","itertools.zip_longest","itertools.pairwise"].contains n && vs[0]? == some (rawInt _))=true then _ else _) Q E s
           rw[if_neg (by intro h;rw[hn,ybW]at h;cases h)]
           exact wpAny_pure hQ))
def Itl (K:Frag)(a:Addr):It:=
  ⟨fun i H=>∃ xs x,SqL K H a xs∧xs[i]?=some x,fun i H x H'=>H'=H∧∀ xs,SqL K H a xs→xs[i]?=some x,fun i H=>∃ xs,SqL K H a xs∧xs.length≤i⟩
def Itt (K:Frag)(a:Addr):It:=
  ⟨fun i H=>∃ xs x,SqT K H a xs∧xs[i]?=some x,fun i H x H'=>H'=H∧∀ xs,SqT K H a xs→xs[i]?=some x,fun i H=>∃ xs,SqT K H a xs∧xs.length≤i⟩
def Itr (lo:Int)(n:Nat):It:=⟨fun i _=>i < n,fun i H x H'=>H'=H∧x=.int (lo+i),fun i _=>n≤i⟩
theorem zlu {P:Program}{w:World}{K:Frag}{tg:Expr}(a it:Addr):Turn P w K tg (Itl K a) [it] it (fun i h=>h.IsListIter it a i) where
  mem:=by simp
  obj:=fun i h st b hb=>by
    have e:b=it:=by simpa using hb
    subst e;obtain ⟨o,e,c,d⟩:=st;exact ⟨o,e,fun v z=>by rw[d]at z;cases z⟩
  keep:=fun i h h' st k=>st.at fun o e=>k it (by simp) o e
  item:=by
    intro X hP hw hK hc i pins s σ H E I hf st hg;subst hP hw hK;obtain ⟨xs,x,hq,hx⟩:=hg;obtain ⟨its,rv,p,hz⟩:=I.list hq;obtain ⟨u,hu,ru⟩:=rv.get hx;obtain ⟨f0,f1,f2,f3,f4,f5⟩:=hf it (by simp);refine wpAny_pyNext_list_item st p.isList (x:=u) (by simpa using hu) fun h' st' sb=>?_;have I1:Inv X pins σ H { s with heap:=h' }:=I.turned (t':=s.toks) (fun b o hb e=>(sb.2 b hb).trans e) f0 f1 f3 f4 f5;obtain ⟨o,e,c,d⟩:=id st';exact ⟨u,rfl,zom (s:={ s with heap:=h' }) e c d (by decide) ⟨x,H,I1,ru,⟨rfl,fun ys hy=>by rw[I.list_inj hy hq];exact hx⟩,st',fun b hb=>(hf b hb).1⟩⟩
  done:=by
    intro X hP hw hK hc i pins s σ H E I hf st hg;subst hP hw hK;obtain ⟨xs,hq,hx⟩:=hg;obtain ⟨its,rv,p,hz⟩:=I.list hq;obtain ⟨f0,f1,f2,f3,f4,f5⟩:=hf it (by simp);have hl:=rv.length;exact wpAny_pyNext_list_end (I.ok.hd hc) st p.isList (by simp;omega) fun h' eb=>⟨rfl,I.turned (t':=s.toks) (fun b o hb e=>eb b o hb e) f0 f1 f3 f4 f5⟩
  self:=fun _ _ _ _ _ st h=>wpAny_pyIter_listiter st h
theorem zkC {P:Program}{w:World}{K:Frag}{tg:Expr}(a it:Addr):Turn P w K tg (Itt K a) [it] it (fun i h=>h.IsTupleIter it a i) where
  mem:=by simp
  obj:=fun i h st b hb=>by
    have e:b=it:=by simpa using hb
    subst e;obtain ⟨o,e,c,d⟩:=st;exact ⟨o,e,fun v z=>by rw[d]at z;cases z⟩
  keep:=fun i h h' st k=>st.at fun o e=>k it (by simp) o e
  item:=by
    intro X hP hw hK hc i pins s σ H E I hf st hg;subst hP hw hK;obtain ⟨xs,x,hq,hx⟩:=hg;obtain ⟨its,rv,p,hz⟩:=I.tuple hq;obtain ⟨u,hu,ru⟩:=rv.get hx;obtain ⟨f0,f1,f2,f3,f4,f5⟩:=hf it (by simp);refine wpAny_pyNext_tuple_item st (show s.heap.IsTuple a its.toArray from p) (x:=u) (by simpa using hu) fun h' st' sb=>?_;have I1:Inv X pins σ H { s with heap:=h' }:=I.turned (t':=s.toks) (fun b o hb e=>(sb.2 b hb).trans e) f0 f1 f3 f4 f5;obtain ⟨o,e,c,d⟩:=id st';exact ⟨u,rfl,zom (s:={ s with heap:=h' }) e c d (by decide) ⟨x,H,I1,ru,⟨rfl,fun ys hy=>by rw[I.tuple_inj hy hq];exact hx⟩,st',fun b hb=>(hf b hb).1⟩⟩
  done:=by
    intro X hP hw hK hc i pins s σ H E I hf st hg;subst hP hw hK;obtain ⟨xs,hq,hx⟩:=hg;obtain ⟨its,rv,p,hz⟩:=I.tuple hq;obtain ⟨f0,f1,f2,f3,f4,f5⟩:=hf it (by simp);have hl:=rv.length;exact wpAny_pyNext_tuple_end (I.ok.hd hc) st (show s.heap.IsTuple a its.toArray from p) (by simp;omega) fun h' eb=>⟨rfl,I.turned (t':=s.toks) (fun b o hb e=>eb b o hb e) f0 f1 f3 f4 f5⟩
  self:=fun _ _ _ _ _ st h=>wpAny_pyIter_tupleiter st h
theorem zkD {P:Program}{w:World}{K:Frag}{tg:Expr}(it:Addr)(lo:Int)(n:Nat):Turn P w K tg (Itr lo n) [it] it (fun i h=>IsRangeIter h it (lo+(i:Nat) * 1) ((n:Int) - (i:Nat)) 1) where
  mem:=by simp
  obj:=fun i h st b hb=>by
    have e:b=it:=by simpa using hb
    subst e;exact ⟨_,st,fun v z=>by
      have z':Data.fields _=Data.cell v:=z;cases z'⟩
  keep:=fun i h h' st k=>k it (by simp) _ st
  item:=by
    intro X hP hw hK hc i pins s σ H E I hf st hg;subst hP hw hK;obtain ⟨f0,f1,f2,f3,f4,f5⟩:=hf it (by simp);have W:=Walks.range (prog:=X.prog) (w:=X.w) (I.ok.hd hc) it lo 1 n;refine W.item i s _ _ hg st fun v h' tk hv st' kk=>?_;obtain ⟨t,rfl⟩:=hv;have I1:Inv X pins σ H { s with heap:=h',toks:=tk }:=I.turned (fun b o hb e=>kk b o (by simpa using hb) e) f0 f1 f3 f4 f5;refine ⟨_,rfl,zom (s:={ s with heap:=h',toks:=tk }) (n := "range_iterator") st' rfl rfl (by decide) ⟨.int (lo+i),H,I1,⟨t,?_⟩,⟨rfl,rfl⟩,st',fun b hb=>(hf b hb).1⟩⟩;rw[Int.mul_one]
  done:=by
    intro X hP hw hK hc i pins s σ H E I hf st hg;subst hP hw hK;obtain ⟨f0,f1,f2,f3,f4,f5⟩:=hf it (by simp);exact wpAny_pyNext_range_end (I.ok.hd hc) st (by have:n≤i:=hg;omega) fun h' eb=>⟨rfl,I.turned (t':=s.toks) (fun b o hb e=>eb b o hb e) f0 f1 f3 f4 f5⟩
  self:=fun _ _ _ _ _ st h=>wpAny_pyIter_rangeiter st h
end L2
namespace L2
open PySem PySem.Spec PyProof.Rows
section
variable {X:Cx}{tg:Expr}
def zr0 (K:Frag)(tl:TE):TI:=fun σ H R=>tl σ H fun x H1=>∃ a,x=.ref a∧(∃ xs,SqL K H1 a xs)∧R (Itl K a) H1
def iTup (K:Frag)(tl:TE):TI:=fun σ H R=>tl σ H fun x H1=>∃ a,x=.ref a∧(∃ xs,SqT K H1 a xs)∧R (Itt K a) H1
theorem zbq {l:Expr}{tl:TE}(hl:PE X l tl):PI X tg l (zr0 X.K tl):=by
  intro pins s σ H R I h;refine thn (hl pins s σ H _ I h) fun v s1 zq0=>?_;obtain ⟨x,H1,I1,r1,q1⟩:=zq0;obtain ⟨a,e,⟨xs,hq⟩,q⟩:=q1;subst e;cases r1
  obtain ⟨its,rv,p,hz⟩:=I1.list hq;refine wpAny_pyIter_list p.isList ?_;refine ⟨s1.heap.objs.size,[s1.heap.objs.size],_,_,H1,rfl,I1.kept (t':=s1.toks) fun b o e=>yap _ e,zlu a _,⟨_,yaO _ rfl,rfl,rfl⟩,fun b hb=>?_,q⟩;have e:b=s1.heap.objs.size:=by simpa using hb
  subst e;exact I1.fpOk (yaa _) (I1.hok.fresh (yaa _))
theorem zgw {l:Expr}{tl:TE}(hl:PE X l tl):PI X tg l (iTup X.K tl):=by
  intro pins s σ H R I h;refine thn (hl pins s σ H _ I h) fun v s1 zq0=>?_;obtain ⟨x,H1,I1,r1,q1⟩:=zq0;obtain ⟨a,e,⟨xs,hq⟩,q⟩:=q1;subst e;cases r1
  obtain ⟨its,rv,p,hz⟩:=I1.tuple hq;refine wpAny_pyIter_tuple (show s1.heap.IsTuple a its.toArray from p) ?_;refine ⟨s1.heap.objs.size,[s1.heap.objs.size],_,_,H1,rfl,I1.kept (t':=s1.toks) fun b o e=>yap _ e,zkC a _,⟨_,yaO _ rfl,rfl,rfl⟩,fun b hb=>?_,q⟩;have e:b=s1.heap.objs.size:=by simpa using hb
  subst e;exact I1.fpOk (yaa _) (I1.hok.fresh (yaa _))
theorem zjV {pins:List (Addr×Obj)}{σ:St}{H:Hp}{s:Shared}{R:It→Hp→Prop}{E:Value→Shared→Prop}{lo hi:Int}{t u v:Tok}{tk:Nat}(I:Inv X pins σ H s)(h1:-(2 ^ 62)≤lo)(h2:lo < 2 ^ 62)(h3:-(2 ^ 62)≤hi)(h4:hi < 2 ^ 62)
    (q:R (Itr lo (hi - lo).toNat) H):wpAny (model X.prog X.w) X.A (pyIter (.ref s.heap.objs.size)) (PIE X pins σ tg R) E { s with heap:=s.heap.push { cls:=.type "range",data:=.fields #[.int lo t,.int hi u,.int 1 v] },toks:=tk }:=by
  refine wpAny_pyIter_range (IsRange.new ..) (small_one h1 h2 h3 h4) ?_;have I1:Inv X pins σ H { s with heap:=s.heap.push { cls:=.type "range",data:=.fields #[.int lo t,.int hi u,.int 1 v] },toks:=tk }:=I.kept fun b o e=>yap _ e;refine ⟨(s.heap.push { cls:=.type "range",data:=.fields #[.int lo t,.int hi u,.int 1 v] }).objs.size,[(s.heap.push { cls:=.type "range",data:=.fields #[.int lo t,.int hi u,.int 1 v] }).objs.size],_,_,H,rfl,
    I1.kept (t':=tk) fun b o e=>yap _ e,zkD _ lo (hi - lo).toNat,?_,fun b hb=>?_,q⟩
  · have e1:lo+((0:Nat):Int) * 1=lo:=by simp
    have e2:(((hi - lo).toNat:Nat):Int) - ((0:Nat):Int)=Builtin.Range.rangeSize lo hi 1:=by rw[rangeSize_one];split <;> omega
    show IsRangeIter _ _ (lo+((0:Nat):Int) * 1) ((((hi - lo).toNat:Nat):Int) - ((0:Nat):Int)) 1;rw[e1,e2];exact yaO _ rfl
  · have e:b=(s.heap.push { cls:=.type "range",data:=.fields #[.int lo t,.int hi u,.int 1 v] }).objs.size:=by simpa using hb
    subst e;exact I1.fpOk (yaa _) (I1.hok.fresh (yaa _))
def zrZ (ta:TA):TI:=fun σ H R=>ta σ H fun vs H1=>∃ j:Int,vs=[.int j]∧-(2 ^ 62)≤j∧j < 2 ^ 62∧R (Itr 0 j.toNat) H1
def zrY (ta:TA):TI:=fun σ H R=>ta σ H fun vs H1=>∃ i j:Int,vs=[.int i,.int j]∧(-(2 ^ 62)≤i∧i < 2 ^ 62∧-(2 ^ 62)≤j∧j < 2 ^ 62)∧R (Itr i (j - i).toNat) H1
theorem zbI {a:Expr}{ta:TA}{p pos:Pos}(hg:Gl X "range")(hm:X.mg "range" = none)(ha:PA X [a] ta)(hs:starEach [a] X.env=[(false,eval a X.env)]:=by rfl):PI X tg (.Call (.Name "range" p) [a] [] pos) (zrZ ta):=by
  intro pins s σ H R I h;refine Call_ (zfq I hg hm boot_range (PyProof.Rows.callWith_type1 (thn (ha pos pins s σ H _ I h) fun us s1 zq0=>?_) hs rfl));obtain ⟨vs,H1,I1,r1,q1⟩:=zq0;obtain ⟨j,e,q1,q2,q⟩:=q1;subst e;cases r1 with
  | cons r rr=>
    cases rr
    obtain ⟨t,rfl⟩:=r;exact call_range_1 (zjV I1 (by omega) (by omega) q1 q2 (by simpa using q))
theorem zc0 {a b:Expr}{ta:TA}{p pos:Pos}(hg:Gl X "range")(hm:X.mg "range" = none)(ha:PA X [a,b] ta)(hs:starEach [a,b] X.env=[(false,eval a X.env),(false,eval b X.env)]:=by rfl)(hs2:starEach [b] X.env=[(false,eval b X.env)]:=by rfl) :
    PI X tg (.Call (.Name "range" p) [a,b] [] pos) (zrY ta):=by
  intro pins s σ H R I h;refine Call_ (zfq I hg hm boot_range (PyProof.Rows.callWith_type1 (thn (ha pos pins s σ H _ I h) fun us s1 zq0=>?_) (by rw[hs,hs2]) (by rw[hs2];rfl)));obtain ⟨vs,H1,I1,r1,q1⟩:=zq0;obtain ⟨i,j,e,⟨q1,q2,q3,q4⟩,q⟩:=q1;subst e;cases r1 with
  | cons r rr=>
    cases rr with
    | cons r' rr=>
      cases rr
      obtain ⟨t,rfl⟩:=r;obtain ⟨t',rfl⟩:=r';exact call_range_2 (zjV I1 q1 q2 q3 q4 q)
def tFor (wi:TI)(g:TG)(tb:TS):TS:=fun D σ H=>wi σ H fun J H1=>∃ W:Nat→Nat→St→Hp→Prop,(∃ m,W 0 m σ H1)∧∀ i m σ H,W i m σ H→
  (J.stop i H∧D.nx σ H)∨(J.go i H∧∃ N:St→Hp→Prop,(∀ σ' H',N σ' H'→∃ m',m' < m∧W (i+1) m' σ' H')∧∀ x H',J.yld i H x H'→g x σ H' fun σ2 H2=>tb { D with nx:=N,ct:=N,bk:=D.nx } σ2 H2)
def zhW (fp:List Addr)(h:Heap):List (Addr×Obj):=fp.filterMap fun b=>(h.get? b).map fun o=>(b,o)
theorem zdY {fp:List Addr}{h:Heap}{b:Addr}{o:Obj}(hb:b∈fp)(e:h.get? b=some o):(b,o)∈zhW fp h:=List.mem_filterMap.mpr ⟨b,hb,by rw[e];rfl⟩
theorem zmi {fp:List Addr}{h:Heap}{p:Addr×Obj}(hp:p∈zhW fp h):p.1∈fp∧h.get? p.1=some p.2:=by
  obtain ⟨b,hb,e⟩:=List.mem_filterMap.mp hp;cases q:h.get? b with
  | none=>rw[q]at e;cases e
  | some o=>
    rw[q]at e;have e':(b,o)=p:=yag e;subst e';exact ⟨hb,q⟩
theorem Inv.pinned {pins:List (Addr×Obj)}{σ:St}{H:Hp}{s:Shared}{fp:List Addr}(I:Inv X pins σ H s)(hf:∀ b∈fp,FpOk X pins H b)(ho:∀ b∈fp,∃ o,s.heap.get? b=some o∧∀ v,o.data≠.cell v):Inv X (pins++zhW fp s.heap) σ H s:=
  I.pins_of fun p hp=>(yai.mp hp).elim (fun z=>I.pin p (yax _ z)) fun z=>by
    obtain ⟨hb,e⟩:=zmi z;obtain ⟨f0,f1,f2,_⟩:=hf p.1 hb;obtain ⟨o,e',d⟩:=ho p.1 hb;rw[e]at e';cases e'
    exact ⟨e,f0,f1,f2,d⟩
theorem Inv.unpinned {pins pl:List (Addr×Obj)}{σ:St}{H:Hp}{s:Shared}(I:Inv X (pins++pl) σ H s):Inv X pins σ H s:=I.pins_of fun p hp=>I.pin p (yax _ (yaY _ hp))
theorem za2 {iter:Expr}{body:List Stmt}{wi:TI}{g:TG}{tb:TS}{pos:Pos}(hp:PassesOwn (model X.prog X.w) X.A X.env X.xe)(hc:X.calm=true)(hi:PI X tg iter wi)(hg:PG X tg g)(hb:PSs X body tb)
    (hs:∀ x,foldedSetIterable iter X.env x=pure x:=by intro _;rfl):PS X (.For tg iter body [] pos) (tFor wi g tb):=by
  intro pins s σ H D I h;refine wpAny_For (thn (hi pins s σ H _ I h) fun v s1 h1=>thn h1 fun itv s2 h2=>?_) hs;obtain ⟨it,fp,tn,J,H2,e,I2,T,st2,f2,W,⟨m0,w0⟩,turn⟩:=h2;subst e;have stat:∀{H':Hp},(∀ b∈fp,H' b=none)→∀ b∈fp,FpOk X pins H' b:=fun hn b hb=>⟨hn b hb,(f2 b hb).2⟩;refine codeAny_forLoop_any (fun n s'=>∃ i σ' H',Inv X pins σ' H' s'∧tn i s'.heap∧(∀ b∈fp,H' b=none)∧W i n σ' H') ?_ m0 ⟨0,σ,H2,I2,st2,fun b hb=>(f2 b hb).1,w0⟩;rintro n s3 ⟨i,σ3,H3,I3,st3,fr3,w3⟩;rcases turn i n σ3 H3 w3 with ⟨stop,qn⟩ | ⟨go,N,hN,step⟩
  · refine wpAny_passesOwn hp (thn (T.done X rfl rfl rfl hc i pins s3 σ3 H3 X.xe I3 (stat fr3) st3 stop) fun r s4 zq0=>?_)
    obtain ⟨hr,I4⟩:=zq0;subst hr;exact wpAny_execs_nil ⟨σ3,H3,I4,qn⟩
  · refine wpAny_passesOwn hp (thn (T.item X rfl rfl rfl hc i pins s3 σ3 H3 X.xe I3 (stat fr3) st3 go) fun r s4 zq0=>?_)
    obtain ⟨u,hr,h4⟩:=zq0;subst hr;refine wpAny_passesOwn hp (thn h4 fun _ s5 zq0=>?_);obtain ⟨x,H5,I5,r5,y5,st5,fr5⟩:=zq0;have I5':=I5.pinned (stat fr5) (T.obj _ _ st5);refine wpAny_passesOwn hp (thn (hg _ s5 σ3 H5 x u _ I5' r5 (step x H5 y5)) fun _ s6 zq0=>?_);obtain ⟨σ6,H6,I6,q6⟩:=zq0;refine wpAny_passesOwn hp (thn (hb _ s6 σ6 H6 _ I6 q6) fun f s7 q7=>?_);have again:∀{σ7:St} {H7:Hp},Inv X (pins++zhW fp s5.heap) σ7 H7 s7→N σ7 H7→∃ m,m < n∧∃ i σ' H',Inv X pins σ' H' s7∧tn i s7.heap∧(∀ b∈fp,H' b=none)∧W i m σ' H':=fun {σ7 H7} I7 n7=>by
      obtain ⟨m',hm,w7⟩:=hN σ7 H7 n7;refine ⟨m',hm,i+1,σ7,H7,I7.unpinned,T.keep _ _ _ st5 fun b hb o e=>(I7.pin (b,o) (yax _ (yax _ (zdY hb e)))).1,fun b hb=>?_,w7⟩;obtain ⟨o,e,d⟩:=T.obj _ _ st5 b hb;exact (I7.pin (b,o) (yax _ (yax _ (zdY hb e)))).2.1
    cases f with
    | next=>obtain ⟨σ7,H7,I7,n7⟩:=q7;exact again I7 n7
    | cont=>obtain ⟨σ7,H7,I7,n7⟩:=q7;exact again I7 n7
    | brk=>obtain ⟨σ7,H7,I7,q7⟩:=q7;exact ⟨σ7,H7,I7.unpinned,q7⟩
    | ret v=>obtain ⟨x7,σ7,H7,I7,r7,q7⟩:=q7;exact ⟨x7,σ7,H7,I7.unpinned,r7,q7⟩
end
theorem zd0 {K:Frag}{a:Addr}{xs:List V}{g:TG}{tb:TS}{D:Ends}{σ:St}{H:Hp}(Pv:Nat→St→Hp→Prop)(h0:Pv 0 σ H)(hl:∀ i σ H,i≤xs.length→Pv i σ H→SqL K H a xs)
    (hs:∀ i x σ H,xs[i]?=some x→Pv i σ H→g x σ H fun σ2 H2=>tb { D with nx:=Pv (i+1),ct:=Pv (i+1),bk:=D.nx } σ2 H2) (hd:∀ σ H,Pv xs.length σ H→D.nx σ H) :
    ∃ W:Nat→Nat→St→Hp→Prop,(∃ m,W 0 m σ H)∧∀ i m σ H,W i m σ H→
      ((Itl K a).stop i H∧D.nx σ H)∨((Itl K a).go i H∧∃ N:St→Hp→Prop,(∀ σ' H',N σ' H'→∃ m',m' < m∧W (i+1) m' σ' H')∧∀ x H',(Itl K a).yld i H x H'→g x σ H' fun σ2 H2=>tb { D with nx:=N,ct:=N,bk:=D.nx } σ2 H2):=by
  refine ⟨fun i m σ H=>m=xs.length - i∧i≤xs.length∧Pv i σ H,⟨xs.length,by simp,yaE _,h0⟩,?_⟩;rintro i m σ H ⟨rfl,hi,p⟩;have q:=hl i σ H hi p;by_cases hlt:i < xs.length
  · refine .inr ⟨⟨xs,xs[i],q,by simp[hlt]⟩,Pv (i+1),fun σ' H' p'=>⟨xs.length - (i+1),by omega,rfl,hlt,p'⟩,fun x H' y=>?_⟩
    obtain ⟨e,y⟩:=y;subst e;exact hs i x σ _ (y xs q) p
  · have e:i=xs.length:=by omega
    subst e;exact .inl ⟨⟨xs,q,yaa _⟩,hd σ H p⟩
theorem zjc {K:Frag}{a:Addr}{xs:List V}{g:TG}{tb:TS}{D:Ends}{σ:St}{H:Hp}(Pv:Nat→St→Hp→Prop)(h0:Pv 0 σ H)(hl:∀ i σ H,i≤xs.length→Pv i σ H→SqT K H a xs)
    (hs:∀ i x σ H,xs[i]?=some x→Pv i σ H→g x σ H fun σ2 H2=>tb { D with nx:=Pv (i+1),ct:=Pv (i+1),bk:=D.nx } σ2 H2) (hd:∀ σ H,Pv xs.length σ H→D.nx σ H) :
    ∃ W:Nat→Nat→St→Hp→Prop,(∃ m,W 0 m σ H)∧∀ i m σ H,W i m σ H→
      ((Itt K a).stop i H∧D.nx σ H)∨((Itt K a).go i H∧∃ N:St→Hp→Prop,(∀ σ' H',N σ' H'→∃ m',m' < m∧W (i+1) m' σ' H')∧∀ x H',(Itt K a).yld i H x H'→g x σ H' fun σ2 H2=>tb { D with nx:=N,ct:=N,bk:=D.nx } σ2 H2):=by
  refine ⟨fun i m σ H=>m=xs.length - i∧i≤xs.length∧Pv i σ H,⟨xs.length,by simp,yaE _,h0⟩,?_⟩;rintro i m σ H ⟨rfl,hi,p⟩;have q:=hl i σ H hi p;by_cases hlt:i < xs.length
  · refine .inr ⟨⟨xs,xs[i],q,by simp[hlt]⟩,Pv (i+1),fun σ' H' p'=>⟨xs.length - (i+1),by omega,rfl,hlt,p'⟩,fun x H' y=>?_⟩
    obtain ⟨e,y⟩:=y;subst e;exact hs i x σ _ (y xs q) p
  · have e:i=xs.length:=by omega
    subst e;exact .inl ⟨⟨xs,q,yaa _⟩,hd σ H p⟩
theorem zbh {lo:Int}{n:Nat}{g:TG}{tb:TS}{D:Ends}{σ:St}{H:Hp}(Pv:Nat→St→Hp→Prop)(h0:Pv 0 σ H)
    (hs:∀ i σ H,i < n→Pv i σ H→g (.int (lo+i)) σ H fun σ2 H2=>tb { D with nx:=Pv (i+1),ct:=Pv (i+1),bk:=D.nx } σ2 H2) (hd:∀ σ H,Pv n σ H→D.nx σ H) :
    ∃ W:Nat→Nat→St→Hp→Prop,(∃ m,W 0 m σ H)∧∀ i m σ H,W i m σ H→
      ((Itr lo n).stop i H∧D.nx σ H)∨((Itr lo n).go i H∧∃ N:St→Hp→Prop,(∀ σ' H',N σ' H'→∃ m',m' < m∧W (i+1) m' σ' H')∧∀ x H',(Itr lo n).yld i H x H'→g x σ H' fun σ2 H2=>tb { D with nx:=N,ct:=N,bk:=D.nx } σ2 H2):=by
  refine ⟨fun i m σ H=>m=n - i∧i≤n∧Pv i σ H,⟨n,by simp,yaE _,h0⟩,?_⟩;rintro i m σ H ⟨rfl,hi,p⟩;by_cases hlt:i < n
  · refine .inr ⟨hlt,Pv (i+1),fun σ' H' p'=>⟨n - (i+1),by omega,rfl,hlt,p'⟩,fun x H' y=>?_⟩
    obtain ⟨e,y⟩:=y;subst e y;exact hs i σ _ hlt p
  · have e:i=n:=by omega
    subst e;exact .inl ⟨yaa _,hd σ H p⟩
theorem znq {c:TT}{tb:TS}{D:Ends}{σ:St}{H:Hp}(Pv:St→Hp→Prop)(μ:St→Hp→Nat)(h0:Pv σ H)
    (hs:∀ σ H,Pv σ H→c σ H fun b H1=>if b=true then tb { D with nx:=fun σ' H'=>Pv σ' H'∧μ σ' H' < μ σ H,ct:=fun σ' H'=>Pv σ' H'∧μ σ' H' < μ σ H,bk:=D.nx } σ H1 else D.nx σ H1)
    (mono:∀ σ H Q Q',(∀ b H1,Q b H1→Q' b H1)→c σ H Q→c σ H Q'):zlA c tb D σ H:=by
  refine ⟨fun m σ H=>m=μ σ H∧Pv σ H,⟨_,rfl,h0⟩,?_⟩;rintro m σ H ⟨rfl,p⟩;refine mono σ H _ _ (fun b H1 q=>?_) (hs σ H p);cases b with
  | true=>exact ⟨_,fun σ' H' ⟨p',l⟩=>⟨_,l,rfl,p'⟩,q⟩
  | false=>exact q
end L2
namespace L2
open PySem PySem.Spec PyProof.Rows
abbrev R2:=V→V→Hp→VK→Prop
def OpR (X:Cx)(f:Value→Value→Sem Value)(r:R2):Prop:=
  ∀(pins:List (Addr×Obj)) (s:Shared) (σ:St) (H:Hp) (x y:V) (v u:Value) (Q:VK),Inv X pins σ H s→RelV x v→RelV y u→r x y H Q→
    wpAny (model X.prog X.w) X.A (f v u) (EP X pins σ Q) X.xe s
def UnR (X:Cx)(f:Value→Sem Value)(r:V→Hp→VK→Prop):Prop:=
  ∀(pins:List (Addr×Obj)) (s:Shared) (σ:St) (H:Hp) (x:V) (v:Value) (Q:VK),Inv X pins σ H s→RelV x v→r x H Q→
    wpAny (model X.prog X.w) X.A (f v) (EP X pins σ Q) X.xe s
def zce (X:Cx)(f:Value)(r:List V→Hp→VK→Prop):Prop:=
  ∀(pins:List (Addr×Obj)) (s:Shared) (σ:St) (H:Hp) (xs:List V) (us:List Value) (Q:VK),Inv X pins σ H s→Vals xs us→r xs H Q→
    wpAny (model X.prog X.w) X.A (call f us) (EP X pins σ Q) X.xe s
def tOp (r:R2)(ta tb:TE):TE:=fun σ H Q=>ta σ H fun x H1=>tb σ H1 fun y H2=>r x y H2 Q
def tUn (r:V→Hp→VK→Prop)(ta:TE):TE:=fun σ H Q=>ta σ H fun x H1=>r x H1 Q
def rI (C:Int→Int→Prop)(g:Int→Int→V):R2:=fun x y H Q=>∃ i j,x=.int i∧y=.int j∧C i j∧Q (g i j) H
def rI0 (g:Int→Int→V):R2:=fun x y H Q=>∃ i j,x=.int i∧y=.int j∧Q (g i j) H
def rU (g:Int→V):V→Hp→VK→Prop:=fun x H Q=>∃ i,x=.int i∧Q (g i) H
section
variable {X:Cx}{a b c:Expr}{ta tb tc:TE}{pos:Pos}
theorem binT (ha:PE X a ta)(hb:PE X b tb){pins:List (Addr×Obj)}{s:Shared}{σ:St}{H:Hp}{R:V→V→Hp→Prop}(I:Inv X pins σ H s)
    (h:ta σ H fun x H1=>tb σ H1 fun y H2=>R x y H2) {Q:Value→Shared→Prop} {f:Value→Value→Sem Value}
    (hf:∀ v u s2 x y H2,Inv X pins σ H2 s2→RelV x v→RelV y u→R x y H2→wpAny (model X.prog X.w) X.A (f v u) Q X.xe s2) :
    wpAny (model X.prog X.w) X.A (eval a X.env) (fun v s₁=>wpAny (model X.prog X.w) X.A (eval b X.env) (fun u s₂=>wpAny (model X.prog X.w) X.A (f v u) Q X.xe s₂) X.xe s₁) X.xe s:=by
  refine thn (ha pins s σ H _ I h) fun v s1 zq0=>?_;obtain ⟨x,H1,I1,r1,q1⟩:=zq0;refine thn (hb pins s1 σ H1 _ I1 q1) fun u s2 zq0=>?_;obtain ⟨y,H2,I2,r2,q2⟩:=zq0;exact hf v u s2 x y H2 I2 r1 r2 q2
theorem zaw {op:Operator}{r:R2}(ho:OpR X (binaryOp op) r)(ha:PE X a ta)(hb:PE X b tb):PE X (.BinOp a op b pos) (tOp r ta tb):=by
  intro pins s σ H Q I h;exact wpAny_BinOp (binT ha hb I h fun v u s2 x y H2 I2 rx ry q=>ho pins s2 σ H2 x y v u Q I2 rx ry q)
theorem ze3 {op:UnaryOp}{r:V→Hp→VK→Prop}(ho:UnR X (unaryOp op) r)(ha:PE X a ta):PE X (.UnaryOp op a pos) (tUn r ta):=by
  intro pins s σ H Q I h;exact UnaryOp_ (thn (ha pins s σ H _ I h) fun v s1 zq0=>(by obtain ⟨x,H1,I1,r1,q1⟩:=zq0;exact ho pins s1 σ H1 x v Q I1 r1 q1))
theorem opI {f:Value→Value→Sem Value}{C:Int→Int→Prop}{g:Int→Int→Int}
    (rule:∀(i j:Int) (t u:Tok) (s:Shared) (Q:Value→Shared→Prop) (E:Value→Shared→Prop),C i j→Q (.int (g i j) s.toks) { s with toks:=s.toks+1 }→wpAny (model X.prog X.w) X.A (f (.int i t) (.int j u)) Q E s) :
    OpR X f (rI C fun i j=>.int (g i j)):=by
  intro pins s σ H x y v u Q I rx ry h;obtain ⟨i,j,rfl,rfl,hc,q⟩:=h;obtain ⟨t,rfl⟩:=rx;obtain ⟨t',rfl⟩:=ry;exact rule i j t t' s _ _ hc ⟨.int (g i j),H,I.tok _,⟨_,rfl⟩,q⟩
theorem opI0 {f:Value→Value→Sem Value}{g:Int→Int→Int}
    (rule:∀(i j:Int) (t u:Tok) (s:Shared) (Q:Value→Shared→Prop) (E:Value→Shared→Prop),Q (.int (g i j) s.toks) { s with toks:=s.toks+1 }→wpAny (model X.prog X.w) X.A (f (.int i t) (.int j u)) Q E s) :
    OpR X f (rI0 fun i j=>.int (g i j)):=by
  intro pins s σ H x y v u Q I rx ry h;obtain ⟨i,j,rfl,rfl,q⟩:=h;obtain ⟨t,rfl⟩:=rx;obtain ⟨t',rfl⟩:=ry;exact rule i j t t' s _ _ ⟨.int (g i j),H,I.tok _,⟨_,rfl⟩,q⟩
theorem opB0 {f:Value→Value→Sem Value}{g:Int→Int→Bool}
    (rule:∀(i j:Int) (t u:Tok) (s:Shared) (Q:Value→Shared→Prop) (E:Value→Shared→Prop),Q (.bool (g i j)) s→wpAny (model X.prog X.w) X.A (f (.int i t) (.int j u)) Q E s) :
    OpR X f (rI0 fun i j=>.bl (g i j)):=by
  intro pins s σ H x y v u Q I rx ry h;obtain ⟨i,j,rfl,rfl,q⟩:=h;obtain ⟨t,rfl⟩:=rx;obtain ⟨t',rfl⟩:=ry;exact rule i j t t' s _ _ ⟨.bl (g i j),H,I,rfl,q⟩
def CDiv (i j:Int):Prop:=0 < j∧j < 1073741824
def CPow (i j:Int):Prop:=0≤j∧j≤1000000∧i.natAbs < 2 ^ 64
def CMul (i j:Int):Prop:=(-(2 ^ 64) < i∧i < 2 ^ 64)∨(-(2 ^ 64) < j∧j < 2 ^ 64)
theorem CMul.ok {i j:Int}(h:CMul i j):IntMulOk i j:=by
  rcases h with ⟨h1,h2⟩ | ⟨h1,h2⟩
  · exact .of_left (intBits_le_64 h1 h2)
  · exact .of_right (intBits_le_64 h1 h2)
theorem zkB (k:Nat):(0:Int)≤2 ^ k:=by
  rw[two_pow_cast];exact ybn _
theorem zbe:OpR X (binaryOp .Add) (rI0 fun i j=>.int (i+j)):=opI0 fun _ _ _ _ _ _ _ q=>add_int q
theorem zbO:OpR X (binaryOp .Sub) (rI0 fun i j=>.int (i - j)):=opI0 fun _ _ _ _ _ _ _ q=>sub_int q
theorem zc1:OpR X (binaryOp .Mult) (rI CMul fun i j=>.int (i * j)):=opI fun _ _ _ _ _ _ _ hc q=>mul_int q hc.ok
theorem ziR:OpR X (binaryOp .FloorDiv) (rI CDiv fun i j=>.int (i / j)):=opI fun i j _ _ _ _ _ hc q=>by
  have h1:(0:Int) < j:=hc.1;have h2:j < 1073741824:=hc.2;exact floordiv_int (by omega) (by rw[Int.fdiv_eq_ediv_of_nonneg i (by omega)];exact q) (.inl (PyProof.noPylong_small (by omega)))
theorem zfl:OpR X (binaryOp .Mod) (rI (fun _ j=>0 < j) fun i j=>.int (i % j)):=opI fun i j _ _ _ _ _ hc q=>by
  have h1:(0:Int) < j:=hc;exact mod_int' (by omega) (by rw[Int.fmod_eq_emod_of_nonneg i (by omega)];exact q)
theorem zfj:OpR X (binaryOp .Pow) (rI CPow fun i j=>.int (i ^ j.toNat)):=opI fun _ _ _ _ _ _ _ hc q=>pow_int_small hc.1 hc.2.1 hc.2.2 q
theorem zq5:OpR X (binaryOp .RShift) (rI (fun _ j=>0≤j) fun i j=>.int (i / 2 ^ j.toNat)):=opI fun i j _ _ _ _ _ hc q=>
  rshift_int hc (by rw[Int.fdiv_eq_ediv_of_nonneg i (zkB _)];exact q)
theorem zoX:OpR X (binaryOp .BitAnd) (rI0 fun i j=>.int (Builtin.bitAnd i j)):=opI0 fun _ _ _ _ _ _ _ q=>and_int q
theorem zq4:OpR X (binaryOp .BitXor) (rI0 fun i j=>.int (Builtin.bitXor i j)):=opI0 fun _ _ _ _ _ _ _ q=>xor_int q
theorem unI {f:Value→Sem Value}{g:Int→Int}
    (rule:∀(i:Int) (t:Tok) (s:Shared) (Q:Value→Shared→Prop) (E:Value→Shared→Prop),Q (.int (g i) s.toks) { s with toks:=s.toks+1 }→wpAny (model X.prog X.w) X.A (f (.int i t)) Q E s) :
    UnR X f (rU fun i=>.int (g i)):=by
  intro pins s σ H x v Q I rx h;obtain ⟨i,rfl,q⟩:=h;obtain ⟨t,rfl⟩:=rx;exact rule i t s _ _ ⟨.int (g i),H,I.tok _,⟨_,rfl⟩,q⟩
theorem zcT:UnR X (unaryOp .USub) (rU fun i=>.int (-i)):=unI fun _ _ _ _ _ q=>neg_int q
end
def scal:V→V→Bool
  | .non,.non=>true | .non,.int _=>true | .int _,.non=>true | .non,.bl _=>true | .bl _,.non=>true | .non,.str _=>true | .str _,.non=>true
  | .int _,.int _=>true | .bl _,.bl _=>true | .str _,.str _=>true | .byt _,.byt _=>true
  | .int _,.str _=>true | .str _,.int _=>true | .bl _,.str _=>true | .str _,.bl _=>true
  | _,_=>false
def rEq:R2:=fun x y H Q=>scal x y=true∧Q (.bl (decide (x=y))) H
def rNe:R2:=fun x y H Q=>scal x y=true∧Q (.bl (!decide (x=y))) H
theorem zm3 {i j:Int}:decide (V.int i=V.int j)=(i == j):=by
  rw[ybX];simp
theorem zo7 {i j:Bool}:decide (V.bl i=V.bl j)=(i == j):=by
  rw[ybX];simp
theorem zm2 {i j:Str}:decide (V.str i=V.str j)=(i == j):=by
  rw[ybX];simp
theorem zm4 {i j:Array UInt8}:decide (V.byt i=V.byt j)=(i.toList == j.toList):=by
  rw[ybX];cases i
  cases j
  simp
section
variable {X:Cx}{a b c:Expr}{ta tb tc:TE}{pos:Pos}
theorem zaO {pins:List (Addr×Obj)}{σ:St}{H:Hp}{s:Shared}{Q:VK}{k k':Bool}(I:Inv X pins σ H s)(q:Q (.bl k) H)(e:k=k'):EP X pins σ Q (.bool k') s:=by
  subst e;exact ⟨.bl k,H,I,rfl,q⟩
theorem zdx:OpR X (compareOp .Eq) rEq:=by
  intro pins s σ H x y v u Q I rx ry h;obtain ⟨hs,q⟩:=h;cases x with
  | non=>
    cases rx
    cases y with
    | non=>cases ry;exact PySem.EqNone.eq_none_none (zaO I q (by simp))
    | bl j=>cases ry;exact PySem.EqNone.eq_none_bool (zaO I q (by simp))
    | int j=>obtain ⟨t',rfl⟩:=ry;exact PySem.EqNone.eq_none_int (zaO I q (by simp))
    | str j=>obtain ⟨t',rfl⟩:=ry;exact PySem.EqNone.eq_none_str (zaO I q (by simp))
    | _=>exact absurd (show false=true from hs) yaC
  | bl i=>
    cases rx
    cases y with
    | non=>cases ry;exact PySem.EqNone.eq_bool_none (zaO I q (by simp))
    | bl j=>cases ry;exact eq_bool (zaO I q zo7)
    | str j=>obtain ⟨t',rfl⟩:=ry;exact PySem.EqMixed.eq_bool_str (zaO I q (by simp))
    | _=>exact absurd (show false=true from hs) yaC
  | int i=>
    obtain ⟨t,rfl⟩:=rx;cases y with
    | non=>cases ry;exact PySem.EqNone.eq_int_none (zaO I q (by simp))
    | int j=>obtain ⟨t',rfl⟩:=ry;exact eq_int (zaO I q zm3)
    | str j=>obtain ⟨t',rfl⟩:=ry;exact PySem.EqMixed.eq_int_str (zaO I q (by simp))
    | _=>exact absurd (show false=true from hs) yaC
  | str i=>
    obtain ⟨t,rfl⟩:=rx;cases y with
    | non=>cases ry;exact PySem.EqNone.eq_str_none (zaO I q (by simp))
    | bl j=>cases ry;exact PySem.EqMixed.eq_str_bool (zaO I q (by simp))
    | int j=>obtain ⟨t',rfl⟩:=ry;exact PySem.EqMixed.eq_str_int (zaO I q (by simp))
    | str j=>obtain ⟨t',rfl⟩:=ry;exact eq_str (zaO I q zm2)
    | _=>exact absurd (show false=true from hs) yaC
  | byt i=>
    obtain ⟨t,rfl⟩:=rx;cases y with
    | byt j=>obtain ⟨t',rfl⟩:=ry;exact PySem.W.eq_bytes (zaO I q zm4)
    | _=>exact absurd (show false=true from hs) yaC
  | _=>cases y <;> exact absurd (show false=true from hs) yaC
theorem zhj:OpR X (compareOp .NotEq) rNe:=by
  intro pins s σ H x y v u Q I rx ry h;obtain ⟨hs,q⟩:=h;cases x with
  | non=>
    cases rx
    cases y with
    | non=>cases ry;exact PySem.EqNone.ne_none_none (zaO I q (by simp))
    | bl j=>cases ry;exact PySem.EqNone.ne_none_bool (zaO I q (by simp))
    | int j=>obtain ⟨t',rfl⟩:=ry;exact PySem.EqNone.ne_none_int (zaO I q (by simp))
    | str j=>obtain ⟨t',rfl⟩:=ry;exact PySem.EqNone.ne_none_str (zaO I q (by simp))
    | _=>exact absurd (show false=true from hs) yaC
  | bl i=>
    cases rx
    cases y with
    | non=>cases ry;exact PySem.EqNone.ne_bool_none (zaO I q (by simp))
    | bl j=>cases ry;exact ne_bool (zaO I q (congrArg not zo7))
    | str j=>obtain ⟨t',rfl⟩:=ry;exact PySem.EqMixed.ne_bool_str (zaO I q (by simp))
    | _=>exact absurd (show false=true from hs) yaC
  | int i=>
    obtain ⟨t,rfl⟩:=rx;cases y with
    | non=>cases ry;exact PySem.EqNone.ne_int_none (zaO I q (by simp))
    | int j=>obtain ⟨t',rfl⟩:=ry;exact ne_int (zaO I q (congrArg not zm3))
    | str j=>obtain ⟨t',rfl⟩:=ry;exact PySem.EqMixed.ne_int_str (zaO I q (by simp))
    | _=>exact absurd (show false=true from hs) yaC
  | str i=>
    obtain ⟨t,rfl⟩:=rx;cases y with
    | non=>cases ry;exact PySem.EqNone.ne_str_none (zaO I q (by simp))
    | bl j=>cases ry;exact PySem.EqMixed.ne_str_bool (zaO I q (by simp))
    | int j=>obtain ⟨t',rfl⟩:=ry;exact PySem.EqMixed.ne_str_int (zaO I q (by simp))
    | str j=>obtain ⟨t',rfl⟩:=ry;exact ne_str (zaO I q (congrArg not zm2))
    | _=>exact absurd (show false=true from hs) yaC
  | byt i=>
    obtain ⟨t,rfl⟩:=rx;cases y with
    | byt j=>obtain ⟨t',rfl⟩:=ry;exact PySem.W.ne_bytes (zaO I q (congrArg not zm4))
    | _=>exact absurd (show false=true from hs) yaC
  | _=>cases y <;> exact absurd (show false=true from hs) yaC
theorem zh1:OpR X (compareOp .Lt) (rI0 fun i j=>.bl (decide (i < j))):=opB0 fun _ _ _ _ _ _ _ q=>lt_int q
theorem zkQ:OpR X (compareOp .LtE) (rI0 fun i j=>.bl (decide (i≤j))):=opB0 fun _ _ _ _ _ _ _ q=>le_int q
theorem zkR:OpR X (compareOp .Gt) (rI0 fun i j=>.bl (decide (j < i))):=opB0 fun _ _ _ _ _ _ _ q=>gt_int q
theorem znM:OpR X (compareOp .GtE) (rI0 fun i j=>.bl (decide (j≤i))):=opB0 fun _ _ _ _ _ _ _ q=>ge_int q
theorem zq6:OpR X (compareOp .Is) (fun x y H Q=>y=.non∧Q (.bl (decide (x=.non))) H):=by
  intro pins s σ H x y v u Q I rx ry h;obtain ⟨rfl,q⟩:=h;cases ry
  refine is_none_gen (zaO I q ?_);cases x <;> first
    | (cases rx;rfl)
    | (obtain ⟨t,rfl⟩:=rx;rfl)
theorem zaB (b:Expr){op:CmpOp}(h:op≠.In:=by decide)(h2:op≠.NotIn:=by decide):behindInMarks op b=false:=by
  have e1:(op == CmpOp.In)=false:=by cases op <;> first | rfl | exact absurd rfl h
  have e2:(op == CmpOp.NotIn)=false:=by cases op <;> first | rfl | exact absurd rfl h2
  cases b <;> simp[behindInMarks,e1,e2]
theorem zhc {op:CmpOp}{r:R2}(ho:OpR X (compareOp op) r)(ha:PE X a ta)(hb:PE X b tb)(hm:behindInMarks op b=false):PE X (.Compare a [op] [b] pos) (tOp r ta tb):=by
  intro pins s σ H Q I h;exact wpAny_Compare1 (binT ha hb I h fun v u s2 x y H2 I2 rx ry q=>ho pins s2 σ H2 x y v u Q I2 rx ry q) hm
def zqv (t:TE):TT:=fun σ H Q=>t σ H fun x H'=>∃ k,x=.bl k∧Q k H'
theorem zav {op:CmpOp}{r:R2}(ho:OpR X (compareOp op) r)(ha:PE X a ta)(hb:PE X b tb)(hm:behindInMarks op b=false):PT X (.Compare a [op] [b] pos) (zqv (tOp r ta tb)):=by
  intro pins s σ H Q I h;refine wpAny_isTrue_Compare1 (thn (ha pins s σ H _ I h) fun v s1 ⟨x,H1,I1,r1,q1⟩=>thn (hb pins s1 σ H1 _ I1 q1) fun u s2 ⟨y,H2,I2,r2,q2⟩=>
    thn (ho pins s2 σ H2 x y v u _ I2 r1 r2 q2) fun c s3 ⟨z,H3,I3,r3,k,e,q3⟩=>?_) hm
  subst e;cases r3
  exact wpAny_truthy_bool ⟨H3,I3,q3⟩
def zoE (r r':R2)(ta tb tc:TE):TE:=fun σ H Q=>ta σ H fun x H1=>tb σ H1 fun y H2=>r x y H2 fun z H3=>∃ k,z=.bl k∧
  (if k=true then tc σ H3 fun w' H4=>r' y w' H4 Q else Q (.bl false) H3)
theorem zhd {op op':CmpOp}{r r':R2}(ho:OpR X (compareOp op) r)(ho':OpR X (compareOp op') r')(ha:PE X a ta)(hb:PE X b tb)(hc:PE X c tc)
    (hm:lastMarks [op,op'] [b,c]=false:=by with_unfolding_all rfl):PE X (.Compare a [op,op'] [b,c] pos) (zoE r r' ta tb tc):=by
  intro pins s σ H Q I h;refine Compare_chain (thn (ha pins s σ H _ I h) fun v s1 ⟨x,H1,I1,r1,q1⟩=>chain_link (thn (hb pins s1 σ H1 _ I1 q1) fun u s2 ⟨y,H2,I2,r2,q2⟩=>
    thn (ho pins s2 σ H2 x y v u _ I2 r1 r2 q2) fun d s3 ⟨z,H3,I3,r3,k,e,q3⟩=>?_)) hm
  subst e;cases r3
  refine wpAny_truthy_bool ?_;cases k with
  | false=>exact ite_ff ⟨.bl false,H3,I3,rfl,q3⟩
  | true=>exact ite_tt (chain_last (thn (hc pins s3 σ H3 _ I3 q3) fun w' s4 ⟨z',H4,I4,r4,q4⟩=>ho' pins s4 σ H4 y z' u w' Q I4 r2 r4 q4))
theorem znD {op op':CmpOp}{r r':R2}(ho:OpR X (compareOp op) r)(ho':OpR X (compareOp op') r')(ha:PE X a ta)(hb:PE X b tb)(hc:PE X c tc)
    (hm:lastMarks [op,op'] [b,c]=false:=by with_unfolding_all rfl):PT X (.Compare a [op,op'] [b,c] pos) (zqv (zoE r r' ta tb tc)):=by
  intro pins s σ H Q I h;refine isTrue_chain (thn (ha pins s σ H _ I h) fun v s1 ⟨x,H1,I1,r1,q1⟩=>test_link (thn (hb pins s1 σ H1 _ I1 q1) fun u s2 ⟨y,H2,I2,r2,q2⟩=>
    thn (ho pins s2 σ H2 x y v u _ I2 r1 r2 q2) fun d s3 ⟨z,H3,I3,r3,k,e,q3⟩=>?_)) hm
  subst e;cases r3
  refine wpAny_truthy_bool ?_;cases k with
  | false=>
    obtain ⟨k',e',q'⟩:=q3;cases e'
    exact ite_ff ⟨H3,I3,q'⟩
  | true=>
    refine ite_tt (test_last (thn (hc pins s3 σ H3 _ I3 q3) fun w' s4 zq0=>?_));obtain ⟨z',H4,I4,r4,q4⟩:=zq0;refine thn (ho' pins s4 σ H4 y z' u w' _ I4 r2 r4 q4) fun d' s5 zq1=>?_;obtain ⟨z2,H5,I5,r5,k2,e2,q5⟩:=zq1;subst e2;cases r5
    exact wpAny_truthy_bool ⟨H5,I5,q5⟩
theorem zj9:(sizeLine:Nat) < 2 ^ 63:=by rw[sizeLine_eq];decide
theorem zeY {x:V}{us:List Value}(r:Vals [x] us):∃ u,us=[u]∧RelV x u:=by
  cases r with
  | cons r1 r2=>cases r2;exact ⟨_,rfl,r1⟩
theorem zgR {x y:V}{us:List Value}(r:Vals [x,y] us):∃ u w',us=[u,w']∧RelV x u∧RelV y w':=by
  cases r with
  | cons r1 r2=>
    cases r2 with
    | cons r3 r4=>cases r4;exact ⟨_,_,rfl,r1,r3⟩
theorem zku:zce X (.builtin "abs") (fun xs H Q=>∃ i,xs=[.int i]∧Q (.int (if i < 0 then -i else i)) H):=by
  intro pins s σ H xs us Q I r h;obtain ⟨i,rfl,q⟩:=h;obtain ⟨u,rfl,t,rfl⟩:=zeY r;exact call_abs_int fun u tk=>⟨.int (if i < 0 then -i else i),H,I.tok _,⟨_,rfl⟩,q⟩
theorem zgd (hc:X.calm=true):zce X (.builtin "max") (fun xs H Q=>∃ i j,xs=[.int i,.int j]∧Q (.int (if j > i then j else i)) H):=by
  intro pins s σ H xs us Q I r h;obtain ⟨i,j,rfl,q⟩:=h;obtain ⟨u,w',rfl,⟨t,rfl⟩,⟨t',rfl⟩⟩:=zgR r;refine max_two_ints (I.ok.hd hc) fun h' tk k=>⟨_,H,I.kept k,?_,q⟩;by_cases hj:j > i
  · rw[if_pos hj,if_pos hj];exact ⟨_,rfl⟩
  · rw[if_neg hj,if_neg hj];exact ⟨_,rfl⟩
theorem ziw (hc:X.calm=true):zce X (.builtin "min") (fun xs H Q=>∃ i j,xs=[.int i,.int j]∧Q (.int (if j < i then j else i)) H):=by
  intro pins s σ H xs us Q I r h;obtain ⟨i,j,rfl,q⟩:=h;obtain ⟨u,w',rfl,⟨t,rfl⟩,⟨t',rfl⟩⟩:=zgR r;refine min_two_ints (I.ok.hd hc) fun h' tk k=>⟨_,H,I.kept k,?_,q⟩;by_cases hj:j < i
  · rw[if_pos hj,if_pos hj];exact ⟨_,rfl⟩
  · rw[if_neg hj,if_neg hj];exact ⟨_,rfl⟩
theorem zne:zce X (.type "int") (fun xs H Q=>(∃ i,xs=[.int i]∧Q (.int i) H)∨∃ k,xs=[.bl k]∧Q (.int (if k then 1 else 0)) H):=by
  intro pins s σ H xs us Q I r h;rcases h with ⟨i,rfl,q⟩ | ⟨k,rfl,q⟩
  · obtain ⟨u,rfl,t,rfl⟩:=zeY r
    exact call_int_int ⟨.int i,H,I,⟨_,rfl⟩,q⟩
  · obtain ⟨u,rfl,r1⟩:=zeY r
    cases r1
    exact call_int_bool ⟨.int (if k then 1 else 0),H,I.tok _,⟨_,rfl⟩,q⟩
end
end L2
namespace L2
open PySem PySem.Spec PyProof.Rows
structure ObjM (h:Heap)(x dx C:Addr)(mA:Str→Option Value):Prop where
  obj:h.get? x=some (PySem.W.instObj C dx)
  ns:h.Ns1 dx mA
  ne:dx≠x
theorem zmz {h:Heap}{dx:Addr}{mA:Str→Option Value}(n:h.Ns1 dx mA):∃ od,h.get? dx=some od∧∀ name,PySem.W.lookIn name od=some (mA name):=by
  obtain ⟨o,es,ep,ho,hd,hk,_,hm⟩:=n;refine ⟨o,ho,fun name=>?_⟩;have e:=hm name;unfold nsFind findBy at e;rw[← Array.find?_toList]at e;unfold PySem.W.lookIn;rw[hd];dsimp only;split
  · rename_i y q
    rw[q]at e;exact congrArg some e
  · rename_i q
    rw[q]at e;have a:es.toList.any (·.refKey)=false:=by
      rw[List.any_eq_false];intro y hy;obtain ⟨z,t,hkey⟩:=hk y (Array.mem_toList_iff.mp hy);simp[DictEntry.refKey,hkey]
    have a':¬ es.toList.any (·.refKey)=true:=by rw[a];exact yaC
    rw[if_neg a'];exact congrArg some e
theorem ObjM.look {h:Heap}{x dx C:Addr}{mA:Str→Option Value}(I:ObjM h x dx C mA):∃ od,PySem.W.InstAt h x (PySem.W.instObj C dx) C (some od)∧∀ name,PySem.W.lookIn name od=some (mA name):=
  let ⟨od,ho,hl⟩:=zmz I.ns
  ⟨od,⟨I.obj,rfl,rfl,ho⟩,hl⟩
theorem RelO.some_of {v:V}{o:Option Value}(r:RelO (some v) o):∃ u,o=some u∧RelV v u:=by
  cases o with
  | none=>exact (show False from r).elim
  | some u=>exact ⟨u,rfl,r⟩
section
variable {P:Program}{w:World}{H H':Hp}{h h':Heap}{a C dx:Addr}{fs fs':List (Str×V)}
theorem zpY (hok:HOk P w H h)(e:H a=some (.ins C dx fs)):∃ mA,ObjM h a dx C mA∧(∀ f,RelO (fs.lookup f) (mA f))∧PySem.Within mA (fs.map (·.1))∧fs.length≤1000∧H dx=some (.own a):=by
  obtain ⟨d,z,ne,ob,mA,n,r,q⟩:=(show za7 P w H h a (.ins C dx fs) from hok a _ e);exact ⟨mA,⟨ob,n,ne⟩,r,q,z,d⟩
end
structure Cls (K:Frag)(C:Addr):Prop where
  pg:PySem.W.plainGet K C Str.empty=true
  hd:PySem.W.hasDictIn K C=true
  po:PySem.W.plainOver K C=true
  sa:findIn K (.ref C) "__setattr__" = some (some (.builtin "object.__setattr__"))
theorem Cls.get {K:Frag}{C:Addr}(c:Cls K C)(f:Str):PySem.W.plainGet K C f=true:=c.pg
section
variable {X:Cx}{pins:List (Addr×Obj)}{σ:St}{H:Hp}{s:Shared}{A:Around}{E:Value→Shared→Prop}{Q:Value→Shared→Prop}{c:Value}{b:Bool}
inductive TyOf (K:Frag)(H:Hp):V→Value→Prop where
  | non:TyOf K H .non (.type "NoneType")
  | bl (x:Bool):TyOf K H (.bl x) (.type "bool")
  | int (i:Int):TyOf K H (.int i) (.type "int")
  | str (x:Str):TyOf K H (.str x) (.type "str")
  | flt (x:UInt64):TyOf K H (.flt x) (.type "float")
  | lst {a:Addr} {xs:List V} (e:H a=some (.lst xs)):TyOf K H (.ref a) (.type "list")
  | frz {a:Addr} {o:Obj} {xs:List V} (e:H a=some (.frz o (.lst xs))):TyOf K H (.ref a) (.type "list")
  | tup {a:Addr} {xs:List V} (e:H a=some (.tup xs)):TyOf K H (.ref a) (.type "tuple")
  | dK {a:Addr} {kvs:List (Key×V)} (e:H a=some (.dK kvs)):TyOf K H (.ref a) (.type "dict")
  | dT {a:Addr} {kvs:List (List Key×V)} (e:H a=some (.dT kvs)):TyOf K H (.ref a) (.type "dict")
  | ins {a C dx:Addr} {fs:List (Str×V)} (e:H a=some (.ins C dx fs)) (cl:Cls K C) (ha:findIn K (.ref C) "__class__" = some (some (.builtin "object.__class__")))
      (hn:PySem.W.specialIn K (.builtin "object.__class__") "__get__" = some (some (.builtin "getset_descriptor.__get__"))) (htk:PySem.W.takesIn K (.builtin "object.__class__")=some true)
      (hm:mroIn K C (.type "object")=some true):TyOf K H (.ref a) (.ref C)
theorem zmM {x:V}{u t:Value}(I:Inv X pins σ H s)(rx:RelV x u)(ty:TyOf X.K H x t)(e:kitOne X.K t c=some b)(h:∀ tk,Q (.bool b) { s with toks:=tk }) :
    wpAny (model X.prog X.w) A (call (.builtin "isinstance") [u,c]) Q E s:=by
  cases ty with
  | non=>cases (show u=Value.none from rx);exact PySem.W.kia_one PySem.W.kitx_none I.kIn True.intro e (fun z=>nomatch z) h
  | bl y=>cases (show u=Value.bool y from rx);exact PySem.W.kia_one PySem.W.kitx_bool I.kIn True.intro e (fun z=>nomatch z) h
  | int i=>obtain ⟨t,q⟩:=(show ∃ t,u=Value.int i t from rx);cases q;exact PySem.W.kia_one PySem.W.kitx_int I.kIn True.intro e (fun z=>nomatch z) h
  | str y=>obtain ⟨t,q⟩:=(show ∃ t,u=Value.str y t from rx);cases q;exact PySem.W.kia_one PySem.W.kitx_str I.kIn True.intro e (fun z=>nomatch z) h
  | flt y=>obtain ⟨t,q⟩:=(show ∃ t,u=Value.float y t from rx);cases q;exact PySem.W.kia_one PySem.W.kitx_float I.kIn True.intro e (fun z=>nomatch z) h
  | @lst a xs ea=>
    cases (show u=Value.ref a from rx)
    obtain ⟨_,_,n,_,h1⟩:=(show za7 X.prog X.w H s.heap a (.lst xs) from I.hok a _ ea);exact PySem.W.kia_one PySem.W.kitx_list I.kIn ⟨_,h1,rfl⟩ e (fun z=>nomatch z) h
  | @frz a ob xs ea=>
    cases (show u=Value.ref a from rx)
    obtain ⟨_,_,_,n,_,h1⟩:=(show za7 X.prog X.w H s.heap a (.frz ob (.lst xs)) from I.hok a _ ea);exact PySem.W.kia_one PySem.W.kitx_list I.kIn ⟨_,h1,rfl⟩ e (fun z=>nomatch z) h
  | @tup a xs ea=>
    cases (show u=Value.ref a from rx)
    obtain ⟨_,_,_,p⟩:=(show za7 X.prog X.w H s.heap a (.tup xs) from I.hok a _ ea);obtain ⟨o,h1,h2,_⟩:=p;exact PySem.W.kia_one PySem.W.kitx_tuple I.kIn ⟨o,h1,h2⟩ e (fun z=>nomatch z) h
  | @dK a kvs ea=>
    cases (show u=Value.ref a from rx)
    obtain ⟨_,_,vs,_,p⟩:=(show za7 X.prog X.w H s.heap a (.dK kvs) from I.hok a _ ea);obtain ⟨o,es,ep,h1,h2,_⟩:=p;exact PySem.W.kia_one PySem.W.kitx_dict I.kIn ⟨o,h1,h2.1⟩ e (fun z=>nomatch z) h
  | @dT a kvs ea=>
    cases (show u=Value.ref a from rx)
    obtain ⟨_,_,xs,_,o,es,ep,h1,h2,_⟩:=(show za7 X.prog X.w H s.heap a (.dT kvs) from I.hok a _ ea);exact PySem.W.kia_one PySem.W.kitx_dict I.kIn ⟨o,h1,h2.1⟩ e (fun z=>nomatch z) h
  | @ins a C dx fs ea cl ha hn htk hm=>
    cases (show u=Value.ref a from rx)
    obtain ⟨mA,O,_⟩:=zpY I.hok ea;obtain ⟨od,J,_⟩:=O.look;exact PySem.W.kia_one (PySem.W.kitx_own (cl.get _) cl.hd ha hn htk hm) I.kIn J e (fun z=>nomatch z) h
end
end L2
namespace L2
open PySem PySem.Spec PyProof.Rows
structure Room (k:Nat)(A:Around):Prop where
  hd:A.handled=none
  dp:A.depth+3 * k+5 < recursionLimit
  un:A.units+16 * k+200 < cLine
  gd:A.guards=some []
theorem Room.mono {j k:Nat}{A:Around}(r:Room k A)(h:j≤k):Room j A:=⟨r.hd,by have:=r.dp;omega,by have:=r.un;omega,r.gd⟩
theorem Room.deeper {k:Nat}{A:Around}(r:Room (k+1) A)(env:Env):Room k (A.deeper env):=
  ⟨r.hd,by have:=r.dp;show A.depth+1+3 * k+5 < _;omega,by have:=r.un;show A.units+3+16 * k+200 < _;omega,r.gd⟩
theorem Room.depth {k:Nat}{A:Around}(r:Room k A):A.depth < recursionLimit:=by have:=r.dp;omega
theorem Room.units {k:Nat}{A:Around}(r:Room k A):A.units+64 < cLine:=by have:=r.un;omega
def tNil:TA:=fun _ H Q=>Q [] H
def zkH (ta:TE)(tr:TA):TA:=fun σ H Q=>ta σ H fun x H1=>tr σ H1 fun xs H2=>Q (x::xs) H2
section
variable {X:Cx}{e:Expr}{es:List Expr}{te:TE}{t:TA}{pos:Pos}
theorem zac:PA X [] tNil:=fun _ _ _ _ H Q I h=>Calls.spliced_nil ⟨[],H,I,.nil,h⟩
theorem zaa (ha:PE X e te)(hr:PA X es t)(hs:starEach (e::es) X.env=(false,eval e X.env)::starEach es X.env:=by rfl):PA X (e::es) (zkH te t):=by
  intro pos pins s σ H Q I h;rw[hs];show wpAny _ _ (spliced ((false,eval e X.env)::backTo pos (starEach es X.env))) _ _ s;refine Calls.spliced_cons (thn (ha pins s σ H _ I h) fun u s1 zq0=>?_);obtain ⟨x,H1,I1,r1,q1⟩:=zq0;exact thn (hr pos pins s1 σ H1 _ I1 q1) fun us s2 zq0=>(by obtain ⟨xs,H2,I2,r2,q2⟩:=zq0;exact ⟨x::xs,H2,I2,.cons r1 r2,q2⟩)
def tTup (t:TA):TE:=fun σ H Q=>t σ H fun xs H1=>xs.length≤sizeLine∧∀ p,H1 p=none→Q (.ref p) (upd H1 p (.tup xs))
def tLst (t:TA):TE:=fun σ H Q=>t σ H fun xs H1=>xs.length≤sizeLine∧∀ p,H1 p=none→Q (.ref p) (upd H1 p (.lst xs))
theorem zbB {x1}(h:PA X es t):PE X (.Tuple es x1 pos) (tTup t):=by
  intro pins s σ H Q I hq;refine wpAny_Tuple_spliced (thn (h pos pins s σ H _ I hq) fun us s1 zq0=>?_);obtain ⟨xs,H1,I1,r,z,q⟩:=zq0;refine ⟨by rw[← r.length];exact z,?_⟩;have hf:H1 s1.heap.objs.size=none:=I1.hok.fresh (yaa _);refine ⟨.ref s1.heap.objs.size,upd H1 s1.heap.objs.size (.tup xs),I1.laid (t':=s1.toks) (fun b u e=>yap _ e) (yaa _) ?_,rfl,q _ hf⟩;exact ⟨z,us,r,⟨_,yaO _ rfl,rfl,_,rfl⟩⟩
theorem zaI (h:PA X es t):PE X (.List es pos) (tLst t):=by
  intro pins s σ H Q I hq;refine wpAny_List_spliced (thn (h pos pins s σ H _ I hq) fun us s1 zq0=>?_);obtain ⟨xs,H1,I1,r,z,q⟩:=zq0;refine ⟨by rw[← r.length];exact z,?_⟩;have hf:H1 s1.heap.objs.size=none:=I1.hok.fresh (yaa _);refine ⟨.ref s1.heap.objs.size,upd H1 s1.heap.objs.size (.lst xs),I1.laid (t':=s1.toks) (fun b u e=>yap _ e) (yaa _) ?_,rfl,q _ hf⟩;exact ⟨z,us,0,r,yaO _ rfl⟩
end
abbrev Sp:=List V→Hp→VK→XK→Prop
abbrev CXT:=List Env→Hp→Shared→XK→Value→Shared→Prop
structure Env0 (P:Program)(w:World)(K:Frag)(mg:Str→Option Value)(base:Heap)(A:Around)(outer:List Env)(s:Shared)(H:Hp):Prop where
  frames:A.frames=some outer
  mod:Mod K mg base
  bs:∀ b o,base.get? b=some o→s.heap.get? b=some o∧H b=none
  bsz:base.objs.size≤s.heap.objs.size
  funs:s.heap.FunFrames base outer
  frf:∀ b∈frs outer,H b=none
  hok:HOk P w H s.heap
  bare:AllBare s.gens
def CE (outer:List Env)(P:Program)(w:World)(H:Hp)(s:Shared)(Q:VK)(u:Value)(s':Shared):Prop:=
  ∃ v H',s'.os=s.os∧AllBare s'.gens∧Un (frs outer) [] H H' s.heap s'.heap∧HOk P w H' s'.heap∧RelV v u∧Q v H'
def CR (CX:CXT)(outer:List Env)(P:Program)(w:World)(H:Hp)(s:Shared)(Q:VK)(E:XK)(r:Result)(s':Shared):Prop:=
  match r with
  | .ok (.ret u)=>CE outer P w H s Q u s'
  | .ok _=>False
  | .error e=>CX outer H s E e s'
structure FnOk (P:Program)(w:World)(K:Frag)(mg:Str→Option Value)(base:Heap)(CX:CXT)(k:Nat)(f:Addr)(fd:FuncData)(ps:List Str)(sp:Sp):Prop where
  len:∀ vs H Q E,sp vs H Q E→vs.length=ps.length
  run:∀(A:Around) (outer:List Env) (s:Shared) (H:Hp) (args:Args) (us:List Value) (vs:List V) (Q:VK) (E:XK),Room k A→Env0 P w K mg base A outer s H→BindsTo s fd args (ps.zip us)→Vals vs us→sp vs H Q E→
    codeAny (model P w) A (.call (.ref f) args) (CR CX outer P w H s Q E) s
section
variable {X:Cx}{pins:List (Addr×Obj)}{σ:St}{H:Hp}{s s':Shared}
theorem Inv.env0 (I:Inv X pins σ H s):Env0 X.prog X.w X.K X.mg X.base X.A X.stack s H:=
  ⟨I.ok.frames,I.ok.mod,I.bs,yaB I.ok.bsz I.sz,I.stack,I.stkFree,I.hok,I.bare⟩
theorem Inv.after {Q:VK}{u:Value}(I:Inv X pins σ H s)(h:CE X.stack X.prog X.w H s Q u s'):EP X pins σ Q u s':=by
  obtain ⟨v,H',os,bare,un,hok,r,q⟩:=h;obtain ⟨hh,g,d,t,os'⟩:=s';obtain rfl:os'=s.os:=os;exact ⟨v,H',I.call (h':=hh) (g':=g) (d':=d) (t':=t) (ch:=[]) un hok bare (fun b z=>absurd z (by simp)),r,q⟩
end
def zpn (sp:Sp)(dvs:List V)(E:XK)(t:TA):TE:=fun σ H Q=>t σ H fun vs H1=>sp (vs++dvs) H1 Q E
def zgn (K:Frag)(fd:FuncData)(ps:List Str)(ds:List Value):Prop:=
  ∀(s:Shared) (us:List Value),K.In s.heap→(us++ds).length=ps.length→BindsTo s fd ⟨us,[]⟩ (ps.zip (us++ds))
theorem zgn.all {K:Frag}{fd:FuncData}{ps:List Str}(h:∀ us:List Value,us.length=ps.length→bindArgs fd ⟨us,[]⟩=pure (ps.zip us)):zgn K fd ps []:=fun s us _ hl=>by
  rw[yaI]at hl ⊢;exact .of_eq (h us hl)
def ziE (CX:CXT)(X:Cx)(E:XK):Prop:=∀(pins:List (Addr×Obj)) (σ:St) (H:Hp) (s:Shared) (e:Value) (s':Shared),Inv X pins σ H s→CX X.stack H s E e s'→X.xe e s'
section
variable {X:Cx}{CX:CXT}{k:Nat}{f C:Addr}{fd:FuncData}{ps:List Str}{sp:Sp}{dvs:List V}{ds:List Value}{E:XK}{x m:Str}{p pos apos:Pos}{e o:Expr}{es:List Expr}{ta:TE}{t:TA}
theorem zoS {pins:List (Addr×Obj)}{σ:St}{H:Hp}{s:Shared}{Q:VK}{us:List Value}{vs:List V}(F:FnOk X.prog X.w X.K X.mg X.base CX k f fd ps sp)(hr:Room k X.A)(hb:zgn X.K fd ps ds)(hd:Vals dvs ds)(hx:ziE CX X E)
    (I:Inv X pins σ H s) (r:Vals vs us) (h:sp (vs++dvs) H Q E):wpAny (model X.prog X.w) X.A (call (.ref f) us) (EP X pins σ Q) X.xe s:=by
  have r2:Vals (vs++dvs) (us++ds):=r.append hd;have hl:(us++ds).length=ps.length:=by rw[← r2.length];exact F.len _ _ _ _ h
  refine wpAny_call (codeAny_mono (F.run X.A X.stack s H ⟨us,[]⟩ (us++ds) (vs++dvs) Q E hr I.env0 (hb s us I.kIn hl) r2 h) fun r s' hq=>?_);cases r with
  | error e=>exact hx pins σ H s e s' I hq
  | ok fl=>
    cases fl with
    | ret u=>exact I.after hq
    | next=>exact False.elim hq
    | brk=>exact False.elim hq
    | cont=>exact False.elim hq
theorem zpz (F:FnOk X.prog X.w X.K X.mg X.base CX k f fd ps sp)(hr:Room k X.A)(hg:Gl X x)(hm:X.mg x=some (.ref f))(hk:keepIn X.K (.ref f)=true)(hb:zgn X.K fd ps ds)(hd:Vals dvs ds)(hx:ziE CX X E)
    (ha:PA X (e::es) t) (hdb:(x == ("__debug__" : Str))=false:=by decide) (he:starEach (e::es) X.env=(false,eval e X.env)::starEach es X.env:=by rfl) (hpl:(backTo pos (starEach es X.env)).any (·.1)=false:=by rfl) :
    PE X (.Call (.Name x p) (e::es) [] pos) (zpn sp dvs E t):=by
  intro pins s σ H Q I h;refine wpAny_Call_Name_kw (zed I hg hm ?_ hdb);refine PySem.W.callWith_K (h₀:=X.base) I.ok.mod.kin hk (thn (ha pos pins s σ H _ I h) fun us s1 zq0=>?_) he hpl;obtain ⟨vs,H1,I1,r,q⟩:=zq0;refine ⟨I1.kIn,?_⟩;exact zoS F hr hb hd hx I1 r q
end
structure zaq (N P:List Str)(sc:Scope):Prop where
  kind:sc.kind=.function
  co:sc.isCoroutine=false
  gen:sc.isGenerator=false
  nd:N.Nodup
  pre:N.take P.length=P
  par:∀ x∈P,sc.names.lookup x=some .local∨sc.names.lookup x=some .cell
  nofree:∀ y∈sc.names,y.2≠.free
theorem zix {kindOf:Str→Option NameKind}{x:Str}:∀{binds:List (Str×Value)} {m:Str→Option Value},(∀ v,(x,v)∉binds)→bindL kindOf binds m x=m x
  | [],_,_=>rfl
  | (n,v)::r,m,h=>by
    unfold bindL;rw[zix fun w hw=>h w (yas _ hw)];split
    · have:x≠n:=by rintro rfl;exact h v yak
      simp[this]
    · rfl
theorem ziz {kindOf:Str→Option NameKind}{x:Str}:∀{binds:List (Str×Value)} {m:Str→Option Value},(∀ v,(x,v)∉binds)→bindC kindOf binds m x=m x
  | [],_,_=>rfl
  | (n,v)::r,m,h=>by
    unfold bindC;rw[ziz fun w hw=>h w (yas _ hw)];split
    · rfl
    · have:x≠n:=by rintro rfl;exact h v yak
      simp[this]
theorem ziy {kindOf:Str→Option NameKind}{x:Str}{v:Value}:∀{P:List Str} {vs:List Value} {i:Nat} {m:Str→Option Value},P.Nodup→P[i]?=some x→vs[i]?=some v→kindOf x=some .local→
    bindL kindOf (P.zip vs) m x=some v
  | [],_,_,_,_,h,_,_=>by simp at h
  | _::_,[],_,_,_,_,h,_=>by simp at h
  | p::P,w::vs,0,m,nd,h1,h2,hk=>by
    simp at h1 h2;subst h1;subst h2;show bindL kindOf ((p,w)::P.zip vs) m p=_;unfold bindL;rw[zix fun v hv=>(yaW.mp nd).1 (ybY hv).1,if_pos hk];simp
  | p::P,w::vs,i+1,m,nd,h1,h2,hk=>by
    show bindL kindOf ((p,w)::P.zip vs) m x=_;unfold bindL;exact ziy (i:=i) (yaW.mp nd).2 (by simpa using h1) (by simpa using h2) hk
theorem ziA {kindOf:Str→Option NameKind}{x:Str}{v:Value}:∀{P:List Str} {vs:List Value} {i:Nat} {m:Str→Option Value},P.Nodup→P[i]?=some x→vs[i]?=some v→kindOf x≠some .local→
    bindC kindOf (P.zip vs) m x=some v
  | [],_,_,_,_,h,_,_=>by simp at h
  | _::_,[],_,_,_,_,h,_=>by simp at h
  | p::P,w::vs,0,m,nd,h1,h2,hk=>by
    simp at h1 h2;subst h1;subst h2;show bindC kindOf ((p,w)::P.zip vs) m p=_;unfold bindC;rw[ziz fun v hv=>(yaW.mp nd).1 (ybY hv).1,if_neg hk];simp
  | p::P,w::vs,i+1,m,nd,h1,h2,hk=>by
    show bindC kindOf ((p,w)::P.zip vs) m x=_;unfold bindC;exact ziA (i:=i) (yaW.mp nd).2 (by simpa using h1) (by simpa using h2) hk
def zcV (N:List Str)(vs:List V):St:=vs.map some++List.replicate (N.length - vs.length) none
def cxOf (CX:CXT)(P:Program)(w:World)(K:Frag)(mg:Str→Option Value)(base:Heap)(N:List Str)(qual:Str)(scope:Scope)(f:Addr)(cd:Value)(A:Around)(outer:List Env)(s:Shared)(H:Hp)(E:XK):Cx where
  prog:=P
  w:=w
  K:=K
  mg:=mg
  base:=base
  A:=A.deeper (envOfC qual scope s.heap.objs.size f cd)
  N:=N
  s₀:=s
  H₀:=H
  env:=envOfC qual scope s.heap.objs.size f cd
  outer:=outer
  stack:=envOfC qual scope s.heap.objs.size f cd::outer
  ex:=[]
  calm:=true
  fn:=fun _=>true
  pn:=[]
  xe:=fun e s'=>wpAny (model P w) (A.deeper (envOfC qual scope s.heap.objs.size f cd)) (leaving (envOfC qual scope s.heap.objs.size f cd) e) (fun _ s''=>CX outer H s E e s'') (fun e' s''=>CX outer H s E e' s'') s'
theorem zkt {sc:Scope}{n:Nat}{x:Str}(h:sc.names.lookup x=some .cell):∃ c,(cellsFrom n sc.names []).lookup x=some c:=by
  have q:=PySem.W.cellsFrom_some sc.names n [] (.inl h);exact ybC.mp q
theorem zmN {CX:CXT}{P:Program}{w:World}{K:Frag}{mg:Str→Option Value}{base:Heap}{N ps:List Str}{qual:Str}{scope:Scope}{f:Addr}{cd:Value}{A:Around}{outer:List Env}{s s1:Shared}{H:Hp}{E:XK}{us:List Value}{vs:List V}
    (S:zaq N ps scope) (hd:A.handled=none) (e0:Env0 P w K mg base A outer s H) (hl:vs.length=ps.length) (r:Vals vs us)
    (x:InCallC s s.heap.objs.size (bindL (envOfC qual scope s.heap.objs.size f cd).kindOf (ps.zip us) fun _=>none) (cellsFrom (s.heap.objs.size+1) scope.names []) (bindC (envOfC qual scope s.heap.objs.size f cd).kindOf (ps.zip us) fun _=>none) s1) :
    Inv (cxOf CX P w K mg base N qual scope f cd A outer s H E) [] (zcV N vs) H s1:=by
  have hpl:ps.length≤N.length:=by have:=congrArg List.length S.pre;rw[yar]at this;omega
  obtain ⟨h1,tk,rfl,hk⟩:=x.done;have noA:∀ b:Addr,b∉(cxOf CX P w K mg base N qual scope f cd A outer s H E).ex:=fun b z=>absurd (show b∈([]:List Addr) from z) (by simp);refine ⟨⟨e0.mod,S.kind,rfl,rfl,yaa _,fun y z c h1 h2=>?_,fun y hy=>?_,fun y c _ h=>?_,fun _=>hd,Around.frames_deeper e0.frames,.inr ⟨rfl,rfl⟩,fun b z=>absurd z (noA b),e0.bs,e0.bsz,fun b _ _=>noA b,fun b z=>absurd z (noA b),e0.funs,e0.frf⟩,
    rfl,e0.bare,Un.kept hk,⟨_,x.toInCall.ns,fun i y v h1 h2 h3=>?_⟩,fun y c h=>⟨_,x.cell y c h⟩,e0.hok.fresh (yaa _),fun y c h=>?_,fun p hp=>absurd (show p∈([]:List (Addr×Obj)) from hp) (by simp),e0.hok.kept hk,?_⟩
  · exact name_of_addr x.apart (PySem.mem_of_lookup h1) (PySem.mem_of_lookup h2)
  · have hy:scope.names.lookup y=some .cell∨scope.names.lookup y=some .free:=hy
    rcases hy with hy | hy
    · exact zkt hy
    · exact absurd rfl (S.nofree _ (PySem.mem_of_lookup hy))
  · exact ybd (x.above y c (PySem.mem_of_lookup h))
  · have hi:i < vs.length:=by
      unfold zcV at h2;by_cases hi:i < vs.length
      · exact hi
      · rw[yaP (by simpa using hi)]at h2
        rw[List.getElem?_replicate]at h2;split at h2 <;> cases h2
    have ha:vs[i]?=some v:=by
      unfold zcV at h2;rw[ya0 (by simpa using hi),yaj]at h2;cases e:vs[i]? with
      | none=>rw[e]at h2;cases h2
      | some a=>rw[e]at h2;cases h2;rfl
    obtain ⟨u,hu,rv⟩:=r.get ha;have hp:ps[i]?=some y:=by
      rw[← S.pre,List.getElem?_take_of_lt (by omega)];exact h1
    have ndP:ps.Nodup:=by rw[← S.pre];exact S.nd.sublist (List.take_sublist _ _)
    refine ⟨u,rv,?_⟩;rcases S.par y (yaQ hp) with k | k
    · exact .inl ⟨k,ziy ndP hp hu k⟩
    · obtain ⟨c,e⟩:=zkt (n:=s.heap.objs.size+1) k
      refine .inr ⟨.inl k,c,e,?_⟩;have q:=x.cell y c e;rw[ziA ndP hp hu (by show scope.names.lookup y≠_;rw[k];decide)]at q;exact q
  · exact e0.hok.fresh (ybd (x.above y c (PySem.mem_of_lookup h)))
  · unfold zcV
    show _=N.length;rw[yaf,yab,ybo];omega
theorem zp7 {CX:CXT}{P:Program}{w:World}{K:Frag}{mg:Str→Option Value}{base:Heap}{k:Nat}{f:Addr}{name qual:Str}{params:Arguments}{body:List Stmt}{scope:Scope}{dV kV doc pm cdv ct oc:Value}{an od:Option Addr}
    {osl:Array (Option Value)} {N ps:List Str} {sp:Sp} (lk:K.lookup f=some ⟨oc,od,.func (fnOf name qual params body scope dV kV doc pm an cdv ct),osl⟩) (hcd:codeIn K cdv qual=true) (S:zaq N ps scope)
    (len:∀ vs H Q E,sp vs H Q E→vs.length=ps.length)
    (hbody:∀(A:Around) (outer:List Env) (s:Shared) (H:Hp) (vs:List V) (Q:VK) (E:XK),Room k (A.deeper (envOfC qual scope s.heap.objs.size f cdv))→sp vs H Q E→
      ∃ t,PSs (cxOf CX P w K mg base N qual scope f cdv A outer s H E) body t∧t { nx:=fun _ H'=>Q .non H',rt:=Q } (zcV N vs) H) :
    FnOk P w K mg base CX (k+1) f (fnOf name qual params body scope dV kV doc pm an cdv ct) ps sp:=by
  refine ⟨len,fun A outer s H args us vs Q E hr e0 hb r hsp=>?_⟩;have hl:=len _ _ _ _ hsp;have KX:K.In s.heap:=e0.mod.kin.keeps fun b o e=>(e0.bs b o e).1;have lim:s.heap.NoLimit:=e0.mod.nolimit.keeps fun b o e=>(e0.bs b o e).1;have hkind:∀ y∈ps.zip us,scope.names.lookup y.1=some .local∨(scope.names.lookup y.1=some .cell∧((cellsFrom (s.heap.objs.size+1) scope.names []).lookup y.1).isSome=true):=fun ⟨n,v⟩ hy=>by
    rcases S.par n (ybY hy).1 with q | q
    · exact .inl q
    · exact .inr ⟨q,PySem.W.cellsFrom_some _ _ _ (.inl q)⟩
  refine codeAny_call_function hr.depth (KX _ _ lk) rfl S.co S.gen rfl (PySem.W.codeRec_of KX hcd) (hb _ _ _ _ ?_);refine wpAny_newFunctionEnv_cells S.kind hkind fun env he s1 x=>?_;subst he;refine ⟨lim.keeps x.toInCall.keep,codeAny_func ?_⟩;obtain ⟨t,ht,hq⟩:=hbody A outer s H vs Q E (hr.deeper _) hsp;have I:Inv (cxOf CX P w K mg base N qual scope f cdv A outer s H E) [] (zcV N vs) H s1:=zmN S hr.hd e0 hl r x;refine wpAny_mono (ht [] s1 (zcV N vs) H _ I hq) (fun fl s' hs=>?_) fun e s' hs=>hs;have fin:∀{σ':St} {H':Hp} {v:V} {u:Value},Inv (cxOf CX P w K mg base N qual scope f cdv A outer s H E) [] σ' H' s'→RelV v u→Q v H'→CE outer P w H s Q u s':=
    fun {σ' H' v u} J rv q=>⟨v,H',J.os,J.bare,J.base,J.hok,rv,q⟩
  cases fl with
  | ret u=>
    obtain ⟨v,σ',H',J,rv,q⟩:=hs;exact fin J rv q
  | next=>
    obtain ⟨σ',H',J,q⟩:=hs;exact fin (v:=V.non) (u:=Value.none) J rfl q
  | brk=>
    obtain ⟨_,_,_,q⟩:=hs;exact False.elim q
  | cont=>
    obtain ⟨_,_,_,q⟩:=hs;exact False.elim q
end L2
namespace L2
open PySem PySem.Spec PyProof.Rows
section
variable {X:Cx}{x:Str}{p pos:Pos}{e:Expr}{es:List Expr}{t:TA}{id T:String}{r:List V→Hp→VK→Prop}
def tCB (r:List V→Hp→VK→Prop)(t:TA):TE:=fun σ H Q=>t σ H fun vs H1=>r vs H1 Q
theorem zal (hc:zce X (.builtin id) r)(hg:Gl X x)(hm:X.mg x=none)(hv:bootBuiltins x=some (.builtin id))(ha:PA X (e::es) t)(hn:x ≠ "__name__":=by decide)(hdb:(x == ("__debug__" : Str))=false:=by decide)
    (he:starEach (e::es) X.env=(false,eval e X.env)::starEach es X.env:=by rfl) (hpl:(backTo pos (starEach es X.env)).any (·.1)=false:=by rfl):PE X (.Call (.Name x p) (e::es) [] pos) (tCB r t):=by
  intro pins s σ H Q I h;refine wpAny_Call_Name_kw (zfq I hg hm hv ?_ hn hdb);exact PyProof.Rows.callWith_builtin1 (thn (ha pos pins s σ H _ I h) fun us s1 zq0=>(by obtain ⟨vs,H1,I1,r1,q1⟩:=zq0;exact hc pins s1 σ H1 vs us Q I1 r1 q1)) he hpl
theorem zbJ (hc:zce X (.type T) r)(hg:Gl X x)(hm:X.mg x=none)(hv:bootBuiltins x=some (.type T))(ha:PA X (e::es) t)(hn:x ≠ "__name__":=by decide)(hdb:(x == ("__debug__" : Str))=false:=by decide)
    (he:starEach (e::es) X.env=(false,eval e X.env)::starEach es X.env:=by rfl) (hpl:(backTo pos (starEach es X.env)).any (·.1)=false:=by rfl):PE X (.Call (.Name x p) (e::es) [] pos) (tCB r t):=by
  intro pins s σ H Q I h;refine wpAny_Call_Name_kw (zfq I hg hm hv ?_ hn hdb);exact PyProof.Rows.callWith_type1 (thn (ha pos pins s σ H _ I h) fun us s1 zq0=>(by obtain ⟨vs,H1,I1,r1,q1⟩:=zq0;exact hc pins s1 σ H1 vs us Q I1 r1 q1)) he hpl
end
end L2
namespace HT
open PySem PyProof.Rows
section
variable {prog:Program}{w:World}{A:Around}{E:Value→Shared→Prop}{s:Shared}
def sIx (n d:Nat):Option Int→Nat
  | none=>d
  | some v=>if v < 0 then (v+(n:Int)).toNat else min v.toNat n
theorem zfT (n d k:Nat):sIx n d (some (k:Int))=min k n:=by
  show (if (k:Int) < 0 then ((k:Int)+(n:Int)).toNat else min (k:Int).toNat n)=min k n
  rw[if_neg (by omega),ya9]
end
end HT
namespace L2
open PySem PySem.Spec PyProof.Rows
abbrev TO:=St→Hp→(Option Int→Hp→Prop)→Prop
def PO (X:Cx)(e:Option Expr)(t:TO):Prop:=
  ∀(pins:List (Addr×Obj)) (s:Shared) (σ:St) (H:Hp) (Q:Option Int→Hp→Prop),Inv X pins σ H s→t σ H Q→
    wpAny (model X.prog X.w) X.A (evalPart e X.env) (fun u s'=>∃ o H',Inv X pins σ H' s'∧IsPart u o∧Q o H') X.xe s
def zlC:TO:=fun _ H Q=>Q none H
def zrL (t:TE):TO:=fun σ H Q=>t σ H fun x H1=>∃ i,x=.int i∧Q (some i) H1
section
variable {X:Cx}{e:Expr}{te:TE}{lo hi:Option Expr}{tl th:TO}{pos p2:Pos}
theorem zdt:PO X none zlC:=by
  intro pins s σ H Q I h;rw[evalPart_none];exact wpAny_pure ⟨none,H,I,.none,h⟩
theorem zbS (h:PE X e te):PO X (some e) (zrL te):=by
  intro pins s σ H Q I hw;rw[evalPart_some];refine thn (h pins s σ H _ I hw) fun u s1 zq0=>?_;obtain ⟨x,H1,I1,r1,q1⟩:=zq0;obtain ⟨i,rfl,q⟩:=q1;obtain ⟨t,rfl⟩:=r1;exact ⟨some i,H1,I1,.int i t,q⟩
def SlR (X:Cx)(r:V→Option Int→Option Int→Hp→VK→Prop):Prop:=
  ∀(pins:List (Addr×Obj)) (s:Shared) (σ:St) (H:Hp) (x:V) (v vl vu:Value) (lo hi:Option Int) (sl:Addr) (Q:VK),Inv X pins σ H s→RelV x v→s.heap.IsSliceOf sl vl vu .none→IsPart vl lo→IsPart vu hi→r x lo hi H Q→
    ∃ T id,typeLookup (.type T) "__getitem__" = pure (some (.builtin id))∧s.TypeIs v T∧wpAny (model X.prog X.w) X.A (getItem v (.ref sl)) (EP X pins σ Q) X.xe s
def tSl (r:V→Option Int→Option Int→Hp→VK→Prop)(te:TE)(tl th:TO):TE:=fun σ H Q=>te σ H fun x H1=>tl σ H1 fun l H2=>th σ H2 fun u H3=>r x l u H3 Q
theorem zbW {r:V→Option Int→Option Int→Hp→VK→Prop}(hr:SlR X r)(he:PE X e te)(hl:PO X lo tl)(hu:PO X hi th):PE X (.Subscript e (.Slice lo hi none p2) pos) (tSl r te tl th):=by
  intro pins s σ H Q I h;refine Subscript_ (thn (he pins s σ H _ I h) fun v s1 zq0=>?_);obtain ⟨x,H1,I1,r1,q1⟩:=zq0;refine wpAny_Slice (thn (hl pins s1 σ H1 _ I1 q1) fun vl s2 zq0=>?_);obtain ⟨l,H2,I2,pl,q2⟩:=zq0;refine thn (hu pins s2 σ H2 _ I2 q2) fun vu s3 zq1=>?_;obtain ⟨u,H3,I3,pu,q3⟩:=zq1;rw[evalPart_none];refine wpAny_pure ?_;have I4:Inv X pins σ H3 { s3 with heap:=s3.heap.push { cls:=.type "slice",data:=.fields #[vl,vu,.none] } }:=I3.kept (t':=s3.toks) fun b ob q=>yap _ q;obtain ⟨T,id,hT,ht,hg⟩:=hr pins { s3 with heap:=s3.heap.push { cls:=.type "slice",data:=.fields #[vl,vu,.none] } } σ H3 x v vl vu l u s3.heap.objs.size Q I4 r1 (Heap.IsSliceOf.new ..) pl pu q3;show wpAny (model X.prog X.w) X.A (subscriptTail e (.Slice lo hi none p2) v (.ref s3.heap.objs.size)) (EP X pins σ Q) X.xe { s3 with heap:=s3.heap.push { cls:=.type "slice",data:=.fields #[vl,vu,.none] } };exact tail_any (ops:=[.ref s3.heap.objs.size,v]) ht hT hg (by with_unfolding_all rfl)
def cutV (xs:List V)(lo hi:Option Int):List V:=(xs.drop (HT.sIx xs.length 0 lo)).take (HT.sIx xs.length xs.length hi - HT.sIx xs.length 0 lo)
theorem zji (xs:List V)(lo hi:Option Int):(cutV xs lo hi).length≤xs.length:=by
  unfold cutV;rw[yar,yaL];omega
end
end L2
namespace L2
open PySem PySem.Spec PyProof.Rows
def ixN (n:Nat)(i:Int):Option Nat:=if 0≤i then (if i < n then some i.toNat else none) else if -(n:Int)≤i then some (i+n).toNat else none
def atI {α:Type}(xs:List α)(i:Int):Option α:=(ixN xs.length i).bind fun j=>xs[j]?
theorem zmK {n:Nat}{i:Int}{j:Nat}(h:ixN n i=some j):seqIndex? i n=some j∧j < n∧-(n:Int)≤i∧i < n:=by
  unfold ixN at h;by_cases h0:0≤i
  · rw[if_pos h0]at h
    by_cases h1:i < n
    · rw[if_pos h1]at h
      have e:i.toNat=j:=yag h;exact ⟨by rw[seqIndex_of h0 h1,e],by omega,by omega,h1⟩
    · rw[if_neg h1]at h;cases h
  · rw[if_neg h0]at h
    by_cases h1:-(n:Int)≤i
    · rw[if_pos h1]at h
      have e:(i+n).toNat=j:=yag h;exact ⟨by rw[seqIndex_neg (by omega) h1,e],by omega,h1,by omega⟩
    · rw[if_neg h1]at h;cases h
theorem znl {α:Type}{xs:List α}{i:Int}{v:α}(h:atI xs i=some v):∃ j,seqIndex? i xs.length=some j∧xs[j]?=some v∧j < xs.length∧-(xs.length:Int)≤i∧i < xs.length:=by
  unfold atI at h;cases e:ixN xs.length i with
  | none=>rw[e]at h;cases h
  | some j=>
    rw[e]at h;obtain ⟨h1,h2,h3,h4⟩:=zmK e;exact ⟨j,h1,h,h2,h3,h4⟩
theorem zaQ {α:Type}{xs:List α}{j:Nat}{v:α}(h:xs[j]?=some v):atI xs (j:Int)=some v:=by
  have hj:j < xs.length:=(yao.mp h).1;have e:ixN xs.length (j:Int)=some j:=by
    unfold ixN;rw[if_pos (by omega),if_pos (by omega)];simp
  unfold atI;rw[e];exact h
def zqo (b:Expr):Prop:=∀ o i,subscripted b false o i=operate [o,i] (getItem o i)
def IxR (X:Cx)(r:R2):Prop:=
  ∀(value slice:Expr) (pins:List (Addr×Obj)) (s:Shared) (σ:St) (H:Hp) (x y:V) (v u:Value) (Q:VK),Inv X pins σ H s→RelV x v→RelV y u→r x y H Q→
    subscripted slice false v u=operate [v,u] (getItem v u)→wpAny (model X.prog X.w) X.A (subscriptTail value slice v u) (EP X pins σ Q) X.xe s
def MtR (X:Cx)(id:String)(r:V→List V→Hp→VK→Prop):Prop:=
  ∀(pins:List (Addr×Obj)) (s:Shared) (σ:St) (H:Hp) (x:V) (xs:List V) (v:Value) (us:List Value) (Q:VK),Inv X pins σ H s→RelV x v→Vals xs us→r x xs H Q→
    wpAny (model X.prog X.w) X.A (call (.builtin id) (v::us)) (EP X pins σ Q) X.xe s
section
variable {X:Cx}{a b:Expr}{ta tb:TE}{pos:Pos}
theorem zau {r:R2}(hr:IxR X r)(ha:PE X a ta)(hb:PE X b tb)(hs:zqo b):PE X (.Subscript a b pos) (tOp r ta tb):=by
  intro pins s σ H Q I h;exact Subscript_ (binT ha hb I h fun v u s2 x y H2 I2 rx ry q=>hr a b pins s2 σ H2 x y v u Q I2 rx ry q (hs _ _))
def rIxL (K:Frag):R2:=fun x y H Q=>∃ p xs i v,x=.ref p∧y=.int i∧SqL K H p xs∧atI xs i=some v∧Q v H
def rIxT (K:Frag):R2:=fun x y H Q=>∃ p xs i v,x=.ref p∧y=.int i∧SqT K H p xs∧atI xs i=some v∧Q v H
theorem zay:IxR X (rIxL X.K):=by
  intro value slice pins s σ H x y v u Q I rx ry h hs;obtain ⟨p,xs,i,z,rfl,rfl,hq,he,q⟩:=h;cases rx
  obtain ⟨t,rfl⟩:=ry;obtain ⟨its,r,pl,hz⟩:=I.list hq;obtain ⟨j,h1,h2,h3,h4,h5⟩:=znl he;obtain ⟨w,ew,rw'⟩:=r.get h2;have hl:=r.length;have hn:=zj9;have fin:EP X pins σ Q w s:=⟨z,H,I,rw',q⟩;by_cases h0:0≤i
  · have hj:i.toNat=j:=by
      rw[seqIndex_of h0 h5]at h1;exact yag h1
    exact item_listR pl.isList h0 (by omega) (by rw[hj];simpa using ew) fin hs
  · have hj:(i+(its.toArray.size:Int)).toNat=j:=by
      rw[seqIndex_neg (by omega) h4]at h1;rw[yay,← hl];exact yag h1
    exact subscriptTail_builtinR (x:=w) pl.isList.typeIs slot_list_getitem.lookup
      (wpAny_getItem_list_neg (Q:=fun r s'=>r=w∧EP X pins σ Q r s') pl.isList (by omega) (by rw[yay] <;> omega) (by omega) (by rw[hj];simpa using ew) ⟨rfl,fin⟩) hs
theorem zaF:IxR X (rIxT X.K):=by
  intro value slice pins s σ H x y v u Q I rx ry h hs;obtain ⟨p,xs,i,z,rfl,rfl,hq,he,q⟩:=h;cases rx
  obtain ⟨t,rfl⟩:=ry;obtain ⟨its,r,pl,hz⟩:=I.tuple hq;obtain ⟨j,h1,h2,h3,h4,h5⟩:=znl he;obtain ⟨w,ew,rw'⟩:=r.get h2;have hl:=r.length;have hn:=zj9;have fin:EP X pins σ Q w s:=⟨z,H,I,rw',q⟩;exact subscriptTail_builtinR (x:=w) pl.typeIs slot_tuple_getitem.lookup
    (getItem_tuple (j:=j) (Q:=fun r s'=>r=w∧EP X pins σ Q r s') pl (by omega) (by omega) (by rw[yay,← hl];exact h1) (by simpa using ew) ⟨rfl,fin⟩) hs
theorem zk2 (its:List Value)(n j:Nat)(u:Value):Obj.mapSeq (·.setIfInBounds j u) { cls:=.type "list",data:=.seq its.toArray n }={ cls:=.type "list",data:=.seq (its.set j u).toArray n }:=by
  simp[Obj.mapSeq]
theorem Inv.lst {pins:List (Addr×Obj)}{σ:St}{H:Hp}{s:Shared}{p:Addr}{xs:List V}(I:Inv X pins σ H s)(h:H p=some (.lst xs)) :
    ∃(its:List Value) (n:Nat),Vals xs its∧s.heap.get? p=some { cls:=.type "list",data:=.seq its.toArray n }∧xs.length≤sizeLine:=by
  obtain ⟨z,its,n,r,e⟩:=I.hok p _ h;exact ⟨its,n,r,e,z⟩
theorem Inv.lstUpd {pins:List (Addr×Obj)}{σ:St}{H:Hp}{s:Shared}{p:Addr}{xs ys:List V}{its its':List Value}{n n':Nat}{f:Obj→Obj}(I:Inv X pins σ H s)(h:H p=some (.lst xs))
    (ho:s.heap.get? p=some { cls:=.type "list",data:=.seq its.toArray n }) (hf:f { cls:=.type "list",data:=.seq its.toArray n }={ cls:=.type "list",data:=.seq its'.toArray n' }) (r:Vals ys its') (hz:ys.length≤sizeLine) (t:Nat) :
    Inv X pins σ (upd H p (.lst ys)) { s with heap:=s.heap.update p f,toks:=t }:=by
  have e:(s.heap.update p f).get? p=some { cls:=.type "list",data:=.seq its'.toArray n' }:=by
    rw[Heap.get?_update_self f ho (by rw[hf] <;> rfl),hf]
  refine I.write (x:=p) (e:=p) (by rw[h];trivial) (.inl rfl) (fun b u hb q=>(ybp _ _ (Ne.symm hb)).trans q) ⟨_,e⟩ ?_;exact ⟨hz,its',n',r,e⟩
def zrT:V→V→V→Hp→(Hp→Prop)→Prop:=fun o i v H Q=>∃ p xs k j,o=.ref p∧i=.int k∧H p=some (.lst xs)∧ixN xs.length k=some j∧Q (upd H p (.lst (xs.set j v)))
theorem zjT:PSet X zrT:=by
  intro pins s σ H o i v ov iv u Q I ro ri rv h;obtain ⟨p,xs,k,j,rfl,rfl,hp,hj,q⟩:=h;cases ro
  obtain ⟨t,rfl⟩:=ri;obtain ⟨its,n,r,ho,hz⟩:=I.lst hp;obtain ⟨h1,h2,h3,h4⟩:=zmK hj;have hl:=r.length;have hn:=zj9;have I':Inv X pins σ (upd H p (.lst (xs.set j v))) { s with heap:=s.heap.update p (Obj.mapSeq (·.setIfInBounds j u)) }:=
    I.lstUpd hp ho (zk2 its n j u) (r.set rv j) (by rw[List.length_set];exact hz) s.toks
  by_cases h0:0≤k
  · have hk:k.toNat=j:=by
      rw[seqIndex_of h0 h4]at h1;exact yag h1
    exact PySem.W.ki_setAt ho h0 (by omega) (by rw[yay,← hl];exact h4) (by rw[hk];exact ⟨_,I',q⟩)
  · have hk:(k+(its.toArray.size:Int)).toNat=j:=by
      rw[seqIndex_neg (by omega) h3]at h1;rw[yay,← hl];exact yag h1
    exact PySem.W.ki_setBack ho (by omega) (by rw[yay,← hl];exact h3) (by omega) (by rw[hk];exact ⟨_,I',q⟩)
theorem zhT (lo hi:Option Int)(n:Nat):(sliceBounds lo hi none n).1=((HT.sIx n 0 lo:Nat):Int)∧(sliceBounds lo hi none n).2.1=((HT.sIx n n hi:Nat):Int)∧(sliceBounds lo hi none n).2.2=1:=by
  refine ⟨?_,?_,rfl⟩
  · cases lo with
    | none=>simp[sliceBounds,HT.sIx]
    | some i=>
      simp only[sliceBounds,HT.sIx,Option.getD_none,show (1:Int) > 0 by decide,if_true];by_cases h:i < 0
      · simp only[h,if_true] <;> omega
      · simp only[h,if_false] <;> omega
  · cases hi with
    | none=>simp[sliceBounds,HT.sIx]
    | some i=>
      simp only[sliceBounds,HT.sIx,Option.getD_none,show (1:Int) > 0 by decide,if_true];by_cases h:i < 0
      · simp only[h,if_true] <;> omega
      · simp only[h,if_false] <;> omega
theorem zgX (its:List Value)(lo hi:Option Int):slicePick its.toArray lo hi none=((its.drop (HT.sIx its.length 0 lo)).take (HT.sIx its.length its.length hi - HT.sIx its.length 0 lo)).toArray:=by
  obtain ⟨h1,h2,h3⟩:=zhT lo hi its.toArray.size;unfold slicePick;rw[h1,h2,h3];simp only[sliceRange_one,pick_run,yay] <;> rfl
def rSlL (K:Frag):V→Option Int→Option Int→Hp→VK→Prop:=fun x lo hi H Q=>∃ a xs,x=.ref a∧SqL K H a xs∧∀ p,H p=none→Q (.ref p) (upd H p (.lst (cutV xs lo hi)))
theorem zcM:SlR X (rSlL X.K):=by
  intro pins s σ H x v vl vu lo hi sl Q I rx hs pl pu h;obtain ⟨a,xs,rfl,hx,q⟩:=h;cases rx
  obtain ⟨its,r,ht,hz⟩:=I.list hx;have hlen:=r.length;refine ⟨"list",_,slot_list_getitem.lookup,ht.isList.typeIs,?_⟩;refine wpAny_getItem_list_slice ht.isList hs pl pu .none (by simp) ?_ (by rw[yay] <;> omega)
  rw[zgX,← hlen];refine ⟨.ref s.heap.objs.size,_,I.laid (t':=s.toks) (o:=.lst (cutV xs lo hi)) (fun b ob q=>yap _ q) (yaa _) ?_,rfl,q _ (I.hok.fresh (yaa _))⟩;exact ⟨yaB (zji xs lo hi) hz,_,0,(r.drop (HT.sIx xs.length 0 lo)).take (HT.sIx xs.length xs.length hi - HT.sIx xs.length 0 lo),yaO _ rfl⟩
def zgl:V→Bool
  | .non=>true
  | .bl _=>true
  | .int _=>true
  | .str _=>true
  | _=>false
def eqV:V→V→Bool
  | .non,.non=>true
  | .bl a,.bl b=>a == b
  | .bl a,.int b=>(if a then 1 else 0) == b
  | .int a,.bl b=>a == (if b then 1 else 0)
  | .int a,.int b=>a == b
  | .str a,.str b=>a == b
  | _,_=>false
theorem zrA {A:Around}{s:Shared}{y x:V}{u v:Value}(ry:RelV y u)(rx:RelV x v)(fy:zgl y=true)(fx:zgl x=true):SeqAt.EqAt A s u v (eqV y x):=by
  cases y with
  | non=>
    cases ry
    cases x with
    | non=>cases rx;exact SeqAt.EqAt.same _
    | bl b=>cases rx;exact SeqAt.EqAt.none_bool b
    | int b=>obtain ⟨t,rfl⟩:=rx;exact SeqAt.EqAt.none_int b t
    | str b=>obtain ⟨t,rfl⟩:=rx;exact SeqAt.EqAt.none_str b t
    | _=>exact absurd (show false=true from fx) yaC
  | bl a=>
    cases ry
    cases x with
    | non=>cases rx;exact SeqAt.EqAt.bool_none a
    | bl b=>cases rx;exact SeqAt.EqAt.bool_bool a b
    | int b=>obtain ⟨t,rfl⟩:=rx;exact SeqAt.EqAt.bool_int a b t
    | str b=>obtain ⟨t,rfl⟩:=rx;exact SeqAt.EqAt.bool_str a b t
    | _=>exact absurd (show false=true from fx) yaC
  | int a=>
    obtain ⟨t',rfl⟩:=ry;cases x with
    | non=>cases rx;exact SeqAt.EqAt.int_none a t'
    | bl b=>cases rx;exact SeqAt.EqAt.int_bool a t' b
    | int b=>obtain ⟨t,rfl⟩:=rx;exact SeqAt.EqAt.int_int a t' b t
    | str b=>obtain ⟨t,rfl⟩:=rx;exact SeqAt.EqAt.int_str a t' b t
    | _=>exact absurd (show false=true from fx) yaC
  | str a=>
    obtain ⟨t',rfl⟩:=ry;cases x with
    | non=>cases rx;exact SeqAt.EqAt.str_none a t'
    | bl b=>cases rx;exact SeqAt.EqAt.str_bool a t' b
    | int b=>obtain ⟨t,rfl⟩:=rx;exact SeqAt.EqAt.str_int a t' b t
    | str b=>obtain ⟨t,rfl⟩:=rx;exact SeqAt.EqAt.str_str a t' b t
    | _=>exact absurd (show false=true from fx) yaC
  | _=>exact absurd (show false=true from fy) yaC
def eqU (x:V)(u:Value):Bool:=match u with
  | .none=>eqV .non x
  | .bool b=>eqV (.bl b) x
  | .int i _=>eqV (.int i) x
  | .str z _=>eqV (.str z) x
  | _=>false
theorem zo5 {x y:V}{u:Value}(r:RelV y u)(f:zgl y=true):eqU x u=eqV y x:=by
  cases y with
  | non=>cases r;rfl
  | bl b=>cases r;rfl
  | int i=>obtain ⟨t,rfl⟩:=r;rfl
  | str z=>obtain ⟨t,rfl⟩:=r;rfl
  | _=>exact absurd (show false=true from f) yaC
theorem zgg {x:V}:∀{xs:List V} {us:List Value},Vals xs us→xs.all zgl=true→us.any (eqU x)=xs.any fun y=>eqV y x
  | _,_,.nil,_=>rfl
  | y::xs,u::us,.cons r t,f=>by
    rw[yb7,ybh]at f;rw[ybi,ybi,zo5 r f.1,zgg t f.2]
theorem zeK {A:Around}{s:Shared}{x:V}{v:Value}(rx:RelV x v)(fx:zgl x=true):∀{xs:List V} {us:List Value},Vals xs us→xs.all zgl=true→∀ u∈us,SeqAt.EqAt A s u v (eqU x u)
  | _,_,.nil,_=>fun u hu=>by cases hu
  | y::xs,u::us,.cons r t,f=>fun u' hu=>by
    rw[yb7,ybh]at f;rcases yal.mp hu with rfl | hu
    · rw[zo5 r f.1];exact zrA r rx f.1 fx
    · exact zeK rx fx t f.2 u' hu
def inV (x:V)(xs:List V):Bool:=xs.any fun y=>eqV y x
def rIn (K:Frag)(neg:Bool):R2:=fun x y H Q=>∃ p xs,y=.ref p∧(SqL K H p xs∨SqT K H p xs)∧zgl x=true∧xs.all zgl=true∧Q (.bl (if neg then !inV x xs else inV x xs)) H
theorem zl5:OpR X (compareOp .In) (rIn X.K false):=by
  intro pins s σ H x y v u Q I rx ry h;obtain ⟨p,xs,rfl,hq,fx,fs,q⟩:=h;cases ry
  rcases hq with hq | hq
  · obtain ⟨its,r,pl,hz⟩:=I.list hq
    refine SeqAt.in_listAt (eqU x) pl.isList (fun w hw=>zeK rx fx r fs w (by simpa using hw)) ⟨.bl _,H,I,rfl,?_⟩;rw[show its.toArray.any (eqU x)=its.any (eqU x) by simp,zgg r fs];exact q
  · obtain ⟨its,r,pl,hz⟩:=I.tuple hq
    refine SeqAt.in_tupleAt (eqU x) pl (fun w hw=>zeK rx fx r fs w (by simpa using hw)) ⟨.bl _,H,I,rfl,?_⟩;rw[show its.toArray.any (eqU x)=its.any (eqU x) by simp,zgg r fs];exact q
theorem zfk:OpR X (compareOp .NotIn) (rIn X.K true):=by
  intro pins s σ H x y v u Q I rx ry h;obtain ⟨p,xs,rfl,hq,fx,fs,q⟩:=h;cases ry
  rcases hq with hq | hq
  · obtain ⟨its,r,pl,hz⟩:=I.list hq
    refine SeqAt.notIn_listAt (eqU x) pl.isList (fun w hw=>zeK rx fx r fs w (by simpa using hw)) ⟨.bl _,H,I,rfl,?_⟩;rw[show its.toArray.any (eqU x)=its.any (eqU x) by simp,zgg r fs];exact q
  · obtain ⟨its,r,pl,hz⟩:=I.tuple hq
    refine SeqAt.notIn_tupleAt (eqU x) pl (fun w hw=>zeK rx fx r fs w (by simpa using hw)) ⟨.bl _,H,I,rfl,?_⟩;rw[show its.toArray.any (eqU x)=its.any (eqU x) by simp,zgg r fs];exact q
theorem zam:zce X (.builtin "len") (fun xs H Q=>∃ p ys,xs=[.ref p]∧(SqL X.K H p ys∨SqT X.K H p ys)∧Q (.int ys.length) H):=by
  intro pins s σ H xs us Q I r h;obtain ⟨p,ys,rfl,hq,q⟩:=h;obtain ⟨u,rfl,rx⟩:=zeY r;cases rx
  have hn:=zj9;rcases hq with hq | hq
  · obtain ⟨its,r',pl,hz⟩:=I.list hq
    have hlen:=r'.length;exact Calls.call_len_list pl.isList (by simp only[yay] <;> omega) ⟨.int ys.length,H,I.tok _,⟨s.toks+1,by rw[yay,hlen]⟩,q⟩
  · obtain ⟨its,r',pl,hz⟩:=I.tuple hq
    have hlen:=r'.length;exact len_tuple pl (by simp only[yay] <;> omega) ⟨.int ys.length,H,I.tok _,⟨s.toks+1,by rw[yay,hlen]⟩,q⟩
theorem zce.or {f:Value}{r r':List V→Hp→VK→Prop}(h:zce X f r)(h':zce X f r'):zce X f (fun xs H Q=>r xs H Q∨r' xs H Q):=by
  intro pins s σ H xs us Q I rs q;rcases q with q | q
  · exact h pins s σ H xs us Q I rs q
  · exact h' pins s σ H xs us Q I rs q
theorem zft:zce X (.type "list") (fun xs H Q=>∃ p ys,xs=[.ref p]∧(SqL X.K H p ys∨SqT X.K H p ys)∧∀ l,H l=none→Q (.ref l) (upd H l (.lst ys))):=by
  intro pins s σ H xs us Q I r h;obtain ⟨p,ys,rfl,hq,q⟩:=h;obtain ⟨u,rfl,rx⟩:=zeY r;cases rx
  have fin:∀(its:List Value),Vals ys its→ys.length≤sizeLine→∀(h':Heap) (c':Nat),(∀ b o',s.heap.get? b=some o'→h'.get? b=some o')→
      h'.get? s.heap.objs.size=some { cls:=.type "list",dict:=none,data:=.seq its.toArray c',slots:=#[] }→EP X pins σ Q (.ref s.heap.objs.size) { s with heap:=h' }:=fun its r' hz h' c' kp e=>
    ⟨.ref s.heap.objs.size,_,I.laid (t':=s.toks) kp (yaa _) (show za7 X.prog X.w _ h' _ (.lst ys) from ⟨hz,its,c',r',e⟩),rfl,q _ (I.hok.fresh (yaa _))⟩
  rcases hq with hq | hq
  · obtain ⟨its,r',pl,hz⟩:=I.list hq
    have hlen:=r'.length;obtain ⟨o,ho,hc,n,hd⟩:=pl.isList;exact call_list_seq p (.inl rfl) ho hc hd (fun h' c' kp e=>fin its r' hz h' c' kp e) (by simp only[yay] <;> omega)
  · obtain ⟨its,r',pl,hz⟩:=I.tuple hq
    have hlen:=r'.length;obtain ⟨o,ho,hc,n,hd⟩:=pl;exact call_list_seq p (.inr rfl) ho hc hd (fun h' c' kp e=>fin its r' hz h' c' kp e) (by simp only[yay] <;> omega)
theorem zcc:zce X (.type "tuple") (fun xs H Q=>∃ p ys,xs=[.ref p]∧((SqL X.K H p ys∧∀ l,H l=none→Q (.ref l) (upd H l (.tup ys)))∨(SqT X.K H p ys∧Q (.ref p) H))):=by
  intro pins s σ H xs us Q I r h;obtain ⟨p,ys,rfl,h⟩:=h;obtain ⟨u,rfl,rx⟩:=zeY r;cases rx
  rcases h with ⟨hq,q⟩ | ⟨hq,q⟩
  · obtain ⟨its,r',pl,hz⟩:=I.list hq
    have hlen:=r'.length;refine call_tuple_list pl.isList (fun h' kp=>?_) (by simp only[yay] <;> omega)
    have I1:Inv X pins σ H { s with heap:=h' }:=I.kept (t':=s.toks) kp;have I2:Inv X pins σ (upd H h'.objs.size (.tup ys)) { s with heap:=h'.push { cls:=.type "tuple",data:=.seq its.toArray } }:=
      I1.laid (t':=s.toks) (fun b o e=>yap _ e) (yaa _) (show za7 X.prog X.w _ _ _ (.tup ys) from ⟨hz,its,r',IsTup.new _ _⟩)
    exact ⟨.ref h'.objs.size,_,I2,rfl,q _ (I1.hok.fresh (yaa _))⟩
  · obtain ⟨its,r',pl,hz⟩:=I.tuple hq
    exact call_tuple_same pl ⟨.ref p,H,I,rfl,q⟩
def tyV (K:Frag)(T:String)(x:V)(H:Hp):Prop:=match x with
  | .str _=>T = "str"
  | .int _=>T = "int"
  | .ref p=>(T = "list"∧∃ xs,SqL K H p xs)∨(T = "tuple"∧∃ o,K.lookup p=some o∧o.cls=.type "tuple"∧o.dict=none)∨
      (T = "dict"∧((∃ kvs,H p=some (.dK kvs))∨∃ kvs,H p=some (.dT kvs)))∨(T = "set"∧∃ S n,H p=some (.set S n))
  | _=>False
theorem zoD {pins:List (Addr×Obj)}{σ:St}{H:Hp}{s:Shared}{T:String}{x:V}{v:Value}(I:Inv X pins σ H s)(r:RelV x v)(ty:tyV X.K T x H) :
    s.TypeIs v T∧∀ a,v=.ref a→∃ ob,s.heap.get? a=some ob∧ob.dict=none:=by
  cases x with
  | str z=>
    obtain ⟨t,rfl⟩:=r;cases (show T = "str" from ty)
    exact ⟨typeIs_str s z t,fun _ e=>nomatch e⟩
  | int i=>
    obtain ⟨t,rfl⟩:=r;cases (show T = "int" from ty)
    exact ⟨typeIs_int s i t,fun _ e=>nomatch e⟩
  | ref p=>
    cases r
    rcases ty with ⟨rfl,xs,hq⟩ | ⟨rfl,o,hk,hc,hd⟩ | ⟨rfl,hk⟩ | ⟨rfl,S,n,hk⟩
    · obtain ⟨its,_,pl,_⟩:=I.list hq
      refine ⟨pl.isList.typeIs,fun a e=>?_⟩;cases e
      obtain ⟨o,n,e,c,hd,_⟩:=pl;exact ⟨o,e,hd⟩
    · refine ⟨⟨o,I.kIn p o hk,hc⟩,fun a e=>?_⟩
      cases e
      exact ⟨o,I.kIn _ o hk,hd⟩
    · have z:∃ o,s.heap.get? p=some o∧o.ExactDict:=by
        rcases hk with ⟨kvs,hk⟩ | ⟨kvs,hk⟩
        · obtain ⟨_,_,_,_,o,_,_,e,ex,_⟩:=I.hok p _ hk
          exact ⟨o,e,ex⟩
        · obtain ⟨_,_,_,_,o,_,_,e,ex,_⟩:=I.hok p _ hk
          exact ⟨o,e,ex⟩
      obtain ⟨o,e,ex⟩:=z;refine ⟨⟨o,e,ex.1⟩,fun a e2=>?_⟩;cases e2
      exact ⟨o,e,ex.2.1⟩
    · obtain ⟨o,_,_,_,e,ex,_⟩:=I.hok p _ hk
      refine ⟨⟨o,e,ex.1⟩,fun a e2=>?_⟩;cases e2
      exact ⟨o,e,ex.2.1⟩
  | _=>exact False.elim ty
def tBM0 (K:Frag)(T:String)(r:V→List V→Hp→VK→Prop)(to:TE):TE:=fun σ H Q=>to σ H fun x H1=>tyV K T x H1∧r x [] H1 Q
def tBM (K:Frag)(T:String)(r:V→List V→Hp→VK→Prop)(to:TE)(t:TA):TE:=fun σ H Q=>to σ H fun x H1=>tyV K T x H1∧t σ H1 fun xs H2=>r x xs H2 Q
variable {o e:Expr}{es:List Expr}{to:TE}{t:TA}{name:Str}{apos cpos:Pos}{T id:String}{r:V→List V→Hp→VK→Prop}
theorem zqW (pa:PlainAttrs T)(slot:Slot T name id)(hty:typeOf (.builtin id)=pure (.type "method_descriptor"))(hm:MtR X id r)(ho:PE X o to)
    (hbase:attributeBase o name X.env (eval o X.env)=eval o X.env:=by rfl) (hline:(apos.endLine == cpos.line)=true:=by rfl):PE X (.Call (.Attribute o name apos) [] [] cpos) (tBM0 X.K T r to):=by
  intro pins s σ H Q I h;refine wpAny_Call_method0_late hbase hline (thn (ho pins s σ H _ I h) fun v s1 zq0=>?_);obtain ⟨x,H1,I1,r1,ty,q1⟩:=zq0;obtain ⟨h1,h2⟩:=zoD I1 r1 ty;exact ⟨T,id,pa,slot,hty,h1,h2,Calls.callWith_builtin rfl (PySem.evalArgs_none (hm pins s1 σ H1 x [] v [] Q I1 r1 .nil q1))⟩
theorem ze4 (pa:PlainAttrs T)(slot:Slot T name id)(hty:typeOf (.builtin id)=pure (.type "method_descriptor"))(hm:MtR X id r)(ho:PE X o to)(ha:PA X (e::es) t)
    (hbase:attributeBase o name X.env (eval o X.env)=eval o X.env:=by rfl)
    (hfew:((backTo cpos (starEach (e::es) X.env)).all (fun x=>!x.1) && (backToKw cpos (keywordEach [] X.env)).all (fun x=>x.1.isSome)
      && decide ((e::es).length+([]:List Keyword).length+(if ([]:List Keyword).isEmpty then 0 else 1) < 30))=true:=by rfl)
    (hline:(apos.endLine == cpos.line)=true:=by rfl) (hs:starEach (e::es) X.env=(false,eval e X.env)::starEach es X.env:=by rfl) (hplain:(backTo cpos (starEach es X.env)).any (·.1)=false:=by rfl) :
    PE X (.Call (.Attribute o name apos) (e::es) [] cpos) (tBM X.K T r to t):=by
  intro pins s σ H Q I h;refine wpAny_Call_method_late hbase hfew hline rfl (thn (ho pins s σ H _ I h) fun v s1 zq0=>?_);obtain ⟨x,H1,I1,r1,ty,q1⟩:=zq0;obtain ⟨h1,h2⟩:=zoD I1 r1 ty;refine ⟨T,id,pa,slot,hty,h1,h2,?_⟩;have hA:=ha cpos pins s1 σ H1 _ I1 q1;rw[hs]at hA ⊢;refine Calls.callWith_builtin (by show (false || (backTo cpos (starEach es X.env)).any (·.1))=false;rw[hplain] <;> rfl) (Calls.evalArgs_plain ?_)
  exact thn hA fun us s2 zq0=>(by obtain ⟨vs,H2,I2,r2,q2⟩:=zq0;exact hm pins s2 σ H2 x vs v us Q I2 r1 r2 q2)
end
end L2
namespace L2
open PySem PySem.Spec PyProof.Rows
def MtM (X:Cx)(id:String)(r:V→List V→Hp→VK→Prop):Prop:=
  ∀(pins:List (Addr×Obj)) (s:Shared) (σ:St) (H:Hp) (x:V) (xs:List V) (v:Value) (us:List Value) (Q:VK),Inv X pins σ H s→RelV x v→Vals xs us→r x xs H Q→
    wpAny (model X.prog X.w) X.A (call (.builtin id) (v::us)) (EP X pins σ Q) X.xe s
theorem Vals.one:∀{x:V} {us:List Value},Vals [x] us→∃ u,us=[u]∧RelV x u
  | _,_,.cons r .nil=>⟨_,rfl,r⟩
section
variable {X:Cx}{pins:List (Addr×Obj)}{σ:St}{H:Hp}{s:Shared}{l b:Addr}{xs ys zs:List V}
theorem Inv.lset {its its':List Value}{n:Nat}{f:Array Value→Array Value}{t':Nat}(I:Inv X pins σ H s)(hH:H l=some (.lst xs))
    (e:s.heap.get? l=some { cls:=.type "list",data:=.seq its.toArray n }) (hf:f its.toArray=its'.toArray) (hv:Vals ys its') (hz:ys.length≤sizeLine) :
    Inv X pins σ (upd H l (.lst ys)) { s with heap:=s.heap.update l (Obj.mapSeq f),toks:=t' }:=by
  have q:=PySem.IsL.update e f;rw[hf]at q;refine I.write (x:=l) (e:=l) (by rw[hH];exact trivial) (.inl rfl) (fun b' u hb hu=>(ybp s.heap (Obj.mapSeq f) (Ne.symm hb)).trans hu) ⟨_,q⟩ ?_;exact ⟨hz,its',_,hv,q⟩
theorem Inv.lnew {its:List Value}{t':Nat}(I:Inv X pins σ H s)(hv:Vals ys its)(hz:ys.length≤sizeLine) :
    Inv X pins σ (upd H s.heap.objs.size (.lst ys)) { s with heap:=s.heap.push { cls:=.type "list",data:=.seq its.toArray },toks:=t' }:=
  I.laid (fun _ _ q=>yap _ q) (yaa _) ⟨hz,its,0,hv,yaO _ rfl⟩
theorem Inv.fresh (I:Inv X pins σ H s):H s.heap.objs.size=none:=I.hok.fresh (yaa _)
theorem Inv.lstM (I:Inv X pins σ H s)(hH:H l=some (.lst xs)):xs.length≤sizeLine∧∃(its:List Value) (n:Nat),Vals xs its∧xs.length=its.length∧s.heap.get? l=some { cls:=.type "list",data:=.seq its.toArray n }:=by
  obtain ⟨z,its,n,r,e⟩:=I.hok l _ hH;exact ⟨z,its,n,r,r.length,e⟩
theorem zn3 {n:Nat}(h:n≤sizeLine):Builtin.List.listTooLong n=false:=by
  unfold Builtin.List.listTooLong;exact yaq (by omega)
end
section
variable {X:Cx}
def zpt:V→List V→Hp→VK→Prop:=fun x vs H Q=>∃ l xs y,x=.ref l∧vs=[y]∧H l=some (.lst xs)∧xs.length < sizeLine∧Q .non (upd H l (.lst (xs++[y])))
theorem za0:MtM X "list.append" zpt:=by
  intro pins s σ H x vs v us Q I rx rv h;obtain ⟨l,xs,y,rfl,rfl,hH,hz,q⟩:=h;cases rx
  obtain ⟨u,rfl,ru⟩:=rv.one;obtain ⟨z,its,n,r,hl,e⟩:=I.lstM hH;refine call_meets F.slot_list_append ⟨_,e,rfl⟩ F.entry_list_append (F.args_list_append_2 _ _) (PySem.list_append l its.toArray n u (by rw[yay];omega)) ⟨e,?_⟩;refine ⟨.non,_,I.lset (its':=its++[u]) hH e (by simp) (r.append (.cons ru .nil)) ?_,rfl,q⟩;rw[yaf,yaJ];omega
def zpr:V→List V→Hp→VK→Prop:=fun x vs H Q=>∃ l b xs zs,x=.ref l∧vs=[.ref b]∧H l=some (.lst xs)∧H b=some (.lst zs)∧xs.length+zs.length≤sizeLine∧Q .non (upd H l (.lst (xs++zs)))
theorem zmp:MtM X "list.extend" zpr:=by
  intro pins s σ H x vs v us Q I rx rv h;obtain ⟨l,b,xs,zs,rfl,rfl,hH,hB,hz,q⟩:=h;cases rx
  obtain ⟨u,rfl,ru⟩:=rv.one;cases ru
  obtain ⟨z,its,n,r,hl,e⟩:=I.lstM hH;obtain ⟨z2,its2,n2,r2,hl2,e2⟩:=I.lstM hB;have hsz:its.toArray.size+its2.toArray.size≤sizeLine:=by rw[yay,yay];omega
  have hlong:¬ (!its.toArray.isEmpty && Builtin.List.listTooLong (its.toArray.size+its2.toArray.size))=true:=by
    rw[zn3 hsz,ybD];exact yaC
  refine call_meets F.slot_list_extend ⟨_,e,rfl⟩ F.entry_list_extend (F.args_list_extend_2 _ _)
    (AutoSeq1.list_extend_list_list_0 l its.toArray n b its2.toArray n2 hlong (by rw[yay];omega) (by omega)) ⟨e,e2,?_⟩
  refine ⟨.non,_,I.lset (its':=its++its2) hH e (by simp) (r.append r2) ?_,rfl,q⟩;rw[yaf];omega
def rCat:R2:=fun x y H Q=>∃ l b xs zs,x=.ref l∧y=.ref b∧H l=some (.lst xs)∧H b=some (.lst zs)∧xs.length+zs.length≤sizeLine∧∀ p,H p=none→Q (.ref p) (upd H p (.lst (xs++zs)))
theorem zb4:OpR X (binaryOp .Add) rCat:=by
  intro pins s σ H x y v u Q I rx ry h;obtain ⟨l,b,xs,zs,rfl,rfl,hH,hB,hz,q⟩:=h;cases rx
  cases ry
  obtain ⟨z,its,n,r,hl,e⟩:=I.lstM hH;obtain ⟨z2,its2,n2,r2,hl2,e2⟩:=I.lstM hB;refine PySem.P.add_list e e2 ?_ (by rw[yay,yay];omega);have ea:its.toArray++its2.toArray=(its++its2).toArray:=by simp
  rw[ea];exact ⟨.ref _,_,I.lnew (t':=s.toks) (r.append r2) (by rw[yaf];omega),rfl,q _ I.fresh⟩
end
end L2
namespace L2
open PySem PySem.Spec PyProof.Rows
section
variable {κ:Type}[DecidableEq κ]
def valV (kvs:List (κ×V))(k:κ):Option V:=(kvs.find? fun kv=>decide (kv.1=k)).map (·.2)
def putK (kvs:List (κ×V))(k:κ)(v:V):List (κ×V):=
  if (kvs.any fun kv=>decide (kv.1=k))=true then kvs.map (fun kv=>if kv.1=k then (kv.1,v) else kv) else kvs++[(k,v)]
theorem zcA {p:κ×V}{r:List (κ×V)}{k:κ}(e:p.1=k):valV (p::r) k=some p.2:=by simp[valV,ybE,e]
theorem zbv {p:κ×V}{r:List (κ×V)}{k:κ}(e:¬ p.1=k):valV (p::r) k=valV r k:=by simp[valV,ybE,e]
theorem zgS (k:κ):∀ kvs:List (κ×V),(kvs.any fun kv=>decide (kv.1=k))=(valV kvs k).isSome
  | []=>rfl
  | p::r=>by
    rw[ybi];by_cases e:p.1=k
    · simp only[zcA e,yam e,Bool.true_or,Option.isSome_some]
    · rw[zbv e,yaq e,Bool.false_or];exact zgS k r
theorem zdc (kvs:List (κ×V))(k:κ)(v:V):(putK kvs k v).length≤kvs.length+1:=by
  unfold putK;split
  · rw[yab];omega
  · rw[yaf,yaK,ybF];omega
theorem zez {kvs:List (κ×V)}{k:κ}(v:V)(h:valV kvs k=none):putK kvs k v=kvs++[(k,v)]:=by
  unfold putK;rw[zgS,h];exact if_neg (by decide)
theorem RelO.isSome_eq {o:Option V}{u:Option Value}(r:RelO o u):o.isSome=u.isSome:=by
  cases o with
  | none=>cases u with
    | none=>rfl
    | some _=>exact (show False from r).elim
  | some _=>cases u with
    | none=>exact (show False from r).elim
    | some _=>rfl
theorem RelO.getD {o:Option V}{u:Option Value}{d:V}{d':Value}(r:RelO o u)(rd:RelV d d'):RelV (o.getD d) (u.getD d'):=by
  cases o with
  | none=>cases u with
    | none=>exact rd
    | some _=>exact (show False from r).elim
  | some _=>cases u with
    | none=>exact (show False from r).elim
    | some _=>exact r
theorem KV.val {kvs:List (κ×V)}{vs:List (κ×Value)}(r:KV kvs vs)(k:κ):RelO (valV kvs k) (valueAt vs k):=by
  unfold KV at r
  induction r with
  | nil=>exact True.intro
  | @cons p q ps qs h t ih=>
    obtain ⟨h1,h2⟩:=h;by_cases e:p.1=k
    · have e':q.1=k:=h1.symm.trans e
      have b:valueAt (q::qs) k=some q.2:=by simp[valueAt,ybE,e']
      rw[zcA e,b];exact h2
    · have e':¬ q.1=k:=fun z=>e (h1.trans z)
      have b:valueAt (q::qs) k=valueAt qs k:=by simp[valueAt,ybE,e']
      rw[zbv e,b];exact ih
theorem KV.any {kvs:List (κ×V)}{vs:List (κ×Value)}(r:KV kvs vs)(k:κ):(kvs.any fun kv=>decide (kv.1=k))=vs.any fun kv=>decide (kv.1=k):=by
  unfold KV at r
  induction r with
  | nil=>rfl
  | cons h t ih=>rw[ybi,ybi,ih,h.1]
theorem KV.repl {kvs:List (κ×V)}{vs:List (κ×Value)}(r:KV kvs vs)(k:κ){y:V}{u:Value}(ry:RelV y u) :
    KV (kvs.map fun kv=>if kv.1=k then (kv.1,y) else kv) (vs.map fun kv=>if kv.1=k then (kv.1,u) else kv):=by
  unfold KV at r ⊢
  induction r with
  | nil=>exact .nil
  | @cons p q ps qs h t ih=>
    rw[yaw,yaw];refine .cons ?_ ih;obtain ⟨h1,h2⟩:=h;by_cases e:p.1=k
    · rw[if_pos e,if_pos (h1.symm.trans e)];exact ⟨h1,ry⟩
    · rw[if_neg e,if_neg (fun z=>e (h1.trans z))];exact ⟨h1,h2⟩
theorem KV.put {kvs:List (κ×V)}{vs:List (κ×Value)}(r:KV kvs vs)(k:κ){y:V}{u:Value}(ry:RelV y u):KV (putK kvs k y) (stored vs k u):=by
  unfold putK stored;rw[r.any k];by_cases e:(vs.any fun kv=>decide (kv.1=k))=true
  · rw[if_pos e,if_pos e];exact r.repl k ry
  · rw[if_neg e,if_neg e];exact Paired.snoc r ⟨rfl,ry⟩
theorem KV.length {kvs:List (κ×V)}{vs:List (κ×Value)}(r:KV kvs vs):kvs.length=vs.length:=Paired.length r
end
theorem zk5 {P:Program}{w:World}{k:Key}{u:Value}(r:RelV (kV k) u):(zaG P w).is k u=true:=by
  cases k with
  | inl i=>obtain ⟨t,e⟩:=(show ∃ t,u=Value.int i t from r);subst e;exact ziW P w i t
  | inr x=>obtain ⟨t,e⟩:=(show ∃ t,u=Value.str x t from r);subst e;exact ziV P w x t
theorem zih {P:Program}{w:World}:∀{ks:List Key} {us:List Value},Vals (ks.map kV) us→ItemsAre (zaG P w) ks us
  | [],_,r=>by rw[ybG]at r;cases r;exact .nil
  | k::ks,_,r=>by
    rw[yaw]at r;cases r with
    | cons h t=>exact .cons (zk5 h) (zih t)
abbrev KT (H:Hp):List (List Key×V)→List (List Key×Addr×Value)→Prop:=Paired fun p q=>p.1=q.1∧H q.2.1=some (.tup (p.1.map kV))∧RelV p.2 q.2.2
theorem KT.val {H:Hp}{kvs:List (List Key×V)}{xs:List (List Key×Addr×Value)}(r:KT H kvs xs)(k:List Key):RelO (valV kvs k) ((atKey xs k).map (·.2)):=by
  induction r with
  | nil=>exact True.intro
  | @cons p q ps qs h t ih=>
    obtain ⟨h1,_,h2⟩:=h;by_cases e:p.1=k
    · have e':q.1=k:=h1.symm.trans e
      have b:atKey (q::qs) k=some q.2:=by simp[atKey,ybE,e']
      rw[zcA e,b];exact h2
    · have e':¬ q.1=k:=fun z=>e (h1.trans z)
      have b:atKey (q::qs) k=atKey qs k:=by simp[atKey,ybE,e']
      rw[zbv e,b];exact ih
theorem KT.repl {H:Hp}{kvs:List (List Key×V)}{xs:List (List Key×Addr×Value)}(r:KT H kvs xs)(k:List Key){y:V}{u:Value}(ry:RelV y u) :
    KT H (kvs.map fun kv=>if kv.1=k then (kv.1,y) else kv) (xs.map (putAt k u)):=by
  induction r with
  | nil=>exact .nil
  | @cons p q ps qs h t ih=>
    rw[yaw,yaw];refine .cons ?_ ih;obtain ⟨h1,h2,h3⟩:=h;unfold putAt;by_cases e:p.1=k
    · rw[if_pos e,if_pos (h1.symm.trans e)];exact ⟨h1,h2,ry⟩
    · rw[if_neg e,if_neg (fun z=>e (h1.trans z))];exact ⟨h1,h2,h3⟩
theorem KT.put {H:Hp}{kvs:List (List Key×V)}{xs:List (List Key×Addr×Value)}(r:KT H kvs xs)(k:List Key){b:Addr}{y:V}{u:Value}(hb:H b=some (.tup (k.map kV)))(ry:RelV y u) :
    KT H (putK kvs k y) (storedH xs k b u):=by
  have e:(kvs.any fun kv=>decide (kv.1=k))=(atKey xs k).isSome:=by
    rw[zgS,(r.val k).isSome_eq,Option.isSome_map]
  unfold putK storedH;rw[e];by_cases q:(atKey xs k).isSome=true
  · rw[if_pos q,if_pos q];exact r.repl k ry
  · rw[if_neg q,if_neg q];exact Paired.snoc r ⟨rfl,hb,ry⟩
theorem KT.keeps {H H':Hp}{kvs:List (List Key×V)}{xs:List (List Key×Addr×Value)}(r:KT H kvs xs)(ht:∀ b ys,H b=some (.tup ys)→H' b=some (.tup ys)):KT H' kvs xs:=
  Paired.mapP r fun _ _ z=>⟨z.1,ht _ _ z.2.1,z.2.2⟩
section
variable {P:Program}{w:World}{H:Hp}{h:Heap}{a:Addr}
theorem zqN {u:HO}(ok:HOk P w H h)(e:Rd H a u):za7 P w H h a u:=e.ok ok
theorem zm1 {kvs:List (Key×V)}(ok:HOk P w H h)(e:Rd H a (.dK kvs)):kvs.length≤sizeLine∧(a == sysModules)=false∧∃ vs,KV kvs vs∧h.DictOf (zaG P w) a vs:=
  show za7 P w H h a (.dK kvs) from zqN ok e
theorem zqd {kvs:List (Key×V)}(ok:HOk P w H h)(e:H a=some (.dK kvs)):kvs.length≤sizeLine∧(a == sysModules)=false∧∃ vs,KV kvs vs∧h.DictOf (zaG P w) a vs:=zm1 ok (.inl e)
theorem zkg {ks:List Key}(ok:HOk P w H h)(e:H a=some (.tup (ks.map kV))):(tupleKind (zaG P w)).is h ks a:=by
  obtain ⟨_,its,r,o,h1,h2,n,h3⟩:=(show za7 P w H h a (.tup (ks.map kV)) from ok a _ e);exact ⟨o,its.toArray,n,h1,h2,h3,by simpa using zih r⟩
theorem zm0 {kvs:List (List Key×V)}(ok:HOk P w H h)(e:Rd H a (.dT kvs)):kvs.length≤sizeLine∧(a == sysModules)=false∧
    ∃ xs,KT H kvs xs∧h.DictOfH (tupleKind (zaG P w)) a xs:=by
  obtain ⟨z,y,xs,r,o,es,ep,h1,h2,h3,h4,h5⟩:=(show za7 P w H h a (.dT kvs) from zqN ok e);refine ⟨z,y,xs,r,o,es,ep,h1,h2,h3,h4,fun x hx=>?_,h5⟩;have all:∀{l:List (List Key×V)} {m:List (List Key×Addr×Value)},KT H l m→∀ x∈m,(tupleKind (zaG P w)).is h x.1 x.2.1:=by
    intro l m q
    induction q with
    | nil=>intro x hx;exact nomatch hx
    | @cons p q ps qs hq t ih=>
      intro x hx;rcases yal.mp hx with e | hx
      · subst e
        exact zkg ok (by rw[← hq.1];exact hq.2.1)
      · exact ih x hx
  exact all r x hx
theorem zr3 {kvs:List (List Key×V)}(ok:HOk P w H h)(e:H a=some (.dT kvs)):kvs.length≤sizeLine∧(a == sysModules)=false∧
    ∃ xs,KT H kvs xs∧h.DictOfH (tupleKind (zaG P w)) a xs:=zm0 ok (.inl e)
end
def DGet (H:Hp)(a:Addr)(y:V)(r:Option V):Prop:=
  (∃ kvs k,Rd H a (.dK kvs)∧y=kV k∧r=valV kvs k)∨∃ kvs k b,Rd H a (.dT kvs)∧y=.ref b∧H b=some (.tup (k.map kV))∧r=valV kvs k
def DPut (H:Hp)(a:Addr)(y v:V)(H':Hp):Prop:=
  (∃ kvs k,H a=some (.dK kvs)∧y=kV k∧kvs.length < sizeLine∧H'=upd H a (.dK (putK kvs k v)))∨
  ∃ kvs k b,H a=some (.dT kvs)∧y=.ref b∧H b=some (.tup (k.map kV))∧kvs.length < sizeLine∧H'=upd H a (.dT (putK kvs k v))
theorem DGet.k {H:Hp}{a:Addr}{kvs:List (Key×V)}{k:Key}(e:H a=some (.dK kvs)):DGet H a (kV k) (valV kvs k):=.inl ⟨kvs,k,.inl e,rfl,rfl⟩
theorem DGet.t {H:Hp}{a b:Addr}{kvs:List (List Key×V)}{k:List Key}(e:H a=some (.dT kvs))(eb:H b=some (.tup (k.map kV))):DGet H a (.ref b) (valV kvs k):=.inr ⟨kvs,k,b,.inl e,rfl,eb,rfl⟩
theorem DPut.k {H:Hp}{a:Addr}{kvs:List (Key×V)}{k:Key}{v:V}(e:H a=some (.dK kvs))(hl:kvs.length < sizeLine):DPut H a (kV k) v (upd H a (.dK (putK kvs k v))):=.inl ⟨kvs,k,e,rfl,hl,rfl⟩
theorem DPut.t {H:Hp}{a b:Addr}{kvs:List (List Key×V)}{k:List Key}{v:V}(e:H a=some (.dT kvs))(eb:H b=some (.tup (k.map kV)))(hl:kvs.length < sizeLine) :
    DPut H a (.ref b) v (upd H a (.dT (putK kvs k v))):=.inr ⟨kvs,k,b,e,rfl,eb,hl,rfl⟩
section
variable {X:Cx}{pins:List (Addr×Obj)}{σ:St}{H:Hp}{s:Shared}{a:Addr}{y v:V}{u r:Value}{o:Option V}{A:Around}{E:Value→Shared→Prop}
theorem Inv.big (I:Inv X pins σ H s):sysModules < s.heap.objs.size:=by
  have h:mainGlobals < s.heap.objs.size:=(I.mod.glob.keeps I.bk).lt;exact Nat.lt_trans (by decide) h
theorem zm6 {Q:Value→Shared→Prop}(hu:A.units+1 < cLine)(I:Inv X pins σ H s)(g:DGet H a y (some v))(ry:RelV y u)(h:∀ w' s',Inv X pins σ H s'→RelV v w'→Q w' s') :
    wpAny (model X.prog X.w) A (getItem (.ref a) u) Q E s:=by
  rcases g with ⟨kvs,k,e,ey,l⟩ | ⟨kvs,k,b,e,ey,eb,l⟩
  · subst ey
    obtain ⟨z,hd,vs,rel,dd⟩:=zm1 I.hok e;obtain ⟨w',hw,rw'⟩:=RelO.some_of (v:=v) (o:=valueAt vs k) (by rw[l];exact rel.val k);exact wpAny_getItem_of (zk5 ry) dd.mapOf hw (h w' _ (I.tok _) rw')
  · subst ey
    cases (show u=Value.ref b from ry)
    obtain ⟨z,hd,xs,rel,dd⟩:=zm0 I.hok e;obtain ⟨w',hw,rw'⟩:=RelO.some_of (v:=v) (o:=(atKey xs k).map (·.2)) (by rw[l];exact rel.val k);obtain ⟨p,hp,hp2⟩:=ybH.mp hw;refine wpAny_getItem_heap (tupleKind_room_in1 hu) (zkg I.hok eb) dd hp ?_;rw[hp2];exact h w' _ (I.tok _) rw'
theorem zjh {h':Heap}{t':Nat}{ob:HO}(I:Inv X pins σ H s)(mu:Mut (H a))(hs:Heap.SameBut a s.heap h')(he:∃ q,h'.get? a=some q)(new:za7 X.prog X.w (upd H a ob) h' a ob) :
    Inv X pins σ (upd H a ob) { s with heap:=h',toks:=t' }:=
  I.write (x:=a) (e:=a) mu (.inl rfl) (fun b q hb z=>(hs.2 b hb).trans z) he new
theorem zo6 {P:Program}{w:World}{H':Hp}{h':Heap}{kvs:List (Key×V)}{vs:List (Key×Value)}(z:kvs.length≤sizeLine)(hd:(a == sysModules)=false)(rel:KV kvs vs)(dd:h'.DictOf (zaG P w) a vs) :
    za7 P w H' h' a (.dK kvs):=⟨z,hd,vs,rel,dd⟩
theorem zm5 {H':Hp}{Q:Unit→Shared→Prop}(hu:A.units+1 < cLine)(I:Inv X pins σ H s)(g:DPut H a y v H')(ry:RelV y u)(rv:RelV v r)(h:∀ s',Inv X pins σ H' s'→Q () s') :
    wpAny (model X.prog X.w) A (setItem (.ref a) u r) Q E s:=by
  rcases g with ⟨kvs,k,e,ey,l,eH⟩ | ⟨kvs,k,b,e,ey,eb,l,eH⟩
  · subst ey eH
    obtain ⟨z,hd,vs,rel,dd⟩:=zqd I.hok e;have hz:vs.length≤sizeLine:=by rw[← rel.length];exact z
    have hl:(putK kvs k v).length≤sizeLine:=by have:=zdc kvs k v;omega
    refine wpAny_setItem_pairs (hsz:=hz) (zk5 ry) dd fun h' dd' hs=>h _ ?_;have he:∃ q,h'.get? a=some q:=let ⟨q,_,_,hq,_⟩:=dd';⟨q,hq⟩;exact zjh I (by rw[e];exact True.intro) hs he (zo6 hl hd (rel.put k rv) dd')
  · subst ey eH
    cases (show u=Value.ref b from ry)
    obtain ⟨z,hd,xs,rel,dd⟩:=zr3 I.hok e;have hz:xs.length≤sizeLine:=by rw[← Paired.length rel];exact z
    have hl:(putK kvs k v).length≤sizeLine:=by have:=zdc kvs k v;omega
    refine wpAny_setItem_heap (hsz:=hz) (tupleKind_room_in1 hu) (zkg I.hok eb) dd fun h' dd' hs=>h _ ?_;obtain ⟨q,es,ep,hq,h2,h3,h4,_,h5⟩:=dd';refine zjh I (by rw[e];exact True.intro) hs ⟨q,hq⟩ ⟨hl,hd,_,(rel.put k eb rv).keeps fun c ys ec=>?_,q,es,ep,hq,h2,h3,h4,h5⟩;rw[zah (zre ec e (fun z=>nomatch z))];exact ec
end
def NoSl (i:Expr):Prop:=∀ ov iv,subscripted i false ov iv=operate [ov,iv] (getItem ov iv)
theorem zpo {prog:Program}{w:World}{A:Around}{E:Value→Shared→Prop}{s:Shared}{env:Env}{value slice:Expr}{pos:Pos}{T id:String}{Q:Value→Shared→Prop}
    (hl:typeLookup (.type T) "__getitem__" = pure (some (.builtin id))) (hs:NoSl slice)
    (h:wpAny (model prog w) A (eval value env) (fun o s₁=>wpAny (model prog w) A (eval slice env) (fun i s₂=>s₂.TypeIs o T∧wpAny (model prog w) A (getItem o i) Q E s₂) E s₁) E s) :
    wpAny (model prog w) A (eval (.Subscript value slice pos) env) Q E s:=by
  refine Subscript_ (wpAny_mono h (fun o s₁ h₁=>wpAny_mono h₁ (fun i s₂ h₂=>?_) fun _ _ x=>x) fun _ _ x=>x);obtain ⟨hT,h₂⟩:=h₂;unfold subscriptTail;refine wpAny_bind ?_;rw[getitemInPython_of_ne hT.not_modules];refine wpAny_bind (wpAny_specialOf hT hl ?_);have fin:wpAny (model prog w) A (subscripted slice false o i) (fun r s₃=>wpAny (model prog w) A (letTemporaryGo value o r >>= fun _=>pure r) Q E s₃) E s₂:=by
    rw[hs o i];exact wpAny_operating (wpAny_mono h₂ (fun r s₃ h₃=>wpAny_bind (wpAny_letTemporaryGo (wpAny_pure h₃))) fun _ _ x=>x)
  first
    | exact wpAny_pure (wpAny_bind fin)
    | exact wpAny_bind (wpAny_pure (wpAny_bind fin))
    | exact wpAny_bind fin
theorem zjg {X:Cx}{pins:List (Addr×Obj)}{σ:St}{H:Hp}{s:Shared}{a:Addr}{y:V}{o:Option V}(I:Inv X pins σ H s)(g:DGet H a y o):s.TypeIs (.ref a) "dict":=by
  rcases g with ⟨kvs,k,e,_,_⟩ | ⟨kvs,k,b,e,_,_,_⟩
  · obtain ⟨_,_,vs,_,dd⟩:=zm1 I.hok e
    exact dd.typeIs
  · obtain ⟨_,_,xs,_,dd⟩:=zm0 I.hok e
    exact dd.typeIs
def zrQ (td ty:TE):TE:=fun σ H Q=>td σ H fun x H1=>ty σ H1 fun y H2=>∃ a v,x=.ref a∧DGet H2 a y (some v)∧Q v H2
def zrS (td ty tv:TE):TS:=fun D σ H=>tv σ H fun v H1=>td σ H1 fun x H2=>ty σ H2 fun y H3=>∃ a H4,x=.ref a∧DPut H3 a y v H4∧D.nx σ H4
section
variable {X:Cx}{o i e value:Expr}{pos pos' tpos:Pos}{td ty tv:TE}
theorem zdv (hu:X.A.units+1 < cLine)(ho:PE X o td)(hi:PE X i ty)(hs:NoSl i):PE X (.Subscript o i pos) (zrQ td ty):=by
  intro pins s σ H Q I h;refine zpo PySem.F.slot_dict_getitem.lookup hs (thn (ho pins s σ H _ I h) fun u s1 zq0=>?_);obtain ⟨x,H1,I1,rx,q1⟩:=zq0;refine thn (hi pins s1 σ H1 _ I1 q1) fun iv s2 zq1=>?_;obtain ⟨y,H2,I2,ry,a,v,ex,g,q2⟩:=zq1;subst ex;obtain rfl:u=Value.ref a:=rx;exact ⟨zjg I2 g,zm6 hu I2 g ry fun w' s3 I3 rw'=>⟨v,H2,I3,rw',q2⟩⟩
theorem ze2 (hu:X.A.units+1 < cLine)(ho:PE X o td)(hi:PE X i ty)(hv:PE X value tv)(hs:swapsWith value (some (.Subscript o i pos')) pos.line X.env=pure false) :
    PS X (.Assign [.Subscript o i pos'] value pos) (zrS td ty tv):=by
  intro pins s σ H D I h;refine wpAny_Assign_Subscript (thn (hv pins s σ H _ I h) fun r s1 zq0=>?_) hs;obtain ⟨v,H1,I1,rv,q1⟩:=zq0;refine thn (ho pins s1 σ H1 _ I1 q1) fun u s2 zq1=>?_;obtain ⟨x,H2,I2,rx,q2⟩:=zq1;refine thn (hi pins s2 σ H2 _ I2 q2) fun iv s3 zq2=>?_;obtain ⟨y,H3,I3,ry,a,H4,ex,g,q3⟩:=zq2;subst ex;obtain rfl:u=Value.ref a:=rx;exact zm5 hu I3 g ry rv fun s4 I4=>⟨σ,H4,I4,q3⟩
end
theorem zko {P:Program}{w:World}{H:Hp}(h:Heap)(hb:sysModules < h.objs.size):za7 P w H (h.push { cls:=.type "dict",data:=.dict #[] }) h.objs.size (.dK []):=
  ⟨yaE _,beq_eq_false_iff_ne.mpr (Ne.symm (yau hb)),[],.nil,Heap.DictOf.new h⟩
theorem zoo {P:Program}{w:World}{H:Hp}(h:Heap)(hb:sysModules < h.objs.size):za7 P w H (h.push { cls:=.type "dict",data:=.dict #[] }) h.objs.size (.dT []):=
  ⟨yaE _,beq_eq_false_iff_ne.mpr (Ne.symm (yau hb)),[],.nil,_,#[],0,yaO _ rfl,⟨rfl,rfl,rfl⟩,rfl,rfl,ybI⟩
def zqA:TE:=fun _ H Q=>∀ p,H p=none→Q (.ref p) (upd H p (.dK []))
def zqz:TE:=fun _ H Q=>∀ p,H p=none→Q (.ref p) (upd H p (.dT []))
section
variable {X:Cx}{pos:Pos}
theorem zhb:PE X (.Dict [] [] pos) zqA:=fun pins s σ H Q I h=>
  wpAny_Dict_empty ⟨.ref s.heap.objs.size,_,I.laid (a:=s.heap.objs.size) (o:=.dK []) (t':=s.toks) (fun _ _ q=>yap _ q) (yaa _) (zko s.heap I.big),rfl,h _ (I.hok.fresh (yaa _))⟩
theorem znG:PE X (.Dict [] [] pos) zqz:=fun pins s σ H Q I h=>
  wpAny_Dict_empty ⟨.ref s.heap.objs.size,_,I.laid (a:=s.heap.objs.size) (o:=.dT []) (t':=s.toks) (fun _ _ q=>yap _ q) (yaa _) (zoo s.heap I.big),rfl,h _ (I.hok.fresh (yaa _))⟩
end
def zlB:List (TE×TE)→St→Hp→(List (V×V)→Hp→Prop)→Prop
  | [],_,H,Q=>Q [] H
  | (tk,tv)::r,σ,H,Q=>tk σ H fun x H1=>tv σ H1 fun y H2=>zlB r σ H2 fun ps H3=>Q ((x,y)::ps) H3
abbrev VV:List (V×V)→List (Value×Value)→Prop:=Paired fun p q=>RelV p.1 q.1∧RelV p.2 q.2
def PPs (X:Cx)(pos:Pos)(keys:List (Option Expr))(values:List Expr)(trs:List (TE×TE)):Prop:=
  ∀(pins:List (Addr×Obj)) (s:Shared) (σ:St) (H:Hp) (Q:List (V×V)→Hp→Prop),Inv X pins σ H s→zlB trs σ H Q→
    wpAny (model X.prog X.w) X.A (evalPairs (pairTrees keys values X.env pos)) (fun vs s'=>∃ ps H',Inv X pins σ H' s'∧VV ps vs∧Q ps H') X.xe s
theorem zpw {X:Cx}{pos:Pos}:PPs X pos [] [] []:=fun pins s σ H Q I h=>pairTrees_nil_walk ⟨[],H,I,.nil,h⟩
theorem zha {X:Cx}{pos:Pos}{k v:Expr}{ks:List (Option Expr)}{vs:List Expr}{tk tv:TE}{trs:List (TE×TE)}(hk:PE X k tk)(hv:PE X v tv)(hr:PPs X pos ks vs trs) :
    PPs X pos (some k::ks) (v::vs) ((tk,tv)::trs):=fun pins s σ H Q I h=>
  pairTrees_cons_walk (thn (hk pins s σ H _ I h) fun u s1 ⟨x,H1,I1,rx,q1⟩=>thn (hv pins s1 σ H1 _ I1 q1) fun w2 s2 ⟨y,H2,I2,ry,q2⟩=>
    thn (hr pins s2 σ H2 _ I2 q2) fun ws s3 ⟨ps,H3,I3,rel,q3⟩=>⟨(x,y)::ps,H3,I3,.cons ⟨rx,ry⟩ rel,q3⟩)
def zfn (kvs more:List (Key×V)):List (Key×V):=more.foldl (fun acc kv=>putK acc kv.1 kv.2) kvs
theorem KV.merge:∀{more:List (Key×V)} {rs:List (Key×Value)} {kvs:List (Key×V)} {vs:List (Key×Value)},KV more rs→KV kvs vs→KV (zfn kvs more) (merged vs rs):=by
  intro more rs kvs vs r;unfold KV at r
  induction r generalizing kvs vs with
  | nil=>intro q;exact q
  | @cons p q ps qs h t ih=>
    intro r0;have e:KV (putK kvs p.1 p.2) (stored vs q.1 q.2):=by
      have:=r0.put p.1 h.2;rw[← h.1];exact this
    exact ih e
theorem zeN:∀(more kvs:List (Key×V)),(zfn kvs more).length≤kvs.length+more.length
  | [],kvs=>by show kvs.length≤kvs.length+0;omega
  | p::r,kvs=>by
    have h1:=zeN r (putK kvs p.1 p.2);have h2:=zdc kvs p.1 p.2;show (zfn (putK kvs p.1 p.2) r).length≤_;rw[yaK];omega
theorem zgH {P:Program}{w:World}:∀{kvs:List (Key×V)} {ws:List (Value×Value)},VV (kvs.map fun kv=>(kV kv.1,kv.2)) ws→∃ rs,Carries (zaG P w) ws rs∧KV kvs rs
  | [],_,r=>by rw[ybG]at r;cases r;exact ⟨[],True.intro,.nil⟩
  | p::kvs,_,r=>by
    rw[yaw]at r;cases r with
    | @cons a b as bs h t=>
      obtain ⟨rs,c,q⟩:=zgH (P:=P) (w:=w) t;obtain ⟨b1,b2⟩:=b;exact ⟨(p.1,b2)::rs,⟨zk5 h.1,rfl,c⟩,.cons ⟨rfl,h.2⟩ q⟩
def zrP (trs:List (TE×TE)):TE:=fun σ H Q=>∀ p,H p=none→zlB trs σ (upd H p (.dK [])) fun ps H2=>H2 p=some (.dK [])∧∃ kvs:List (Key×V),ps=kvs.map (fun kv=>(kV kv.1,kv.2))∧kvs.length≤15∧Q (.ref p) (upd H2 p (.dK (zfn [] kvs)))
theorem zpy {X:Cx}{pos:Pos}{keys:List (Option Expr)}{values:List Expr}{trs:List (TE×TE)}(h:PPs X pos keys values trs)(hall:keys.all (·.isSome)=true)(hl:keys.length=values.length)(h0:keys≠[])
    (h15:keys.length≤15):PE X (.Dict keys values pos) (zrP trs):=by
  intro pins s σ H Q I q;have hn:=I.hok.fresh (yaa s.heap.objs.size);have I1:=I.laid (a:=s.heap.objs.size) (o:=.dK []) (h':=s.heap.push { cls:=.type "dict",data:=.dict #[] }) (t':=s.toks) (fun _ _ q=>yap _ q) (yaa _) (zko s.heap I.big);refine wpAny_Dict_walk (knd:=zaG X.prog X.w) hall hl h0 h15 (thn (h pins _ σ _ _ I1 (q _ hn)) fun ws s2 zq0=>?_);obtain ⟨ps,H2,I2,rel,e,kvs,ep,lk,q2⟩:=zq0;subst ep;obtain ⟨rs,c,rk⟩:=zgH (P:=X.prog) (w:=X.w) rel;obtain ⟨z,hd,vs0,r0,dd⟩:=zqd I2.hok e;cases r0
  refine ⟨rs,c,dd,fun h' dd' hs=>⟨.ref s.heap.objs.size,_,?_,rfl,q2⟩⟩;have hz:(zfn [] kvs).length≤sizeLine:=by
    have h1:=zeN kvs [];rw[ybF]at h1;rw[sizeLine_eq];omega
  have he:∃ q,h'.get? s.heap.objs.size=some q:=let ⟨q,_,_,hq,_⟩:=dd';⟨q,hq⟩;exact zjh I2 (by rw[e];exact True.intro) hs he (zo6 hz hd (rk.merge .nil) dd')
structure M2 (X:Cx)(o:Expr)(m:Str)(apos:Pos)(e f:Expr)(cpos:Pos):Prop where
  base:attributeBase o m X.env (eval o X.env)=eval o X.env
  few:((backTo cpos (starEach [e,f] X.env)).all (fun x=>!x.1) && (backToKw cpos (keywordEach [] X.env)).all (fun x=>x.1.isSome)
    && decide (([e,f]:List Expr).length+([]:List Keyword).length+(if ([]:List Keyword).isEmpty then 0 else 1) < 30))=true
  line:(apos.endLine == cpos.line)=true
  trees:backTo cpos (starEach [e,f] X.env)=[(false,eval e X.env),(false,eval f X.env)]
def IsD (H:Hp)(a:Addr):Prop:=(∃ kvs,Rd H a (.dK kvs))∨∃ kvs,Rd H a (.dT kvs)
theorem zrs {X:Cx}{pins:List (Addr×Obj)}{σ:St}{H:Hp}{s:Shared}{a:Addr}(I:Inv X pins σ H s)(d:IsD H a) :
    s.TypeIs (.ref a) "dict"∧(∀ b,Value.ref a=.ref b→∃ ob,s.heap.get? b=some ob∧ob.dict=none)∧(a == sysModules)=false:=by
  rcases d with ⟨kvs,e⟩ | ⟨kvs,e⟩
  · obtain ⟨_,hd,vs,_,dd⟩:=zm1 I.hok e
    refine ⟨dd.typeIs,fun b q=>?_,hd⟩;cases q
    obtain ⟨ob,_,_,h1,h2,_⟩:=dd;exact ⟨ob,h1,h2.2.1⟩
  · obtain ⟨_,hd,xs,_,dd⟩:=zm0 I.hok e
    refine ⟨dd.typeIs,fun b q=>?_,hd⟩;cases q
    obtain ⟨ob,_,_,h1,h2,_⟩:=dd;exact ⟨ob,h1,h2.2.1⟩
section
variable {X:Cx}{pins:List (Addr×Obj)}{σ:St}{H:Hp}{s:Shared}{a:Addr}{y d:V}{u r:Value}{o:Option V}{A:Around}{E:Value→Shared→Prop}
theorem zrB {Q:Value→Shared→Prop}(hu:A.units+1 < cLine)(I:Inv X pins σ H s)(g:DGet H a y o)(ry:RelV y u)(rd:RelV d r)(h:∀ w' s',Inv X pins σ H s'→RelV (o.getD d) w'→Q w' s') :
    wpAny (model X.prog X.w) A (call (.builtin "dict.get") [.ref a,u,r]) Q E s:=by
  rcases g with ⟨kvs,k,e,ey,l⟩ | ⟨kvs,k,b,e,ey,eb,l⟩
  · subst ey
    obtain ⟨z,hd,vs,rel,dd⟩:=zm1 I.hok e;refine call_meetsIn PySem.F.slot_dict_get dd.typeIs PySem.F.entry_dict_get (PySem.F.args_dict_get_3 _ _ _) (meets_dict_get_default (zaG X.prog X.w) a (zk5 ry) hd r) ⟨_,dd.mapOf,h _ _ (I.tok _) ?_⟩;rw[l];exact (rel.val k).getD rd
  · subst ey
    cases (show u=Value.ref b from ry)
    obtain ⟨z,hd,xs,rel,dd⟩:=zm0 I.hok e;refine call_meetsIn PySem.F.slot_dict_get dd.typeIs PySem.F.entry_dict_get (PySem.F.args_dict_get_3 _ _ _) (meetsH_dict_get_default (tupleKind (zaG X.prog X.w)) a b hd r) ⟨tupleKind_room_in1 hu,k,xs,zkg I.hok eb,dd,h _ _ (I.tok _) ?_⟩;rw[l];exact (rel.val k).getD rd
end
def zqB (td ty tx:TE):TE:=fun σ H Q=>td σ H fun x H1=>∃ a,x=.ref a∧IsD H1 a∧ty σ H1 fun y H2=>tx σ H2 fun z H3=>∃ o,DGet H3 a y o∧Q (o.getD z) H3
section
variable {X:Cx}{o e f:Expr}{apos cpos:Pos}{td ty tx:TE}
theorem znH (hu:X.A.units+1 < cLine)(ho:PE X o td)(he:PE X e ty)(hf:PE X f tx)(m:M2 X o "get" apos e f cpos):PE X (.Call (.Attribute o "get" apos) [e,f] [] cpos) (zqB td ty tx):=by
  intro pins s σ H Q I h;refine wpAny_Call_method m.base m.few m.line PySem.F.plainAttrs_dict PySem.F.slot_dict_get PySem.F.type_dict_get (thn (ho pins s σ H _ I h) fun u s1 zq0=>?_);obtain ⟨x,H1,I1,rx,a,ex,d,q1⟩:=zq0;subst ex;obtain rfl:u=Value.ref a:=rx;obtain ⟨t1,t2,_⟩:=zrs I1 d;refine ⟨t1,t2,?_⟩;rw[m.trees];refine Calls.callWith_builtin rfl (Calls.evalArgs_plain (Calls.spliced_cons (thn (he pins s1 σ H1 _ I1 q1) fun iv s2 ⟨y,H2,I2,ry,q2⟩=>
    Calls.spliced_cons (thn (hf pins s2 σ H2 _ I2 q2) fun fv s3 ⟨z,H3,I3,rz,ov,g,q3⟩=>Calls.spliced_nil ?_))))
  exact zrB hu I3 g ry rz fun w' s4 I4 rw'=>⟨_,H3,I4,rw',q3⟩
end
end L2
namespace Att
open PySem PySem.W PySem.Calls PyProof.Rows
theorem zf2 {P:Params}{h:Heap}:∀(ns:List Int) (vs:List Value),WellAll P h vs (ns.map WData.int)→IntsAre vs ns:=by
  intro ns
  induction ns with
  | nil=>
    intro vs w;rw[ybG]at w;cases w
    exact .nil
  | cons n ns ih=>
    intro vs w;rw[yaw]at w;cases w with
    | cons a b=>
      cases a
      exact .cons _ _ (ih _ b)
theorem zlU {l:OpenLaw}{n:Nat}(hn:l.most=some n){P:Params}{h:Heap}{args:List WData}{vals:List Value}
    (hpre:l.row.toRowW.claim.pre args=true) (hwl:WellAll P h vals args) :
    ∃ a vs ns,vals=[Value.ref a]∧args=[WData.list (ns.map WData.int)]∧h.get? a=some { cls:=.type "list",data:=.seq vs.toArray }∧IntsAre vs ns∧ns.length≤n:=by
  have hsh:WShape.hasAll [] args [.list .int]=true:=(pre_splitW hpre).1;have hc:l.pre.holds [] { args:=args }=true:=(pre_splitW hpre).2;obtain ⟨d,r,rfl,h1,h2⟩:=hasAllW_cons hsh;obtain rfl:=hasAllW_nil h2;obtain ⟨xs,rfl,h3⟩:=hasW_list h1;obtain ⟨ns,rfl⟩:=items_int h3;have hlen:ns.length≤n:=by
    unfold OpenLaw.pre at hc;have h4:(WTm.not (.lt (.lit (.int (n:Int))) (.len (.arg 0)))).holds [] { args:=[.list (ns.map .int)] }=true:=by
      have h4:=(holds_andW hc).1;rw[hn]at h4;exact h4
    have h5:=condW_of h4 (w_not (w_lt w_lit (w_len_list (w_arg rfl))));rw[yab]at h5;refine ybq fun q=>?_;have q':(n:Int) < ((ns.length:Nat):Int):=by omega
    first
      | (rw[yam q']at h5;exact absurd h5 (by decide))
      | (simp at h5;omega)
  cases hwl with
  | cons w1 w2=>
    cases w2
    cases w1 with
    | list ho hall=>exact ⟨_,_,ns,rfl,rfl,ho,zf2 ns _ hall,hlen⟩
theorem zl0 (l:OpenLaw)(args:List WData):l.row.toRowW.claim.post args (.bool true) args=true:=
  postW_of (r:=l.row.toRowW) (X:=(true == true))
    (show WShape.has [] (.bool true) .bool=true by first | rfl | decide | simp[WShape.has,WShape.arms,WShape.armsAll])
    (show (WTm.eq .res (.lit (.bool true))).value [] { args:=args,res:=some (.bool true),after:=args }=some (.bool (true == true)) from w_eq_bool (w_res rfl) w_lit) rfl
theorem attach_call {l:OpenLaw}{n:Nat}{q:Program}{loose:List Str}{XP:(Str→Option Value)→Heap→Prop}{YP:World→Heap→Prop}{d:DefRec}
    (hn:l.most=some n) (hdf:d.params.defaults=[])
    (call:∀(w:World) (s₀ s₁:Shared) (mg mb:Str→Option Value) (fa:Addr) (o:Obj) (pm cd doc:Value) (a:Addr) (vs:List Value) (ns:List Int),
      Ground q loose [] XP w s₀ mg mb s₁.heap→YP w s₁.heap→
      s₁.heap.get? fa=some o→o.data=.func (docDef d.name d.params d.body d.scope pm cd doc)→s₁.heap.CodeRec cd d.name→mg d.name=some (.ref fa)→
      s₁.heap.get? a=some { cls:=.type "list",data:=.seq vs.toArray }→IntsAre vs ns→ns.length≤n→s₁.gens=#[]→
      codeAny (model l.prog w) callerA (.call (.ref fa) ⟨[.ref a],[]⟩) (fun r s'=>r=.ok (.ret (.bool true))∧OldK s₁.heap s'.heap∧s'.os=s₁.os∧AllBare s'.gens) s₁) :
    WalkO q loose XP YP l.row.toRowW d [] (fun f vs=>PySem.call f vs):=by
  intro w s₀ s₁ mg mb G Y fa o pm cd doc dV kV ho hd hcd hD hmg hg args vals as hpre hlay hrd hwl hlo;obtain rfl:dV=.none:=Dflts.none hD hdf;obtain rfl:kV=.none:=Dflts.noKw hD;obtain ⟨a,vs,ns,rfl,rfl,hobj,hints,hlen⟩:=zlU hn hpre hwl;refine enter_call (codeAny_mono (call w s₀ s₁ mg mb fa o pm cd doc a vs ns G Y ho (fd_plain hd) hcd hmg hobj hints hlen hg) fun r s' hq=>?_);obtain ⟨rfl,h2,h3,h4⟩:=hq;exact ⟨.inl ⟨.bool true,.bool true,[],rfl,fun _=>rfl,.bool true,zl0 l _,fun _=>⟨List.Pairwise.nil,fun _ hm=>(nomatch hm)⟩⟩,h2,h3,h4⟩
end Att
namespace L2
open PySem PySem.Spec PyProof.Rows
theorem zhL:∀{vs:List Value} {ns:List Int},IntsAre vs ns→Vals (ns.map V.int) vs
  | _,_,.nil=>.nil
  | _,_,.cons n t h=>.cons ⟨t,rfl⟩ (zhL h)
end L2
namespace L2
open PySem PySem.Spec PyProof.Rows
def zcR (s:Stmt):Arguments:=match s with
  | .FunctionDef _ a _ _ _ _ _ _ _ _=>a
  | _=>{ posonlyargs:=[],args:=[],vararg:=none,kwonlyargs:=[],kw_defaults:=[],kwarg:=none,defaults:=[] }
def zbL (s:Stmt):List Stmt:=match s with
  | .FunctionDef _ _ b _ _ _ _ _ _ _=>b
  | _=>[]
def zaj (s:Stmt):Scope:=match s with
  | .FunctionDef _ _ _ _ _ _ sc _ _ _=>sc
  | _=>{ kind:=.function,names:=[],isGenerator:=false,isCoroutine:=false }
abbrev CX0:CXT:=fun _ _ _ _ _ _=>False
abbrev E0:XK:=fun _ _ _=>False
theorem zqY {X:Cx}:ziE CX0 X E0:=fun _ _ _ _ _ _ _ h=>h.elim
structure Fun (K:Frag)(x qual:Str)(st:Stmt)(f:Addr)(fd:FuncData):Prop where
  ex:∃(oc:Value) (od:Option Addr) (kV doc pm:Value) (an:Option Addr) (cdv ct:Value) (osl:Array (Option Value)),
    fd=fnOf x qual (zcR st) (zbL st) (zaj st) .none kV doc pm an cdv ct∧K.lookup f=some ⟨oc,od,.func fd,osl⟩∧codeIn K cdv qual=true
  kp:keepIn K (.ref f)=true
section
variable {P:Program}{w:World}{K:Frag}{mg:Str→Option Value}{base:Heap}
theorem Fun.ok {x qual:Str}{st:Stmt}{f:Addr}{fd:FuncData}{N ps:List Str}{k:Nat}{sp:Sp}(F:Fun K x qual st f fd)(S:zaq N ps (zaj st))(len:∀ vs H Q E,sp vs H Q E→vs.length=ps.length)
    (hbody:∀(cdv:Value) (A:Around) (outer:List Env) (s:Shared) (H:Hp) (vs:List V) (Q:VK) (E:XK),Room k (A.deeper (envOfC qual (zaj st) s.heap.objs.size f cdv))→sp vs H Q E→
      ∃ t,PSs (cxOf CX0 P w K mg base N qual (zaj st) f cdv A outer s H E).nox (zbL st) t∧t { nx:=fun _ H'=>Q .non H',rt:=Q } (zcV N vs) H):FnOk P w K mg base CX0 (k+1) f fd ps sp:=by
  obtain ⟨oc,od,kV,doc,pm,an,cdv,ct,osl,rfl,lk,hcd⟩:=F.ex;refine zp7 lk hcd S len fun A outer s H vs Q E hr hsp=>?_;obtain ⟨t,h,q⟩:=hbody cdv A outer s H vs Q E hr hsp;exact ⟨t,h.nox,q⟩
theorem Fun.binds {x qual:Str}{st:Stmt}{f:Addr}{fd:FuncData}{ps:List Str}(F:Fun K x qual st f fd)
    (h:∀(kV doc pm:Value) (an:Option Addr) (cdv ct:Value) (us:List Value),us.length=ps.length→bindArgs (fnOf x qual (zcR st) (zbL st) (zaj st) .none kV doc pm an cdv ct) ⟨us,[]⟩=pure (ps.zip us)):zgn K fd ps []:=by
  obtain ⟨oc,od,kV,doc,pm,an,cdv,ct,osl,rfl,lk,hcd⟩:=F.ex;exact .all (h kV doc pm an cdv ct)
theorem zmS {x qual:Str}{st:Stmt}{f:Addr}{oc:Value}{od an:Option Addr}{osl:Array (Option Value)}{kV doc pm cdv ct:Value}(l:K.lookup f=some ⟨oc,od,.func (fnOf x qual (zcR st) (zbL st) (zaj st) .none kV doc pm an cdv ct),osl⟩)
    (c:codeIn K cdv qual=true) (k:keepIn K (.ref f)=true):Fun K x qual st f (fnOf x qual (zcR st) (zbL st) (zaj st) .none kV doc pm an cdv ct):=⟨⟨oc,od,kV,doc,pm,an,cdv,ct,osl,rfl,l,c⟩,k⟩
end
theorem zee {A:Around}{k:Nat}(hr:Room k A):A.units+1 < cLine:=ybe (yb8 (by decide:1≤64) _) hr.units
theorem zap {n:Nat}(h:n≤1000):n < sizeLine:=ybe h (by decide)
section
variable {X:Cx}
theorem pv (i:Nat){x:Str}{pos:Pos}(hN:X.N[i]?=some x:=by rfl)(hv:Vis X.env.scope x:=by first | exact Or.inl rfl | exact Or.inr (Or.inl rfl) | exact Or.inr (Or.inr rfl))(hd:(x == ("__debug__" : Str))=false:=by decide)
    (hcd:(x == ("__classdict__" : Str))=false:=by decide):PE X (.Name x pos) (tVar i):=zqU hN hv hd hcd
end
theorem iteF {A B:Prop}(h:B):if false=true then A else B:=by
  rw[if_neg yaC];exact h
theorem iteT {A B:Prop}(h:A):if true=true then A else B:=by
  rw[if_pos rfl];exact h
theorem ite2 {c A B:Prop}[Decidable c](h1:c→A)(h2:¬ c→B):if c then A else B:=by
  by_cases h:c
  · rw[if_pos h]
    exact h1 h
  · rw[if_neg h]
    exact h2 h
theorem zi6 {c A B:Prop}[Decidable c](hc:c)(h:B):if (!decide c)=true then A else B:=by
  rw[yam hc];exact iteF h
def Same (H H':Hp):Prop:=∀ b o,H b=some o→H' b=some o
theorem Same.trans {H H1 H2:Hp}(a:Same H H1)(b:Same H1 H2):Same H H2:=fun c o h=>b c o (a c o h)
theorem Same.free {H H':Hp}(e:Same H H'){l:Addr}(h:H' l=Option.none):H l=Option.none:=by
  cases q:H l with
  | none=>rfl
  | some o=>
    rw[e l o q]at h;cases h
theorem Same.seq {K:Frag}{H H':Hp}{a:Addr}{xs:List V}(e:Same H H')(h:SqL K H a xs):SqL K H' a xs:=by
  rcases h with (h | ⟨o,h⟩) | h
  · exact .inl (.inl (e _ _ h))
  · exact .inl (.inr ⟨o,e _ _ h⟩)
  · exact .inr h
end L2
namespace Tim
open PySem PyProof.Rows
set_option autoImplicit false
section
variable {prog:Program}{w:World}{A:Around}{E:Value→Shared→Prop}{s:Shared}{κ:KeyKind}{kd:SortKind}{a₀:Array Keyed}
def LtG (prog:Program)(w:World)(A:Around)(s:Shared)(κ:KeyKind)(kd:SortKind):Prop:=
 ∀(E:Value→Shared→Prop) (x y:Value) (a b:κ.α) (Q:Bool→Shared→Prop),κ.keyOf x=some a→κ.keyOf y=some b→Q (κ.blt a b) s→wpAny (model prog w) A (keyLt' kd x y) Q E s
def ky (κ:KeyKind)(p:Keyed):κ.α:=(κ.keyOf p.1).getD κ.dflt
def Keyd (κ:KeyKind)(p:Keyed):Prop:=∃ a,κ.keyOf p.1=some a
theorem Keyd.eq {p:Keyed}(h:Keyd κ p):κ.keyOf p.1=some (ky κ p):=by
 obtain ⟨a,e⟩:=h;unfold ky;rw[e];rfl
theorem lt_G {x y:Keyed}{st:SortSt}{Q:Option Bool→SortSt→Prop}(hO:LtG prog w A s κ kd)(hk:kindOf st=kd)(hx:Keyd κ x)(hy:Keyd κ y)(h:Q (some (κ.blt (ky κ x) (ky κ y))) st):wpS (model prog w) A E s (lt' x y) Q st:=by
 rw[lt'_eq];refine wpS_bind (wpS_get ?_);rw[hk];refine wpS_bind (wpS_lift (wpAny_attempt (hO _ x.1 y.1 _ _ _ hx.eq hy.eq ⟨rfl,?_⟩)));exact wpS_pure h
theorem za9 {xs:Array Keyed}{i:Nat}{st:SortSt}{Q:Keyed→SortSt→Prop}(hi:i < xs.size)(h:Q xs[i] st):wpS (model prog w) A E s (elem' xs i) Q st:=by
 rw[elem'_eq,ya1 hi];exact wpS_pure h
structure TB (κ:KeyKind)(kd:SortKind)(n:Nat)(st:SortSt):Prop where
 kind:kindOf st=kd
 keys:∀ p∈(arrOf st).toList,Keyd κ p
 failed:failedOf st=none
 size:(arrOf st).size=n
def kAt (κ:KeyKind)(xs:Array Keyed)(i:Nat):κ.α:=match xs[i]? with
 | some p=>ky κ p
 | none=>κ.dflt
theorem zba {xs:Array Keyed}{i:Nat}(h:i < xs.size):kAt κ xs i=ky κ xs[i]:=by
 unfold kAt;rw[ya1 h]
theorem zbt {xs ys:Array Keyed}{i j:Nat}(h:xs[i]?=ys[j]?):kAt κ xs i=kAt κ ys j:=by
 unfold kAt;rw[h]
theorem zib {i j n:Nat}{st:SortSt}{Q:Option Bool→SortSt→Prop}(hO:LtG prog w A s κ kd)(hB:TB κ kd n st)(hi:i < n)(hj:j < n)(h:Q (some (κ.blt (kAt κ (arrOf st) i) (kAt κ (arrOf st) j))) st):wpS (model prog w) A E s (ltAt' i j) Q st:=by
 have hi':i < (arrOf st).size:=by rw[hB.size];exact hi
 have hj':j < (arrOf st).size:=by rw[hB.size];exact hj
 rw[ltAt'_eq];refine wpS_bind (wpS_get ?_);refine wpS_bind (za9 hi' (wpS_bind (za9 hj' ?_)));refine lt_G hO hB.kind (hB.keys _ (by simp)) (hB.keys _ (by simp)) ?_;rw[zba hi',zba hj']at h;exact h
def Up (κ:KeyKind)(xs:Array Keyed)(lo hi:Nat):Prop:=∀ i j,lo≤i→i≤j→j < hi→κ.kle (kAt κ xs i) (kAt κ xs j)
def Dn (κ:KeyKind)(xs:Array Keyed)(lo hi:Nat):Prop:=∀ i j,lo≤i→i≤j→j < hi→κ.kle (kAt κ xs j) (kAt κ xs i)
structure Off (xs ys:Array Keyed)(lo hi:Nat):Prop where
 perm:ys.Perm xs
 out:∀ k,k < lo∨hi≤k→ys[k]?=xs[k]?
theorem Off.refl (xs:Array Keyed)(lo hi:Nat):Off xs xs lo hi:=⟨Array.Perm.refl _,fun _ _=>rfl⟩
theorem Off.trans {xs ys zs:Array Keyed}{lo hi:Nat}(a:Off xs ys lo hi)(b:Off ys zs lo hi):Off xs zs lo hi:=⟨b.perm.trans a.perm,fun k h=>(b.out k h).trans (a.out k h)⟩
theorem Off.wide {xs ys:Array Keyed}{lo hi lo' hi':Nat}(a:Off xs ys lo hi)(h1:lo'≤lo)(h2:hi≤hi'):Off xs ys lo' hi':=⟨a.perm,fun k h=>a.out k (by omega)⟩
theorem Off.size {xs ys:Array Keyed}{lo hi:Nat}(a:Off xs ys lo hi):ys.size=xs.size:=a.perm.size_eq
theorem TB.off {n lo hi:Nat}{st:SortSt}{ys:Array Keyed}(hB:TB κ kd n st)(h:Off (arrOf st) ys lo hi):TB κ kd n (setArr st ys):=
 ⟨hB.kind,fun p hp=>hB.keys p ((ycv.mp h.perm).mem_iff.mp hp),hB.failed,h.size.trans hB.size⟩
theorem zc2 {xs:Array Keyed}{i j:Nat}(hj:j≤xs.size):Off xs (mirror xs i j ((j - i) / 2)) i j:=⟨mirror_perm _ _ _ _,fun k hk=>by rw[getElem?_mirror_all hj,if_neg (by omega)]⟩
theorem ze8 {xs:Array Keyed}{i j k:Nat}(hj:j≤xs.size)(hk:i≤k∧k < j):kAt κ (mirror xs i j ((j - i) / 2)) k=kAt κ xs (i+j - 1 - k):=by
 apply zbt;rw[getElem?_mirror_all hj,if_pos hk]
theorem zi5 {xs ys:Array Keyed}{lo hi k:Nat}(h:Off xs ys lo hi)(hk:k < lo∨hi≤k):kAt κ ys k=kAt κ xs k:=zbt (h.out k hk)
theorem zhu {xs:Array Keyed}{i j:Nat}(hj:j≤xs.size)(he:∀ k,i≤k→k < j→kAt κ xs k=kAt κ xs (j - 1))(k:Nat):kAt κ (mirror xs i j ((j - i) / 2)) k=kAt κ xs k:=by
 by_cases hk:i≤k∧k < j
 ·rw[ze8 hj hk,he _ (by omega) (by omega),he k hk.1 hk.2]
 ·exact zi5 (zc2 hj) (by omega)
theorem zgQ {i j:Nat}{st:SortSt}{Q:Unit→SortSt→Prop}(h:Q () (setArr st (mirror (arrOf st) i j ((j - i) / 2)))):wpS (model prog w) A E s (reverseSlice' i j) Q st:=by
 rw[reverseSlice'_eq];exact wpS_modify h
theorem zc7 {σ:Type}{n:String}{Q:Unit→σ→Prop}{st:σ}(h:Q () st):wpS (model prog w) A E s (liftM (rule n):StateT σ Sem Unit) Q st:=wpS_lift (wpAny_rule ⟨rfl,h⟩)
end
end Tim
namespace Tim
open PySem PyProof.Rows
set_option autoImplicit false
section
variable {prog:Program}{w:World}{A:Around}{E:Value→Shared→Prop}{s:Shared}{κ:KeyKind}{kd:SortKind}
def zjt (κ:KeyKind)(st:SortSt)(lo least nrem:Nat)(r:Option Nat)(st':SortSt):Prop:=
 ∃ n ys,r=some n∧least≤n∧n≤nrem∧st'=setArr st ys∧Off (arrOf st) ys lo (lo+n)∧Up κ ys lo (lo+n)
theorem zqt {xs:Array Keyed}{lo:Nat}:Up κ xs lo (lo+1):=fun i j h1 h2 h3=>by
 have:i=j:=by omega
 subst this;exact KeyOrd.kle_refl _
theorem Up.more {xs:Array Keyed}{lo hi:Nat}(h:Up κ xs lo hi)(hlo:lo < hi)(hn:κ.kle (kAt κ xs (hi - 1)) (kAt κ xs hi)):Up κ xs lo (hi+1):=fun i j h1 h2 h3=>by
 by_cases hj:j < hi
 ·exact h i j h1 h2 hj
 ·have e:j=hi:=by omega
  subst e;by_cases hi':i=j
  ·subst hi';exact KeyOrd.kle_refl _
  ·exact KeyOrd.kle_trans (h i (j - 1) h1 (by omega) (by omega)) hn
theorem Dn.more {xs:Array Keyed}{lo hi:Nat}(h:Dn κ xs lo hi)(hlo:lo < hi)(hn:κ.kle (kAt κ xs hi) (kAt κ xs (hi - 1))):Dn κ xs lo (hi+1):=fun i j h1 h2 h3=>by
 by_cases hj:j < hi
 ·exact h i j h1 h2 hj
 ·have e:j=hi:=by omega
  subst e;by_cases hi':i=j
  ·subst hi';exact KeyOrd.kle_refl _
  ·exact KeyOrd.kle_trans hn (h i (j - 1) h1 (by omega) (by omega))
theorem zoA {st:SortSt}{N lo n nrem:Nat}{Q:Option (Option Nat)×Nat→SortSt→Prop}(hO:LtG prog w A s κ kd)(hB:TB κ kd N st)(hlo:lo+nrem≤N)(h1:1≤n)(hn:n≤nrem)(hU:Up κ (arrOf st) lo (lo+n))
  (h:∀ m,n≤m→m≤nrem→Up κ (arrOf st) lo (lo+m)→(m < nrem→κ.klt (kAt κ (arrOf st) (lo+m)) (kAt κ (arrOf st) (lo+m - 1)))→Q (none,m) st) :
  wpS (model prog w) A E s (forIn [n:nrem] ((none,n):Option (Option Nat)×Nat) fun _ __s=>do
   let __x ← ltAt' (lo+__s.snd) (lo+__s.snd - 1)
   match __x with
   | some smaller=>if smaller=true then pure (ForInStep.done (none,__s.snd)) else pure (ForInStep.yield (none,__s.snd+1))
   | _=>pure (ForInStep.done (some none,__s.snd))) Q st:=by
 refine wpS_forRange (I:=fun i c st'=>st'=st∧c=(none,i)∧n≤i∧i≤nrem∧Up κ (arrOf st) lo (lo+i)) ?_ ?_ ⟨rfl,rfl,yaa _,hn,hU⟩
 ·rintro i c st' hi1 hi2 ⟨rfl,rfl,h3,h4,hU'⟩;refine wpS_bind (zib hO hB (by omega) (by omega) ?_);dsimp only;cases e:κ.blt (kAt κ (arrOf st') (lo+i)) (kAt κ (arrOf st') (lo+i - 1)) with
  | true=>exact wpS_pure (h i h3 h4 hU' fun _=>e)
  | false=>exact wpS_pure ⟨rfl,rfl,by omega,by omega,hU'.more (by omega) e⟩
 ·rintro c st' ⟨rfl,rfl,h3,h4,hU'⟩;exact h _ h3 h4 hU' fun z=>absurd z (by omega)
theorem zln {st:SortSt}{N lo n nrem:Nat}{Q:Option Nat→SortSt→Prop}{k:Option (Option Nat)×Nat→StateT SortSt Sem (Option Nat)}(hk:∀ m,k (none,m)=pure (some m))(hO:LtG prog w A s κ kd)(hB:TB κ kd N st)(hlo:lo+nrem≤N)(h1:1≤n)(hn:n≤nrem)(hD:Dn κ (arrOf st) lo (lo+n))
  (h:∀ r st',zjt κ st lo n nrem r st'→Q r st') :
  wpS (model prog w) A E s (do
   reverseSlice' lo (lo+n)
   let c ← forIn [n:nrem] ((none,n):Option (Option Nat)×Nat) fun _ __s=>do
    let __x ← ltAt' (lo+__s.snd) (lo+__s.snd - 1)
    match __x with
    | some smaller=>if smaller=true then pure (ForInStep.done (none,__s.snd)) else pure (ForInStep.yield (none,__s.snd+1))
    | _=>pure (ForInStep.done (some none,__s.snd))
   k c) Q st:=by
 have hz:lo+n≤(arrOf st).size:=by rw[hB.size];omega
 have hoff:=zc2 (xs:=arrOf st) (i:=lo) (j:=lo+n) hz;refine wpS_bind (zgQ ?_);refine wpS_bind (zoA hO (hB.off hoff) hlo h1 hn (fun i j q1 q2 q3=>?_) fun m m1 m2 hU _=>?_)
 ·rw[ze8 hz (by omega),ze8 hz (by omega)];exact hD _ _ (by omega) (by omega) (by omega)
 ·rw[hk];exact wpS_pure (h _ _ ⟨m,_,rfl,m1,m2,rfl,hoff.wide (yaa _) (by omega),hU⟩)
theorem zlo {st:SortSt}{N lo n nrem:Nat}{Q:Option (Option Nat)×Nat×Nat→SortSt→Prop}(hO:LtG prog w A s κ kd)(hB:TB κ kd N st)(hlo:lo+nrem≤N)(h1:1≤n)(hn:n≤nrem)(hD:Dn κ (arrOf st) lo (lo+n))
  (h:∀ m neq ys,n≤m→m≤nrem→neq < m→Off (arrOf st) ys lo (lo+m)→Dn κ ys lo (lo+m)→(∀ k,lo+m - (neq+1)≤k→k < lo+m→kAt κ ys k=kAt κ ys (lo+m - 1))→Q (none,m,neq) (setArr st ys)) :
  wpS (model prog w) A E s (forIn [n:nrem] ((none,n,0):Option (Option Nat)×Nat×Nat) fun _ __s=>do
   let __x ← ltAt' (lo+__s.snd.fst) (lo+__s.snd.fst - 1)
   match __x with
   | some smaller=>
    if smaller=true then
     if __s.snd.snd > 0 then do
      let _ ← reverseSlice' (lo+__s.snd.fst - (__s.snd.snd+1)) (lo+__s.snd.fst)
      pure (ForInStep.yield (none,__s.snd.fst+1,0))
     else pure (ForInStep.yield (none,__s.snd.fst+1,0))
    else do
     let __x ← ltAt' (lo+__s.snd.fst - 1) (lo+__s.snd.fst)
     match __x with
     | some larger=>
      if larger=true then pure (ForInStep.done (none,__s.snd.fst,__s.snd.snd))
      else pure (ForInStep.yield (none,__s.snd.fst+1,__s.snd.snd+1))
     | _=>pure (ForInStep.done (some none,__s.snd.fst,__s.snd.snd))
   | _=>pure (ForInStep.done (some none,__s.snd.fst,__s.snd.snd))) Q st:=by
 refine wpS_forRange (I:=fun i c st'=>∃ neq ys,st'=setArr st ys∧c=(none,i,neq)∧n≤i∧i≤nrem∧neq < i∧Off (arrOf st) ys lo (lo+i)∧Dn κ ys lo (lo+i)∧∀ k,lo+i - (neq+1)≤k→k < lo+i→kAt κ ys k=kAt κ ys (lo+i - 1)) ?_ ?_ ⟨0,arrOf st,rfl,rfl,yaa _,hn,h1,Off.refl _ _ _,hD,fun k q1 q2=>by rw[show k=lo+n - 1 by omega]⟩
 ·rintro i c st' hi1 hi2 ⟨neq,ys,rfl,rfl,h3,h4,h5,ho,hD',he⟩;have hB':TB κ kd N (setArr st ys):=hB.off ho;have hz:lo+i≤ys.size:=by rw[ho.size,hB.size];omega
  dsimp only;refine wpS_bind (zib hO hB' (by omega) (by omega) ?_);dsimp only;cases e:κ.blt (kAt κ ys (lo+i)) (kAt κ ys (lo+i - 1)) with
  | true=>
   simp only[if_true];by_cases hq:neq > 0
   ·rw[if_pos hq];have hoff:=zc2 (xs:=ys) (i:=lo+i - (neq+1)) (j:=lo+i) hz;have hk:=zhu (κ:=κ) hz he;refine wpS_bind (zgQ (wpS_pure ⟨0,_,rfl,rfl,by omega,by omega,by omega,ho.wide (yaa _) (by omega) |>.trans (hoff.wide (by omega) (by omega)),?_,fun k q1 q2=>by rw[show k=lo+(i+1) - 1 by omega]⟩));have:Dn κ (mirror ys (lo+i - (neq+1)) (lo+i) ((lo+i - (lo+i - (neq+1))) / 2)) lo (lo+i):=fun a b q1 q2 q3=>by rw[hk,hk];exact hD' a b q1 q2 q3
    exact this.more (by omega) (by rw[hk,hk];exact KeyOrd.kle_of_klt e)
   ·rw[if_neg hq];exact wpS_pure ⟨0,ys,rfl,rfl,by omega,by omega,by omega,ho.wide (yaa _) (by omega),hD'.more (by omega) (KeyOrd.kle_of_klt e),fun k q1 q2=>by rw[show k=lo+(i+1) - 1 by omega]⟩
  | false=>
   simp only[yaM,if_false];refine wpS_bind (zib hO hB' (by omega) (by omega) ?_);dsimp only;cases e2:κ.blt (kAt κ ys (lo+i - 1)) (kAt κ ys (lo+i)) with
   | true=>exact wpS_pure (h i neq ys h3 h4 h5 ho hD' he)
   | false=>
    have eq:kAt κ ys (lo+i)=kAt κ ys (lo+i - 1):=κ.total _ _ e e2;refine wpS_pure ⟨neq+1,ys,rfl,rfl,by omega,by omega,by omega,ho.wide (yaa _) (by omega),hD'.more (by omega) (by rw[eq];exact KeyOrd.kle_refl _),fun k q1 q2=>?_⟩;rw[show lo+(i+1) - 1=lo+i by omega,eq];by_cases hk:k=lo+i
    ·rw[hk];exact eq
    ·exact he k (by omega) (by omega)
 ·rintro c st' ⟨neq,ys,rfl,rfl,h3,h4,h5,ho,hD',he⟩;exact h _ neq ys h3 h4 h5 ho hD' he
theorem zjy {st:SortSt}{N lo n nrem m neq:Nat}{ys:Array Keyed}{Q:Option Nat→SortSt→Prop}{t:StateT SortSt Sem (Option Nat)}(hB:TB κ kd N st)(hlo:lo+nrem≤N)(m1:n+1≤m)(m2:m≤nrem)(m3:neq < m)
  (ho:Off (arrOf st) ys lo (lo+m)) (hD:Dn κ ys lo (lo+m)) (he:∀ k,lo+m - (neq+1)≤k→k < lo+m→kAt κ ys k=kAt κ ys (lo+m - 1)) (h:∀ r st',zjt κ st lo (n+1) nrem r st'→Q r st')
  (ht:∀ st',TB κ kd N st'→Dn κ (arrOf st') lo (lo+m)→(∀ r st'',zjt κ st' lo m nrem r st''→Q r st'')→wpS (model prog w) A E s t Q st') :
  wpS (model prog w) A E s (if neq > 0 then do
   let _ ← reverseSlice' (lo+m - (neq+1)) (lo+m)
   t else t) Q (setArr st ys):=by
 have hz:lo+m≤ys.size:=by rw[ho.size,hB.size];omega
 have back:∀ zs,Off (arrOf st) zs lo (lo+m)→∀ r st',zjt κ (setArr st zs) lo m nrem r st'→Q r st':=fun zs hz r st' hr=>by
  obtain ⟨q,vs,e1,e2,e3,e4,e5,e6⟩:=hr;exact h r st' ⟨q,vs,e1,by omega,e3,e4,(hz.wide (yaa _) (by omega)).trans e5,e6⟩
 by_cases hq:neq > 0
 ·rw[if_pos hq];have hoff:=zc2 (xs:=ys) (i:=lo+m - (neq+1)) (j:=lo+m) hz;have hk:=zhu (κ:=κ) hz he;have ho2:=ho.trans (hoff.wide (by omega) (yaa _));refine wpS_bind (zgQ ?_);refine ht _ (hB.off ho2) (fun a b q1 q2 q3=>?_) (back _ ho2);show κ.kle (kAt κ (mirror ys (lo+m - (neq+1)) (lo+m) ((lo+m - (lo+m - (neq+1))) / 2)) b) (kAt κ (mirror ys (lo+m - (neq+1)) (lo+m) ((lo+m - (lo+m - (neq+1))) / 2)) a);rw[hk,hk];exact hD a b q1 q2 q3
 ·rw[if_neg hq];exact ht _ (hB.off ho) hD (back _ ho)
theorem ziK {st:SortSt}{N lo nrem:Nat}{Q:Option Nat→SortSt→Prop}(hO:LtG prog w A s κ kd)(hB:TB κ kd N st)(hlo:lo+nrem≤N)(h1:1≤nrem)(h:∀ r st',zjt κ st lo 1 nrem r st'→Q r st') :
  wpS (model prog w) A E s (countRun' lo nrem) Q st:=by
 rw[countRun'_eq];refine wpS_bind (zoA hO hB hlo (yaa 1) h1 zqt fun m m1 m2 hU hnext=>?_);dsimp only;by_cases hm:m=nrem
 ·rw[if_pos (by simpa using hm)];exact wpS_pure (h _ _ ⟨m,arrOf st,rfl,m1,m2,rfl,Off.refl _ _ _,hU⟩)
 ·rw[if_neg (by simpa using hm)];have hnx:=hnext (by omega);by_cases hm1:m > 1
  ·rw[if_pos hm1];refine wpS_bind (zib hO hB (by omega) (by omega) ?_);cases e:κ.blt (kAt κ (arrOf st) lo) (kAt κ (arrOf st) (lo+m - 1)) with
   | true=>
    simp only[if_true];exact wpS_pure (h _ _ ⟨m,arrOf st,rfl,m1,m2,rfl,Off.refl _ _ _,hU⟩)
   | false=>
    simp only[yaM,if_false];have hz:lo+m≤(arrOf st).size:=by rw[hB.size];omega
    have hoff:=zc2 (xs:=arrOf st) (i:=lo) (j:=lo+m) hz;have all:∀ k,lo≤k→k < lo+m→kAt κ (arrOf st) k=kAt κ (arrOf st) (lo+m - 1):=fun k q1 q2=>
     KeyOrd.kle_antisymm (hU k (lo+m - 1) q1 (by omega) (by omega)) (KeyOrd.kle_trans (show κ.kle (kAt κ (arrOf st) (lo+m - 1)) (kAt κ (arrOf st) lo) from e) (hU lo k (yaa _) q1 q2))
    have hk:=zhu (κ:=κ) hz all;refine wpS_bind (zgQ ?_);have fin:∀ r st',zjt κ (setArr st (mirror (arrOf st) lo (lo+m) ((lo+m - lo) / 2))) lo (m+1) nrem r st'→Q r st':=fun r st' hr=>by
     obtain ⟨q,vs,e1,e2,e3,e4,e5,e6⟩:=hr;exact h r st' ⟨q,vs,e1,by omega,e3,e4,(hoff.wide (yaa _) (by omega)).trans e5,e6⟩
    refine wpS_bind (zc7 (wpS_bind (zlo hO (hB.off hoff) hlo (by omega) (by omega) ?_ fun m' neq ys p1 p2 p3 ho hD' he=>?_)))
    rotate_left
    ·dsimp only;exact zjy (n:=m) (hB.off hoff) hlo p1 p2 p3 ho hD' he fin fun st' hB' hDD hh=>zln (fun _=>rfl) hO hB' hlo (by omega) p2 hDD hh
    ·have d0:Dn κ (arrOf st) lo (lo+m):=fun a b q1 q2 q3=>by rw[all a q1 (by omega),all b (by omega) q3];exact KeyOrd.kle_refl _
     have d1:=d0.more (by omega) (KeyOrd.kle_of_klt hnx);intro a b q1 q2 q3;show κ.kle (kAt κ (mirror (arrOf st) lo (lo+m) ((lo+m - lo) / 2)) b) (kAt κ (mirror (arrOf st) lo (lo+m) ((lo+m - lo) / 2)) a);rw[hk,hk];exact d1 a b q1 q2 (by omega)
  ·rw[if_neg hm1];have e1:m=1:=by omega
   subst e1;have fin:∀ r st',zjt κ st lo (1+1) nrem r st'→Q r st':=fun r st' hr=>by
    obtain ⟨q,vs,e1,e2,e3,e4,e5,e6⟩:=hr;exact h r st' ⟨q,vs,e1,by omega,e3,e4,e5,e6⟩
   refine wpS_bind (zc7 (wpS_bind (zlo hO hB hlo (by omega) (by omega) ?_ fun m' neq ys p1 p2 p3 ho hD' he=>?_)))
   rotate_left
   ·dsimp only;exact zjy (n:=1) hB hlo p1 p2 p3 ho hD' he fin fun st' hB' hDD hh=>zln (fun _=>rfl) hO hB' hlo (by omega) p2 hDD hh
   ·intro a b q1 q2 q3;by_cases hab:a=b
    ·subst hab;exact KeyOrd.kle_refl _
    ·have ea:a=lo+1 - 1:=by omega
     have eb:b=lo+1:=by omega
     rw[ea,eb];exact KeyOrd.kle_of_klt hnx
end
end Tim
namespace Tim
open PySem PyProof.Rows
set_option autoImplicit false
section
variable {prog:Program}{w:World}{A:Around}{E:Value→Shared→Prop}{s:Shared}{κ:KeyKind}{kd:SortKind}
theorem zkW {xs:Array Keyed}{src dst hi:Nat}(hs:src < xs.size)(hd:dst≤src)(hh:src < hi):Off xs (bubble xs src (src - dst)) dst hi:=
 ⟨bubble_perm _ _ _,fun k hk=>by
  rw[getElem?_bubble hs _ (by omega)];rw[if_neg (by omega),if_neg (by omega)]⟩
theorem zgA {xs:Array Keyed}{src dst:Nat}(hs:src < xs.size)(hd:dst≤src)(k:Nat):kAt κ (bubble xs src (src - dst)) k=if k=dst then kAt κ xs src else if dst < k∧k≤src then kAt κ xs (k - 1) else kAt κ xs k:=by
 have e:=getElem?_bubble hs (src - dst) (by omega) k;rw[show src - (src - dst)=dst by omega]at e;by_cases h1:k=dst
 ·rw[if_pos h1]at e ⊢;exact zbt e
 ·rw[if_neg h1]at e ⊢;by_cases h2:dst < k∧k≤src
  ·rw[if_pos h2]at e ⊢;exact zbt e
  ·rw[if_neg h2]at e ⊢;exact zbt e
theorem zgP {st:SortSt}{N lo n ok:Nat}{Q:Bool→SortSt→Prop}(hO:LtG prog w A s κ kd)(hB:TB κ kd N st)(hlo:lo+n≤N)(hok:ok≤n)(hU:Up κ (arrOf st) lo (lo+ok))
  (h:∀ ys,Off (arrOf st) ys lo (lo+n)→Up κ ys lo (lo+n)→Q true (setArr st ys)):wpS (model prog w) A E s (binarySort' lo n ok) Q st:=by
 rw[binarySort'_eq];refine wpS_bind (wpS_mono (wpS_forRange (I:=fun k c st'=>c=(none,())∧∃ ys,st'=setArr st ys∧Off (arrOf st) ys lo (lo+n)∧Up κ ys lo (lo+min k n))
  (Q:=fun c st'=>c=(none,())∧∃ ys,st'=setArr st ys∧Off (arrOf st) ys lo (lo+n)∧Up κ ys lo (lo+n)) ?step ?fin ?init) ?post)
 case post=>
  rintro c st' ⟨rfl,ys,rfl,ho,hu⟩;exact wpS_pure (h ys ho hu)
 case init=>
  refine ⟨rfl,arrOf st,rfl,Off.refl _ _ _,fun i j h1 h2 h3=>?_⟩;by_cases hz:j < lo+ok
  ·exact hU i j h1 h2 hz
  ·have:i=j:=by omega
   subst this;exact KeyOrd.kle_refl _
 case fin=>
  rintro c st' ⟨rfl,ys,rfl,ho,hu⟩;refine ⟨rfl,ys,rfl,ho,?_⟩;rwa[show min (max (max ok 1) n) n=n by omega]at hu
 case step=>
  rintro k c st' hk1 hk2 ⟨rfl,ys,rfl,ho,hu⟩;rw[show min k n=k by omega]at hu;have hB':TB κ kd N (setArr st ys):=hB.off ho;have hz:ys.size=N:=by rw[ho.size,hB.size]
  refine wpS_bind (wpS_mono (wpS_forRange (I:=fun x c st''=>st''=setArr st ys∧∃ l r,c=(none,l,r)∧l≤r∧r≤k∧r - l≤k - x∧
    (∀ i,i < l→κ.kle (kAt κ ys (lo+i)) (kAt κ ys (lo+k)))∧(∀ i,r≤i→i < k→κ.klt (kAt κ ys (lo+k)) (kAt κ ys (lo+i))))
   (Q:=fun c st''=>st''=setArr st ys∧∃ l r,c=(none,l,r)∧l≤k∧
    (∀ i,i < l→κ.kle (kAt κ ys (lo+i)) (kAt κ ys (lo+k)))∧(∀ i,l≤i→i < k→κ.klt (kAt κ ys (lo+k)) (kAt κ ys (lo+i)))) ?istep ?ifin ?iinit) ?ipost)
  case iinit=>exact ⟨rfl,0,k,rfl,by omega,by omega,by omega,fun i hi=>by omega,fun i h1 h2=>by omega⟩
  case ifin=>
   rintro c st'' ⟨rfl,l,r,rfl,hlr,hrk,hm,a1,a2⟩;have:l=r:=by omega
   subst this;exact ⟨rfl,l,l,rfl,hrk,a1,a2⟩
  case istep=>
   rintro x c st'' _ hxk ⟨rfl,l,r,rfl,hlr,hrk,hm,a1,a2⟩;dsimp only;by_cases hge:l ≥ r
   ·rw[if_pos hge];have:l=r:=by omega
    subst this;exact wpS_pure ⟨rfl,l,l,rfl,hrk,a1,a2⟩
   ·rw[if_neg hge];refine wpS_bind (zib hO hB' (by omega) (by omega) ?_);dsimp only;cases e:κ.blt (kAt κ ys (lo+k)) (kAt κ ys (lo+(l+r) / 2)) with
    | true=>
     refine wpS_pure ⟨rfl,l,(l+r) / 2,rfl,by omega,by omega,by omega,a1,fun i h1 h2=>?_⟩;exact KeyOrd.klt_of_klt_of_kle e (hu _ _ (by omega) (by omega) (by omega))
    | false=>
     refine wpS_pure ⟨rfl,(l+r) / 2+1,r,rfl,by omega,by omega,by omega,fun i h1=>?_,a2⟩;exact KeyOrd.kle_trans (hu (lo+i) (lo+(l+r) / 2) (by omega) (by omega) (by omega)) (show κ.kle (kAt κ ys (lo+(l+r) / 2)) (kAt κ ys (lo+k)) from e)
  case ipost=>
   rintro c st'' ⟨rfl,l,r,rfl,hlk,a1,a2⟩;dsimp only;rw[moveDown'_eq];refine wpS_bind (wpS_modify (wpS_pure ⟨rfl,_,rfl,ho.trans ((zkW (hi:=lo+n) (by rw[hz];omega) (by omega) (by omega)).wide (by omega) (yaa _)),?_⟩));rw[show min (k+1) n=k+1 by omega];intro i j h1 h2 h3;show κ.kle (kAt κ (bubble ys (lo+k) (lo+k - (lo+l))) i) (kAt κ (bubble ys (lo+k) (lo+k - (lo+l))) j);rw[zgA (by rw[hz];omega) (by omega),zgA (by rw[hz];omega) (by omega)];have lowS:∀ i,lo≤i→i < lo+l→κ.kle (kAt κ ys i) (kAt κ ys (lo+k)):=fun i q1 q2=>by
    have:=a1 (i - lo) (by omega);rw[show lo+(i - lo)=i by omega]at this;exact this
   have highS:∀ i,lo+l≤i→i < lo+k→κ.kle (kAt κ ys (lo+k)) (kAt κ ys i):=fun i q1 q2=>by
    have:=a2 (i - lo) (by omega) (by omega);rw[show lo+(i - lo)=i by omega]at this;exact KeyOrd.kle_of_klt this
   by_cases i1:i=lo+l
   ·rw[if_pos i1];by_cases j1:j=lo+l
    ·rw[if_pos j1];exact KeyOrd.kle_refl _
    ·rw[if_neg j1,if_pos (by omega)];exact highS _ (by omega) (by omega)
   ·rw[if_neg i1];by_cases i2:lo+l < i∧i≤lo+k
    ·rw[if_pos i2,if_neg (by omega),if_pos (by omega)];exact hu _ _ (by omega) (by omega) (by omega)
    ·rw[if_neg i2];by_cases j1:j=lo+l
     ·rw[if_pos j1];exact lowS i h1 (by omega)
     ·rw[if_neg j1];by_cases j2:lo+l < j∧j≤lo+k
      ·rw[if_pos j2];exact hu _ _ h1 (by omega) (by omega)
      ·rw[if_neg j2];exact hu _ _ h1 h2 (by omega)
end
end Tim
namespace Tim
open PySem PyProof.Rows
set_option autoImplicit false
section
variable {M:Model}{A:Around}{E:Value→Shared→Prop}{s:Shared}{st:SortSt}{n hint:Nat}{p:Nat→Bool}
abbrev C2:=Option (Option Nat)×Nat×Nat
theorem znp {Q:C2→SortSt→Prop}{f:Nat→C2→StateT SortSt Sem (ForInStep C2)}(hn:hint < n)(hp:p hint=true)
  (f1:∀ x l o,o ≥ n - hint→f x (none,l,o)=pure (.done (none,l,o)))
  (f2:∀ x l o (R:ForInStep C2→SortSt→Prop),o < n - hint→(p (hint+o)=true→R (.yield (none,o,2 * o+1)) st)→(p (hint+o)=false→R (.done (none,l,o)) st)→wpS M A E s (f x (none,l,o)) R st)
  (h:∀ l o,l < o→hint+l < n→p (hint+l)=true→(o < n - hint→p (hint+o)=false)→Q (none,l,o) st):wpS M A E s (forIn [:n] ((none,0,1):C2) f) Q st:=by
 refine wpS_forRange (I:=fun i c st'=>st'=st∧∃ l o,c=(none,l,o)∧l < o∧i+1≤o∧hint+l < n∧p (hint+l)=true) ?_ ?_ ⟨rfl,0,1,rfl,by omega,by omega,by omega,hp⟩
 ·rintro i c st' _ hi ⟨rfl,l,o,rfl,h1,h2,h3,h4⟩;by_cases ho:o ≥ n - hint
  ·rw[f1 i l o ho];exact wpS_pure (h l o h1 h3 h4 fun z=>absurd z (by omega))
  ·refine f2 i l o _ (by omega) (fun e=>?_) fun e=>?_
   ·exact ⟨rfl,o,2 * o+1,rfl,by omega,by omega,by omega,e⟩
   ·exact h l o h1 h3 h4 fun _=>e
 ·rintro c st' ⟨rfl,l,o,rfl,h1,h2,h3,h4⟩;exact h l o h1 h3 h4 fun z=>absurd z (by omega)
theorem zpd {Q:C2→SortSt→Prop}{f:Nat→C2→StateT SortSt Sem (ForInStep C2)}(hn:hint < n)(hp:p hint=false)
  (f1:∀ x l o,o ≥ hint+1→f x (none,l,o)=pure (.done (none,l,o)))
  (f2:∀ x l o (R:ForInStep C2→SortSt→Prop),o < hint+1→(p (hint - o)=false→R (.yield (none,o,2 * o+1)) st)→(p (hint - o)=true→R (.done (none,l,o)) st)→wpS M A E s (f x (none,l,o)) R st)
  (h:∀ l o,l < o→l≤hint→p (hint - l)=false→(o < hint+1→p (hint - o)=true)→Q (none,l,o) st):wpS M A E s (forIn [:n] ((none,0,1):C2) f) Q st:=by
 refine wpS_forRange (I:=fun i c st'=>st'=st∧∃ l o,c=(none,l,o)∧l < o∧i+1≤o∧l≤hint∧p (hint - l)=false) ?_ ?_ ⟨rfl,0,1,rfl,by omega,by omega,by omega,hp⟩
 ·rintro i c st' _ hi ⟨rfl,l,o,rfl,h1,h2,h3,h4⟩;by_cases ho:o ≥ hint+1
  ·rw[f1 i l o ho];exact wpS_pure (h l o h1 h3 h4 fun z=>absurd z (by omega))
  ·refine f2 i l o _ (by omega) (fun e=>?_) fun e=>?_
   ·exact ⟨rfl,o,2 * o+1,rfl,by omega,by omega,by omega,e⟩
   ·exact h l o h1 h3 h4 fun _=>e
 ·rintro c st' ⟨rfl,l,o,rfl,h1,h2,h3,h4⟩;exact h l o h1 h3 h4 fun z=>absurd z (by omega)
theorem zjx {Q:Option Nat→SortSt→Prop}{lo hi:Nat}{f:Nat→C2→StateT SortSt Sem (ForInStep C2)}{k:C2→StateT SortSt Sem (Option Nat)}
  (anti:∀ i j,i≤j→j < n→p j=true→p i=true) (h1:lo≤hi) (h2:hi≤n) (hl:∀ i,i < lo→p i=true) (hh:∀ i,hi≤i→i < n→p i=false)
  (f1:∀ x l r,l ≥ r→f x (none,l,r)=pure (.done (none,l,r)))
  (f2:∀ x l r (R:ForInStep C2→SortSt→Prop),l < r→r≤n→(p (l+(r - l) / 2)=true→R (.yield (none,l+(r - l) / 2+1,r)) st)→(p (l+(r - l) / 2)=false→R (.yield (none,l,l+(r - l) / 2)) st)→wpS M A E s (f x (none,l,r)) R st)
  (hk:∀ l r,k (none,l,r)=pure (some r))
  (h:∀ m,m≤n→(∀ i,i < m→p i=true)→(∀ i,m≤i→i < n→p i=false)→Q (some m) st):wpS M A E s (do let c ← forIn [:n] ((none,lo,hi):C2) f;k c) Q st:=by
 refine wpS_bind (wpS_mono (wpS_forRange (I:=fun x c st'=>st'=st∧∃ l r,c=(none,l,r)∧l≤r∧r≤n∧r - l≤n - x∧(∀ i,i < l→p i=true)∧∀ i,r≤i→i < n→p i=false)
  (Q:=fun c st'=>st'=st∧∃ m,c=(none,m,m)∧m≤n∧(∀ i,i < m→p i=true)∧∀ i,m≤i→i < n→p i=false) ?_ ?_ ⟨rfl,lo,hi,rfl,h1,h2,by omega,hl,hh⟩) ?_)
 ·rintro x c st' _ hx ⟨rfl,l,r,rfl,a1,a2,a3,a4,a5⟩;by_cases hge:l ≥ r
  ·rw[f1 x l r hge];have:l=r:=by omega
   subst this;exact wpS_pure ⟨rfl,l,rfl,a2,a4,a5⟩
  ·refine f2 x l r _ (by omega) a2 (fun e=>?_) fun e=>?_
   ·exact ⟨rfl,_,r,rfl,by omega,a2,by omega,fun i hi=>anti i _ (by omega) (by omega) e,a5⟩
   ·refine ⟨rfl,l,_,rfl,by omega,by omega,by omega,a4,fun i q1 q2=>?_⟩;cases z:p i with
    | false=>rfl
    | true=>rw[anti _ i q1 q2 z]at e;cases e
 ·rintro c st' ⟨rfl,l,r,rfl,a1,a2,a3,a4,a5⟩;have:l=r:=by omega
  subst this;exact ⟨rfl,l,rfl,a2,a4,a5⟩
 ·rintro c st' ⟨rfl,m,rfl,a2,a4,a5⟩;rw[hk];exact wpS_pure (h m a2 a4 a5)
end
def zja:Bool→Keyed→Array Keyed→Nat→Nat→Nat→StateT SortSt Sem (Option Nat):=sortPriv% PySem.Builtin.gallop
section
variable {prog:Program}{w:World}{A:Around}{E:Value→Shared→Prop}{s:Shared}{κ:KeyKind}{kd:SortKind}
def bey (κ:KeyKind)(left:Bool)(key:Keyed)(arr:Array Keyed)(base i:Nat):Bool:=if left=true then κ.blt (kAt κ arr (base+i)) (ky κ key) else !κ.blt (ky κ key) (kAt κ arr (base+i))
theorem zcS {st:SortSt}{left:Bool}{key:Keyed}{arr:Array Keyed}{base n hint:Nat}{Q:Option Nat→SortSt→Prop}(hO:LtG prog w A s κ kd)(hkd:kindOf st=kd)(hkey:Keyd κ key)(hks:∀ q∈arr.toList,Keyd κ q)
  (hz:base+n≤arr.size) (hn:hint < n) (hU:Up κ arr base (base+n))
  (h:∀ m,m≤n→(∀ i,i < m→bey κ left key arr base i=true)→(∀ i,m≤i→i < n→bey κ left key arr base i=false)→Q (some m) st):wpS (model prog w) A E s (zja left key arr base n hint) Q st:=by
 have anti:∀ i j,i≤j→j < n→bey κ left key arr base j=true→bey κ left key arr base i=true:=by
  intro i j hij hj;have hle:=hU (base+i) (base+j) (by omega) (by omega) (by omega);unfold bey;cases left with
  | true=>
   simp only[if_true];intro e;exact KeyOrd.klt_of_kle_of_klt hle e
  | false=>
   simp only[yaM,if_false];intro e;cases z:κ.blt (ky κ key) (kAt κ arr (base+i)) with
   | false=>rfl
   | true=>
    have:κ.blt (ky κ key) (kAt κ arr (base+j))=true:=KeyOrd.klt_of_klt_of_kle z hle;rw[this]at e;cases e
 have hb:∀ i (R:Option Bool→SortSt→Prop),i < n→R (some (bey κ left key arr base i)) st→wpS (model prog w) A E s (do
   let x ← elem' arr (base+i)
   if left=true then lt' x key else do
    let r ← lt' key x
    pure (Option.map (fun b=>!b) r)) R st:=fun i R hi hR=>by
  have hi':base+i < arr.size:=by omega
  refine wpS_bind (za9 hi' ?_);have hkx:Keyd κ arr[base+i]:=hks _ (by simp);unfold bey at hR;rw[zba hi']at hR;cases left with
  | true=>
   rw[if_pos rfl]at hR ⊢;exact lt_G hO hkd hkx hkey hR
  | false=>
   rw[if_neg (by decide)]at hR ⊢;exact wpS_bind (lt_G hO hkd hkey hkx (wpS_pure hR))
 refine wpS_bind (hb hint _ hn ?_);dsimp only;generalize bey κ left key arr base=p at *;cases e0:p hint with
 | true=>
  simp only[if_true];refine wpS_bind (znp (p:=p) hn e0 (fun x l o ho=>?_) (fun x l o R ho r1 r2=>?_) fun l o a1 a2 a3 a4=>?_)
  ·dsimp only;rw[if_pos ho]
  ·dsimp only;rw[if_neg (by omega)];refine wpS_bind (hb (hint+o) _ (by omega) ?_);dsimp only;cases e:p (hint+o) with
   | true=>exact wpS_pure (r1 e)
   | false=>exact wpS_pure (r2 e)
  ·dsimp only;refine zjx (p:=p) anti (by omega) (by omega) (fun i hi=>anti i (hint+l) (by omega) a2 a3) (fun i q1 q2=>?_) (fun x l r hge=>?_) (fun x l r R q1 q2 r1 r2=>?_) (fun _ _=>rfl) h
   ·by_cases ho:o < n - hint
    ·cases z:p i with
     | false=>rfl
     | true=>
      have:=anti (hint+o) i (by omega) q2 z;rw[a4 ho]at this;cases this
    ·exact absurd q2 (by omega)
   ·dsimp only;rw[if_pos hge]
   ·dsimp only;rw[if_neg (by omega)];refine wpS_bind (hb _ _ (by omega) ?_);dsimp only;cases e:p (l+(r - l) / 2) with
    | true=>exact wpS_pure (r1 e)
    | false=>exact wpS_pure (r2 e)
 | false=>
  simp only[yaM,if_false];refine wpS_bind (zpd (p:=p) hn e0 (fun x l o ho=>?_) (fun x l o R ho r1 r2=>?_) fun l o a1 a2 a3 a4=>?_)
  ·dsimp only;rw[if_pos ho]
  ·dsimp only;rw[if_neg (by omega)];refine wpS_bind (hb (hint - o) _ (by omega) ?_);dsimp only;cases e:p (hint - o) with
   | true=>exact wpS_pure (r2 e)
   | false=>exact wpS_pure (r1 e)
  ·dsimp only;refine zjx (p:=p) anti (by omega) (by omega) (fun i hi=>?_) (fun i q1 q2=>?_) (fun x l r hge=>?_) (fun x l r R q1 q2 r1 r2=>?_) (fun _ _=>rfl) h
   ·by_cases ho:o < hint+1
    ·exact anti i (hint - o) (by omega) (by omega) (a4 ho)
    ·exact absurd hi (by omega)
   ·cases z:p i with
    | false=>rfl
    | true=>
     have:=anti (hint - l) i (by omega) q2 z;rw[a3]at this;cases this
   ·dsimp only;rw[if_pos hge]
   ·dsimp only;rw[if_neg (by omega)];refine wpS_bind (hb _ _ (by omega) ?_);dsimp only;cases e:p (l+(r - l) / 2) with
    | true=>exact wpS_pure (r1 e)
    | false=>exact wpS_pure (r2 e)
end
end Tim
namespace Tim
open PySem PyProof.Rows
set_option autoImplicit false
section
variable {κ:KeyKind}
def le (κ:KeyKind)(x y:Keyed):Prop:=κ.kle (ky κ x) (ky κ y)
theorem le_refl (x:Keyed):le κ x x:=KeyOrd.kle_refl _
theorem le_trans {x y z:Keyed}(h1:le κ x y)(h2:le κ y z):le κ x z:=KeyOrd.kle_trans h1 h2
abbrev SL (κ:KeyKind)(l:List Keyed):Prop:=l.Pairwise (le κ)
theorem SL.drop {l:List Keyed}(h:SL κ l)(n:Nat):SL κ (l.drop n):=h.sublist (List.drop_sublist n l)
theorem SL.take {l:List Keyed}(h:SL κ l)(n:Nat):SL κ (l.take n):=h.sublist (List.take_sublist n l)
theorem zeV {xs:Array Keyed}{i:Nat}(h:i < xs.size):xs.toList.drop i=xs[i]::xs.toList.drop (i+1):=by
 have h':i < xs.toList.length:=by simpa using h
 rw[yb9 h'];simp
theorem zdD {xs:Array Keyed}{i:Nat}(hs:SL κ xs.toList)(h:i < xs.size):∀ y∈xs.toList.drop i,le κ xs[i] y:=by
 intro y hy;have q:=hs.drop i;rw[zeV h]at q hy;rcases yal.mp hy with rfl | hy
 ·exact le_refl _
 ·exact (List.pairwise_cons.mp q).1 y hy
theorem zel {xs:Array Keyed}{i k:Nat}{x:Keyed}(h:x∈(xs.toList.drop i).take k):∃ j,j < k∧i+j < xs.size∧xs[i+j]?=some x:=by
 obtain ⟨j,hj,e⟩:=List.mem_iff_getElem.mp h;have hj':=hj;rw[yar,yaL,yav]at hj';refine ⟨j,by omega,by omega,?_⟩;rw[List.getElem_take,List.getElem_drop]at e;rw[ya1 (by omega)];simpa using e
theorem zde {xs:Array Keyed}{i:Nat}{x:Keyed}(h:xs[i]?=some x):kAt κ xs i=ky κ x:=by
 unfold kAt;rw[h]
theorem zgT {xs:Array Keyed}(hs:SL κ xs.toList)(lo hi:Nat)(hh:hi≤xs.size):Up κ xs lo hi:=by
 intro i j h1 h2 h3;have hj:j < xs.size:=by omega
 have hi:i < xs.size:=by omega
 rw[zba hi,zba hj];refine zdD hs hi _ ?_;rw[List.mem_iff_getElem];refine ⟨j - i,by rw[yaL,yav];omega,?_⟩;rw[List.getElem_drop];simp[show i+(j - i)=j by omega]
theorem zpR {xs:Array Keyed}(h:Up κ xs 0 xs.size):SL κ xs.toList:=by
 rw[SL,yba];intro i j hi hj hij;have hi':i < xs.size:=by simpa using hi
 have hj':j < xs.size:=by simpa using hj
 have:=h i j (yaE _) (by omega) hj';rw[zba hi',zba hj']at this;simpa [le] using this
structure MI (κ:KeyKind)(a b:Array Keyed)(out:Array Keyed)(ia ib:Nat):Prop where
 perm:(out.toList++(a.toList.drop ia++b.toList.drop ib)).Perm (a.toList++b.toList)
 srt:SL κ out.toList
 low:∀ x∈out.toList,∀ y∈a.toList.drop ia++b.toList.drop ib,le κ x y
variable {a b out:Array Keyed}{ia ib:Nat}
theorem MI.goA {out':Array Keyed}{k:Nat}(h:MI κ a b out ia ib)(sa:SL κ a.toList)(ho:out'.toList=out.toList++(a.toList.drop ia).take k)(hle:∀ x∈(a.toList.drop ia).take k,∀ y∈b.toList.drop ib,le κ x y):MI κ a b out' (ia+k) ib:=by
 have e:a.toList.drop ia=(a.toList.drop ia).take k++a.toList.drop (ia+k):=by
  rw[← yca,yaZ]
 have s1:=sa.drop ia;rw[e]at s1;obtain ⟨p1,p2,p3⟩:=yaN.mp s1;refine ⟨?_,?_,?_⟩
 ·have q:=h.perm;rw[e]at q;rw[ho];simpa [yaT] using q
 ·rw[ho];exact yaN.mpr ⟨h.srt,p1,fun x hx y hy=>h.low x hx y (yaY _ (ybJ hy))⟩
 ·intro x hx y hy;rw[ho]at hx;rcases yai.mp hx with hx | hx
  ·refine h.low x hx y ?_;rcases yai.mp hy with hy | hy
   ·refine yaY _ ?_;rw[e];exact yax _ hy
   ·exact yax _ hy
  ·rcases yai.mp hy with hy | hy
   ·exact p3 x hx y hy
   ·exact hle x hx y hy
theorem MI.goB {out':Array Keyed}{k:Nat}(h:MI κ a b out ia ib)(sb:SL κ b.toList)(ho:out'.toList=out.toList++(b.toList.drop ib).take k)(hle:∀ x∈(b.toList.drop ib).take k,∀ y∈a.toList.drop ia,le κ x y):MI κ a b out' ia (ib+k):=by
 have e:b.toList.drop ib=(b.toList.drop ib).take k++b.toList.drop (ib+k):=by
  rw[← yca,yaZ]
 have s1:=sb.drop ib;rw[e]at s1;obtain ⟨p1,p2,p3⟩:=yaN.mp s1;refine ⟨?_,?_,?_⟩
 ·have q:=h.perm;rw[e]at q;rw[ho];refine List.Perm.trans ?_ q;rw[yaT];refine List.Perm.append_left _ ?_;rw[← yaT,← yaT];exact List.Perm.append_right _ ycb
 ·rw[ho];exact yaN.mpr ⟨h.srt,p1,fun x hx y hy=>h.low x hx y (yax _ (ybJ hy))⟩
 ·intro x hx y hy;rw[ho]at hx;rcases yai.mp hx with hx | hx
  ·refine h.low x hx y ?_;rcases yai.mp hy with hy | hy
   ·exact yaY _ hy
   ·refine yax _ ?_;rw[e];exact yax _ hy
  ·rcases yai.mp hy with hy | hy
   ·exact hle x hx y hy
   ·exact p3 x hx y hy
theorem zek {xs:Array Keyed}{i:Nat}(h:i < xs.size):(xs.toList.drop i).take 1=[xs[i]]:=by
 rw[zeV h];rfl
theorem MI.pa (h:MI κ a b out ia ib)(sa:SL κ a.toList)(hia:ia < a.size)(hle:∀ y∈b.toList.drop ib,le κ a[ia] y):MI κ a b (out.push a[ia]) (ia+1) ib:=
 h.goA (k:=1) sa (by rw[zek hia,ybZ]) (by
  rw[zek hia];intro x hx;rw[yah.mp hx];exact hle)
theorem MI.pb (h:MI κ a b out ia ib)(sb:SL κ b.toList)(hib:ib < b.size)(hle:∀ y∈a.toList.drop ia,le κ b[ib] y):MI κ a b (out.push b[ib]) ia (ib+1):=
 h.goB (k:=1) sb (by rw[zek hib,ybZ]) (by
  rw[zek hib];intro x hx;rw[yah.mp hx];exact hle)
structure zb5 (κ:KeyKind)(a b m:Array Keyed):Prop where
 perm:m.toList.Perm (a.toList++b.toList)
 srt:SL κ m.toList
theorem zfb {xs:Array Keyed}{i k:Nat}:(xs.extract i (i+k)).toList=(xs.toList.drop i).take k:=by
 rw[ycc,ycd,Nat.add_sub_cancel_left]
theorem zfc {xs:Array Keyed}{i:Nat}:(xs.extract i xs.size).toList=xs.toList.drop i:=by
 rw[ycc,ycd];exact yat (by rw[yaL,yav];exact yaa _)
theorem MI.done (h:MI κ a b out ia ib)(sa:SL κ a.toList)(hib:b.size≤ib):zb5 κ a b (out++a.extract ia a.size++b.extract ib b.size):=by
 have e:b.toList.drop ib=[]:=ya2 (by rw[yav];exact hib);have e2:(out++a.extract ia a.size++b.extract ib b.size).toList=out.toList++(a.toList.drop ia++b.toList.drop ib):=by
  rw[yaR,yaR,zfc,zfc,yaT]
 refine ⟨by rw[e2];exact h.perm,?_⟩;rw[e2,e,yaI];refine yaN.mpr ⟨h.srt,sa.drop ia,fun x hx y hy=>h.low x hx y (yaY _ hy)⟩
theorem MI.doneA (h:MI κ a b out ia ib)(sb:SL κ b.toList)(hia:a.size≤ia):zb5 κ a b (out++a.extract ia a.size++b.extract ib b.size):=by
 have e:a.toList.drop ia=[]:=ya2 (by rw[yav];exact hia);have e2:(out++a.extract ia a.size++b.extract ib b.size).toList=out.toList++(a.toList.drop ia++b.toList.drop ib):=by
  rw[yaR,yaR,zfc,zfc,yaT]
 refine ⟨by rw[e2];exact h.perm,?_⟩;rw[e2,e,yce];refine yaN.mpr ⟨h.srt,sb.drop ib,fun x hx y hy=>h.low x hx y (yax _ hy)⟩
theorem MI.last (h:MI κ a b out ia ib)(sa:SL κ a.toList)(sb:SL κ b.toList)(hl:∀ y∈b.toList,∀ x∈a.toList.drop ia,le κ y x):zb5 κ a b (out++b.extract ib b.size++a.extract ia a.size):=by
 have e2:(out++b.extract ib b.size++a.extract ia a.size).toList=out.toList++(b.toList.drop ib++a.toList.drop ia):=by
  rw[yaR,yaR,zfc,zfc,yaT]
 refine ⟨?_,?_⟩
 ·rw[e2];exact (List.Perm.append_left _ ycb).trans h.perm
 ·rw[e2];refine yaN.mpr ⟨h.srt,yaN.mpr ⟨sb.drop ib,sa.drop ia,fun x hx y hy=>hl x (yb0 hx) y hy⟩,fun x hx y hy=>h.low x hx y ?_⟩;rcases yai.mp hy with q | q
  ·exact yax _ q
  ·exact yaY _ q
end
end Tim
namespace Tim
open PySem PyProof.Rows
set_option autoImplicit false
def zj7:Array Keyed→Array Keyed→StateT SortSt Sem (Array Keyed):=sortPriv% PySem.Builtin.mergeLo
def zkK:Nat→StateT SortSt Sem Unit:=sortPriv% PySem.Builtin.setMinGallop
structure SG (st st':SortSt):Prop where
 kind:kindOf st'=kindOf st
 arr:arrOf st'=arrOf st
 pend:pendingOf st'=pendingOf st
 failed:failedOf st'=failedOf st
theorem SG.refl (st:SortSt):SG st st:=⟨rfl,rfl,rfl,rfl⟩
theorem SG.trans {s1 s2 s3:SortSt}(h:SG s1 s2)(g:SG s2 s3):SG s1 s3:=⟨g.kind.trans h.kind,g.arr.trans h.arr,g.pend.trans h.pend,g.failed.trans h.failed⟩
section
variable {prog:Program}{w:World}{A:Around}{E:Value→Shared→Prop}{s:Shared}{κ:KeyKind}{kd:SortKind}
theorem zcz {g:Nat}{st st0:SortSt}{Q:Unit→SortSt→Prop}(hg:SG st0 st)(h:∀ st',SG st0 st'→Q () st'):wpS (model prog w) A E s (zkK g) Q st:=by
 refine wpS_modify (h _ (hg.trans ⟨rfl,rfl,rfl,rfl⟩))
theorem mp2 {P g:Prop}(k:P)(m:P→g):g:=m k
set_option maxHeartbeats 4000000 in
theorem zky {st:SortSt}{a b:Array Keyed}{Q:Array Keyed→SortSt→Prop}(hO:LtG prog w A s κ kd)(hkd:kindOf st=kd)(ka:∀ q∈a.toList,Keyd κ q)(kb:∀ q∈b.toList,Keyd κ q)(sa:SL κ a.toList)(sb:SL κ b.toList)
  (ha:0 < a.size) (hb:0 < b.size) (h0:∀ y∈a.toList,le κ b[0] y) (hl:∀ y∈b.toList,∀ i,i+1=a.size→∀ x∈a.toList.drop i,le κ y x)
  (h:∀ m st',zb5 κ a b m→SG st st'→Q m st'):wpS (model prog w) A E s (zj7 a b) Q st:=by
 have m0:MI κ a b #[b[0]] 0 1:=by
  have z:MI κ a b #[] 0 0:=⟨by simp,by simp,by simp⟩;have:=z.pb sb hb (by simpa using h0);simpa using this
 refine wpS_bind (zc7 ?_);dsimp only;refine wpS_bind (za9 hb ?_);by_cases e1:1=b.size
 ·rw[if_pos (by simpa using e1)];exact wpS_pure (h _ _ (m0.done sa (by omega)) (SG.refl st))
 rw[if_neg (by simpa using e1)];by_cases e2:0+1=a.size
 ·rw[if_pos (by simpa using e2)];exact wpS_pure (h _ _ (m0.last sa sb (fun y hy x hx=>hl y hy 0 e2 x hx)) (SG.refl st))
 rw[if_neg (by simpa using e2)];refine wpS_bind (wpS_get ?_);refine wpS_bind (wpS_mono (wpS_forRange (I:=fun i c st'=>SG st st'∧∃ out ia ib g,c=(none,out,ia,ib,g)∧MI κ a b out ia ib∧ia+1 < a.size∧ib < b.size∧i+1≤ia+ib)
  (Q:=fun c st'=>SG st st'∧∃ m r,c=(some m,r)∧zb5 κ a b m) ?step ?fin ⟨SG.refl st,_,0,1,_,rfl,m0,by omega,by omega,by omega⟩) ?post)
 case post=>
  rintro c st' ⟨g,m,r,rfl,hm⟩;exact wpS_pure (h m st' hm g)
 case fin=>
  rintro c st' ⟨g,out,ia,ib,gg,rfl,hm,q1,q2,q3⟩;exact absurd q3 (by omega)
 case step=>
  rintro i c st1 _ hi ⟨g1,out,ia,ib,gg,rfl,hm,q1,q2,q3⟩;dsimp only;refine wpS_bind (wpS_mono (wpS_forRange (I:=fun x c st'=>st'=st1∧∃ out' ia' ib' ca cb,c=(none,out',ia',ib',ca,cb)∧MI κ a b out' ia' ib'∧ia'+1 < a.size∧ib' < b.size∧ia+ib+x≤ia'+ib')
   (Q:=fun c st'=>st'=st1∧((∃ m r,c=(some m,r)∧zb5 κ a b m)∨∃ out' ia' ib' ca cb,c=(none,out',ia',ib',ca,cb)∧MI κ a b out' ia' ib'∧ia'+1 < a.size∧ib' < b.size∧ia+ib+1≤ia'+ib')) ?istep ?ifin ⟨rfl,out,ia,ib,0,0,rfl,hm,q1,q2,by omega⟩) ?ipost)
  case ifin=>
   rintro c st' ⟨rfl,out',ia',ib',ca,cb,rfl,hm',r1,r2,r3⟩;exact ⟨rfl,.inr ⟨out',ia',ib',ca,cb,rfl,hm',r1,r2,by omega⟩⟩
  case istep=>
   rintro x c st' _ hx ⟨rfl,out',ia',ib',ca,cb,rfl,hm',r1,r2,r3⟩;dsimp only;refine wpS_bind (za9 r2 (wpS_bind (za9 (show ia' < a.size by omega) (wpS_bind (lt_G hO (by rw[g1.kind];exact hkd) (kb _ (by simp)) (ka _ (by simp)) ?_)))));dsimp only;cases e:κ.blt (ky κ b[ib']) (ky κ (a[ia']'(by omega))) with
   | true=>
    simp only[if_true];have hm2:=hm'.pb sb r2 (fun y hy=>le_trans (show le κ b[ib'] (a[ia']'(by omega)) from KeyOrd.kle_of_klt e) (zdD sa (by omega) y hy));refine wpS_bind (za9 r2 ?_);by_cases z:ib'+1=b.size
    ·rw[if_pos (by simpa using z)];exact wpS_pure ⟨rfl,.inl ⟨_,_,rfl,hm2.done sa (by omega)⟩⟩
    ·rw[if_neg (by simpa using z)];split
     ·exact wpS_pure ⟨rfl,.inr ⟨_,_,_,_,_,rfl,hm2,by omega,by omega,by omega⟩⟩
     ·exact wpS_pure ⟨rfl,_,_,_,_,_,rfl,hm2,by omega,by omega,by omega⟩
   | false=>
    simp only[yaM,if_false];have hm2:=hm'.pa sa (show ia' < a.size by omega) (fun y hy=>le_trans (show le κ (a[ia']'(by omega)) b[ib'] from e) (zdD sb r2 y hy));refine wpS_bind (za9 (show ia' < a.size by omega) ?_);by_cases z:ia'+1+1=a.size
    ·rw[if_pos (by simpa using z)];exact wpS_pure ⟨rfl,.inl ⟨_,_,rfl,hm2.last sa sb (fun y hy x hx=>hl y hy _ z x hx)⟩⟩
    ·rw[if_neg (by simpa using z)];split
     ·exact wpS_pure ⟨rfl,.inr ⟨_,_,_,_,_,rfl,hm2,by omega,by omega,by omega⟩⟩
     ·exact wpS_pure ⟨rfl,_,_,_,_,_,rfl,hm2,by omega,by omega,by omega⟩
  case ipost=>
   rintro c st' ⟨rfl,⟨m,r,rfl,hmm⟩ | ⟨out,ia',ib',ca,cb,rfl,hm,q1,q2,q4⟩⟩
   ·exact wpS_pure ⟨g1,m,_,rfl,hmm⟩
   dsimp only;refine wpS_bind (zc7 ?_);refine wpS_bind (wpS_mono (wpS_forRange (I:=fun x c st''=>SG st st''∧∃ out1 ia1 ib1 gg ca cb,c=(none,out1,ia1,ib1,gg,ca,cb)∧MI κ a b out1 ia1 ib1∧ia1+1 < a.size∧ib1 < b.size∧ia+ib+1≤ia1+ib1)
    (Q:=fun c st''=>SG st st''∧((∃ m r,c=(some m,r)∧zb5 κ a b m)∨∃ out1 ia1 ib1 gg ca cb,c=(none,out1,ia1,ib1,gg,ca,cb)∧MI κ a b out1 ia1 ib1∧ia1+1 < a.size∧ib1 < b.size∧ia+ib+1≤ia1+ib1)) ?jstep ?jfin ⟨g1,_,_,_,_,_,_,rfl,hm,q1,q2,q4⟩) ?jpost)
   case jfin=>
    rintro c st'' ⟨g2,out1,ia1,ib1,gg1,ca1,cb1,rfl,r⟩;exact ⟨g2,.inr ⟨_,_,_,_,_,_,rfl,r⟩⟩
   case jpost=>
    rintro c st'' ⟨g2,⟨m,r,rfl,hmm⟩ | ⟨out1,ia1,ib1,gg1,ca1,cb1,rfl,hm1,t1,t2,t3⟩⟩
    ·exact wpS_pure ⟨g2,m,_,rfl,hmm⟩
    ·dsimp only;exact wpS_bind (zcz g2 fun st3 g3=>wpS_pure ⟨g3,_,_,_,_,rfl,hm1,t1,t2,by omega⟩)
   case jstep=>
    rintro x c st'' _ hx ⟨g2,out1,ia1,ib1,gg1,ca1,cb1,rfl,hm1,t1,t2,t3⟩;dsimp only;apply mp2
    case m=>
     intro key;by_cases hg:gg1 > 1
     ·rw[if_pos hg];generalize gg1 - 1=gg2
      revert gg2
      exact key
     ·rw[if_neg hg];generalize gg1=gg2
      revert gg2
      exact key
    intro gg2;refine wpS_bind (zcz g2 fun st3 g3=>?_);refine wpS_bind (za9 t2 (wpS_bind (zcS hO (by rw[g3.kind];exact hkd) (kb _ (by simp)) ka (by omega) (by omega) (zgT sa _ _ (by omega)) fun k k1 k2 k3=>?_)));dsimp only;have hmk:MI κ a b (out1++a.extract ia1 (ia1+k)) (ia1+k) ib1:=hm1.goA sa (by rw[yaR,zfb]) fun x hx y hy=>by
     obtain ⟨j,j1,j2,j3⟩:=zel hx;have q:=k2 j j1;unfold bey at q;rw[if_neg (by decide),zde j3,ybj]at q;exact le_trans (show le κ x b[ib1] from q) (zdD sb t2 y hy)
    have bk:∀ hq:ia1+k < a.size,∀ y∈a.toList.drop (ia1+k),le κ b[ib1] y:=fun hq y hy=>by
     have q:=k3 k (yaa _) (by omega);unfold bey at q;rw[if_neg (by decide),zba hq,ycw]at q;exact le_trans (show le κ b[ib1] a[ia1+k] from KeyOrd.kle_of_klt q) (zdD sa hq y hy)
    apply mp2
    case m=>
     by_cases hk:k > 0
     ·by_cases z:ia1+k+1=a.size
      ·intro h;clear h;rw[if_pos hk,if_pos (by simpa using z)];exact wpS_pure ⟨g3,.inl ⟨_,_,rfl,hmk.last sa sb (fun y hy x hx=>hl y hy _ z x hx)⟩⟩
      have z0:¬(ia1+k+1 == a.size)=true:=by simpa using z
      by_cases z':ia1+k=a.size
      ·intro h;clear h;rw[if_pos hk,if_neg z0,if_pos (by simpa using z')];exact wpS_pure ⟨g3,.inl ⟨_,_,rfl,hmk.doneA sb (by omega)⟩⟩
      have z1:¬(ia1+k == a.size)=true:=by simpa using z'
      have u2:=bk (by omega);have w1:ia1+k+1 < a.size:=by omega
      have w3:ia+ib+1≤ia1+k+ib1:=by omega
      intro key;rw[if_pos hk,if_neg z0,if_neg z1];refine (?_:MI κ a b (out1++a.extract ia1 (ia1+k)) (ia1+k) ib1→(∀ y∈a.toList.drop (ia1+k),le κ (b[ib1]'t2) y)→ia1+k+1 < a.size→ia+ib+1≤ia1+k+ib1→_) hmk u2 w1 w3;generalize out1++a.extract ia1 (ia1+k)=out2;generalize ia1+k=ja;generalize k=cnt
      revert out2 ja cnt
      exact key
     ·have e0:k=0:=by omega
      have u2:=bk (by omega);rw[e0,ybr]at u2;intro key;rw[if_neg hk];refine (?_:MI κ a b out1 ia1 ib1→(∀ y∈a.toList.drop ia1,le κ (b[ib1]'t2) y)→ia1+1 < a.size→ia+ib+1≤ia1+ib1→_) hm1 u2 t1 t3;generalize k=cnt;generalize ia1=ja;generalize out1=out2;exact key out2 ja cnt
    intro out2 ja cnt hm2 u2 w1 w3;refine wpS_bind (za9 t2 ?_);have hm3:=hm2.pb sb t2 u2;by_cases z2:ib1+1=b.size
    ·rw[if_pos (by simpa using z2)];exact wpS_pure ⟨g3,.inl ⟨_,_,rfl,hm3.done sa (by omega)⟩⟩
    ·rw[if_neg (by simpa using z2)];refine wpS_bind (za9 (show ja < a.size by omega) (wpS_bind (zcS hO (by rw[g3.kind];exact hkd) (ka _ (by simp)) kb (by omega) (by omega) (zgT sb _ _ (by omega)) fun k' c1 c2 c3=>?_)));dsimp only;have ge5:∀ hq:ib1+1+k' < b.size,le κ (a[ja]'(by omega)) b[ib1+1+k']:=fun hq=>by
      have q:=c3 k' (yaa _) (by omega);unfold bey at q;rw[if_pos rfl,zba hq]at q;exact q
     have hm4:MI κ a b (out2.push b[ib1]++b.extract (ib1+1) (ib1+1+k')) ja (ib1+1+k'):=hm3.goB sb (by rw[yaR (ys:=b.extract (ib1+1) (ib1+1+k')),zfb (xs:=b)]) fun x hx y hy=>by
      obtain ⟨j,j1,j2,j3⟩:=zel hx;have q:=c2 j j1;unfold bey at q;rw[if_pos rfl,zde j3]at q;exact le_trans (show le κ x (a[ja]'(by omega)) from KeyOrd.kle_of_klt q) (zdD sa (by omega) y hy)
     by_cases hk':k' > 0
     ·rw[if_pos hk'];by_cases z3:ib1+1+k'=b.size
      ·rw[if_pos (by simpa using z3)];exact wpS_pure ⟨g3,.inl ⟨_,_,rfl,hm4.done sa (by omega)⟩⟩
      ·rw[if_neg (by simpa using z3)];refine wpS_bind (za9 (show ja < a.size by omega) ?_);have hm5:=hm4.pa sa (show ja < a.size by omega) fun y hy=>le_trans (show le κ (a[ja]'(by omega)) (b[ib1+1+k']'(by omega)) from ge5 (by omega)) (zdD sb (by omega) y hy);by_cases z4:ja+1+1=a.size
       ·rw[if_pos (by simpa using z4)];exact wpS_pure ⟨g3,.inl ⟨_,_,rfl,hm5.last sa sb (fun y hy x hx=>hl y hy _ z4 x hx)⟩⟩
       ·rw[if_neg (by simpa using z4)];split
        ·exact wpS_pure ⟨g3,.inr ⟨_,_,_,_,_,_,rfl,hm5,by omega,by omega,by omega⟩⟩
        ·exact wpS_pure ⟨g3,_,_,_,_,_,_,rfl,hm5,by omega,by omega,by omega⟩
     ·rw[if_neg hk'];have e0:k'=0:=by omega
      subst e0
      replace hm4:=hm3
      refine wpS_bind (za9 (show ja < a.size by omega) ?_);have hm5:=hm4.pa sa (show ja < a.size by omega) fun y hy=>le_trans (show le κ (a[ja]'(by omega)) (b[ib1+1]'(by omega)) from ge5 (by omega)) (zdD sb (by omega) y hy);by_cases z4:ja+1+1=a.size
      ·rw[if_pos (by simpa using z4)];exact wpS_pure ⟨g3,.inl ⟨_,_,rfl,hm5.last sa sb (fun y hy x hx=>hl y hy _ z4 x hx)⟩⟩
      ·rw[if_neg (by simpa using z4)];split
       ·exact wpS_pure ⟨g3,.inr ⟨_,_,_,_,_,_,rfl,hm5,by omega,by omega,by omega⟩⟩
       ·exact wpS_pure ⟨g3,_,_,_,_,_,_,rfl,hm5,by omega,by omega,by omega⟩
end
end Tim
namespace Tim
open PySem PyProof.Rows
set_option autoImplicit false
section
variable {κ:KeyKind}{a b out:Array Keyed}{na nb:Nat}
structure MH (κ:KeyKind)(a b:Array Keyed)(out:Array Keyed)(na nb:Nat):Prop where
 perm:((a.toList.take na++b.toList.take nb)++out.toList.reverse).Perm (a.toList++b.toList)
 srt:SL κ out.toList.reverse
 high:∀ x∈out.toList.reverse,∀ y∈a.toList.take na++b.toList.take nb,le κ y x
theorem ze0 {l:List Keyed}{n m:Nat}(h:n≤m):l.take m=l.take n++(l.take m).drop n:=by
 have e:(l.take m).take n=l.take n:=by rw[List.take_take,ybk h]
 rw[← e,yaZ]
theorem MH.goA {out':Array Keyed}{n:Nat}(h:MH κ a b out na nb)(sa:SL κ a.toList)(hn:n≤na)(ho:out'.toList.reverse=(a.toList.take na).drop n++out.toList.reverse)(hle:∀ x∈(a.toList.take na).drop n,∀ y∈b.toList.take nb,le κ y x):MH κ a b out' n nb:=by
 have e:=ze0 (l:=a.toList) hn;have s1:=sa.take na;rw[e]at s1;obtain ⟨p1,p2,p3⟩:=yaN.mp s1;refine ⟨?_,?_,?_⟩
 ·refine List.Perm.trans ?_ h.perm;rw[ho,e,← yaT];refine List.Perm.append_right _ ?_;rw[yaT,yaT,← e];exact List.Perm.append_left _ ycb
 ·rw[ho];exact yaN.mpr ⟨p2,h.srt,fun x hx y hy=>h.high y hy x (yaY _ (yb0 hx))⟩
 ·intro x hx y hy;rw[ho]at hx;rcases yai.mp hx with hx | hx
  ·rcases yai.mp hy with hy | hy
   ·exact p3 y hy x hx
   ·exact hle x hx y hy
  ·refine h.high x hx y ?_;rcases yai.mp hy with hy | hy
   ·refine yaY _ ?_;rw[e];exact yaY _ hy
   ·exact yax _ hy
theorem MH.goB {out':Array Keyed}{n:Nat}(h:MH κ a b out na nb)(sb:SL κ b.toList)(hn:n≤nb)(ho:out'.toList.reverse=(b.toList.take nb).drop n++out.toList.reverse)(hle:∀ x∈(b.toList.take nb).drop n,∀ y∈a.toList.take na,le κ y x):MH κ a b out' na n:=by
 have e:=ze0 (l:=b.toList) hn;have s1:=sb.take nb;rw[e]at s1;obtain ⟨p1,p2,p3⟩:=yaN.mp s1;refine ⟨?_,?_,?_⟩
 ·refine List.Perm.trans (List.Perm.of_eq ?_) h.perm;rw[ho,← yaT,yaT (a.toList.take na),← e]
 ·rw[ho];exact yaN.mpr ⟨p2,h.srt,fun x hx y hy=>h.high y hy x (yax _ (yb0 hx))⟩
 ·intro x hx y hy;rw[ho]at hx;rcases yai.mp hx with hx | hx
  ·rcases yai.mp hy with hy | hy
   ·exact hle x hx y hy
   ·exact p3 y hy x hx
  ·refine h.high x hx y ?_;rcases yai.mp hy with hy | hy
   ·exact yaY _ hy
   ·refine yax _ ?_;rw[e];exact yaY _ hy
theorem zeO {xs:Array Keyed}{n:Nat}(h0:0 < n)(h:n≤xs.size):(xs.toList.take n).drop (n - 1)=[xs[n - 1]'(by omega)]:=by
 have h':n - 1 < xs.size:=by omega
 rw[ycf,show n - (n - 1)=1 by omega,zeV h'];rfl
theorem ze1 {xs:Array Keyed}{n:Nat}(hs:SL κ xs.toList)(h0:0 < n)(h:n≤xs.size):∀ y∈xs.toList.take n,le κ y (xs[n - 1]'(by omega)):=by
 intro y hy;have q:=hs.take n;rw[ze0 (l:=xs.toList) (show n - 1≤n by omega),zeO h0 h]at q hy;rcases yai.mp hy with hy | hy
 ·exact (yaN.mp q).2.2 y hy _ (yah.mpr rfl)
 ·rw[yah.mp hy];exact le_refl _
theorem MH.pa (h:MH κ a b out na nb)(sa:SL κ a.toList)(h0:0 < na)(hn:na≤a.size)(hle:∀ y∈b.toList.take nb,le κ y (a[na - 1]'(by omega))):MH κ a b (out.push (a[na - 1]'(by omega))) (na - 1) nb:=
 h.goA (n:=na - 1) sa (by omega) (by rw[zeO h0 hn,ybZ,ycg];rfl) (by
  rw[zeO h0 hn];intro x hx;rw[yah.mp hx];exact hle)
theorem MH.pb (h:MH κ a b out na nb)(sb:SL κ b.toList)(h0:0 < nb)(hn:nb≤b.size)(hle:∀ y∈a.toList.take na,le κ y (b[nb - 1]'(by omega))):MH κ a b (out.push (b[nb - 1]'(by omega))) na (nb - 1):=
 h.goB (n:=nb - 1) sb (by omega) (by rw[zeO h0 hn,ybZ,ycg];rfl) (by
  rw[zeO h0 hn];intro x hx;rw[yah.mp hx];exact hle)
theorem zd1 {xs:Array Keyed}{n:Nat}:(xs.extract 0 n).toList=xs.toList.take n:=by
 rw[ycc,ycd,ych,Nat.sub_zero]
theorem zmX {xs:Array Keyed}{n m:Nat}:(xs.extract n m).toList=(xs.toList.take m).drop n:=by
 rw[ycc,ycd,ycf]
theorem MH.done (h:MH κ a b out na nb)(sb:SL κ b.toList)(hna:na=0):zb5 κ a b (a.extract 0 na++b.extract 0 nb++out.reverse):=by
 have e2:(a.extract 0 na++b.extract 0 nb++out.reverse).toList=(a.toList.take na++b.toList.take nb)++out.toList.reverse:=by
  rw[yaR,yaR,zd1,zd1,yb1]
 refine ⟨by rw[e2];exact h.perm,?_⟩;rw[e2];subst hna;refine yaN.mpr ⟨?_,h.srt,fun x hx y hy=>h.high y hy x hx⟩;rw[ybK,yce];exact sb.take nb
theorem MH.doneB (h:MH κ a b out na nb)(sa:SL κ a.toList)(hnb:nb=0):zb5 κ a b (a.extract 0 na++b.extract 0 nb++out.reverse):=by
 have e2:(a.extract 0 na++b.extract 0 nb++out.reverse).toList=(a.toList.take na++b.toList.take nb)++out.toList.reverse:=by
  rw[yaR,yaR,zd1,zd1,yb1]
 refine ⟨by rw[e2];exact h.perm,?_⟩;rw[e2];subst hnb;refine yaN.mpr ⟨?_,h.srt,fun x hx y hy=>h.high y hy x hx⟩;rw[ybK,yaI];exact sa.take na
theorem MH.first (h:MH κ a b out na nb)(sa:SL κ a.toList)(sb:SL κ b.toList)(hl:∀ y∈b.toList.take nb,∀ x∈a.toList,le κ y x):zb5 κ a b (b.extract 0 nb++a.extract 0 na++out.reverse):=by
 have e2:(b.extract 0 nb++a.extract 0 na++out.reverse).toList=(b.toList.take nb++a.toList.take na)++out.toList.reverse:=by
  rw[yaR,yaR,zd1,zd1,yb1]
 refine ⟨?_,?_⟩
 ·rw[e2];exact (List.Perm.append_right _ ycb).trans h.perm
 ·rw[e2];refine yaN.mpr ⟨yaN.mpr ⟨sb.take nb,sa.take na,fun x hx y hy=>hl x hx y (ybJ hy)⟩,h.srt,fun x hx y hy=>h.high y hy x ?_⟩;rcases yai.mp hx with q | q
  ·exact yax _ q
  ·exact yaY _ q
end
def zj8:Array Keyed→Array Keyed→StateT SortSt Sem (Array Keyed):=sortPriv% PySem.Builtin.mergeHi
end Tim
namespace Tim
open PySem PyProof.Rows
set_option autoImplicit false
section
variable {prog:Program}{w:World}{A:Around}{E:Value→Shared→Prop}{s:Shared}{κ:KeyKind}{kd:SortKind}
set_option maxHeartbeats 4000000 in
theorem zkz {st:SortSt}{a b:Array Keyed}{Q:Array Keyed→SortSt→Prop}(hO:LtG prog w A s κ kd)(hkd:kindOf st=kd)(ka:∀ q∈a.toList,Keyd κ q)(kb:∀ q∈b.toList,Keyd κ q)(sa:SL κ a.toList)(sb:SL κ b.toList)
  (ha:0 < a.size) (hb:0 < b.size) (h0:∀ y∈a.toList,le κ b[0] y) (hl:∀ y∈b.toList,le κ y (a[a.size - 1]'(by omega)))
  (h:∀ m st',zb5 κ a b m→SG st st'→Q m st'):wpS (model prog w) A E s (zj8 a b) Q st:=by
 have fst:∀ n,n≤1→∀ y∈b.toList.take n,∀ x∈a.toList,le κ y x:=fun n hn y hy x hx=>by
  have hy':y∈b.toList.take 1:=by
   rcases ybs n 1 with z | z
   ·rw[show n=0 by omega]at hy;simp at hy
   ·rwa[show n=1 by omega]at hy
  have e:b.toList.take 1=[b[0]]:=by
   have:=zek hb;rwa[ych]at this
  rw[e]at hy';rw[yah.mp hy'];exact h0 x hx
 have m0:MH κ a b #[a[a.size - 1]'(by omega)] (a.size - 1) b.size:=by
  have z:MH κ a b #[] a.size b.size:=⟨by
   rw[yat (by simp),yat (by simp)];simp,by simp,by simp⟩
  have:=z.pa sa ha (yaa _) (fun y hy=>hl y (ybJ hy));simpa using this
 refine wpS_bind (zc7 ?_);dsimp only;refine wpS_bind (za9 (show a.size - 1 < a.size by omega) ?_);by_cases e1:a.size - 1=0
 ·rw[if_pos (by simpa using e1)];exact wpS_pure (h _ _ (m0.done sb e1) (SG.refl st))
 rw[if_neg (by simpa using e1)];by_cases e2:b.size=1
 ·rw[if_pos (by simpa using e2)];exact wpS_pure (h _ _ (m0.first sa sb (fst _ (by omega))) (SG.refl st))
 rw[if_neg (by simpa using e2)];refine wpS_bind (wpS_get ?_);refine wpS_bind (wpS_mono (wpS_forRange (I:=fun i c st'=>SG st st'∧∃ na nb out g,c=(none,na,nb,out,g)∧MH κ a b out na nb∧0 < na∧na≤a.size∧1 < nb∧nb≤b.size∧i+1+(na+nb)≤a.size+b.size)
  (Q:=fun c st'=>SG st st'∧∃ m r,c=(some m,r)∧zb5 κ a b m) ?step ?fin ⟨SG.refl st,_,_,_,_,rfl,m0,by omega,by omega,by omega,by omega,by omega⟩) ?post)
 case post=>
  rintro c st' ⟨g,m,r,rfl,hm⟩;exact wpS_pure (h m st' hm g)
 case fin=>
  rintro c st' ⟨g,na,nb,out,gg,rfl,hm,q1,q2,q3,q4,q5⟩;exact absurd q5 (by omega)
 case step=>
  rintro i c st1 _ hi ⟨g1,na,nb,out,gg,rfl,hm,q1,q2,q3,q4,q5⟩;dsimp only;refine wpS_bind (wpS_mono (wpS_forRange (I:=fun x c st'=>st'=st1∧∃ na' nb' out' ca cb,c=(none,na',nb',out',ca,cb)∧MH κ a b out' na' nb'∧0 < na'∧na'≤a.size∧1 < nb'∧nb'≤b.size∧x+(na'+nb')≤na+nb)
   (Q:=fun c st'=>st'=st1∧((∃ m r,c=(some m,r)∧zb5 κ a b m)∨∃ na' nb' out' ca cb,c=(none,na',nb',out',ca,cb)∧MH κ a b out' na' nb'∧0 < na'∧na'≤a.size∧1 < nb'∧nb'≤b.size∧1+(na'+nb')≤na+nb)) ?istep ?ifin ⟨rfl,na,nb,out,0,0,rfl,hm,q1,q2,q3,q4,by omega⟩) ?ipost)
  case ifin=>
   rintro c st' ⟨rfl,na',nb',out',ca,cb,rfl,hm',r1,r2,r3,r4,r5⟩;exact ⟨rfl,.inr ⟨_,_,_,ca,cb,rfl,hm',r1,r2,r3,r4,by omega⟩⟩
  case istep=>
   rintro x c st' _ hx ⟨rfl,na',nb',out',ca,cb,rfl,hm',r1,r2,r3,r4,r5⟩;dsimp only;refine wpS_bind (za9 (show nb' - 1 < b.size by omega) (wpS_bind (za9 (show na' - 1 < a.size by omega) (wpS_bind (lt_G hO (by rw[g1.kind];exact hkd) (kb _ (by simp)) (ka _ (by simp)) ?_)))));dsimp only;cases e:κ.blt (ky κ (b[nb' - 1]'(by omega))) (ky κ (a[na' - 1]'(by omega))) with
   | true=>
    simp only[if_true];have hm2:=hm'.pa sa r1 r2 (fun y hy=>le_trans (ze1 sb (by omega) r4 y hy) (show le κ (b[nb' - 1]'(by omega)) (a[na' - 1]'(by omega)) from KeyOrd.kle_of_klt e));refine wpS_bind (za9 (show na' - 1 < a.size by omega) ?_);by_cases z:na' - 1=0
    ·rw[if_pos (by simpa using z)];exact wpS_pure ⟨rfl,.inl ⟨_,_,rfl,hm2.done sb z⟩⟩
    ·rw[if_neg (by simpa using z)];split
     ·exact wpS_pure ⟨rfl,.inr ⟨_,_,_,_,_,rfl,hm2,by omega,by omega,by omega,by omega,by omega⟩⟩
     ·exact wpS_pure ⟨rfl,_,_,_,_,_,rfl,hm2,by omega,by omega,by omega,by omega,by omega⟩
   | false=>
    simp only[yaM,if_false];have hm2:=hm'.pb sb (by omega) r4 (fun y hy=>le_trans (ze1 sa r1 r2 y hy) (show le κ (a[na' - 1]'(by omega)) (b[nb' - 1]'(by omega)) from e));refine wpS_bind (za9 (show nb' - 1 < b.size by omega) ?_);by_cases z:nb' - 1=1
    ·rw[if_pos (by simpa using z)];exact wpS_pure ⟨rfl,.inl ⟨_,_,rfl,hm2.first sa sb (fst _ (by omega))⟩⟩
    ·rw[if_neg (by simpa using z)];split
     ·exact wpS_pure ⟨rfl,.inr ⟨_,_,_,_,_,rfl,hm2,by omega,by omega,by omega,by omega,by omega⟩⟩
     ·exact wpS_pure ⟨rfl,_,_,_,_,_,rfl,hm2,by omega,by omega,by omega,by omega,by omega⟩
  case ipost=>
   rintro c st' ⟨rfl,⟨m,r,rfl,hmm⟩ | ⟨na',nb',out,ca,cb,rfl,hm,q1,q2,q3,q4,q6⟩⟩
   ·exact wpS_pure ⟨g1,m,_,rfl,hmm⟩
   dsimp only;refine wpS_bind (zc7 ?_);refine wpS_bind (wpS_mono (wpS_forRange (I:=fun x c st''=>SG st st''∧∃ na1 nb1 out1 gg ca cb,c=(none,na1,nb1,out1,gg,ca,cb)∧MH κ a b out1 na1 nb1∧0 < na1∧na1≤a.size∧1 < nb1∧nb1≤b.size∧1+(na1+nb1)≤na+nb)
    (Q:=fun c st''=>SG st st''∧((∃ m r,c=(some m,r)∧zb5 κ a b m)∨∃ na1 nb1 out1 gg ca cb,c=(none,na1,nb1,out1,gg,ca,cb)∧MH κ a b out1 na1 nb1∧0 < na1∧na1≤a.size∧1 < nb1∧nb1≤b.size∧1+(na1+nb1)≤na+nb)) ?jstep ?jfin ⟨g1,_,_,_,_,_,_,rfl,hm,q1,q2,q3,q4,q6⟩) ?jpost)
   case jfin=>
    rintro c st'' ⟨g2,na1,nb1,out1,gg1,ca1,cb1,rfl,r⟩;exact ⟨g2,.inr ⟨_,_,_,_,_,_,rfl,r⟩⟩
   case jpost=>
    rintro c st'' ⟨g2,⟨m,r,rfl,hmm⟩ | ⟨na1,nb1,out1,gg1,ca1,cb1,rfl,hm1,t1,t2,t3,t4,t5⟩⟩
    ·exact wpS_pure ⟨g2,m,_,rfl,hmm⟩
    ·dsimp only;exact wpS_bind (zcz g2 fun st3 g3=>wpS_pure ⟨g3,_,_,_,_,rfl,hm1,t1,t2,t3,t4,by omega⟩)
   case jstep=>
    rintro x c st'' _ hx ⟨g2,na1,nb1,out1,gg1,ca1,cb1,rfl,hm1,t1,t2,t3,t4,t5⟩;dsimp only;apply mp2
    case m=>
     intro key;by_cases hg:gg1 > 1
     ·rw[if_pos hg];generalize gg1 - 1=gg2
      revert gg2
      exact key
     ·rw[if_neg hg];generalize gg1=gg2
      revert gg2
      exact key
    intro gg2;refine wpS_bind (zcz g2 fun st3 g3=>?_);refine wpS_bind (za9 (show nb1 - 1 < b.size by omega) (wpS_bind (zcS hO (by rw[g3.kind];exact hkd) (kb _ (by simp)) ka (by omega) (by omega) (zgT sa _ _ (by omega)) fun at0 k1 k2 k3=>?_)));dsimp only;have hmk:MH κ a b (out1++(a.extract at0 na1).reverse) at0 nb1:=hm1.goA sa k1 (by
     rw[yaR,ycg,yb1,ycx,zmX]) fun x hx y hy=>by
     rw[ycf]at hx;obtain ⟨j,j1,j2,j3⟩:=zel hx;have q:=k3 (at0+j) (by omega) (by omega);unfold bey at q;rw[if_neg (by decide),ybt,zde j3,ycw]at q;exact le_trans (ze1 sb (by omega) t4 y hy) (show le κ (b[nb1 - 1]'(by omega)) x from KeyOrd.kle_of_klt q)
    have hnb:nb1 - 1 < b.size:=by omega
    have bk:∀ y∈a.toList.take at0,le κ y (b[nb1 - 1]'hnb):=fun y hy=>by
     have hy':y∈(a.toList.drop 0).take at0:=by rw[ych];exact hy
     obtain ⟨j,j1,j2,j3⟩:=zel hy';have q:=k2 j j1;unfold bey at q;rw[if_neg (by decide),zde j3,ybj]at q;exact q
    apply mp2
    case m=>
     by_cases hk:na1 - at0 > 0
     ·by_cases z:at0=0
      ·intro h;clear h;rw[if_pos hk,if_pos (by simpa using z)];exact wpS_pure ⟨g3,.inl ⟨_,_,rfl,hmk.done sb z⟩⟩
      have w1:0 < at0:=by omega
      have w2:at0≤a.size:=by omega
      have w3:1+(at0+nb1)≤na+nb:=by omega
      have z0:¬(at0 == 0)=true:=by simpa using z
      intro key;rw[if_pos hk,if_neg z0];refine (?_:MH κ a b (out1++(a.extract at0 na1).reverse) at0 nb1→(∀ y∈a.toList.take at0,le κ y (b[nb1 - 1]'hnb))→0 < at0→at0≤a.size→1+(at0+nb1)≤na+nb→_) hmk bk w1 w2 w3;generalize out1++(a.extract at0 na1).reverse=out2;generalize na1 - at0=cnt;generalize at0=na2
      revert out2 cnt na2
      exact key
     ·have e0:at0=na1:=by omega
      rw[e0]at bk;intro key;rw[if_neg hk];refine (?_:MH κ a b out1 na1 nb1→(∀ y∈a.toList.take na1,le κ y (b[nb1 - 1]'hnb))→0 < na1→na1≤a.size→1+(na1+nb1)≤na+nb→_) hm1 bk t1 t2 t5;generalize na1 - at0=cnt;generalize na1=na2;generalize out1=out2;exact key out2 cnt na2
    intro out2 cnt na2 hm2 u2 w1 w2 w3;refine wpS_bind (za9 (show nb1 - 1 < b.size by omega) ?_);have hm3:=hm2.pb sb (by omega) (by omega) u2;by_cases z2:nb1 - 1=1
    ·rw[if_pos (by simpa using z2)];exact wpS_pure ⟨g3,.inl ⟨_,_,rfl,hm3.first sa sb (fst _ (by omega))⟩⟩
    ·rw[if_neg (by simpa using z2)];refine wpS_bind (za9 (show na2 - 1 < a.size by omega) (wpS_bind (zcS hO (by rw[g3.kind];exact hkd) (ka _ (by simp)) kb (by omega) (by omega) (zgT sb _ _ (by omega)) fun at' c1 c2 c3=>?_)));dsimp only;have lt5:∀ hq:0 < at',le κ (b[at' - 1]'(by omega)) (a[na2 - 1]'(by omega)):=fun hq=>by
      have q:=c2 (at' - 1) (by omega);unfold bey at q;rw[if_pos rfl,ybt,zba (by omega)]at q;exact KeyOrd.kle_of_klt q
     have hm4:MH κ a b (out2.push (b[nb1 - 1]'(by omega))++(b.extract at' (nb1 - 1)).reverse) na2 at':=hm3.goB sb c1 (by
      rw[yaR (ys:=(b.extract at' (nb1 - 1)).reverse),ycg,yb1,ycx,zmX]) fun x hx y hy=>by
      rw[ycf]at hx;obtain ⟨j,j1,j2,j3⟩:=zel hx;have q:=c3 (at'+j) (by omega) (by omega);unfold bey at q;rw[if_pos rfl,ybt,zde j3]at q;exact le_trans (ze1 sa (by omega) (by omega) y hy) (show le κ (a[na2 - 1]'(by omega)) x from q)
     by_cases hk':nb1 - 1 - at' > 0
     ·rw[if_pos hk'];by_cases z3:at'=1
      ·rw[if_pos (by simpa using z3)];exact wpS_pure ⟨g3,.inl ⟨_,_,rfl,hm4.first sa sb (fst _ (by omega))⟩⟩
      rw[if_neg (by simpa using z3)];by_cases z3':at'=0
      ·rw[if_pos (by simpa using z3')];exact wpS_pure ⟨g3,.inl ⟨_,_,rfl,hm4.doneB sa z3'⟩⟩
      rw[if_neg (by simpa using z3')];refine wpS_bind (za9 (show na2 - 1 < a.size by omega) ?_);have hm5:=hm4.pa sa (by omega) (by omega) fun y hy=>le_trans (ze1 sb (by omega) (by omega) y hy) (lt5 (by omega));by_cases z4:na2 - 1=0
      ·rw[if_pos (by simpa using z4)];exact wpS_pure ⟨g3,.inl ⟨_,_,rfl,hm5.done sb z4⟩⟩
      ·rw[if_neg (by simpa using z4)];split
       ·exact wpS_pure ⟨g3,.inr ⟨_,_,_,_,_,_,rfl,hm5,by omega,by omega,by omega,by omega,by omega⟩⟩
       ·exact wpS_pure ⟨g3,_,_,_,_,_,_,rfl,hm5,by omega,by omega,by omega,by omega,by omega⟩
     ·rw[if_neg hk'];have e0:at'=nb1 - 1:=by omega
      subst e0
      replace hm4:=hm3
      refine wpS_bind (za9 (show na2 - 1 < a.size by omega) ?_);have hm5:=hm4.pa sa (by omega) (by omega) fun y hy=>le_trans (ze1 sb (by omega) (by omega) y hy) (lt5 (by omega));by_cases z4:na2 - 1=0
      ·rw[if_pos (by simpa using z4)];exact wpS_pure ⟨g3,.inl ⟨_,_,rfl,hm5.done sb z4⟩⟩
      ·rw[if_neg (by simpa using z4)];split
       ·exact wpS_pure ⟨g3,.inr ⟨_,_,_,_,_,_,rfl,hm5,by omega,by omega,by omega,by omega,by omega⟩⟩
       ·exact wpS_pure ⟨g3,_,_,_,_,_,_,rfl,hm5,by omega,by omega,by omega,by omega,by omega⟩
end
end Tim
namespace Tim
open PySem PyProof.Rows
set_option autoImplicit false
section
variable {κ:KeyKind}
def seg (xs:Array Keyed)(lo n:Nat):List Keyed:=(xs.toList.drop lo).take n
theorem zfS {xs:Array Keyed}{lo n i:Nat}(h:lo+n≤xs.size)(hi:i < n):(seg xs lo n)[i]?=xs[lo+i]?:=by
 unfold seg;rw[ybL,if_pos hi,ybu,ya3]
theorem zcg {xs:Array Keyed}{lo n:Nat}(h:lo+n≤xs.size):(seg xs lo n).length=n:=by
 unfold seg;rw[yar,yaL,yav];omega
theorem zoR {xs:Array Keyed}{lo n:Nat}(h:lo+n≤xs.size)(hU:Up κ xs lo (lo+n)):SL κ (seg xs lo n):=by
 rw[SL,yba];intro i j hi hj hij;have hi':=hi;have hj':=hj;rw[zcg h]at hi' hj';have e1:(seg xs lo n)[i]=xs[lo+i]'(by omega):=by
  have:=zfS h hi';rw[yac hi,ya1 (by omega)]at this;exact yag this
 have e2:(seg xs lo n)[j]=xs[lo+j]'(by omega):=by
  have:=zfS h hj';rw[yac hj,ya1 (by omega)]at this;exact yag this
 rw[e1,e2];have:=hU (lo+i) (lo+j) (by omega) (by omega) (by omega);rw[zba (by omega),zba (by omega)]at this;exact this
theorem zkL {xs:Array Keyed}{lo n m:Nat}:seg xs lo (n+m)=seg xs lo n++seg xs (lo+n) m:=by
 unfold seg;rw[List.take_add,yca]
theorem zg0 {xs:Array Keyed}{lo n:Nat}:(xs.extract lo (lo+n)).toList=seg xs lo n:=zfb
theorem zlT {xs:Array Keyed}{lo n:Nat}(h:lo+n≤xs.size):xs.toList=xs.toList.take lo++(seg xs lo n++xs.toList.drop (lo+n)):=by
 unfold seg;rw[← yca,yaZ,yaZ]
def back (xs:Array Keyed)(lo:Nat)(m:Array Keyed):Array Keyed:=m.toList.zipIdx.foldl (fun a (q:Keyed×Nat)=>a.setIfInBounds (lo+q.2) q.1) xs
theorem zjq (lo:Nat):∀(l:List Keyed) (k:Nat) (xs:Array Keyed),lo+k+l.length≤xs.size→∀ i:Nat,
  ((l.zipIdx k).foldl (fun a (q:Keyed×Nat)=>a.setIfInBounds (lo+q.2) q.1) xs)[i]?=if lo+k≤i∧i < lo+k+l.length then l[i - (lo+k)]? else xs[i]?
 | [],k,xs,h,i=>by
  rw[if_neg (by simp only[ybF];omega)];rfl
 | x::l,k,xs,h,i=>by
  rw[yaK]at h;rw[List.zipIdx_cons,List.foldl_cons,zjq lo l (k+1) (xs.setIfInBounds (lo+k) x) (by rw[Array.size_setIfInBounds];omega) i,yaK];by_cases h1:lo+(k+1)≤i∧i < lo+(k+1)+l.length
  ·rw[if_pos h1,if_pos (by omega),show i - (lo+k)=(i - (lo+(k+1)))+1 by omega,yci]
  ·rw[if_neg h1,Array.getElem?_setIfInBounds];by_cases h2:lo+k=i
   ·rw[if_pos h2,if_pos (by omega),if_pos (by omega)];subst h2;simp
   ·rw[if_neg h2,if_neg (by omega)]
theorem znk {xs m:Array Keyed}{lo:Nat}(h:lo+m.size≤xs.size):(back xs lo m).toList=xs.toList.take lo++(m.toList++xs.toList.drop (lo+m.size)):=by
 apply ybf;intro i;have q:=zjq lo m.toList 0 xs (by rw[yav];omega) i;unfold back;rw[ya3,q,yav,ybr];have l1:(xs.toList.take lo).length=lo:=by rw[yar,yav];omega
 by_cases h1:i < lo
 ·rw[if_neg (by omega),ya0 (by rw[l1];exact h1),ybL,if_pos h1,ya3]
 ·rw[yaP (by rw[l1];omega),l1];by_cases h2:i < lo+m.size
  ·rw[if_pos (by omega),ya0 (by rw[yav];omega)]
  ·rw[if_neg (by omega),yaP (by rw[yav];omega),yav,ybu,show lo+m.size+(i - lo - m.size)=i by omega,ya3]
theorem zeW {xs m:Array Keyed}{lo:Nat}(h:lo+m.size≤xs.size)(i:Nat):(back xs lo m)[i]?=if lo≤i∧i < lo+m.size then m[i - lo]? else xs[i]?:=by
 have q:=zjq lo m.toList 0 xs (by rw[yav];omega) i;rw[yav,ybr,ya3]at q;exact q
theorem zgZ {xs:Array Keyed}{lo n:Nat}{p:Keyed}(h:lo+n≤xs.size)(hp:p∈seg xs lo n):∃ q,lo≤q∧q < lo+n∧xs[q]?=some p:=by
 obtain ⟨i,hi,e⟩:=ybb hp;have hi':=hi;rw[zcg h]at hi';refine ⟨lo+i,by omega,by omega,?_⟩;rw[← zfS h hi',yac hi,e]
theorem zkZ {xs m:Array Keyed}{sa na nb k nb':Nat}(hz:sa+na+nb≤xs.size)(ua:Up κ xs sa (sa+na))(ub:Up κ xs (sa+na) (sa+na+nb))(hk:k < na)(hnb:nb'≤nb)(hb0:0 < nb')
  (k2:∀ i,i < k→κ.kle (kAt κ xs (sa+i)) (kAt κ xs (sa+na))) (c3:∀ i,nb'≤i→i < nb→κ.kle (kAt κ xs (sa+na - 1)) (kAt κ xs (sa+na+i)))
  (hm:zb5 κ (xs.extract (sa+k) (sa+na)) (xs.extract (sa+na) (sa+na+nb')) m) :
  Off xs (back xs (sa+k) m) sa (sa+(na+nb))∧Up κ (back xs (sa+k) m) sa (sa+(na+nb)):=by
 have ex:(xs.extract (sa+k) (sa+na)).toList=seg xs (sa+k) (na - k):=by
  have:=zg0 (xs:=xs) (lo:=sa+k) (n:=na - k);rwa[show sa+k+(na - k)=sa+na by omega]at this
 have ey:(xs.extract (sa+na) (sa+na+nb')).toList=seg xs (sa+na) nb':=zg0;have hp:=hm.perm;rw[ex,ey]at hp;have ms:m.size=na - k+nb':=by
  have:=hp.length_eq;rw[yav,yaf,zcg (by omega),zcg (by omega)]at this;exact this
 have hzm:sa+k+m.size≤xs.size:=by omega
 have bl:=znk hzm;have mid:seg xs (sa+k) m.size=seg xs (sa+k) (na - k)++seg xs (sa+na) nb':=by
  rw[ms,zkL,show sa+k+(na - k)=sa+na by omega]
 have perm:(back xs (sa+k) m).toList.Perm xs.toList:=by
  have e:=zlT hzm;rw[mid]at e;refine (List.Perm.of_eq bl).trans (List.Perm.trans ?_ (List.Perm.of_eq e.symm));exact List.Perm.append_left _ (List.Perm.append_right _ hp)
 have inm:∀ i,sa+k≤i→i < sa+k+m.size→∃ q,sa+k≤q∧q < sa+na+nb'∧kAt κ (back xs (sa+k) m) i=kAt κ xs q:=by
  intro i h1 h2;have g:=zeW hzm i;rw[if_pos ⟨h1,h2⟩,ya1 (show i - (sa+k) < m.size by omega)]at g;have hmem:m[i - (sa+k)]'(by omega)∈m.toList:=by simp
  rcases yai.mp (hp.mem_iff.mp hmem) with z | z
  ·obtain ⟨q,q1,q2,e⟩:=zgZ (by omega) z;exact ⟨q,q1,by omega,zbt (g.trans e.symm)⟩
  ·obtain ⟨q,q1,q2,e⟩:=zgZ (by omega) z;exact ⟨q,by omega,q2,zbt (g.trans e.symm)⟩
 have outm:∀ i,(i < sa+k∨sa+k+m.size≤i)→kAt κ (back xs (sa+k) m) i=kAt κ xs i:=fun i h=>zbt (by rw[zeW hzm,if_neg (by omega)]);have am:∀ i q,sa≤i→i < sa+k→sa+k≤q→q < sa+na+nb→κ.kle (kAt κ xs i) (kAt κ xs q):=fun i q h1 h2 h3 h4=>by
  by_cases z:q < sa+na
  ·exact ua i q h1 (by omega) z
  ·have t:=k2 (i - sa) (by omega);rw[show sa+(i - sa)=i by omega]at t;exact KeyOrd.kle_trans t (ub _ q (yaa _) (by omega) h4)
 have mc:∀ q j,sa+k≤q→q < sa+na+nb'→sa+na+nb'≤j→j < sa+na+nb→κ.kle (kAt κ xs q) (kAt κ xs j):=fun q j h1 h2 h3 h4=>by
  by_cases z:q < sa+na
  ·have t:=c3 (j - (sa+na)) (by omega) (by omega);rw[show sa+na+(j - (sa+na))=j by omega]at t;exact KeyOrd.kle_trans (ua q (sa+na - 1) (by omega) (by omega) (by omega)) t
  ·exact ub q j (by omega) (by omega) h4
 refine ⟨⟨ycv.mpr perm,fun i hi=>by rw[zeW hzm,if_neg (by omega)]⟩,fun i j h1 h2 h3=>?_⟩;by_cases i1:i < sa+k
 ·rw[outm i (.inl i1)];by_cases j1:j < sa+k
  ·rw[outm j (.inl j1)];exact ua i j h1 h2 (by omega)
  ·by_cases j2:j < sa+k+m.size
   ·obtain ⟨q,q1,q2,e⟩:=inm j (by omega) j2;rw[e];exact am i q h1 i1 q1 (by omega)
   ·rw[outm j (.inr (by omega))];exact am i j h1 i1 (by omega) (by omega)
 ·by_cases i2:i < sa+k+m.size
  ·by_cases j2:j < sa+k+m.size
   ·by_cases e:i=j
    ·subst e;exact KeyOrd.kle_refl _
    ·have gi:=zeW hzm i;have gj:=zeW hzm j;rw[if_pos ⟨by omega,i2⟩]at gi;rw[if_pos ⟨by omega,j2⟩]at gj;rw[zbt gi,zbt gj,zba (show i - (sa+k) < m.size by omega),zba (show j - (sa+k) < m.size by omega)];have:=yba.mp hm.srt (i - (sa+k)) (j - (sa+k)) (by rw[yav];omega) (by rw[yav];omega) (by omega);simpa [le] using this
   ·obtain ⟨q,q1,q2,e⟩:=inm i (by omega) i2;rw[e,outm j (.inr (by omega))];exact mc q j q1 q2 (by omega) (by omega)
  ·rw[outm i (.inr (by omega)),outm j (.inr (by omega))];exact ub i j (by omega) h2 (by omega)
theorem zlt {xs:Array Keyed}{sa na nb:Nat}(ua:Up κ xs sa (sa+na))(ub:Up κ xs (sa+na) (sa+na+nb))(hna:0 < na)(hle:κ.kle (kAt κ xs (sa+na - 1)) (kAt κ xs (sa+na))):Up κ xs sa (sa+(na+nb)):=by
 intro i j h1 h2 h3;by_cases z:j < sa+na
 ·exact ua i j h1 h2 z
 ·by_cases y:i < sa+na
  ·exact KeyOrd.kle_trans (ua i (sa+na - 1) h1 (by omega) (by omega)) (KeyOrd.kle_trans hle (ub (sa+na) j (yaa _) (by omega) (by omega)))
  ·exact ub i j (by omega) h2 (by omega)
end
end Tim
namespace Tim
open PySem PyProof.Rows
set_option autoImplicit false
theorem ziX (i:Nat):mergeAt' i=(do
 let s ← get
 let (some (sa,na,power),some (sb,nb,_)):=((pendingOf s)[i]?,(pendingOf s)[i+1]?) | unsupported "internal:list.sort.pending"
 set (setPending s (((pendingOf s).setIfInBounds i (sa,na+nb,power)).eraseIdxIfInBounds (i+1)))
 let some k ← zja false (← elem' (arrOf s) sb) (arrOf s) sa na 0 | return false
 let (sa,na):=(sa+k,na - k)
 if na == 0 then return true
 let some nb ← zja true (← elem' (arrOf s) (sa+na - 1)) (arrOf s) sb nb (nb - 1) | return false
 if nb == 0 then return true
 let x:=(arrOf s).extract sa sb
 let y:=(arrOf s).extract sb (sb+nb)
 let merged ← if na≤nb then zj7 x y else zj8 x y
 modify fun s=>setArr s (merged.toList.zipIdx.foldl (fun a (p,j)=>a.setIfInBounds (sa+j) p) (arrOf s))
 return (failedOf (← get)).isNone):=rfl
section
variable {prog:Program}{w:World}{A:Around}{E:Value→Shared→Prop}{s:Shared}{κ:KeyKind}{kd:SortKind}
theorem zpe {σ:Type}{x:σ}{Q:PUnit→σ→Prop}{st:σ}(h:Q ⟨⟩ x):wpS (model prog w) A E s (set x:StateT σ Sem PUnit) Q st:=by
 unfold wpS;rw[StateT.run_set];exact wpAny_pure ⟨rfl,h⟩
set_option maxHeartbeats 4000000 in
theorem zkA {st:SortSt}{N i sa na pa nb pb:Nat}{Q:Bool→SortSt→Prop}(hO:LtG prog w A s κ kd)(hB:TB κ kd N st)
  (h1:(pendingOf st)[i]?=some (sa,na,pa)) (h2:(pendingOf st)[i+1]?=some (sa+na,nb,pb)) (hna:0 < na) (hnb:0 < nb) (hz:sa+na+nb≤N)
  (ua:Up κ (arrOf st) sa (sa+na)) (ub:Up κ (arrOf st) (sa+na) (sa+na+nb))
  (h:∀ st',TB κ kd N st'→Off (arrOf st) (arrOf st') sa (sa+(na+nb))→Up κ (arrOf st') sa (sa+(na+nb))→pendingOf st'=((pendingOf st).setIfInBounds i (sa,na+nb,pa)).eraseIdxIfInBounds (i+1)→Q true st') :
  wpS (model prog w) A E s (mergeAt' i) Q st:=by
 have hsz:=hB.size;rw[ziX];refine wpS_bind (wpS_get ?_);rw[h1,h2];dsimp only;refine wpS_bind (zpe ?_);generalize hp:((pendingOf st).setIfInBounds i (sa,na+nb,pa)).eraseIdxIfInBounds (i+1)=pend at h;have same:∀ st',SG (setPending st pend) st'→TB κ kd N st'∧arrOf st'=arrOf st∧pendingOf st'=pend:=fun st' g=>by
  have ga:arrOf st'=arrOf st:=g.arr;refine ⟨⟨g.kind.trans hB.kind,by rw[ga];exact hB.keys,g.failed.trans hB.failed,by rw[ga];exact hB.size⟩,ga,g.pend⟩
 obtain ⟨B0,_,_⟩:=same _ (SG.refl _);have hbz:sa+na < (arrOf st).size:=by omega
 refine wpS_bind (za9 hbz ?_);refine wpS_bind (zcS hO B0.kind (hB.keys _ (by simp)) hB.keys (by omega) hna ua fun k k1 k2 k3=>?_);dsimp only;have kk:kAt κ (arrOf st) (sa+na)=ky κ (arrOf st)[sa+na]:=zba hbz;have k2':∀ i,i < k→κ.kle (kAt κ (arrOf st) (sa+i)) (kAt κ (arrOf st) (sa+na)):=fun i hi=>by
  have:=k2 i hi;unfold bey at this;simp only[yaM,if_false,ybj]at this;rw[kk];exact this
 have k3':∀ i,k≤i→i < na→κ.klt (kAt κ (arrOf st) (sa+na)) (kAt κ (arrOf st) (sa+i)):=fun i hi hj=>by
  have:=k3 i hi hj;unfold bey at this;simp only[yaM,if_false,ycw]at this;rw[kk];exact this
 by_cases e1:na - k=0
 ·rw[if_pos (by simpa using e1)];obtain ⟨b1,b2,b3⟩:=same _ (SG.refl _);refine wpS_pure (h _ b1 (by rw[b2];exact Off.refl _ _ _) ?_ b3);rw[b2];refine zlt ua ub hna ?_;have:=k2' (na - 1) (by omega);rwa[show sa+(na - 1)=sa+na - 1 by omega]at this
 rw[if_neg (by simpa using e1)];have e2:sa+k+(na - k) - 1=sa+na - 1:=by omega
 have hlz:sa+k+(na - k) - 1 < (arrOf st).size:=by omega
 refine wpS_bind (za9 hlz ?_);refine wpS_bind (zcS hO B0.kind (hB.keys _ (by simp)) hB.keys (by omega) (by omega) ub fun c c1 c2 c3=>?_);dsimp only;have ck:ky κ ((arrOf st)[sa+k+(na - k) - 1]'hlz)=kAt κ (arrOf st) (sa+na - 1):=by
  rw[← zba hlz,e2]
 have c2':∀ i,i < c→κ.klt (kAt κ (arrOf st) (sa+na+i)) (kAt κ (arrOf st) (sa+na - 1)):=fun i hi=>by
  have:=c2 i hi;unfold bey at this;simp only[if_true]at this;rw[← ck];exact this
 have c3':∀ i,c≤i→i < nb→κ.kle (kAt κ (arrOf st) (sa+na - 1)) (kAt κ (arrOf st) (sa+na+i)):=fun i hi hj=>by
  have:=c3 i hi hj;unfold bey at this;simp only[if_true]at this;rw[← ck];exact this
 by_cases e3:c=0
 ·rw[if_pos (by simpa using e3)];obtain ⟨b1,b2,b3⟩:=same _ (SG.refl _);refine wpS_pure (h _ b1 (by rw[b2];exact Off.refl _ _ _) ?_ b3);rw[b2];exact zlt ua ub hna (c3' 0 (by omega) hnb)
 rw[if_neg (by simpa using e3)];generalize hX:(arrOf st).extract (sa+k) (sa+na)=X;generalize hY:(arrOf st).extract (sa+na) (sa+na+c)=Y;have xl:X.toList=seg (arrOf st) (sa+k) (na - k):=by
  have:=zg0 (xs:=arrOf st) (lo:=sa+k) (n:=na - k);rw[← hX];rwa[show sa+k+(na - k)=sa+na by omega]at this
 have yl:Y.toList=seg (arrOf st) (sa+na) c:=by rw[← hY];exact zg0
 have xz:X.size=na - k:=by
  have:=congrArg List.length xl;rwa[yav,zcg (by omega)]at this
 have yz:Y.size=c:=by
  have:=congrArg List.length yl;rwa[yav,zcg (by omega)]at this
 have xg:∀ i (hi:i < X.size),X[i]=(arrOf st)[sa+k+i]'(by omega):=fun i hi=>by
  have e:X[i]?=(arrOf st)[sa+k+i]?:=by
   rw[← ya3,xl];exact zfS (by omega) (by omega)
  rw[ya1 hi,ya1 (by omega)]at e;exact yag e
 have yg:∀ i (hi:i < Y.size),Y[i]=(arrOf st)[sa+na+i]'(by omega):=fun i hi=>by
  have e:Y[i]?=(arrOf st)[sa+na+i]?:=by
   rw[← ya3,yl];exact zfS (by omega) (by omega)
  rw[ya1 hi,ya1 (by omega)]at e;exact yag e
 have xm:∀ q∈X.toList,∃ i,k≤i∧i < na∧ky κ q=kAt κ (arrOf st) (sa+i)∧q∈(arrOf st).toList:=fun q hq=>by
  rw[xl]at hq;obtain ⟨j,j1,j2,e⟩:=zgZ (by omega) hq;refine ⟨j - sa,by omega,by omega,?_,?_⟩
  ·rw[show sa+(j - sa)=j by omega,zde e]
  ·rw[← ya3]at e;exact yaQ e
 have ym:∀ q∈Y.toList,∃ i,i < c∧ky κ q=kAt κ (arrOf st) (sa+na+i)∧q∈(arrOf st).toList:=fun q hq=>by
  rw[yl]at hq;obtain ⟨j,j1,j2,e⟩:=zgZ (by omega) hq;refine ⟨j - (sa+na),by omega,?_,?_⟩
  ·rw[show sa+na+(j - (sa+na))=j by omega,zde e]
  ·rw[← ya3]at e;exact yaQ e
 have kX:∀ q∈X.toList,Keyd κ q:=fun q hq=>by obtain ⟨_,_,_,_,z⟩:=xm q hq;exact hB.keys q z
 have kY:∀ q∈Y.toList,Keyd κ q:=fun q hq=>by obtain ⟨_,_,_,z⟩:=ym q hq;exact hB.keys q z
 have sX:SL κ X.toList:=by
  rw[xl];exact zoR (by omega) (fun i j q1 q2 q3=>ua i j (by omega) q2 (by omega))
 have sY:SL κ Y.toList:=by
  rw[yl];exact zoR (by omega) (fun i j q1 q2 q3=>ub i j q1 q2 (by omega))
 have y0:∀(hb:0 < Y.size),ky κ Y[0]=kAt κ (arrOf st) (sa+na):=fun hb=>by
  rw[yg 0 hb,← zba];rfl
 have lo0:∀(hb:0 < Y.size),∀ q∈X.toList,le κ Y[0] q:=fun hb q hq=>by
  obtain ⟨i,i1,i2,e,_⟩:=xm q hq;unfold le;rw[y0 hb,e];exact KeyOrd.kle_of_klt (k3' i i1 i2)
 have xlast:∀(ha:X.size - 1 < X.size),ky κ X[X.size - 1]=kAt κ (arrOf st) (sa+na - 1):=fun ha=>by
  rw[xg _ ha,← zba];congr 1;omega
 have hi0:∀(ha:X.size - 1 < X.size),∀ q∈Y.toList,le κ q X[X.size - 1]:=fun ha q hq=>by
  obtain ⟨i,i1,e,_⟩:=ym q hq;unfold le;rw[xlast ha,e];exact KeyOrd.kle_of_klt (c2' i i1)
 have fin:∀ m st',zb5 κ X Y m→SG (setPending st pend) st'→wpS (model prog w) A E s (do
   modify fun s=>setArr s (m.toList.zipIdx.foldl (fun a (q:Keyed×Nat)=>a.setIfInBounds (sa+k+q.2) q.1) (arrOf s))
   return (failedOf (← get)).isNone) Q st':=fun m st' hm g=>by
  obtain ⟨b1,b2,b3⟩:=same _ g;refine wpS_bind (wpS_modify ?_);refine wpS_bind (wpS_get ?_);have hf:failedOf (setArr st' (m.toList.zipIdx.foldl (fun a (q:Keyed×Nat)=>a.setIfInBounds (sa+k+q.2) q.1) (arrOf st')))=none:=b1.failed;rw[hf];rw[← hX,← hY]at hm;obtain ⟨o1,o2⟩:=zkZ (by omega) ua ub (by omega) c1 (by omega) k2' c3' hm;refine wpS_pure (h _ ?_ ?_ ?_ b3)
  ·refine b1.off (lo:=sa) (hi:=sa+(na+nb)) ?_;rw[b2];exact o1
  ·show Off (arrOf st) (back (arrOf st') (sa+k) m) _ _;rw[b2];exact o1
  ·show Up κ (back (arrOf st') (sa+k) m) _ _;rw[b2];exact o2
 by_cases e4:na - k≤c
 ·rw[if_pos e4];refine wpS_bind ?_;refine zky hO B0.kind kX kY sX sY (by omega) (by omega) (lo0 _) ?_ fun m st' hm g=>fin m st' hm g;intro q hq i hi x hx;have:x=X[X.size - 1]'(by omega):=by
   rw[show i=X.size - 1 by omega,zeV (by omega),ya2 (by rw[yav];omega)]at hx;exact yah.mp hx
  rw[this];exact hi0 _ q hq
 ·rw[if_neg e4];refine wpS_bind ?_;exact zkz hO B0.kind kX kY sX sY (by omega) (by omega) (lo0 _) (hi0 (by omega)) fun m st' hm g=>fin m st' hm g
end
end Tim
namespace Tim
open PySem PyProof.Rows
set_option autoImplicit false
section
variable {κ:KeyKind}{xs ys:Array Keyed}
def Runs (κ:KeyKind)(xs:Array Keyed):List (Nat×Nat×Nat)→Nat→Nat→Prop
 | [],a,b=>a=b
 | (s,n,_)::r,a,b=>s=a∧0 < n∧Up κ xs a (a+n)∧Runs κ xs r (a+n) b
theorem Runs.le:∀{l:List (Nat×Nat×Nat)} {a b:Nat},Runs κ xs l a b→a+l.length≤b
 | [],_,_,h=>by rw[show _=_ from h];simp
 | (s,n,p)::r,a,b,⟨_,h1,_,h2⟩=>by
  have:=Runs.le h2;rw[yaK];omega
theorem Runs.split:∀{l m:List (Nat×Nat×Nat)} {a b:Nat},Runs κ xs (l++m) a b→∃ c,Runs κ xs l a c∧Runs κ xs m c b
 | [],m,a,b,h=>⟨a,rfl,h⟩
 | (s,n,p)::r,m,a,b,⟨h0,h1,h2,h3⟩=>by
  obtain ⟨c,c1,c2⟩:=Runs.split (l:=r) h3;exact ⟨c,⟨h0,h1,h2,c1⟩,c2⟩
theorem Runs.glue:∀{l m:List (Nat×Nat×Nat)} {a b c:Nat},Runs κ xs l a c→Runs κ xs m c b→Runs κ xs (l++m) a b
 | [],m,a,b,c,h,g=>by rw[show a=c from h];exact g
 | (s,n,p)::r,m,a,b,c,⟨h0,h1,h2,h3⟩,g=>⟨h0,h1,h2,Runs.glue h3 g⟩
theorem Up.off {lo hi a b:Nat}(h:Up κ xs a b)(o:Off xs ys lo hi)(d:b≤lo∨hi≤a):Up κ ys a b:=fun i j h1 h2 h3=>by
 rw[zi5 o (by omega),zi5 o (by omega)];exact h i j h1 h2 h3
theorem Runs.off {lo hi:Nat}(o:Off xs ys lo hi):∀{l:List (Nat×Nat×Nat)} {a b:Nat},Runs κ xs l a b→(b≤lo∨hi≤a)→Runs κ ys l a b
 | [],_,_,h,_=>h
 | (s,n,p)::r,a,b,⟨h0,h1,h2,h3⟩,d=>by
  have:=Runs.le h3;exact ⟨h0,h1,h2.off o (by omega),Runs.off o h3 (by omega)⟩
theorem zhU {α:Type}{x y v:α}{post:List α}:∀ pre:List α,((pre++x::y::post).set pre.length v).eraseIdx (pre.length+1)=pre++v::post
 | []=>rfl
 | p::pre=>by
  rw[List.cons_append,yaK,List.set_cons_succ,List.eraseIdx_cons_succ,zhU pre,List.cons_append]
end
section
variable {prog:Program}{w:World}{A:Around}{E:Value→Shared→Prop}{s:Shared}{κ:KeyKind}{kd:SortKind}
structure SI (κ:KeyKind)(kd:SortKind)(a₀:Array Keyed)(lo:Nat)(st:SortSt):Prop where
 tb:TB κ kd a₀.size st
 perm:(arrOf st).Perm a₀
 le:lo≤a₀.size
 runs:Runs κ (arrOf st) (pendingOf st).toList 0 lo
theorem zdq {a₀:Array Keyed}{st:SortSt}{lo i:Nat}{Q:Bool→SortSt→Prop}(hO:LtG prog w A s κ kd)(hI:SI κ kd a₀ lo st)(hi:i+1 < (pendingOf st).size)
  (h:∀ st',SI κ kd a₀ lo st'→Off (arrOf st) (arrOf st') 0 lo→(pendingOf st').size+1=(pendingOf st).size→Q true st'):wpS (model prog w) A E s (mergeAt' i) Q st:=by
 have hl:(pendingOf st).toList.length=(pendingOf st).size:=yav;obtain ⟨pre,x,y,post,e,hp⟩:∃ pre x y post,(pendingOf st).toList=pre++x::y::post∧pre.length=i:=by
  refine ⟨(pendingOf st).toList.take i,(pendingOf st).toList[i]'(by omega),(pendingOf st).toList[i+1]'(by omega),(pendingOf st).toList.drop (i+2),?_,?_⟩
  ·rw[← yb9,← yb9,yaZ]
  ·rw[yar];omega
 obtain ⟨sa,na,pa⟩:=x;obtain ⟨sb,nb,pb⟩:=y;have hr:=hI.runs;rw[e]at hr;obtain ⟨c,r1,h0,h1,ua,h2,h3,ub,r2⟩:=hr.split;subst h0 h2;have l1:=r2.le;have l0:=hI.le;have g1:(pendingOf st)[i]?=some (sa,na,pa):=by
  rw[← ya3,e,← hp];simp
 have g2:(pendingOf st)[i+1]?=some (sa+na,nb,pb):=by
  rw[← ya3,e,← hp,yaP (by omega),show pre.length+1 - pre.length=1 by omega];rfl
 refine zkA hO hI.tb g1 g2 h1 h3 (by omega) ua ub fun st' b1 b2 b3 b4=>?_;have e':(pendingOf st').toList=pre++(sa,na+nb,pa)::post:=by
  rw[b4,Array.toList_eraseIdxIfInBounds,Array.toList_setIfInBounds,e,← hp];exact zhU pre
 refine h st' ⟨b1,b2.perm.trans hI.perm,hI.le,?_⟩ (b2.wide (yaE _) (by omega)) ?_
 ·rw[e'];refine (r1.off b2 (.inl (yaa _))).glue ⟨rfl,by omega,b3,?_⟩;have:=r2.off b2 (.inr (by omega));rwa[show sa+na+nb=sa+(na+nb) by omega]at this
 ·have z1:=congrArg List.length e;have z2:=congrArg List.length e';rw[yav,yaf,yaK]at z1 z2;rw[yaK]at z1;omega
end
end Tim
namespace Tim
open PySem PyProof.Rows
set_option autoImplicit false
section
variable {prog:Program}{w:World}{A:Around}{E:Value→Shared→Prop}{s:Shared}{κ:KeyKind}{kd:SortKind}
theorem Runs.modify {xs:Array Keyed}{p:Nat}:∀{l:List (Nat×Nat×Nat)} {a b:Nat} (i:Nat),Runs κ xs l a b→Runs κ xs (l.modify i fun x=>(x.fst,x.2.fst,p)) a b
 | [],_,_,i,h=>by
  cases i <;> exact h
 | (s,n,q)::r,a,b,0,h=>h
 | (s,n,q)::r,a,b,i+1,⟨h0,h1,h2,h3⟩=>⟨h0,h1,h2,Runs.modify i h3⟩
theorem SI.setp {a₀:Array Keyed}{lo hi:Nat}{st:SortSt}{p:Array (Nat×Nat×Nat)}(hI:SI κ kd a₀ lo st)(hz:hi≤a₀.size)(hr:Runs κ (arrOf st) p.toList 0 hi):SI κ kd a₀ hi (setPending st p):=
 ⟨⟨hI.tb.kind,hI.tb.keys,hI.tb.failed,hI.tb.size⟩,hI.perm,hz,hr⟩
theorem SI.pushed {a₀:Array Keyed}{st:SortSt}{lo n:Nat}(hI:SI κ kd a₀ lo st)(hn:0 < n)(hz:lo+n≤a₀.size)(hU:Up κ (arrOf st) lo (lo+n)):SI κ kd a₀ (lo+n) (setPending st ((pendingOf st).push (lo,n,0))):=by
 refine hI.setp hz ?_;rw[ybZ];exact hI.runs.glue ⟨rfl,hn,hU,rfl⟩
theorem SI.marked {a₀:Array Keyed}{st:SortSt}{lo p:Nat}(hI:SI κ kd a₀ lo st):SI κ kd a₀ lo (setPending st ((pendingOf st).modify ((pendingOf st).size - 1) fun x=>(x.fst,x.2.fst,p))):=by
 refine hI.setp hI.le ?_;rw[Array.toList_modify];exact hI.runs.modify _
theorem zns {c:Prop}[Decidable c]{n:Nat}(h:2≤n):(if c then n - 2 - 1 else n - 2)+1 < n:=by
 split <;> omega
theorem ziJ {a₀:Array Keyed}{st:SortSt}{Q:Unit→SortSt→Prop}(hO:LtG prog w A s κ kd)(hI:SI κ kd a₀ 0 st)(h2:2≤a₀.size)
  (h:∀ st',(arrOf st').Perm a₀→failedOf st'=none→Up κ (arrOf st') 0 a₀.size→Q () st'):wpS (model prog w) A E s sortRuns' Q st:=by
 rw[sortRuns'_eq];refine wpS_bind (wpS_get ?_);dsimp only;simp only[hI.tb.size];generalize minRun' a₀.size a₀.size 0=mr;refine wpS_bind (wpS_mono (wpS_forRange (I:=fun x c st'=>∃ lo,c=(none,lo)∧x≤lo∧SI κ kd a₀ lo st') (Q:=fun c st'=>c=(none,a₀.size)∧SI κ kd a₀ a₀.size st') ?step ?fin ⟨0,rfl,yaa _,hI⟩) ?post)
 case fin=>
  rintro c st' ⟨lo,rfl,hx,hI'⟩;have e:lo=a₀.size:=by
   have:=hI'.le;omega
  subst e;exact ⟨rfl,hI'⟩
 case step=>
  rintro x c st' _ hx ⟨lo,rfl,hxl,hI'⟩;have hle:=hI'.le;dsimp only;by_cases hlo:lo ≥ a₀.size
  ·rw[if_pos hlo];have e:lo=a₀.size:=by omega
   subst e;exact wpS_pure ⟨rfl,hI'⟩
  ·rw[if_neg hlo];refine wpS_bind (ziK hO hI'.tb (by omega) (by omega) fun r st2 hr=>?_);obtain ⟨n,ys,rfl,n1,n2,rfl,ho,hU⟩:=hr;have hI2:SI κ kd a₀ lo (setArr st' ys):=⟨hI'.tb.off ho,ho.perm.trans hI'.perm,hle,hI'.runs.off ho (.inl (yaa _))⟩;dsimp only;by_cases hmr:n < mr
   ·rw[if_pos hmr];refine wpS_bind (zc7 (wpS_bind (zgP hO hI2.tb (by omega) (by omega) hU fun zs oz uz=>?_)));simp only[ybM,yaM,if_false];have hI3:SI κ kd a₀ lo (setArr st' zs):=⟨hI2.tb.off oz,oz.perm.trans hI2.perm,hle,hI2.runs.off oz (.inl (yaa _))⟩;refine wpS_bind (wpS_get ?_);cases hb:(pendingOf (setArr st' zs)).back? with
    | none=>
     dsimp only;exact wpS_bind (wpS_modify (wpS_pure ⟨_,rfl,by omega,hI3.pushed (by omega) (by omega) uz⟩))
    | some x1=>
     obtain ⟨s1,n1',p1⟩:=x1;dsimp only;refine wpS_bind (wpS_mono (wpS_forRange (I:=fun _ c st5=>c=(none,())∧SI κ kd a₀ lo st5∧Up κ (arrOf st5) lo (lo+(min (a₀.size - lo) mr))) (Q:=fun c st5=>c=(none,())∧SI κ kd a₀ lo st5∧Up κ (arrOf st5) lo (lo+(min (a₀.size - lo) mr))) ?_ (fun _ _ z=>z) ⟨rfl,hI3,uz⟩) ?_)
     ·rintro i c st5 _ _ ⟨rfl,hI5,hU5⟩;refine wpS_bind (wpS_get ?_);by_cases h1:(pendingOf st5).size > 1
      ·rw[if_pos h1,ya1 (by omega)];obtain ⟨q1,q2,q3⟩:=(pendingOf st5)[(pendingOf st5).size - 2]'(by omega);dsimp only;split
       ·exact wpS_pure ⟨rfl,hI5,hU5⟩
       ·refine wpS_bind (zdq hO hI5 (by omega) fun st6 h3 h4 _=>?_);simp only[ybM,yaM,if_false];exact wpS_pure ⟨rfl,h3,hU5.off h4 (.inr (yaa _))⟩
      ·rw[if_neg h1];exact wpS_pure ⟨rfl,hI5,hU5⟩
     ·rintro c st5 ⟨rfl,hI5,hU5⟩;dsimp only;exact wpS_bind (wpS_modify (wpS_bind (wpS_modify (wpS_pure ⟨_,rfl,by omega,SI.pushed (SI.marked hI5) (by omega) (by omega) hU5⟩))))
   ·rw[if_neg hmr];refine wpS_bind (wpS_get ?_);cases hb:(pendingOf (setArr st' ys)).back? with
    | none=>
     dsimp only;exact wpS_bind (wpS_modify (wpS_pure ⟨_,rfl,by omega,hI2.pushed (by omega) (by omega) hU⟩))
    | some x1=>
     obtain ⟨s1,n1',p1⟩:=x1;dsimp only;refine wpS_bind (wpS_mono (wpS_forRange (I:=fun _ c st5=>c=(none,())∧SI κ kd a₀ lo st5∧Up κ (arrOf st5) lo (lo+n)) (Q:=fun c st5=>c=(none,())∧SI κ kd a₀ lo st5∧Up κ (arrOf st5) lo (lo+n)) ?_ (fun _ _ z=>z) ⟨rfl,hI2,hU⟩) ?_)
     ·rintro i c st5 _ _ ⟨rfl,hI5,hU5⟩;refine wpS_bind (wpS_get ?_);by_cases h1:(pendingOf st5).size > 1
      ·rw[if_pos h1,ya1 (by omega)];obtain ⟨q1,q2,q3⟩:=(pendingOf st5)[(pendingOf st5).size - 2]'(by omega);dsimp only;split
       ·exact wpS_pure ⟨rfl,hI5,hU5⟩
       ·refine wpS_bind (zdq hO hI5 (by omega) fun st6 h3 h4 _=>?_);simp only[ybM,yaM,if_false];exact wpS_pure ⟨rfl,h3,hU5.off h4 (.inr (yaa _))⟩
      ·rw[if_neg h1];exact wpS_pure ⟨rfl,hI5,hU5⟩
     ·rintro c st5 ⟨rfl,hI5,hU5⟩;dsimp only;exact wpS_bind (wpS_modify (wpS_bind (wpS_modify (wpS_pure ⟨_,rfl,by omega,SI.pushed (SI.marked hI5) (by omega) (by omega) hU5⟩))))
 case post=>
  rintro c st' ⟨rfl,hI'⟩;dsimp only;refine wpS_bind (wpS_mono (wpS_forRange (I:=fun x c st''=>c=(none,())∧SI κ kd a₀ a₀.size st''∧(pendingOf st'').size+x≤a₀.size+1) (Q:=fun c st''=>c=(none,())∧SI κ kd a₀ a₀.size st''∧(pendingOf st'').size≤1) ?_ ?_ ⟨rfl,hI',?_⟩) ?_)
  ·rintro x c st'' _ hx ⟨rfl,hJ,hz⟩;refine wpS_bind (wpS_get ?_);by_cases h1:(pendingOf st'').size≤1
   ·rw[if_pos h1];exact wpS_pure ⟨rfl,hJ,h1⟩
   ·rw[if_neg h1];refine wpS_bind (zdq hO hJ ?_ fun st3 h3 _ h4=>?_)
    ·exact zns (by omega)
    ·simp only[ybM,yaM,if_false];exact wpS_pure ⟨rfl,h3,by omega⟩
  ·rintro c st'' ⟨rfl,hJ,hz⟩;exact ⟨rfl,hJ,by omega⟩
  ·have:=hI'.runs.le;rw[yav]at this;omega
  ·rintro c st'' ⟨rfl,hJ,hz⟩;dsimp only;refine wpS_pure (h _ hJ.perm hJ.tb.failed ?_);have hr:=hJ.runs;rw[← yav]at hz
   match e:(pendingOf st'').toList,hz,hr with
   | [],_,hr=>
    have:0=a₀.size:=hr;omega
   | [(s1,n1,p1)],_,hr=>
    obtain ⟨_,_,u,z⟩:=hr;have z:0+n1=a₀.size:=z;rw[z]at u;exact u
end
end Tim
namespace Tim
open PySem PyProof.Rows
set_option autoImplicit false
section
variable {prog:Program}{w:World}{A:Around}{E:Value→Shared→Prop}{s:Shared}{κ:KeyKind}{kd:SortKind}
def zgh (a:Addr)(h h':Heap):Prop:=∀ b o,b≠a→h.get? b=some o→h'.get? b=some o
def keyV (κ:KeyKind)(v:Value):κ.α:=(κ.keyOf v).getD κ.dflt
theorem ziH:∀ vs:List Value,vs.zip vs=vs.map fun v=>(v,v)
 | []=>rfl
 | v::vs=>by rw[ycy,ziH vs,yaw]
theorem zhg {vs:List Value}{p:Keyed}(h:p∈(pairsOf vs).toList):p.1=p.2∧p.1∈vs:=by
 have e:(pairsOf vs).toList=vs.zip vs:=by
  unfold pairsOf;simp
 rw[e]at h;rw[ziH]at h;obtain ⟨v,hv,rfl⟩:=yaA.mp h;exact ⟨rfl,hv⟩
theorem zl2 (vs:List Value):(pairsOf vs).toList.map (·.2)=vs:=by
 have e:(pairsOf vs).toList=vs.zip vs:=by
  unfold pairsOf;simp
 rw[e,ziH,ybc];have z:((fun x:Keyed=>x.2) ∘ fun v:Value=>(v,v))=id:=rfl
 first
  | rw[z,List.map_id]
  | exact List.map_id vs
theorem zq3 {vs:List Value}{xs:Array Keyed}(hp:xs.Perm (pairsOf vs))(hU:Up κ xs 0 (pairsOf vs).size) :
  (xs.toList.map (·.2)).Perm vs∧(xs.toList.map (·.2)).Pairwise (fun x y=>κ.kle (keyV κ x) (keyV κ y)):=by
 have hpl:=ycv.mp hp;refine ⟨?_,?_⟩
 ·have:=hpl.map (·.2);rwa[zl2]at this
 ·have hs:SL κ xs.toList:=zpR (by rw[hp.size_eq];exact hU);refine yb2.mpr (hs.imp_of_mem fun {a b} ha hb hab=>?_);have ea:=(zhg (hpl.mem_iff.mp ha)).1;have eb:=(zhg (hpl.mem_iff.mp hb)).1;unfold le ky at hab;unfold keyV;rw[← ea,← eb];exact hab
theorem zqM {a:Addr}{vs:List Value}{n:Nat}{P:Fin→Shared→Prop}(ho:s.heap.get? a=some (seqObj "list" vs.toArray n))(hz:vs.length≤sizeLine)(keys:∀ v∈vs,∃ k,κ.keyOf v=some k)
  (hlt:∀ h',zgh a s.heap h'→LtG prog w A { s with heap:=h' } κ kd)
  (hkd:∀(h':Heap) (E:Value→Shared→Prop) (Q:SortKind→Shared→Prop),zgh a s.heap h'→2≤vs.length→Q kd { s with heap:=h' }→wpAny (model prog w) A (keyKind' vs.toArray) Q E { s with heap:=h' })
  (h:∀ out:List Value,out.Perm vs→out.Pairwise (fun x y=>κ.kle (keyV κ x) (keyV κ y))→P (.done (.ret .none)) { s with heap:=sortedHeap s.heap a vs out.toArray }) :
  wpAny (model prog w) A (Builtin.«list.sort» ⟨[.ref a],[]⟩) P E s:=by
 rw[list_sort_plain];have hlt0:a < s.heap.objs.size:=yae ho;refine wpAny_bind (listItems_at ho rfl ?_);refine wpAny_bind (listUpdate_at ho rfl ?_ (by simpa using hz) (yaE _));obtain ⟨m,ho1⟩:∃ m,(s.heap.update a (Obj.mapSeq fun _=>#[])).get? a=some (seqObj "list" #[] m):=⟨_,get?_update_seq ho (fun _=>#[])⟩;refine wpAny_bind (seqEpoch_at ho1 rfl ?_);refine wpAny_bind (wpAny_newTuple ?_ (by simpa using hz));refine wpAny_bind (wpAny_newList ?_);refine wpAny_holding ?_;have z1:(s.heap.update a (Obj.mapSeq fun _=>#[])).objs.size=s.heap.objs.size:=by rw[Heap.size_update]
 have hk:zgh a s.heap (((s.heap.update a (Obj.mapSeq fun _=>#[])).push (seqObj "tuple" vs.toArray 0)).push (seqObj "list" #[] 0)):=fun b o hb e=>
  yap _ (yap _ ((ybp _ _ (Ne.symm hb)).trans e))
 have ho6:(((s.heap.update a (Obj.mapSeq fun _=>#[])).push (seqObj "tuple" vs.toArray 0)).push (seqObj "list" #[] 0)).get? a=some (seqObj "list" #[] m):=yap _ (yap _ ho1);show wpAny (model prog w) A _ P E { s with heap:=((s.heap.update a (Obj.mapSeq fun _=>#[])).push (seqObj "tuple" vs.toArray 0)).push (seqObj "list" #[] 0) };dsimp only;have fin:∀ st':SortSt,(arrOf st').Perm (pairsOf vs)→failedOf st'=none→Up κ (arrOf st') 0 (pairsOf vs).size→wpAny (model prog w) A (do
   let touched:=(← seqEpoch a) != m
   Builtin.List.listUpdate (.ref a) fun _=>(arrOf st').map (·.2)
   if let some e:=failedOf st' then rule "list.sort.comparison-raised";throw e
   if touched then rule "list.sort.modified";raiseError "ValueError" "list modified during sort"
   ret .none) P E { s with heap:=((s.heap.update a (Obj.mapSeq fun _=>#[])).push (seqObj "tuple" vs.toArray 0)).push (seqObj "list" #[] 0) }:=fun st' hp hf hU=>by
  refine wpAny_bind (seqEpoch_at ho6 rfl ?_);refine wpAny_bind (listUpdate_at ho6 rfl ?_ (yaE _) (by
   refine yaB (Nat.le_of_eq ((Array.size_map ..).trans (hp.size_eq.trans (pairsOf_size _)))) ?_;omega))
  rw[hf];simp only[bne_self_eq_false,yaM,if_false];obtain ⟨o1,o2⟩:=zq3 hp hU;have:=h _ o1 o2;have e:((arrOf st').toList.map (·.2)).toArray=(arrOf st').map (·.2):=by rw[← Array.toList_map,Array.toArray_toList]
  rw[e]at this;exact wpAny_pure this
 by_cases h2:vs.toArray.size < 2
 ·rw[if_pos h2,if_pos h2];refine wpAny_bind (wpAny_pure ?_);rw[StateT.run_pure];refine wpAny_bind (wpAny_pure ?_);refine fin (SortSt.mk' general' (vs.toArray.zip vs.toArray) #[] 7 none) (Array.Perm.refl _) rfl ?_;intro i j q1 q2 q3;have:i=j:=by
   rw[pairsOf_size]at q3;simp at h2;omega
  subst this;exact KeyOrd.kle_refl _
 ·rw[if_neg h2,if_neg h2];have h2':2≤vs.length:=by
   simp at h2;omega
  refine wpAny_bind (hkd _ _ _ hk h2' ?_);refine wpAny_bind (wpAny_mono (ziJ (κ:=κ) (hlt _ hk) (a₀:=pairsOf vs) (st:=SortSt.mk' kd (vs.toArray.zip vs.toArray) #[] 7 none)
   (Q:=fun _ st'=>(arrOf st').Perm (pairsOf vs)∧failedOf st'=none∧Up κ (arrOf st') 0 (pairsOf vs).size)
   ⟨⟨rfl,fun p hp=>keys _ (zhg hp).2,rfl,rfl⟩,Array.Perm.refl _,yaE _,rfl⟩ (by rw[pairsOf_size];omega) fun st' a1 a2 a3=>⟨a1,a2,a3⟩) ?_ fun _ _ e=>e)
  rintro ⟨⟨⟩,st'⟩ s' ⟨rfl,hp,hf,hs⟩;exact fin st' hp hf hs
theorem zi4 {h:Heap}{a:Addr}{vs out:List Value}{n:Nat}(ho:h.get? a=some (seqObj "list" vs.toArray n)):zgh a h (sortedHeap h a vs out.toArray)∧∃ c,(sortedHeap h a vs out.toArray).get? a=some (seqObj "list" out.toArray c):=by
 unfold sortedHeap;refine ⟨fun b o hb e=>(ybp _ _ (Ne.symm hb)).trans (yap _ (yap _ ((ybp _ _ (Ne.symm hb)).trans e))),?_⟩;exact ⟨_,get?_update_seq (yap _ (yap _ (get?_update_seq ho (fun _=>#[])))) fun _=>out.toArray⟩
theorem znA {l:Addr}{vs:List Value}{Q:Value→Shared→Prop}(hl:s.heap.IsList l vs.toArray)(hz:vs.length≤sizeLine)(keys:∀ v∈vs,∃ k,κ.keyOf v=some k)
  (hlt:∀ h',(∀ b o,s.heap.get? b=some o→h'.get? b=some o)→LtG prog w A.in1.in1 { s with heap:=h' } κ kd)
  (hkd:∀(h':Heap) (E:Value→Shared→Prop) (Q:SortKind→Shared→Prop),(∀ b o,s.heap.get? b=some o→h'.get? b=some o)→2≤vs.length→Q kd { s with heap:=h' }→wpAny (model prog w) A.in1.in1 (keyKind' vs.toArray) Q E { s with heap:=h' })
  (h:∀(out:List Value) (h':Heap) (c:Nat),out.Perm vs→out.Pairwise (fun x y=>κ.kle (keyV κ x) (keyV κ y))→(∀ b o,s.heap.get? b=some o→h'.get? b=some o)→
   h'.get? (s.heap.objs.size+1)=some (seqObj "list" out.toArray c)→Q (.ref (s.heap.objs.size+1)) { s with heap:=h' }) :
  wpAny (model prog w) A (call (.builtin "sorted") [.ref l]) Q E s:=by
 refine Calls.call_function_entry kind_sorted plain_sorted entry_sorted (args_sorted1 _) ?_;unfold Builtin.«sorted»;refine wpAny_bind (m:=checkCount "sorted" 1 1 _) (wpAny_pure ?_);refine wpAny_bind (collect_list hl ?_ hz);refine wpAny_bind (wpAny_newList ?_ (by simpa using hz));have z1:((s.heap.push (seqObj "list" #[] 0)).update s.heap.objs.size (Obj.mapSeq (· ++ vs.toArray))).objs.size=s.heap.objs.size+1:=by
  rw[Heap.size_update,size_push']
 have hn:(((s.heap.push (seqObj "list" #[] 0)).update s.heap.objs.size (Obj.mapSeq (· ++ vs.toArray))).push (seqObj "list" vs.toArray 0)).get? (s.heap.objs.size+1)=some (seqObj "list" vs.toArray 0):=by
  rw[← z1];exact yaO _ rfl
 have hk:∀ b o,s.heap.get? b=some o→(((s.heap.push (seqObj "list" #[] 0)).update s.heap.objs.size (Obj.mapSeq (· ++ vs.toArray))).push (seqObj "list" vs.toArray 0)).get? b=some o:=fun b o e=>
  yap _ ((ybp _ _ (ybB (yae e))).trans (yap _ e))
 show wpAny _ _ _ _ _ { s with heap:=((s.heap.push (seqObj "list" #[] 0)).update s.heap.objs.size (Obj.mapSeq (· ++ vs.toArray))).push (seqObj "list" vs.toArray 0) };rw[z1];generalize ((s.heap.push (seqObj "list" #[] 0)).update s.heap.objs.size (Obj.mapSeq (· ++ vs.toArray))).push (seqObj "list" vs.toArray 0)=h1 at hn hk ⊢;have up:∀ h',zgh (s.heap.objs.size+1) h1 h'→∀ b o,s.heap.get? b=some o→h'.get? b=some o:=fun h' kb b o e=>kb b o (fun z=>by
  have:=yae e;rw[z]at this;exact absurd this (Nat.not_lt.mpr (ybv _))) (hk b o e)
 refine wpAny_bind (wpAny_holding (wpAny_call_entry slot_list_sort ⟨_,hn,rfl⟩ entry_list_sort (zqM (s:={ s with heap:=h1 }) hn hz keys (fun h' kb=>hlt h' (up h' kb)) (fun h' E Q kb h2 q=>hkd h' E Q (up h' kb) h2 q) fun out p1 p2=>⟨_,rfl,?_⟩) (args_list_sort _)));obtain ⟨kb,c,hc⟩:=zi4 (out:=out) hn;exact wpAny_pure ⟨_,rfl,h out _ c p1 p2 (up _ kb) hc⟩
end
end Tim
namespace L2
open PySem PySem.Spec PyProof.Rows
structure DF (K:Frag)(mg:Str→Option Value)(x:Str)(st:Stmt)(ps:List Str):Prop where
 ex:∃ f fd,Fun K x x st f fd∧zgn K fd ps []∧mg x=some (.ref f)
structure FC (P:Program)(w:World)(K:Frag)(mg:Str→Option Value)(base:Heap)(k:Nat)(x:Str)(ps:List Str)(sp:Sp):Prop where
 ex:∃ f fd,FnOk P w K mg base CX0 k f fd ps sp∧zgn K fd ps []∧keepIn K (.ref f)=true∧mg x=some (.ref f)∧∃ oc od osl,K.lookup f=some ⟨oc,od,.func fd,osl⟩
theorem FC.at {P:Program}{w:World}{K:Frag}{mg:Str→Option Value}{base:Heap}{k:Nat}{x:Str}{ps:List Str}{sp:Sp}{f:Addr}{fd:FuncData}{oc:Value}{od:Option Addr}{osl:Array (Option Value)}(F:FC P w K mg base k x ps sp)(m:mg x=some (.ref f))(l:K.lookup f=some ⟨oc,od,.func fd,osl⟩):FnOk P w K mg base CX0 k f fd ps sp:=by
 obtain ⟨f',fd',ok,_,_,m',oc',od',osl',l'⟩:=F.ex;rw[m]at m';cases m'
 rw[l]at l';cases l'
 exact ok
theorem DF.ok {P:Program}{w:World}{K:Frag}{mg:Str→Option Value}{base:Heap}{x:Str}{st:Stmt}{N ps:List Str}{k:Nat}{sp:Sp}(D:DF K mg x st ps)(S:zaq N ps (zaj st))(len:∀ vs H Q E,sp vs H Q E→vs.length=ps.length)
  (hbody:∀(f:Addr) (cdv:Value) (A:Around) (outer:List Env) (s:Shared) (H:Hp) (vs:List V) (Q:VK) (E:XK),Room k (A.deeper (envOfC x (zaj st) s.heap.objs.size f cdv))→sp vs H Q E→
   ∃ t,PSs (cxOf CX0 P w K mg base N x (zaj st) f cdv A outer s H E).nox (zbL st) t∧t { nx:=fun _ H'=>Q .non H',rt:=Q } (zcV N vs) H):FC P w K mg base (k+1) x ps sp:=by
 obtain ⟨f,fd,F,b,m⟩:=D.ex;exact ⟨f,fd,F.ok S len fun cdv A outer s H vs Q E hr h=>hbody f cdv A outer s H vs Q E hr h,b,F.kp,m,by
  obtain ⟨oc,od,kV,doc,pm,an,cdv,ct,osl,rfl,lk,hcd⟩:=F.ex;exact ⟨oc,od,osl,lk⟩⟩
theorem zaz {X:Cx}{j k:Nat}{x:Str}{ps:List Str}{sp:Sp}{e:Expr}{es:List Expr}{t:TA}{p pos:Pos}(F:FC X.prog X.w X.K X.mg X.base j x ps sp)(hr:Room k X.A)(ha:PA X (e::es) t)(hjk:j≤k:=by decide)(hg:Gl X x:=by rfl)
  (hdb:(x == ("__debug__" : Str))=false:=by decide) (he:starEach (e::es) X.env=(false,eval e X.env)::starEach es X.env:=by rfl) (hpl:(backTo pos (starEach es X.env)).any (·.1)=false:=by rfl):PE X (.Call (.Name x p) (e::es) [] pos) (zpn sp [] E0 t):=by
 obtain ⟨f,fd,ok,b,kp,m,_⟩:=F.ex;exact zpz ok (hr.mono hjk) hg m kp b .nil zqY ha hdb he hpl
def zrJ (t u:TS):TS:=fun D σ H=>∃ M:St→Hp→Prop,t { D with nx:=M } σ H∧∀ σ' H',M σ' H'→u D σ' H'
theorem zaJ {X:Cx}{st:Stmt}{rest:List Stmt}{t u:TS}(h1:PS X st t)(h2:PSs X rest u):PSs X (st::rest) (zrJ t u):=by
 intro pins s σ H D I h;obtain ⟨M,h,hM⟩:=h;refine wpAny_execs_cons (thn (h1 pins s σ H { D with nx:=M } I h) fun f s1 q=>?_);cases f with
 | next=>
  obtain ⟨σ',H',I',q⟩:=q;exact h2 pins s1 σ' H' D I' (hM σ' H' q)
 | ret v=>exact q
 | brk=>exact q
 | cont=>exact q
def zr4 (i j:Int):Prop:=0 < j∧j < 2 ^ 4000
section
variable {X:Cx}
def kitO (a b:String):Option Bool:=if (Value.type a == Value.type b)=true then some true else if PySem.W.kitMeta b=true then (PySem.fastBuiltinMro a).map (·.contains (.type b)) else none
theorem zpU {K:Frag}{a b:String}:kitOne K (.type a) (.type b)=kitO a b:=rfl
def rIsi (K:Frag):List V→Hp→VK→Prop:=fun xs H Q=>∃ x n t b,xs=[x,.ty n]∧TyOf K H x (.type t)∧kitO t n=some b∧Q (.bl b) H
theorem zdi:zce X (.builtin "isinstance") (rIsi X.K):=by
 intro pins s σ H xs us Q I r h;obtain ⟨x,n,t,b,e,ty,ki,q⟩:=h;subst e;obtain ⟨u,w',e,r1,r2⟩:=zgR r;subst e;cases r2
 exact zmM I r1 ty (zpU.trans ki) fun tk=>⟨.bl b,H,I.tok tk,rfl,q⟩
theorem zrk:kitO "int" "int" = some true:=by decide +kernel
theorem zrl:kitO "int" "bool" = some false:=by decide +kernel
theorem zkf:kitO "list" "list" = some true:=by decide +kernel
theorem zrm:kitO "bool" "bool" = some true:=by decide +kernel
def zps:V→List V→Hp→VK→Prop:=fun x xs H Q=>∃ i,x=.int i∧xs=[]∧Q (.int (Builtin.Int.intBits i:Nat)) H
theorem zho:MtR X "int.bit_length" zps:=by
 intro pins s σ H x xs v us Q I rx rv h;obtain ⟨i,rfl,rfl,q⟩:=h;obtain ⟨t,rfl⟩:=rx;cases rv
 exact call_int_bit_length ⟨.int _,H,I.tok _,⟨_,rfl⟩,q⟩
end
theorem zpX {c A B:Prop}[Decidable c](hc:¬ c)(h:B):if decide c=true then A else B:=by
 rw[yaq hc];exact iteF h
theorem zpW {c A B:Prop}[Decidable c](hc:c)(h:A):if decide c=true then A else B:=by
 rw[yam hc];exact iteT h
def zdd (L:Addr)(a l:Int):HO:=.dK [(.inr "script",.ref L),(.inr "at",.int a),(.inr "left",.int l)]
def Keep (d:Addr)(H H':Hp):Prop:=∀ b o,b≠d→H b=some o→H' b=some o
theorem Keep.refl (d:Addr)(H:Hp):Keep d H H:=fun _ _ _ h=>h
theorem Keep.trans {d:Addr}{H H1 H2:Hp}(a:Keep d H H1)(b:Keep d H1 H2):Keep d H H2:=fun c o n h=>b c o n (a c o n h)
theorem Same.keep {d:Addr}{H H':Hp}(s:Same H H'):Keep d H H':=fun b o _ h=>s b o h
structure LS (K:Frag)(L d:Addr)(H:Hp):Prop where
 ex:∃(ns:List Int) (a l:Int),H d=some (zdd L a l)∧SqL K H L (ns.map V.int)
theorem zgY {K:Frag}{H H':Hp}{L d:Addr}{xs:List V}{L':Addr}{a l:Int}(hd:H d=some (zdd L' a l))(k:Keep d H H')(h:SqL K H L xs):SqL K H' L xs:=by
 have ne:∀ o,H L=some o→(∀ kvs,o≠.dK kvs)→L≠d:=fun o e n z=>by
  rw[z,hd]at e;cases e
  exact n _ rfl
 rcases h with (h | ⟨o,h⟩) | h
 ·exact .inl (.inl (k L _ (ne _ h (fun _ z=>nomatch z)) h))
 ·exact .inl (.inr ⟨o,k L _ (ne _ h (fun _ z=>nomatch z)) h⟩)
 ·exact .inr h
theorem LS.set {K:Frag}{d L:Addr}{H:Hp}{ns:List Int}{a l a' l':Int}(hd:H d=some (zdd L a l))(h:SqL K H L (ns.map V.int)):LS K L d (upd H d (zdd L a' l'))∧Keep d H (upd H d (zdd L a' l')):=by
 have k:Keep d H (upd H d (zdd L a' l')):=fun b o n e=>by rw[zah n];exact e
 exact ⟨⟨ns,a',l',zad,zgY hd k h⟩,k⟩
theorem LS.same {K:Frag}{L d:Addr}{H H':Hp}(s:LS K L d H)(k:Same H H'):LS K L d H':=by
 obtain ⟨ns,a,l,e,q⟩:=s.ex;exact ⟨ns,a,l,k _ _ e,k.seq q⟩
theorem zai {H:Hp}{p:Addr}(h:H p=none)(o:HO):Same H (upd H p o):=fun b u q=>by rw[zah (zab q h)];exact q
theorem LS.put {K:Frag}{L d p:Addr}{H0 H2:Hp}{o:HO}(s:LS K L d H0)(hp:H0 p=none)(k:∀ b o,b≠d→b≠p→H0 b=some o→H2 b=some o)(s2:LS K L d H2):LS K L d (upd H2 p o):=by
 obtain ⟨ns,a,l,e,q⟩:=s.ex;obtain ⟨ns2,a2,l2,e2,_⟩:=s2.ex;have hdp:d≠p:=zab e hp;have go:∀ u,H0 L=some u→(∀ kvs,u≠.dK kvs)→upd H2 p o L=some u:=fun u hu hn=>by
  have h1:L≠p:=zab hu hp;have h2:L≠d:=fun z=>by
   rw[z,e]at hu;cases hu
   exact hn _ rfl
  rw[zah h1];exact k L u h2 h1 hu
 refine ⟨ns,a2,l2,by rw[zah hdp];exact e2,?_⟩;rcases q with (h | ⟨ob,h⟩) | h
 ·exact .inl (.inl (go _ h (fun _ z=>nomatch z)))
 ·exact .inl (.inr ⟨ob,go _ h (fun _ z=>nomatch z)⟩)
 ·exact .inr h
section
variable {H:Hp}{d L:Addr}{a l:Int}
theorem zd7 {x y:Str}(h:x≠y):(Sum.inr x:Key)≠Sum.inr y:=fun z=>h (Sum.inr.inj z)
theorem zk6 (h:H d=some (zdd L a l)):DGet H d (.str "script") (some (.ref L)):=.inl ⟨_,.inr "script",.inl h,rfl,by rw[zcA rfl]⟩
theorem zru (h:H d=some (zdd L a l)):DGet H d (.str "at") (some (.int a)):=.inl ⟨_,.inr "at",.inl h,rfl,by rw[zbv (zd7 (show ("script" : Str) ≠ "at" by decide +kernel)),zcA rfl]⟩
theorem zhv (h:H d=some (zdd L a l)):DGet H d (.str "left") (some (.int l)):=.inl ⟨_,.inr "left",.inl h,rfl,by rw[zbv (zd7 (show ("script" : Str) ≠ "left" by decide +kernel)),zbv (zd7 (show ("at" : Str) ≠ "left" by decide +kernel)),zcA rfl]⟩
theorem zoU {k:Key}{v:V}{kvs kvs':List (Key×V)}(h:H d=some (.dK kvs))(hl:kvs.length < sizeLine)(e:putK kvs k v=kvs'):DPut H d (kV k) v (upd H d (.dK kvs')):=by
 subst e;exact DPut.k h hl
theorem zqT {a':Int}(h:H d=some (zdd L a l)):DPut H d (.str "at") (.int a') (upd H d (zdd L a' l)):=
 zoU (k:=.inr "at") h (by show 3 < sizeLine;decide) (by
  unfold putK;rw[if_pos (by simp)];simp only[yaw,ybG,if_neg (zd7 (show ("script" : Str) ≠ "at" by decide +kernel)),if_neg (zd7 (show ("left" : Str) ≠ "at" by decide +kernel)),if_true])
theorem zjX {l':Int}(h:H d=some (zdd L a l)):DPut H d (.str "left") (.int l') (upd H d (zdd L a l')):=
 zoU (k:=.inr "left") h (by show 3 < sizeLine;decide) (by
  unfold putK;rw[if_pos (by simp)];simp only[yaw,ybG,if_neg (zd7 (show ("script" : Str) ≠ "left" by decide +kernel)),if_neg (zd7 (show ("at" : Str) ≠ "left" by decide +kernel)),if_true])
end
def zem (K:Frag):Sp:=fun vs H Q _=>∃(d L:Addr) (m:Int),vs=[.ref d,.int m]∧(0 < m∧m < 1073741824)∧LS K L d H∧∀(v:Int) (H':Hp),0≤v→v < m→Keep d H H'→LS K L d H'→Q (.int v) H'
def zlK:Sp:=fun vs H Q _=>∃ c k:Int,vs=[.int c,.int k]∧∀ v:Int,Q (.int v) H
def zlR (K:Frag):Sp:=fun vs H Q _=>∃(L:Addr) (ns:List Int),vs=[.ref L]∧SqL K H L (ns.map V.int)∧∀(d:Addr) (H':Hp),H d=none→Same H H'→LS K L d H'→Q (.ref d) H'
theorem zrD {ns:List Int}{k:Int}(h:0 < ns.length):∃ v:Int,atI (ns.map V.int) (k % (((ns.map V.int).length:Nat):Int))=some (.int v):=by
 have e:(ns.map V.int).length=ns.length:=yab _;have h1:(0:Int) < (((ns.map V.int).length:Nat):Int):=by rw[e];omega
 have z0:=ycj k (Int.ne_of_gt h1);have z1:=yck k h1;generalize hj:k % (((ns.map V.int).length:Nat):Int)=j at z0 z1;rw[e]at z1;have hk:j.toNat < ns.length:=by omega
 obtain ⟨n,rfl⟩:∃ n:Nat,j=(n:Int):=⟨j.toNat,by omega⟩;have hn:n < ns.length:=by omega
 exact ⟨ns[n],zaQ (by rw[yaj,yac hn];rfl)⟩
end L2
namespace L2
open PySem PySem.Spec PyProof.Rows PySem.SeqAt
def Ext (H H':Hp):Prop:=∀ b o,H b=some o→(∀ kvs,o≠.dK kvs)→H' b=some o
theorem Same.ext {H H':Hp}(s:Same H H'):Ext H H':=fun b o h _=>s b o h
theorem Keep.ext {d L:Addr}{a l:Int}{H H':Hp}(k:Keep d H H')(h:H d=some (zdd L a l)):Ext H H':=fun b o e n=>k b o (fun z=>by
 rw[z,h]at e;cases e
 exact n _ rfl) e
theorem LS.ext {K:Frag}{L d:Addr}{H H':Hp}(s:LS K L d H)(k:Keep d H H'):Ext H H':=by
 obtain ⟨ns,a,l,e,_⟩:=s.ex;exact k.ext e
theorem LS.of_new {K:Frag}{L d:Addr}{H:Hp}(s:LS K L d H){p:Addr}(hp:H p=none)(o:HO):LS K L d (upd H p o):=s.same (zai hp o)
theorem SqL.ext {K:Frag}{H H':Hp}{a:Addr}{xs:List V}(e:Ext H H')(h:SqL K H a xs):SqL K H' a xs:=by
 rcases h with (h | ⟨o,h⟩) | h
 ·exact .inl (.inl (e _ _ h (fun _ z=>nomatch z)))
 ·exact .inl (.inr ⟨o,e _ _ h (fun _ z=>nomatch z)⟩)
 ·exact .inr h
class Rep (α:Type) where
 dec:DecidableEq α
 depth:Nat
 has:Frag→Hp→α→V→Prop
 mono:∀{K:Frag} {H H':Hp} {a:α} {v:V},Ext H H'→has K H a v→has K H' a v
 inj:∀{X:Cx} {pins:List (Addr×Obj)} {σ:St} {H:Hp} {s:Shared} {a b:α} {v:V},Inv X pins σ H s→has X.K H a v→has X.K H b v→a=b
 rc:∀{X:Cx} {pins:List (Addr×Obj)} {σ:St} {H:Hp} {s:Shared} {A:Around} {a b:α} {x y:V} {u v:Value},Inv X pins σ H s→A.units+depth < cLine→has X.K H a x→has X.K H b y→RelV x u→RelV y v→RcAt A s u v (dec a b).decide
 rn:∀{X:Cx} {pins:List (Addr×Obj)} {σ:St} {H:Hp} {s:Shared} {A:Around} {a b:α} {x y:V} {u v:Value},Inv X pins σ H s→A.units+depth < cLine→has X.K H a x→has X.K H b y→RelV x u→RelV y v→RcNeAt A s u v (!(dec a b).decide)
 eq:∀{X:Cx} {pins:List (Addr×Obj)} {σ:St} {H:Hp} {s:Shared} {A:Around} {a b:α} {x y:V} {u v:Value},Inv X pins σ H s→A.units+depth < cLine→has X.K H a x→has X.K H b y→RelV x u→RelV y v→EqAt A s u v (dec a b).decide
instance (priority:=low) repDec {α:Type} [Rep α]:DecidableEq α:=Rep.dec
theorem zjn {i j:Int}:(i == j)=(Int.instDecidableEq i j).decide:=by
 by_cases h:i=j
 ·subst h;simp
 ·rw[beq_eq_false_iff_ne.mpr h];exact (yaq h).symm
instance:Rep Int where
 dec:=Int.instDecidableEq
 depth:=0
 has:=fun _ _ i v=>v=.int i
 mono:=fun _ h=>h
 inj:=fun _ h1 h2=>V.int.inj (h1.symm.trans h2)
 rc:=fun _ _ h1 h2 r1 r2=>by
  subst h1 h2;obtain ⟨t,rfl⟩:=r1;obtain ⟨t',rfl⟩:=r2;rw[← zjn];exact RcAt.int_int _ _ _ _
 rn:=fun _ _ h1 h2 r1 r2=>by
  subst h1 h2;obtain ⟨t,rfl⟩:=r1;obtain ⟨t',rfl⟩:=r2;rw[← zjn];exact RcNeAt.int_int _ _ _ _
 eq:=fun _ _ h1 h2 r1 r2=>by
  subst h1 h2;obtain ⟨t,rfl⟩:=r1;obtain ⟨t',rfl⟩:=r2;rw[← zjn];exact EqAt.int_int _ _ _ _
theorem pImp {α β:Type}{R S:α→β→Prop}(h:∀ a b,R a b→S a b){as:List α}{bs:List β}(p:Paired R as bs):Paired S as bs:=by
 induction p with
 | nil=>exact .nil
 | cons a _ ih=>exact .cons (h _ _ a) ih
theorem pApp {α β:Type}{R:α→β→Prop}{as cs:List α}{bs ds:List β}(p:Paired R as bs)(q:Paired R cs ds):Paired R (as++cs) (bs++ds):=by
 induction p with
 | nil=>exact q
 | cons a _ ih=>exact .cons a ih
def zar {α:Type}[Rep α](K:Frag)(H:Hp):List α→List V→Prop:=Paired (Rep.has K H)
section
variable {α:Type}[Rep α]{K:Frag}{H H':Hp}
theorem zar.mono (e:Ext H H'){as:List α}{xs:List V}(h:zar K H as xs):zar K H' as xs:=pImp (fun _ _=>Rep.mono e) h
theorem zar.length {as:List α}{xs:List V}(h:zar K H as xs):as.length=xs.length:=Paired.length h
theorem zar.get:∀{as:List α} {xs:List V} {i:Nat} {x:V},zar K H as xs→xs[i]?=some x→∃ a,as[i]?=some a∧Rep.has K H a x
 | _,_,_,_,.nil,e=>by simp at e
 | _,_,0,_,.cons h _,e=>by simp at e;subst e;exact ⟨_,rfl,h⟩
 | _,_,i+1,x,.cons _ t,e=>by
  obtain ⟨a,h1,h2⟩:=zar.get (i:=i) (x:=x) t (by simpa using e);exact ⟨a,by simpa using h1,h2⟩
theorem zar.append {as bs:List α}{xs ys:List V}(h:zar K H as xs)(g:zar K H bs ys):zar K H (as++bs) (xs++ys):=pApp h g
theorem zar.ints:∀{ns:List Int},zar K H ns (ns.map V.int)
 | []=>.nil
 | _::_=>.cons rfl zar.ints
theorem zar.toInts {ns:List Int}{xs:List V}(h:zar K H ns xs):xs=ns.map V.int:=by
 unfold zar at h
 induction h with
 | nil=>rfl
 | cons h _ ih=>
  have e:_=V.int _:=h;rw[e,ih];rfl
theorem zar.inj {X:Cx}{pins:List (Addr×Obj)}{σ:St}{s:Shared}(I:Inv X pins σ H s){as bs:List α}{xs:List V}(h:zar X.K H as xs)(g:zar X.K H bs xs):as=bs:=by
 unfold zar at h g
 induction h generalizing bs with
 | nil=>cases g;rfl
 | cons h _ ih=>
  cases g with
  | cons h' t'=>rw[Rep.inj I h h',ih t']
end
theorem zgM {α:Type}[DecidableEq α]:∀(as bs:List α),as.length=bs.length→((List.range as.length).all fun j=>decide (as[j]?=bs[j]?))=decide (as=bs):=by
 intro as bs hl;by_cases h:as=bs
 ·subst h;simp
 ·rw[yaq h,yb3]
  false_or_by_contra
  rename_i z;apply h;apply ybf;intro i;by_cases hi:i < as.length
  ·false_or_by_contra
   rename_i q;exact z ⟨i,yaX.mpr hi,by simpa using q⟩
  ·rw[ya8 (by omega),ya8 (by omega)]
section
variable {α:Type}[r:Rep α]
theorem zeR {A:Around}:A.in1.units≤A.units+1:=by
 first
  | exact yaa _
  | (unfold Around.in1;simp)
theorem zki {X:Cx}{pins:List (Addr×Obj)}{σ:St}{H:Hp}{s:Shared}{A:Around}{as bs:List α}{xs ys:List V}{us vs:List Value}(I:Inv X pins σ H s)(hu:A.units+Rep.depth α < cLine)
  (h1:zar X.K H as xs) (h2:zar X.K H bs ys) (r1:Vals xs us) (r2:Vals ys vs):∀ j (q1:j < us.toArray.size) (q2:j < vs.toArray.size),EqAt A s us.toArray[j] vs.toArray[j] (decide (as[j]?=bs[j]?)):=by
 intro j q1 q2;have l1:=r1.length;have l2:=r2.length;have m1:=h1.length;have m2:=h2.length;have j1:j < us.length:=by simpa using q1
 have j2:j < vs.length:=by simpa using q2
 obtain ⟨a,ea,ha⟩:=h1.get (i:=j) (yac (by omega));obtain ⟨b,eb,hb⟩:=h2.get (i:=j) (yac (by omega));obtain ⟨u,eu,ru⟩:=r1.get (i:=j) (yac (by omega));obtain ⟨v,ev,rv⟩:=r2.get (i:=j) (yac (by omega));have gu:us.toArray[j]=u:=by
  have:us[j]?=some us[j]:=yac j1;rw[eu]at this;simpa using (yag this).symm
 have gv:vs.toArray[j]=v:=by
  have:vs[j]?=some vs[j]:=yac j2;rw[ev]at this;simpa using (yag this).symm
 rw[gu,gv,ea,eb];have e:decide (some a=some b)=(Rep.dec a b).decide:=by
  by_cases z:a=b
  ·subst z;simp
  ·rw[yaq (fun q=>z (yag q))];exact (yaq z).symm
 rw[e];exact Rep.eq I hu ha hb ru rv
end
def hasL {α:Type}[Rep α](K:Frag)(H:Hp)(as:List α)(v:V):Prop:=∃ a xs,v=.ref a∧SqL K H a xs∧zar K H as xs
section
variable {α:Type}[r:Rep α]{X:Cx}{pins:List (Addr×Obj)}{σ:St}{H:Hp}{s:Shared}{A:Around}{as bs:List α}{x y:V}{u v:Value}
theorem zoj (I:Inv X pins σ H s)(h1:hasL X.K H as x)(h2:hasL X.K H bs x):as=bs:=by
 obtain ⟨a,xs,rfl,q1,h1⟩:=h1;obtain ⟨b,ys,e,q2,h2⟩:=h2;cases e
 rw[I.list_inj q2 q1]at h2;exact h1.inj I h2
theorem zmR (I:Inv X pins σ H s)(hu:A.units+(Rep.depth α+1) < cLine)(h1:hasL X.K H as x)(h2:hasL X.K H bs y)(r1:RelV x u)(r2:RelV y v):RcAt A s u v (decide (as=bs)):=by
 obtain ⟨a,xs,rfl,q1,h1⟩:=h1;obtain ⟨b,ys,rfl,q2,h2⟩:=h2;cases r1
 cases r2
 obtain ⟨us,ru,pu,_⟩:=I.list q1;obtain ⟨vs,rv,pv,_⟩:=I.list q2;have l1:=ru.length;have l2:=rv.length;have m1:=h1.length;have m2:=h2.length;have hin:A.in1.units+Rep.depth α < cLine:=ybe (ycl zeR _) (by omega);by_cases hl:as.length=bs.length
 ·have e:=zgM as bs hl;rw[← e];have z:as.length=us.toArray.size:=by simp;omega
  rw[z];exact RcAt.lists pu.isList pv.isList (by simp;omega) (by omega) (zki I hin h1 h2 ru rv)
 ·rw[yaq (fun z=>hl (by rw[z]))];exact RcAt.lists_lengths pu.isList pv.isList (by simp;omega) (by omega)
theorem zp1 (I:Inv X pins σ H s)(hu:A.units+(Rep.depth α+1) < cLine)(h1:hasL X.K H as x)(h2:hasL X.K H bs y)(r1:RelV x u)(r2:RelV y v):RcNeAt A s u v (!decide (as=bs)):=by
 obtain ⟨a,xs,rfl,q1,h1⟩:=h1;obtain ⟨b,ys,rfl,q2,h2⟩:=h2;cases r1
 cases r2
 obtain ⟨us,ru,pu,_⟩:=I.list q1;obtain ⟨vs,rv,pv,_⟩:=I.list q2;have l1:=ru.length;have l2:=rv.length;have m1:=h1.length;have m2:=h2.length;have hin:A.in1.units+Rep.depth α < cLine:=ybe (ycl zeR _) (by omega);by_cases hl:as.length=bs.length
 ·have e:=zgM as bs hl;rw[← e];have z:as.length=us.toArray.size:=by simp;omega
  rw[z];exact RcNeAt.lists pu.isList pv.isList (by simp;omega) (by omega) (zki I hin h1 h2 ru rv)
 ·rw[yaq (fun z=>hl (by rw[z])),Bool.not_false];exact RcNeAt.lists_lengths pu.isList pv.isList (by simp;omega) (by omega)
theorem zp2 (I:Inv X pins σ H s)(hu:A.units+(Rep.depth α+1) < cLine)(h1:hasL X.K H as x)(h2:hasL X.K H bs y)(r1:RelV x u)(r2:RelV y v):EqAt A s u v (decide (as=bs)):=by
 have rc:=zmR (A:=A) I hu h1 h2 r1 r2;obtain ⟨a,xs,rfl,q1,h1⟩:=h1;obtain ⟨b,ys,rfl,q2,h2⟩:=h2;cases r1
 cases r2
 by_cases hab:a=b
 ·subst hab;rw[I.list_inj q2 q1]at h2;rw[yam (h1.inj I h2)];exact EqAt.same _
 ·exact EqAt.of_refs hab rc
end
instance {α:Type} [Rep α]:Rep (List α) where
 dec:=inferInstance
 depth:=Rep.depth α+1
 has:=hasL
 mono:=fun e ⟨a,xs,h1,h2,h3⟩=>⟨a,xs,h1,h2.ext e,h3.mono e⟩
 inj:=fun I h1 h2=>zoj I h1 h2
 rc:=fun I hu h1 h2 r1 r2=>zmR I hu h1 h2 r1 r2
 rn:=fun I hu h1 h2 r1 r2=>zp1 I hu h1 h2 r1 r2
 eq:=fun I hu h1 h2 r1 r2=>zp2 I hu h1 h2 r1 r2
def hasP {α β:Type}[Rep α][Rep β](K:Frag)(H:Hp)(p:α×β)(v:V):Prop:=∃ a x y,v=.ref a∧H a=some (.tup [x,y])∧Rep.has K H p.1 x∧Rep.has K H p.2 y
section
variable {α β:Type}[ra:Rep α][rb:Rep β]{X:Cx}{pins:List (Addr×Obj)}{σ:St}{H:Hp}{s:Shared}{A:Around}{p q:α×β}{x y:V}{u v:Value}
theorem zkk (I:Inv X pins σ H s)(h1:hasP X.K H p x)(h2:hasP X.K H q x):p=q:=by
 obtain ⟨a,x1,x2,rfl,q1,e1,e2⟩:=h1;obtain ⟨b,y1,y2,e,q2,f1,f2⟩:=h2;cases e
 have z:=I.tuple_inj (SqT.of q2) (SqT.of q1);cases z
 have g1:=Rep.inj I e1 f1;have g2:=Rep.inj I e2 f2;obtain ⟨p1,p2⟩:=p;obtain ⟨s1,s2⟩:=q;cases g1
 cases g2
 rfl
theorem zmQ (I:Inv X pins σ H s)(hu:A.units+(Rep.depth α+Rep.depth β+1) < cLine)(h1:hasP X.K H p x)(h2:hasP X.K H q y)(r1:RelV x u)(r2:RelV y v):RcAt A s u v (decide (p=q)):=by
 obtain ⟨a,x1,x2,rfl,q1,e1,e2⟩:=h1;obtain ⟨b,y1,y2,rfl,q2,f1,f2⟩:=h2;cases r1
 cases r2
 obtain ⟨us,ru,pu,_⟩:=I.tuple (SqT.of q1);obtain ⟨vs,rv,pv,_⟩:=I.tuple (SqT.of q2);obtain ⟨u1,u2,rfl,ru1,ru2⟩:=zgR ru;obtain ⟨v1,v2,rfl,rv1,rv2⟩:=zgR rv;have hin:∀ n,n≤Rep.depth α+Rep.depth β→A.in1.units+n < cLine:=fun n hn=>ybe (ycl zeR _) (by omega);have c1:=Rep.eq (A:=A.in1) I (hin _ (by omega)) e1 f1 ru1 rv1;have c2:=Rep.eq (A:=A.in1) I (hin _ (by omega)) e2 f2 ru2 rv2;have:=RcAt.tuples (A:=A) (s:=s) (l:=a) (b:=b) (items:=#[u1,u2]) (items2:=#[v1,v2]) (e:=fun j=>if j=0 then (Rep.dec p.1 q.1).decide else (Rep.dec p.2 q.2).decide) pu pv (by omega) (by
  intro j h1 h2;have h1':j < 2:=h1;have z:j=0∨j=1:=by omega
  rcases z with rfl | rfl
  ·exact c1
  ·exact c2)
 have e:((List.range (min (#[u1,u2]:Array Value).size (#[v1,v2]:Array Value).size)).all (fun j=>if j=0 then (Rep.dec p.1 q.1).decide else (Rep.dec p.2 q.2).decide) && (#[u1,u2]:Array Value).size == (#[v1,v2]:Array Value).size)=decide (p=q):=by
  obtain ⟨p1,p2⟩:=p;obtain ⟨s1,s2⟩:=q;show (((List.range 2).all fun j=>if j=0 then (Rep.dec p1 s1).decide else (Rep.dec p2 s2).decide) && true)=_
  rw[show List.range 2=[0,1] from rfl];simp only[yb7,List.all_nil,Bool.and_true,if_true];rw[if_neg (by decide)];by_cases z1:p1=s1
  ·by_cases z2:p2=s2
   ·subst z1 z2;simp
   ·subst z1;simp[z2]
  ·simp[z1]
 rw[e]at this;exact this
theorem zpZ (I:Inv X pins σ H s)(hu:A.units+(Rep.depth α+Rep.depth β+1) < cLine)(h1:hasP X.K H p x)(h2:hasP X.K H q y)(r1:RelV x u)(r2:RelV y v):RcNeAt A s u v (!decide (p=q)):=by
 obtain ⟨a,x1,x2,rfl,q1,e1,e2⟩:=h1;obtain ⟨b,y1,y2,rfl,q2,f1,f2⟩:=h2;cases r1
 cases r2
 obtain ⟨us,ru,pu,_⟩:=I.tuple (SqT.of q1);obtain ⟨vs,rv,pv,_⟩:=I.tuple (SqT.of q2);obtain ⟨u1,u2,rfl,ru1,ru2⟩:=zgR ru;obtain ⟨v1,v2,rfl,rv1,rv2⟩:=zgR rv;have hin:∀ n,n≤Rep.depth α+Rep.depth β→A.in1.units+n < cLine:=fun n hn=>ybe (ycl zeR _) (by omega);have c1:=Rep.eq (A:=A.in1) I (hin _ (by omega)) e1 f1 ru1 rv1;have c2:=Rep.eq (A:=A.in1) I (hin _ (by omega)) e2 f2 ru2 rv2;have:=RcNeAt.tuples (A:=A) (s:=s) (l:=a) (b:=b) (items:=#[u1,u2]) (items2:=#[v1,v2]) (e:=fun j=>if j=0 then (Rep.dec p.1 q.1).decide else (Rep.dec p.2 q.2).decide) pu pv (by omega) (by
  intro j h1 h2;have h1':j < 2:=h1;have z:j=0∨j=1:=by omega
  rcases z with rfl | rfl
  ·exact c1
  ·exact c2)
 have e:((List.range (min (#[u1,u2]:Array Value).size (#[v1,v2]:Array Value).size)).all (fun j=>if j=0 then (Rep.dec p.1 q.1).decide else (Rep.dec p.2 q.2).decide) && (#[u1,u2]:Array Value).size == (#[v1,v2]:Array Value).size)=decide (p=q):=by
  obtain ⟨p1,p2⟩:=p;obtain ⟨s1,s2⟩:=q;show (((List.range 2).all fun j=>if j=0 then (Rep.dec p1 s1).decide else (Rep.dec p2 s2).decide) && true)=_
  rw[show List.range 2=[0,1] from rfl];simp only[yb7,List.all_nil,Bool.and_true,if_true];rw[if_neg (by decide)];by_cases z1:p1=s1
  ·by_cases z2:p2=s2
   ·subst z1 z2;simp
   ·subst z1;simp[z2]
  ·simp[z1]
 rw[e]at this;exact this
theorem zp0 (I:Inv X pins σ H s)(hu:A.units+(Rep.depth α+Rep.depth β+1) < cLine)(h1:hasP X.K H p x)(h2:hasP X.K H q y)(r1:RelV x u)(r2:RelV y v):EqAt A s u v (decide (p=q)):=by
 have rc:=zmQ (A:=A) I hu h1 h2 r1 r2;have h1':=id h1;have h2':=id h2;obtain ⟨a,x1,x2,rfl,q1,e1,e2⟩:=h1;obtain ⟨b,y1,y2,rfl,q2,f1,f2⟩:=h2;cases r1
 cases r2
 by_cases hab:a=b
 ·subst hab;rw[yam (zkk I h1' h2')];exact EqAt.same _
 ·exact EqAt.of_refs hab rc
end
instance {α β:Type} [Rep α] [Rep β]:Rep (α×β) where
 dec:=inferInstance
 depth:=Rep.depth α+Rep.depth β+1
 has:=hasP
 mono:=fun e ⟨a,x,y,h1,h2,h3,h4⟩=>⟨a,x,y,h1,e _ _ h2 (fun _ z=>nomatch z),Rep.mono e h3,Rep.mono e h4⟩
 inj:=fun I h1 h2=>zkk I h1 h2
 rc:=fun I hu h1 h2 r1 r2=>zmQ I hu h1 h2 r1 r2
 rn:=fun I hu h1 h2 r1 r2=>zpZ I hu h1 h2 r1 r2
 eq:=fun I hu h1 h2 r1 r2=>zp0 I hu h1 h2 r1 r2
theorem huD {A:Around}{k:Nat}{α:Type}[Rep α](hr:Room k A)(h:Rep.depth α≤64:=by decide):A.units+Rep.depth α < cLine:=ybe (yb8 h _) hr.units
def rEqD (α:Type)[Rep α](K:Frag):R2:=fun x y H Q=>∃ a b:α,Rep.has K H a x∧Rep.has K H b y∧Q (.bl (decide (a=b))) H
def rNeD (α:Type)[Rep α](K:Frag):R2:=fun x y H Q=>∃ a b:α,Rep.has K H a x∧Rep.has K H b y∧Q (.bl (!decide (a=b))) H
section
variable {X:Cx}
theorem zq7 (α:Type)[Rep α](hu:X.A.units+Rep.depth α < cLine):OpR X (compareOp .Eq) (rEqD α X.K):=by
 intro pins s σ H x y v u Q I rx ry h;obtain ⟨a,b,ha,hb,q⟩:=h;refine Rep.rc I hu ha hb rx ry X.prog X.w X.xe _ ⟨.bl _,H,I,rfl,?_⟩;have e:(Rep.dec a b).decide=decide (a=b):=rfl;rw[e];exact q
theorem zl4 (α:Type)[Rep α](hu:X.A.units+Rep.depth α < cLine):OpR X (compareOp .NotEq) (rNeD α X.K):=by
 intro pins s σ H x y v u Q I rx ry h;obtain ⟨a,b,ha,hb,q⟩:=h;refine Rep.rn I hu ha hb rx ry X.prog X.w X.xe _ ⟨.bl _,H,I,rfl,?_⟩;have e:(Rep.dec a b).decide=decide (a=b):=rfl;rw[e];exact q
end
end L2
namespace L2
open PySem PySem.Spec PyProof.Rows
section
variable {X:Cx}{pins:List (Addr×Obj)}{σ:St}{H:Hp}{s:Shared}{h':Heap}
theorem Inv.turnedNew {t':Nat}{fp:List Addr}{p:Addr}{o:HO}(I:Inv X pins σ H s)(k:∀ b ob,b∉fp→s.heap.get? b=some ob→h'.get? b=some ob)(hf:∀ b∈fp,FpOk X pins H b)
  (hp:s.heap.objs.size≤p) (new:za7 X.prog X.w (upd H p o) h' p o):Inv X pins σ (upd H p o) { s with heap:=h',toks:=t' }:=by
 have hn:H p=none:=I.hok.fresh hp;have nfp:∀ b u,H b=some u→b∉fp:=fun b u e z=>by rw[(hf b z).1]at e;cases e
 have nep:∀ b ob,s.heap.get? b=some ob→b≠p:=fun b ob e=>yau (yaz (yae e) hp);refine I.step (g':=s.gens) (d':=s.drawn) (ch:=fp) (fun b hb=>?_) (fun b ob _ _ hc e _=>k b ob hc e) (fun b ob _ _ hc e _=>⟨ob.slots,k b ob hc e⟩) (fun b ob _ e n=>by rw[zah (nep b ob e)];exact n)
  (fun b ob hc e=>⟨ob,k b ob hc e⟩) (fun b xs e=>by rw[zah (zab e hn)];exact e) (fun b ob u e=>by rw[zah (zab e hn)];exact e) (fun b ps e=>⟨#[],by rw[zah (zab e hn),e];simp⟩) (fun m hm=>?_) (fun b u e=>?_) I.bare
 ·obtain ⟨_,h2,_,h4,h5,h6⟩:=hf b hb;exact ⟨h4,h2,h5,h6⟩
 ·obtain ⟨ob,es,ep,ho,r⟩:=hm;exact ⟨ob,es,ep,k _ ob (fun z=>(hf _ z).2.1 rfl) ho,r⟩
 ·by_cases hb:b=p
  ·subst hb;rw[zad]at e;cases e;exact new
  ·rw[zah hb]at e;refine (I.hok b u e).stay (fun c v hc q=>k c v ?_ q) (fun c q=>by rw[zah (zab q hn)];exact q) fun c xs q=>by rw[zah (zab q hn)];exact q
   rcases hc with z | z
   ·rw[z];exact nfp b u e
   ·exact nfp c _ z
theorem zlx {P:Program}{w:World}{H:Hp}{h:Heap}{p:Addr}{x y:V}{u v:Value}(rx:RelV x u)(ry:RelV y v)(e:h.get? p=some { cls:=.type "tuple",data:=.seq #[u,v] }):za7 P w H h p (.tup [x,y]):=
 ⟨by show 2≤sizeLine;decide,[u,v],.cons rx (.cons ry .nil),_,e,rfl,0,rfl⟩
end
def Ite (K:Frag)(a:Addr):It:=
 ⟨fun i H=>∃ xs x,SqL K H a xs∧xs[i]?=some x,fun i H x H'=>∃ p y,x=.ref p∧H p=none∧(∀ xs,SqL K H a xs→xs[i]?=some y)∧H'=upd H p (.tup [.int i,y]),fun i H=>∃ xs,SqL K H a xs∧xs.length≤i⟩
theorem zlv {P:Program}{w:World}{K:Frag}{es:List Expr}{k0}{pos:Pos}(a it e:Addr)(hne:e≠it):Turn P w K (.Tuple es k0 pos) (Ite K a) [e,it] e (fun i h=>(∃ old,IsEnum h e it i old)∧h.IsListIter it a i) where
 mem:=by simp
 obj:=fun i h st b hb=>by
  obtain ⟨⟨old,he⟩,o,ho,c,d⟩:=st;rcases yal.mp hb with z | z
  ·subst z;exact ⟨_,he,fun v z=>by cases z⟩
  ·have z:=yah.mp z;subst z;exact ⟨o,ho,fun v z=>by rw[d]at z;cases z⟩
 keep:=fun i h h' st k=>by
  obtain ⟨⟨old,he⟩,hi⟩:=st;exact ⟨⟨old,k e (by simp) _ he⟩,hi.at fun o q=>k it (by simp) o q⟩
 item:=by
  intro X hP hw hK hc i pins s σ H E I hf st hg;subst hP hw hK;obtain ⟨⟨old,he⟩,hi⟩:=st;obtain ⟨xs,x,hq,hx⟩:=hg;obtain ⟨its,rv,p,hz⟩:=I.list hq;obtain ⟨u,hu,ru⟩:=rv.get hx;refine wpAny_pyNext_enum_item he hi p.isList (x:=u) (by simpa using hu) hne fun h1 he1 hi1 ht1 _ k1=>?_;refine ⟨_,rfl,wpAny_letOwnedTupleGo_enum (s:={ s with heap:=h1,toks:=s.toks+1 }) he1 fun h2 he2 sb=>?_⟩;have np:s.heap.objs.size≠e:=ybB (yae he);have ht2:h2.get? s.heap.objs.size=some { cls:=.type "tuple",data:=.seq #[.int i s.toks,u] }:=(sb.2 _ np).trans ht1;have I2:Inv X pins σ (upd H s.heap.objs.size (.tup [.int i,x])) { s with heap:=h2,toks:=s.toks+1 }:=
   I.turnedNew (fp:=[e,it]) (fun b ob hb q=>(sb.2 b (fun z=>hb (by simp[z]))).trans (k1 b ob (fun z=>hb (by simp[z])) (fun z=>hb (by simp[z])) q)) hf (yaa _) (zlx ⟨_,rfl⟩ ru ht2)
  refine ⟨.ref s.heap.objs.size,_,I2,rfl,⟨_,x,rfl,I.hok.fresh (yaa _),fun ys hy=>by rw[I.list_inj hy hq];exact hx,rfl⟩,⟨⟨u,?_⟩,?_⟩,fun b hb=>?_⟩
  ·have z:IsEnum h2 e it ((i:Int)+1) u:=he2;exact z
  ·exact hi1.at fun o q=>(sb.2 it (Ne.symm hne)).trans q
  ·have z:=(hf b hb).1;rw[zah ?_]
   ·exact z
   ·rcases yal.mp hb with q | q
    ·rw[q];exact Ne.symm np
    ·rw[yah.mp q];obtain ⟨o,ho,_⟩:=hi;exact yau (yae ho)
 done:=by
  intro X hP hw hK hc i pins s σ H E I hf st hg;subst hP hw hK;obtain ⟨⟨old,he⟩,hi⟩:=st;obtain ⟨xs,hq,hx⟩:=hg;obtain ⟨its,rv,p,hz⟩:=I.list hq;obtain ⟨f0,f1,f2,f3,f4,f5⟩:=hf it (by simp);have hl:=rv.length;exact wpAny_pyNext_enum_end (I.ok.hd hc) he hi p.isList (by simp;omega) fun h' eb=>⟨rfl,I.turned (t':=s.toks) (fun b o hb q=>eb b o hb q) f0 f1 f3 f4 f5⟩
 self:=fun _ _ _ _ _ st h=>by
  obtain ⟨⟨old,he⟩,_⟩:=st;exact wpAny_pyIter_enum he h
def zr1 (K:Frag)(ta:TA):TI:=fun σ H R=>ta σ H fun vs H1=>∃ a,vs=[.ref a]∧(∃ xs,SqL K H1 a xs)∧R (Ite K a) H1
section
variable {X:Cx}
theorem zdu {es:List Expr}{k0}{tp:Pos}{a:Expr}{ta:TA}{p pos:Pos}(hg:Gl X "enumerate")(hm:X.mg "enumerate" = none)(ha:PA X [a] ta)(hs:starEach [a] X.env=[(false,eval a X.env)]:=by rfl):PI X (.Tuple es k0 tp) (.Call (.Name "enumerate" p) [a] [] pos) (zr1 X.K ta):=by
 intro pins s σ H R I h;refine Call_ (zfq I hg hm boot_enumerate (PyProof.Rows.callWith_type1 (thn (ha pos pins s σ H _ I h) fun us s1 zq0=>?_) hs rfl));obtain ⟨vs,H1,I1,r1,q1⟩:=zq0;obtain ⟨l,e,⟨xs,hq⟩,q⟩:=q1;subst e;cases r1 with
 | cons r rr=>
  cases rr
  cases r
  obtain ⟨its,rv,pl,hz⟩:=I1.list hq;refine call_enumerate_list pl.isList fun h' he hi _ hk=>?_;have I2:Inv X pins σ H1 { s1 with heap:=h' }:=I1.kept (t':=s1.toks) hk;refine wpAny_pyIter_enum (s:={ s1 with heap:=h' }) he ⟨_,[s1.heap.objs.size+1,s1.heap.objs.size],_,_,H1,rfl,I2,zlv l s1.heap.objs.size (s1.heap.objs.size+1) (Nat.succ_ne_self _),⟨⟨_,he⟩,hi⟩,fun b hb=>?_,q⟩;have hb':s1.heap.objs.size≤b:=by
   rcases yal.mp hb with z | z
   ·rw[z];exact ybv _
   ·rw[yah.mp z];exact yaa _
  exact I1.fpOk hb' (I1.hok.fresh hb')
end
theorem zhx {K:Frag}{a:Addr}{xs:List V}{g:TG}{tb:TS}{D:Ends}{σ:St}{H:Hp}(Pv:Nat→St→Hp→Prop)(h0:Pv 0 σ H)(hl:∀ i σ H,i≤xs.length→Pv i σ H→SqL K H a xs)
  (hs:∀ i x σ H p,xs[i]?=some x→Pv i σ H→H p=none→g (.ref p) σ (upd H p (.tup [.int i,x])) fun σ2 H2=>tb { D with nx:=Pv (i+1),ct:=Pv (i+1),bk:=D.nx } σ2 H2) (hd:∀ σ H,Pv xs.length σ H→D.nx σ H) :
  ∃ W:Nat→Nat→St→Hp→Prop,(∃ m,W 0 m σ H)∧∀ i m σ H,W i m σ H→((Ite K a).stop i H∧D.nx σ H)∨((Ite K a).go i H∧∃ N:St→Hp→Prop,(∀ σ' H',N σ' H'→∃ m',m' < m∧W (i+1) m' σ' H')∧∀ x H',(Ite K a).yld i H x H'→g x σ H' fun σ2 H2=>tb { D with nx:=N,ct:=N,bk:=D.nx } σ2 H2):=by
 refine ⟨fun i m σ H=>i+m=xs.length∧Pv i σ H,⟨xs.length,by omega,h0⟩,fun i m σ H zq0=>?_⟩;obtain ⟨e,pv⟩:=zq0;have hS:=hl i σ H (by omega) pv;by_cases hi:i < xs.length
 ·refine .inr ⟨⟨xs,xs[i],hS,yac hi⟩,Pv (i+1),fun σ' H' q=>⟨m - 1,by omega,by omega,q⟩,fun x H' y=>?_⟩;obtain ⟨p,z,rfl,hp,hz,rfl⟩:=y;exact hs i z σ H p (hz xs hS) pv hp
 ·have:i=xs.length:=by omega
  subst this;exact .inl ⟨⟨xs,hS,yaa _⟩,hd σ H pv⟩
def Itz (K:Frag)(a b:Addr):It:=
 ⟨fun i H=>∃ xs ys x y,SqL K H a xs∧SqL K H b ys∧xs[i]?=some x∧ys[i]?=some y,fun i H x H'=>∃ p y z,x=.ref p∧H p=none∧(∀ xs,SqL K H a xs→xs[i]?=some y)∧(∀ xs,SqL K H b xs→xs[i]?=some z)∧H'=upd H p (.tup [y,z]),fun i H=>∃ xs ys,SqL K H a xs∧SqL K H b ys∧(xs.length≤i∨ys.length≤i)⟩
theorem znt {P:Program}{w:World}{K:Frag}{es:List Expr}{k0}{pos:Pos}{a b z TI TO i1 i2:Addr}(D:ZipApart z TI TO i1 i2 a b):Turn P w K (.Tuple es k0 pos) (Itz K a b) [z,TI,TO,i1,i2] z
  (fun i h=>IsZip h z TI TO .none∧IsPair h TI (.ref i1) (.ref i2)∧(∃ u v,IsPair h TO u v)∧h.IsListIter i1 a i∧h.IsListIter i2 b i) where
 mem:=by simp
 obj:=fun i h st c hc=>by
  obtain ⟨hz,hTI,⟨u,v,hTO⟩,⟨o1,e1,_,d1⟩,⟨o2,e2,_,d2⟩⟩:=st;simp only[yal,yaF,or_false]at hc;rcases hc with rfl | rfl | rfl | rfl | rfl
  ·exact ⟨_,hz,fun v q=>by cases q⟩
  ·exact ⟨_,hTI,fun v q=>by cases q⟩
  ·exact ⟨_,hTO,fun v q=>by cases q⟩
  ·exact ⟨o1,e1,fun v q=>by rw[d1]at q;cases q⟩
  ·exact ⟨o2,e2,fun v q=>by rw[d2]at q;cases q⟩
 keep:=fun i h h' st k=>by
  obtain ⟨hz,hTI,⟨u,v,hTO⟩,h1,h2⟩:=st;exact ⟨k z (by simp) _ hz,k TI (by simp) _ hTI,⟨u,v,k TO (by simp) _ hTO⟩,h1.at fun o q=>k i1 (by simp) o q,h2.at fun o q=>k i2 (by simp) o q⟩
 item:=by
  intro X hP hw hK hc i pins s σ H E I hf st hg;subst hP hw hK;obtain ⟨hz,hTI,⟨u0,v0,hTO⟩,h1,h2⟩:=st;obtain ⟨xs,ys,x,y,hqa,hqb,hx,hy⟩:=hg;obtain ⟨its,rv,p,_⟩:=I.list hqa;obtain ⟨jts,rw',p',_⟩:=I.list hqb;obtain ⟨u,hu,ru⟩:=rv.get hx;obtain ⟨v,hv,rv'⟩:=rw'.get hy;refine wpAny_pyNext_zip_item D hz hTI hTO h1 h2 p.isList p'.isList (x:=u) (y:=v) (by simpa using hu) (by simpa using hv) fun h1' hz1 hTO1 hi1 hi2 ht1 _ k1=>?_;refine ⟨_,rfl,wpAny_letOwnedTupleGo_zip (s:={ s with heap:=h1' }) hz1 fun h2' hz2 sb=>?_⟩;have np:s.heap.objs.size≠z:=ybB (yae hz);have ht2:h2'.get? s.heap.objs.size=some { cls:=.type "tuple",data:=.seq #[u,v] }:=(sb.2 _ np).trans ht1;have I2:Inv X pins σ (upd H s.heap.objs.size (.tup [x,y])) { s with heap:=h2',toks:=s.toks }:=
   I.turnedNew (fp:=[z,TI,TO,i1,i2]) (fun c ob hb q=>(sb.2 c (fun r=>hb (by simp[r]))).trans (k1 c ob (fun r=>hb (by simp[r])) (fun r=>hb (by simp[r])) (fun r=>hb (by simp[r])) (fun r=>hb (by simp[r])) q)) hf (yaa _) (zlx ru rv' ht2)
  refine ⟨.ref s.heap.objs.size,_,I2,rfl,⟨_,x,y,rfl,I.hok.fresh (yaa _),fun ys hy'=>by rw[I.list_inj hy' hqa];exact hx,fun ys hy'=>by rw[I.list_inj hy' hqb];exact hy,rfl⟩,⟨hz2,(sb.2 _ D.TIz).trans (k1 TI _ D.TIz D.TITO D.TIi1 D.TIi2 hTI),⟨_,_,(sb.2 _ D.TOz).trans hTO1⟩,hi1.at fun o q=>(sb.2 i1 D.i1z).trans q,hi2.at fun o q=>(sb.2 i2 D.i2z).trans q⟩,fun c hb=>?_⟩;have zf:=(hf c hb).1;have lt:c < s.heap.objs.size:=by
   simp only[yal,yaF,or_false]at hb;obtain ⟨o1,e1,_⟩:=h1;obtain ⟨o2,e2,_⟩:=h2;rcases hb with rfl | rfl | rfl | rfl | rfl
   ·exact yae hz
   ·exact yae hTI
   ·exact yae hTO
   ·exact yae e1
   ·exact yae e2
  rw[zah (yau lt)];exact zf
 done:=by
  intro X hP hw hK hc i pins s σ H E I hf st hg;subst hP hw hK;obtain ⟨hz,hTI,⟨u0,v0,hTO⟩,h1,h2⟩:=st;obtain ⟨xs,ys,hqa,hqb,hend⟩:=hg;obtain ⟨its,rv,p,_⟩:=I.list hqa;obtain ⟨jts,rw',p',_⟩:=I.list hqb;have l1:=rv.length;have l2:=rw'.length;refine wpAny_pyNext_zip_end (I.ok.hd hc) D hz hTI hTO h1 h2 p.isList p'.isList (by
   rcases hend with q | q
   ·left;simp;omega
   ·right;simp;omega) fun h' kk=>⟨rfl,?_⟩
  refine I.step (g':=s.gens) (d':=s.drawn) (t':=s.toks) (ch:=[z,TI,TO,i1,i2]) (fun c hb=>?_) (fun c ob _ _ hn q _=>kk c ob (fun r=>hn (by simp[r])) (fun r=>hn (by simp[r])) (fun r=>hn (by simp[r])) (fun r=>hn (by simp[r])) q)
   (fun c ob _ _ hn q _=>⟨ob.slots,kk c ob (fun r=>hn (by simp[r])) (fun r=>hn (by simp[r])) (fun r=>hn (by simp[r])) (fun r=>hn (by simp[r])) q⟩) (fun _ _ _ _ n=>n)
   (fun c ob hn q=>⟨ob,kk c ob (fun r=>hn (by simp[r])) (fun r=>hn (by simp[r])) (fun r=>hn (by simp[r])) (fun r=>hn (by simp[r])) q⟩) (fun _ _ q=>q) (fun _ _ _ q=>q) (fun c ps q=>⟨#[],by rw[q];simp⟩) (fun m hm=>?_) (fun c u e=>?_) I.bare
  ·obtain ⟨_,q2,_,q4,q5,q6⟩:=hf c hb;exact ⟨q4,q2,q5,q6⟩
  ·obtain ⟨ob,es,ep,ho,r⟩:=hm;have nL:∀ c∈[z,TI,TO,i1,i2],X.env.locals≠c:=fun c hc=>Ne.symm (hf c hc).2.1;exact ⟨ob,es,ep,kk _ ob (nL z (by simp)) (nL TO (by simp)) (nL i1 (by simp)) (nL i2 (by simp)) ho,r⟩
  ·have nf:∀ c' u,H c'=some u→∀ q∈[z,TI,TO,i1,i2],c'≠q:=fun c' u e q hq r=>by rw[r,(hf q hq).1]at e;cases e
   refine (I.hok c u e).stay (fun c' v hc' q=>?_) (fun _ q=>q) fun _ _ q=>q;have go:∀ u',H c'=some u'→h'.get? c'=some v:=fun u' e'=>kk c' v (nf c' _ e' z (by simp)) (nf c' _ e' TO (by simp)) (nf c' _ e' i1 (by simp)) (nf c' _ e' i2 (by simp)) q;rcases hc' with r | r
   ·exact go u (by rw[r];exact e)
   ·exact go _ r
 self:=fun _ _ _ _ _ st h=>wpAny_pyIter_zip st.1 h
theorem zlk {l l' n:Nat}(hl:l < n)(hl':l' < n):ZipApart (n+4) (n+2) (n+3) n (n+1) l l':=by
 constructor <;> (intro z;have z':(_:Nat)=_:=z;omega)
theorem zqq {n c:Nat}(h:c∈[n+4,n+2,n+3,n,n+1]):n≤c:=by
 simp only[yal,yaF,or_false]at h;omega
def iZip (K:Frag)(ta:TA):TI:=fun σ H R=>ta σ H fun vs H1=>∃ a b,vs=[.ref a,.ref b]∧(∃ xs,SqL K H1 a xs)∧(∃ xs,SqL K H1 b xs)∧R (Itz K a b) H1
section
variable {X:Cx}
theorem zgv {es:List Expr}{k0}{tp:Pos}{a b:Expr}{ta:TA}{p pos:Pos}(hg:Gl X "zip")(hm:X.mg "zip" = none)(ha:PA X [a,b] ta)(hs:starEach [a,b] X.env=[(false,eval a X.env),(false,eval b X.env)]:=by rfl)(hs2:starEach [b] X.env=[(false,eval b X.env)]:=by rfl):PI X (.Tuple es k0 tp) (.Call (.Name "zip" p) [a,b] [] pos) (iZip X.K ta):=by
 intro pins s σ H R I h;refine Call_ (zfq I hg hm boot_zip (PyProof.Rows.callWith_type1 (thn (ha pos pins s σ H _ I h) fun us s1 zq0=>?_) (by rw[hs,hs2]) (by rw[hs2];rfl)));obtain ⟨vs,H1,I1,r1,q1⟩:=zq0;obtain ⟨l,l',e,⟨xs,hq⟩,⟨ys,hq'⟩,q⟩:=q1;subst e;cases r1 with
 | cons r rr=>
  cases rr with
  | cons r' rr=>
   cases rr
   cases r
   cases r'
   obtain ⟨its,rv,pl,hz⟩:=I1.list hq;obtain ⟨jts,rv',pl',hz'⟩:=I1.list hq';have hl:l < s1.heap.objs.size:=by obtain ⟨o,_,e,_⟩:=pl;exact yae e
   have hl':l' < s1.heap.objs.size:=by obtain ⟨o,_,e,_⟩:=pl';exact yae e
   refine call_zip_2 pl.isList pl'.isList fun h' hz hTI hTO hi hi' _ hk=>?_;have I2:Inv X pins σ H1 { s1 with heap:=h' }:=I1.kept (t':=s1.toks) hk;refine wpAny_pyIter_zip (s:={ s1 with heap:=h' }) hz ⟨_,[s1.heap.objs.size+4,s1.heap.objs.size+2,s1.heap.objs.size+3,s1.heap.objs.size,s1.heap.objs.size+1],_,_,H1,rfl,I2,znt (zlk hl hl'),⟨hz,hTI,⟨_,_,hTO⟩,hi,hi'⟩,fun c hb=>?_,q⟩;have hb':s1.heap.objs.size≤c:=zqq hb;exact I1.fpOk hb' (I1.hok.fresh hb')
end
end L2
namespace L2
open PySem PySem.Spec PyProof.Rows
def zbM (X:Cx)(N:List Str)(scope:Scope)(cl:List (Str×Addr))(C:Addr)(s₂:Shared)(H₂:Hp)(fp:List Addr):Cx:=
 { X with N:=N,s₀:=s₂,H₀:=H₂,env:=compEnvC scope cl C X.env,outer:=X.stack,stack:=X.stack,ex:=fp,fn:=fun _=>false,xe:=fun _ _=>False }
structure ziG (scope:Scope)(env:Env)(cl:List (Str×Addr)):Prop where
 eq:closureFor scope env=pure cl
 sub:∀ x c,cl.lookup x=some c→env.cells.lookup x=some c
 has:∀ x,(x,NameKind.free)∈scope.names→∃ c,cl.lookup x=some c
theorem zgb {env:Env}:∀(names:List (Str×NameKind)) (cs:List (Str×Addr)),(∀ x,(x,NameKind.free)∈names→∃ c,env.cells.lookup x=some c)→(∀ x c,cs.lookup x=some c→env.cells.lookup x=some c)→
  ∃ cl:List (Str×Addr),(forIn names cs (fun (x:Str×NameKind) (r:List (Str×Addr))=>if (x.2 == NameKind.free)=true then (do let c ← cellOf env x.1;pure (ForInStep.yield ((x.1,c)::r))) else pure (ForInStep.yield r)):Sem (List (Str×Addr)))=pure cl∧
   (∀ x c,cl.lookup x=some c→env.cells.lookup x=some c)∧(∀ x c,cs.lookup x=some c→∃ c',cl.lookup x=some c')∧∀ x,(x,NameKind.free)∈names→∃ c,cl.lookup x=some c
 | [],cs,_,h2=>⟨cs,by rw[List.forIn_nil],h2,fun x c e=>⟨c,e⟩,fun _ z=>nomatch z⟩
 | (n,k)::r,cs,h1,h2=>by
  by_cases hk:k=.free
  ·subst hk;obtain ⟨c,hc⟩:=h1 n yak;have hn:∀ x c',((n,c)::cs).lookup x=some c'→env.cells.lookup x=some c':=fun x c' e=>by
    rw[ya4]at e;cases hx:x == n with
    | true=>
     rw[hx]at e;cases e
     rw[eq_of_beq hx];exact hc
    | false=>
     rw[hx]at e;exact h2 x c' e
   obtain ⟨cl,e,s1,s2,s3⟩:=zgb r ((n,c)::cs) (fun x hx=>h1 x (yas _ hx)) hn;have here:∃ c',cl.lookup n=some c':=s2 n c (by rw[ya4,beq_self_eq_true]);refine ⟨cl,?_,s1,fun x c' q=>?_,fun x hx=>?_⟩
   ·rw[List.forIn_cons,if_pos (by rfl)];have q:cellOf env n=pure c:=by unfold cellOf;rw[hc]
    rw[q];simp only[pure_bind];exact e
   ·cases hxn:x == n with
    | true=>rw[eq_of_beq hxn];exact here
    | false=>exact s2 x c' (by rw[ya4,hxn];exact q)
   ·rcases yal.mp hx with z | z
    ·cases z;exact here
    ·exact s3 x z
  ·obtain ⟨cl,e,s1,s2,s3⟩:=zgb r cs (fun x hx=>h1 x (yas _ hx)) h2;refine ⟨cl,?_,s1,s2,fun x hx=>?_⟩
   ·have hb:(k == NameKind.free)=false:=by simpa using hk
    rw[List.forIn_cons,if_neg (by rw[hb];exact yaC)];simp only[pure_bind];exact e
   ·rcases yal.mp hx with z | z
    ·cases z;exact absurd rfl hk
    ·exact s3 x z
theorem zga {scope:Scope}{env:Env}(h:∀ x,(x,NameKind.free)∈scope.names→∃ c,env.cells.lookup x=some c):∃ cl,ziG scope env cl:=by
 obtain ⟨cl,e,s1,_,s3⟩:=zgb scope.names [] h (fun _ _ z=>nomatch z);refine ⟨cl,?_,s1,s3⟩;unfold closureFor;exact (by simpa using e)
theorem zct {env:Env}:∀{names:List (Str×NameKind)} {x:Str},names.lookup x=some .free→
  (names.map fun (n,k)=>if (k == NameKind.free && env.scope.kind == .function && env.kindOf n == some .cell) then (n,NameKind.cell) else (n,k)).lookup x=some .cell∨
  (names.map fun (n,k)=>if (k == NameKind.free && env.scope.kind == .function && env.kindOf n == some .cell) then (n,NameKind.cell) else (n,k)).lookup x=some .free
 | [],_,h=>by simp at h
 | (n,k)::r,x,h=>by
  have ih:=@zct env r x;show List.lookup x ((if (k == NameKind.free && env.scope.kind == .function && env.kindOf n == some .cell)=true then (n,NameKind.cell) else (n,k))::_)=_∨List.lookup x ((if (k == NameKind.free && env.scope.kind == .function && env.kindOf n == some .cell)=true then (n,NameKind.cell) else (n,k))::_)=_
  cases hx:x == n with
  | true=>
   simp only[ya4,hx]at h;cases h
   by_cases hc:(NameKind.free == NameKind.free && env.scope.kind == .function && env.kindOf n == some .cell)=true
   ·rw[if_pos hc];left;simp only[ya4,hx]
   ·rw[if_neg hc];right;simp only[ya4,hx]
  | false=>
   simp only[ya4,hx]at h;by_cases hc:(k == NameKind.free && env.scope.kind == .function && env.kindOf n == some .cell)=true
   ·rw[if_pos hc];simp only[ya4,hx];exact ih h
   ·rw[if_neg hc];simp only[ya4,hx];exact ih h
theorem zeb {env:Env}:∀{names:List (Str×NameKind)} {x:Str} {k':NameKind},(names.map fun (n,k)=>if (k == NameKind.free && env.scope.kind == .function && env.kindOf n == some .cell) then (n,NameKind.cell) else (n,k)).lookup x=some k'→k'=.cell∨k'=.free→
  (∀ y∈names,y.2≠.cell)→(x,NameKind.free)∈names
 | [],_,_,h,_,_=>by simp at h
 | (n,k)::r,x,k',h,hk,hc=>by
  have ih:=@zeb env r x k';have h':List.lookup x ((if (k == NameKind.free && env.scope.kind == .function && env.kindOf n == some .cell)=true then (n,NameKind.cell) else (n,k))::r.map fun (n,k)=>if (k == NameKind.free && env.scope.kind == .function && env.kindOf n == some .cell) then (n,NameKind.cell) else (n,k))=some k':=h
  cases hx:x == n with
  | true=>
   have e:=eq_of_beq hx;subst e;by_cases hf:k=.free
   ·subst hf;exact yak
   ·have hb:(k == NameKind.free)=false:=by simpa using hf
    rw[if_neg (by rw[hb];simp),ya4,hx]at h';cases h'
    rcases hk with z | z
    ·exact absurd z (hc (x,k) yak)
    ·exact absurd z hf
  | false=>
   refine yas _ (ih ?_ hk fun y hy=>hc y (yas _ hy));by_cases hcd:(k == NameKind.free && env.scope.kind == .function && env.kindOf n == some .cell)=true
   ·rw[if_pos hcd,ya4,hx]at h';exact h'
   ·rw[if_neg hcd,ya4,hx]at h';exact h'
def zfi (own:Nat)(cap:List Nat)(σ:St):St:=List.replicate own none++cap.map fun i=>(σ[i]?).getD none
structure zkx (X:Cx)(scope:Scope)(N:List Str)(own:Nat)(cap:List Nat):Prop where
 kind:scope.kind=.function
 nocell:(scope.names.all fun y=>y.2 != .cell)=true
 locs:(scope.names.all fun y=>y.2 != .local || scope.names.lookup y.1 == some .local)=true
 frees:(scope.names.all fun y=>y.2 != .free || (X.env.kindOf y.1 == some .cell || X.env.kindOf y.1 == some .free))=true
 len:N.length=own+cap.length
 caps:((List.range cap.length).all fun j=>(N[own+j]? == X.N[cap[j]!]?) && (match N[own+j]? with | some x=>scope.names.lookup x == some .free && (X.env.kindOf x == some .cell || X.env.kindOf x == some .free) | none=>false))=true
section
variable {prog:Program}{w:World}{A:Around}{R:Result→Shared→Prop}{s:Shared}
theorem zjj {elt target iter:Expr}{ifs:List Expr}{scope:Scope}{pos:Pos}{it acc:Value}{env:Env}(I:Nat→Shared→Prop)
  (turn:∀ n s,I n s→wpAny (model prog w) A (pyNext it) (fun r s₁=>match r with
   | none=>R (.ok .next) s₁
   | some v=>wpAny (model prog w) A (letOwnedTupleGo target it v) (fun _ s₁'=>wpAny (model prog w) A (assign target env v) (fun _ s₂=>
     wpAny (model prog w) A (forIn ifs true fun c r=>if r=true then do let ok ← isTrue c env (eval c env);pure (ForInStep.yield ok) else pure (ForInStep.yield r)) (fun ok s₃=>
      if ok=true then wpAny (model prog w) A (eval elt env) (fun x s₄=>
       wpAny (model prog w) A (call (.builtin "list.append") [acc,x]) (fun _ s₅=>∃ m,m < n∧I m s₅) (fun _ _=>False) s₄) (fun _ _=>False) s₃
      else ∃ m,m < n∧I m s₃) (fun _ _=>False) s₂) (fun _ _=>False) s₁') (fun _ _=>False) s₁) (fun _ _=>False) s)
  (n:Nat) (h:I n s) :
  codeAny (model prog w) A (.compLoop (.ListComp elt [⟨target,iter,ifs,0⟩] scope pos) 0 it acc env) R s:=by
 refine codeAny_loop rfl I (fun n s hI=>?_) n h;show wpAny _ A ((compTurn (.ListComp elt [⟨target,iter,ifs,0⟩] scope pos) 0 it acc env).onRaise (fun x=>do noteFrame x env;theTreesLotGoes x)) _ _ s
 refine wpAny_noted ?_;rw[compTurn_list];refine wpAny_bind (wpAny_standAt (wpAny_bind (wpAny_mono (turn n s hI) (fun r s₁ h₁=>?_) fun _ _ h'=>h'.elim)));cases r with
 | none=>exact wpAny_pure h₁
 | some v=>
  refine wpAny_bind (wpAny_mono h₁ (fun _ s₁' h₁'=>?_) fun _ _ h'=>h'.elim);refine wpAny_bind (wpAny_mono h₁' (fun _ s₂ h₂=>wpAny_bind (wpAny_mono h₂ (fun ok s₃ h₃=>?_) fun _ _ h'=>h'.elim)) fun _ _ h'=>h'.elim);cases ok with
  | true=>
   simp only[if_true]at h₃ ⊢;exact wpAny_bind (wpAny_bind (wpAny_mono h₃ (fun x s₄ h₄=>wpAny_bind (wpAny_mono h₄ (fun _ s₅ h₅=>wpAny_pure (wpAny_pure ⟨rfl,h₅⟩)) fun _ _ h'=>h'.elim)) fun _ _ h'=>h'.elim))
  | false=>
   simp only[yaM,if_false]at h₃ ⊢;exact wpAny_pure ⟨rfl,h₃⟩
end
section
variable {X:Cx}
def PTs (X:Cx)(ifs:List Expr)(t:TT):Prop:=
 ∀(pins:List (Addr×Obj)) (s:Shared) (σ:St) (H:Hp) (Q:Bool→Hp→Prop),Inv X pins σ H s→t σ H Q→
  wpAny (model X.prog X.w) X.A (forIn ifs true fun c r=>if r=true then do let ok ← isTrue c X.env (eval c X.env);pure (ForInStep.yield ok) else pure (ForInStep.yield r)) (TP X pins σ Q) X.xe s
def tYes:TT:=fun _ H Q=>Q true H
theorem zbp:PTs X [] tYes:=fun _ _ _ H _ I h=>wpAny_tests_nil ⟨H,I,h⟩
theorem zfV {c:Expr}{t:TT}(h:PT X c t):PTs X [c] t:=fun pins s σ H Q I q=>wpAny_tests_one (h pins s σ H Q I q)
theorem zof {pins:List (Addr×Obj)}{σ:St}{H:Hp}{s:Shared}{N:List Str}{own:Nat}{cap:List Nat}{scope:Scope}{cl:List (Str×Addr)}{C:Addr}{fp:List Addr}{h₁:Heap}{tk:Nat}{D:Addr}
  (I:Inv X pins σ H s) (c:zkx X scope N own cap) (hcl:ziG scope X.env cl) (f:∀ b∈fp,FpOk X pins H b) (hD:s.heap.objs.size≤D) (hC:s.heap.objs.size≤C) (hCD:D≠C)
  (kp:∀ b o,s.heap.get? b=some o→h₁.get? b=some o) (hnew:h₁.get? D=some { cls:=.type "list",data:=.seq #[] }) (hns:∃ m,h₁.Ns C m) (hfp:∀ b∈fp,b < s.heap.objs.size) (hcalm:X.calm=true) :
  Inv (zbM X N scope cl C s H fp) pins (zfi own cap σ) (upd H D (.lst [])) { s with heap:=h₁,toks:=tk }:=by
 have hfr:H D=none:=I.hok.fresh hD;have hfrC:H C=none:=I.hok.fresh hC;have sz:∀ b o,s.heap.get? b=some o→b≠D∧b≠C:=fun b o e=>⟨yau (yaz (yae e) hD),yau (yaz (yae e) hC)⟩;have cells:∀ x cc,cl.lookup x=some cc→∃ v,s.heap.IsCell cc v:=fun x cc e=>I.cell x cc (hcl.sub x cc e);have cellne:∀ x cc,cl.lookup x=some cc→cc≠D∧cc≠C:=fun x cc e=>by
  obtain ⟨v,o,ho,_⟩:=cells x cc e;exact sz cc o ho
 have ok:(zbM X N scope cl C s H fp).Ok:=by
  refine ⟨I.ok.mod,c.kind,I.ok.glob,I.ok.blt,hC,fun x y cc e1 e2=>I.ok.inj x y cc (hcl.sub x cc e1) (hcl.sub y cc e2),fun x hx=>?_,(fun x cc z _=>nomatch z),I.ok.hd,I.ok.frames,.inl rfl,fun b hb=>?_,fun b o e=>I.bs b o e,?_,fun b o e hb=>?_,fun b hb z=>?_,I.stack,fun b hb=>I.stkFree b hb⟩
  ·have hm:(x,NameKind.free)∈scope.names:=by
    rcases hx with z | z
    ·exact zeb (env:=X.env) (names:=scope.names) (x:=x) (k':=.cell) z (.inl rfl) fun y hy q=>by
      have:=yaU.mp c.nocell y hy;rw[q]at this;exact absurd this (by decide)
    ·exact zeb (env:=X.env) (names:=scope.names) (x:=x) (k':=.free) z (.inr rfl) fun y hy q=>by
      have:=yaU.mp c.nocell y hy;rw[q]at this;exact absurd this (by decide)
   exact hcl.has x hm
  ·exact ⟨yau (yaz (hfp b hb) hC),fun x cc e z=>(f b hb).2.2.2.2.1 x cc (hcl.sub x cc e) z⟩
  ·exact yaB I.ok.bsz I.sz
  ·obtain ⟨_,_,_,h4,_⟩:=f b hb;rcases h4 with z | z
   ·exact I.ok.noex b o e z
   ·exact absurd (yaz (yae e) (yaB I.ok.bsz z)) (yaV _)
  ·obtain ⟨_,h2,h3,_⟩:=f b hb;rcases yal.mp (I.stkSub b z) with q | q
   ·exact h2 q
   ·exact h3 q
 have hokN:za7 X.prog X.w (upd H D (.lst [])) h₁ D (.lst []):=⟨yaE _,[],0,.nil,hnew⟩;refine ⟨ok,I.os.symm ▸ rfl,I.bare,Un.laid kp hD hfr,?_,fun x cc e=>?_,?_,fun x cc e=>?_,fun p hp=>?_,I.hok.laid kp hD hokN,?_⟩
 ·obtain ⟨m,hm⟩:=hns;refine ⟨m,hm,fun i x v e1 e2 e3=>?_⟩;have hi:own≤i:=by
   false_or_by_contra
   rename_i z;unfold zfi at e2;rw[ya0 (by rw[ybo];omega),List.getElem?_replicate]at e2;split at e2 <;> cases e2
  obtain ⟨j,rfl⟩:∃ j,i=own+j:=⟨i - own,by omega⟩;have hj:j < cap.length:=by
   have:=(yao.mp e1).1;have z:=c.len;have this':own+j < N.length:=this;omega
  have hc:=yaU.mp c.caps j (yaX.mpr hj);have e1':N[own+j]?=some x:=e1;rw[e1']at hc;simp only[ybh,beq_iff_eq,Bool.or_eq_true]at hc;obtain ⟨hN,hf,hk⟩:=hc;have e2':σ[cap[j]!]?=some (some v):=by
   unfold zfi at e2;rw[yaP (by rw[ybo];omega),ybo,show own+j - own=j by omega,yaj]at e2;have g:cap[j]! = cap[j]:=by simp[hj]
   rw[yac hj,Option.map_some]at e2;rw[g];have e2:=yag e2;cases q:σ[cap[j]]? with
   | none=>rw[q]at e2;cases e2
   | some z=>rw[q]at e2;exact congrArg some e2
  obtain ⟨m0,_,hl⟩:=I.loc;obtain ⟨u,ru,lk⟩:=hl (cap[j]!) x v hN.symm e2' (by
   rcases hk with z | z
   ·exact .inr (.inl z)
   ·exact .inr (.inr z))
  refine ⟨u,ru,.inr ⟨zct (env:=X.env) hf,?_⟩⟩;rcases lk with ⟨z,_⟩ | ⟨_,cc,ec,ic⟩
  ·rcases hk with q | q
   ·rw[q]at z;cases z
   ·rw[q]at z;cases z
  ·obtain ⟨c',hc'⟩:=hcl.has x (by
    have:(x,NameKind.free)∈scope.names:=by
     have hlk:=hf;obtain ⟨l1,l2,hs,hno⟩:=List.lookup_eq_some_iff.mp hlk;rw[hs];exact yax _ yak
    exact this)
   have:=hcl.sub x c' hc';rw[ec]at this;cases this
   obtain ⟨o,ho,hd⟩:=ic;exact ⟨cc,hc',o,kp cc o ho,hd⟩
 ·obtain ⟨v,o,ho,hd⟩:=cells x cc e;exact ⟨v,o,kp cc o ho,hd⟩
 ·show upd H D (.lst []) C=none;rw[zah (Ne.symm hCD)];exact hfrC
 ·show upd H D (.lst []) cc=none;rw[zah (cellne x cc e).1];exact I.freeC x cc (hcl.sub x cc e)
 ·obtain ⟨e,n,ne,nf,d⟩:=I.pin p hp;refine ⟨kp _ _ e,?_,(sz _ _ e).2,fun z=>?_,d⟩
  ·show upd H D (.lst []) p.1=none;rw[zah (sz _ _ e).1];exact n
  ·rcases yal.mp (I.stkSub p.1 z) with q | q
   ·exact ne q
   ·exact nf q
 ·show (zfi own cap σ).length=N.length;unfold zfi;rw[yaf,ybo,yab,c.len]
def zqC (own:Nat)(cap:List Nat)(wi:TI)(g:TG)(ts:TT)(te:TE):TE:=fun σ H Q=>wi σ H fun J H1=>∀ D,H1 D=none→∃ W:Nat→Nat→St→Hp→Prop,(∃ m,W 0 m (zfi own cap σ) (upd H1 D (.lst [])))∧∀ i m σ H,W i m σ H→
 (J.stop i H∧Q (.ref D) H)∨(J.go i H∧∀ x H',J.yld i H x H'→g x σ H' fun σ2 H2=>ts σ2 H2 fun b H3=>if b=true then te σ2 H3 fun y H4=>∃ xs,H4 D=some (.lst xs)∧xs.length < sizeLine∧∃ m',m' < m∧W (i+1) m' σ2 (upd H4 D (.lst (xs++[y]))) else ∃ m',m' < m∧W (i+1) m' σ2 H3)
theorem zis {pins:List (Addr×Obj)}{σ:St}{H2:Hp}{s2:Shared}{N:List Str}{own:Nat}{cap:List Nat}{scope:Scope}{cl:List (Str×Addr)}{fp:List Addr}{tg elt iter:Expr}{ifs:List Expr}{pos:Pos}{J:It}{it:Addr}{tn:Nat→Heap→Prop}{g:TG}{ts:TT}{te:TE}{Q:VK}
  {E:Value→Shared→Prop} {RR:Value→Addr→Result→Shared→Prop}
  (hcalm:X.calm=true) (c:zkx X scope N own cap) (hcl:ziG scope X.env cl)
  (hg:∀ cl C s₂ H₂ fp,PG (zbM X N scope cl C s₂ H₂ fp) tg g) (hts:∀ cl C s₂ H₂ fp,PTs (zbM X N scope cl C s₂ H₂ fp) ifs ts) (he:∀ cl C s₂ H₂ fp,PE (zbM X N scope cl C s₂ H₂ fp) elt te)
  (I2:Inv X pins σ H2 s2) (T:Turn X.prog X.w X.K tg J fp it tn) (st2:tn 0 s2.heap) (f2:∀ b∈fp,FpOk X pins H2 b)
  (rd:∀ D,H2 D=none→∃ W:Nat→Nat→St→Hp→Prop,(∃ m,W 0 m (zfi own cap σ) (upd H2 D (.lst [])))∧∀ i m σ H,W i m σ H→
   (J.stop i H∧Q (.ref D) H)∨(J.go i H∧∀ x H',J.yld i H x H'→g x σ H' fun σ2 H2=>ts σ2 H2 fun b H3=>if b=true then te σ2 H3 fun y H4=>∃ xs,H4 D=some (.lst xs)∧xs.length < sizeLine∧∃ m',m' < m∧W (i+1) m' σ2 (upd H4 D (.lst (xs++[y]))) else ∃ m',m' < m∧W (i+1) m' σ2 H3))
  (hRR:∀ D C s' H',Inv X pins σ H' s'→(∃ m,s'.heap.Ns C m)→FpOk X pins H' C→Q (.ref D) H'→RR (.ref D) C (.ok .next) s') :
  wpAny (model X.prog X.w) X.A (newList []) (fun acc s₃=>wpAny (model X.prog X.w) X.A (newFunctionEnv scope X.env.globals cl [] X.env.qual none .none (some X.env)) (fun cenv s₄=>
   codeAny (model X.prog X.w) X.A (.compStart (.ListComp elt [⟨tg,iter,ifs,0⟩] scope pos) 0 (.ref it) acc { cenv with scope:=relabel scope X.env }) (RR acc cenv.locals) s₄) E s₃) E s2:=by
 have hcell:∀ y∈scope.names,y.2≠.cell:=fun y hy q=>by
  have:=yaU.mp c.nocell y hy;rw[q]at this;exact absurd this (by decide)
 have hfp:∀ b∈fp,b < s2.heap.objs.size:=fun b hb=>by
  obtain ⟨o,e,_⟩:=T.obj 0 _ st2 b hb;exact yae e
 refine wpAny_newObj_type (wpAny_newFunctionEnv hcell (by intro y hy;simp at hy) (fun h₁ hns₁ hsb₁=>?_) c.kind);dsimp only at hns₁ hsb₁ ⊢;generalize hHH:s2.heap.push { cls:=.type "list",dict:=none,data:=.seq ([]:List Value).toArray }=HH at hns₁ hsb₁ ⊢;have hC:HH.objs.size=s2.heap.objs.size+1:=by rw[← hHH,Heap.size_push]
 have hDC:s2.heap.objs.size≠HH.objs.size:=by rw[hC];exact yau (Nat.lt_succ_self _)
 have hCle:s2.heap.objs.size≤HH.objs.size:=by rw[hC];exact ybv _
 have old:∀ b o,s2.heap.get? b=some o→h₁.get? b=some o:=fun b o e=>hsb₁.extBut b o (yau (by rw[hC];exact Nat.lt_succ_of_lt (yae e))) (yap _ (hHH ▸ yap _ e));have hnew:h₁.get? s2.heap.objs.size=some { cls:=.type "list",data:=.seq #[] }:=hsb₁.extBut _ _ hDC (yap _ (hHH ▸ yaO _ rfl));have I3:∀ tk,Inv (zbM X N scope cl HH.objs.size s2 H2 fp) pins (zfi own cap σ) (upd H2 s2.heap.objs.size (.lst [])) { s2 with heap:=h₁,toks:=tk }:=fun tk=>
  zof I2 c hcl f2 (yaa _) hCle hDC old hnew ⟨_,hns₁⟩ hfp hcalm
 obtain ⟨W,⟨m0,w0⟩,turn⟩:=rd s2.heap.objs.size (I2.hok.fresh (yaa _));have st3:tn 0 h₁:=T.keep _ _ _ st2 fun b _ o e=>old b o e;have fr3:∀ b∈fp,upd H2 s2.heap.objs.size (.lst []) b=none:=fun b hb=>by rw[zah (yau (hfp b hb))];exact (f2 b hb).1
 have stat:∀{H':Hp},(∀ b∈fp,H' b=none)→∀ b∈fp,FpOk (zbM X N scope cl HH.objs.size s2 H2 fp) pins H' b:=fun hn b hb=>by
  obtain ⟨_,h2,h3,_,h5,h6⟩:=f2 b hb;refine ⟨hn b hb,yau (yaz (hfp b hb) hCle),fun z=>?_,.inl hb,fun x cc e=>h5 x cc (hcl.sub x cc e),h6⟩;rcases yal.mp (I2.stkSub b z) with q | q
  ·exact h2 q
  ·exact h3 q
 have loop:∀ s₃:Shared,s₃={ s2 with heap:=h₁,toks:=s2.toks+([]:List (Str×Value)).length }→
   codeAny (model X.prog X.w) X.A (.compLoop (.ListComp elt [⟨tg,iter,ifs,0⟩] scope pos) 0 (.ref it) (.ref s2.heap.objs.size) (compEnvC scope cl HH.objs.size X.env)) (RR (.ref s2.heap.objs.size) HH.objs.size) s₃:=by
  rintro s₃ rfl;refine zjj (fun n s'=>∃ i σ' H',Inv (zbM X N scope cl HH.objs.size s2 H2 fp) pins σ' H' s'∧tn i s'.heap∧(∀ b∈fp,H' b=none)∧W i n σ' H') ?_ m0 ⟨0,_,_,I3 _,st3,fr3,w0⟩;rintro n s3 ⟨i,σ3,H3,J3,t3,fr,w3⟩;rcases turn i n σ3 H3 w3 with ⟨stop,qn⟩ | ⟨go,step⟩
  ·refine thn (T.done (zbM X N scope cl HH.objs.size s2 H2 fp) rfl rfl rfl hcalm i pins s3 σ3 H3 (fun _ _=>False) J3 (stat fr) t3 stop) fun r s4 zq0=>?_;obtain ⟨hr,I4⟩:=zq0;subst hr;obtain ⟨mm,hmm,_⟩:=I4.loc;refine hRR _ _ s4 H3 (I2.call' I4.os I4.base I4.hok I4.bare fun b hb=>?_) ⟨mm,hmm⟩ (I2.fpOk hCle I4.free) qn;obtain ⟨_,h2,_,h4,h5,h6⟩:=f2 b hb;exact ⟨h4,h2,h5,h6⟩
  ·refine thn (T.item (zbM X N scope cl HH.objs.size s2 H2 fp) rfl rfl rfl hcalm i pins s3 σ3 H3 (fun _ _=>False) J3 (stat fr) t3 go) fun r s4 zq0=>?_;obtain ⟨u,hr,h4⟩:=zq0;subst hr;refine thn h4 fun _ s5 zq0=>?_;obtain ⟨x,H5,I5,r5,y5,st5,fr5⟩:=zq0;have I5':=I5.pinned (stat fr5) (T.obj _ _ st5);have back:∀{σ7:St} {H7:Hp} {s7:Shared} {m':Nat},Inv (zbM X N scope cl HH.objs.size s2 H2 fp) (pins++zhW fp s5.heap) σ7 H7 s7→W (i+1) m' σ7 H7→∃ i σ' H',Inv (zbM X N scope cl HH.objs.size s2 H2 fp) pins σ' H' s7∧tn i s7.heap∧(∀ b∈fp,H' b=none)∧W i m' σ' H':=fun {σ7 H7 s7 m'} I7 w7=>by
    refine ⟨i+1,σ7,H7,I7.unpinned,T.keep _ _ _ st5 fun b hb o e=>(I7.pin (b,o) (yax _ (yax _ (zdY hb e)))).1,fun b hb=>?_,w7⟩;obtain ⟨o,e,d⟩:=T.obj _ _ st5 b hb;exact (I7.pin (b,o) (yax _ (yax _ (zdY hb e)))).2.1
   refine thn (hg cl HH.objs.size s2 H2 fp _ s5 σ3 H5 x u _ I5' r5 (step x H5 y5)) fun _ s6 zq0=>?_;obtain ⟨σ6,H6,I6,q6⟩:=zq0;refine thn (hts cl HH.objs.size s2 H2 fp _ s6 σ6 H6 _ I6 q6) fun b s7 zq0=>?_;obtain ⟨H7,I7,q7⟩:=zq0;cases b with
   | false=>
    rw[if_neg yaC]at q7 ⊢;obtain ⟨m',hm,w7⟩:=q7;exact ⟨m',hm,back I7 w7⟩
   | true=>
    rw[if_pos rfl]at q7 ⊢;refine thn (he cl HH.objs.size s2 H2 fp _ s7 σ6 H7 _ I7 q7) fun v s8 zq0=>?_;obtain ⟨y,H8,I8,r8,q8⟩:=zq0;obtain ⟨xs,hx,hz,m',hm,w8⟩:=q8;refine thn (za0 (X:=zbM X N scope cl HH.objs.size s2 H2 fp) _ s8 σ6 H8 (.ref s2.heap.objs.size) [y] (.ref s2.heap.objs.size) [v] (fun _ H9=>H9=upd H8 s2.heap.objs.size (.lst (xs++[y]))) I8 rfl (.cons r8 .nil) ⟨_,xs,y,rfl,rfl,hx,hz,rfl⟩) fun _ s9 zq0=>?_;obtain ⟨_,H9,I9,_,e9⟩:=zq0;subst e9;exact ⟨m',hm,back I9 w8⟩
 refine codeAny_compStart_list (loop _ rfl) ?_;exact T.self _ 0 _ _ _ st3 (loop _ rfl)
theorem zbr {N:List Str}{own:Nat}{cap:List Nat}{scope:Scope}{tg elt iter:Expr}{ifs:List Expr}{pos:Pos}{wi:TI}{g:TG}{ts:TT}{te:TE}(hcalm:X.calm=true)(hi:PI X tg iter wi)(c:zkx X scope N own cap)
  (hg:∀ cl C s₂ H₂ fp,PG (zbM X N scope cl C s₂ H₂ fp) tg g) (hts:∀ cl C s₂ H₂ fp,PTs (zbM X N scope cl C s₂ H₂ fp) ifs ts) (he:∀ cl C s₂ H₂ fp,PE (zbM X N scope cl C s₂ H₂ fp) elt te)
  (hs:∀ x,foldedSetIterable iter X.env x=pure x:=by intro _;rfl):PE X (.ListComp elt [⟨tg,iter,ifs,0⟩] scope pos) (zqC own cap wi g ts te):=by
 intro pins s σ H Q I h;obtain ⟨cl,hcl⟩:=zga (scope:=scope) (env:=X.env) fun x hx=>I.ok.has x (by
  have:=yaU.mp c.frees _ hx;simpa using this)
 rw[eval_ListComp];refine wpAny_comprehension_free (use:=none) rfl hs hcl.eq c.kind (fun x hx hl=>by
  have:=yaU.mp c.locs x hx;rw[hl]at this;simpa using this) (thn (hi pins s σ H _ I h) fun v s1 h1=>thn h1 fun itv s2 h2=>?_)
 obtain ⟨it,fp,tn,J,H2,e,I2,T,st2,f2,rd⟩:=h2;subst e;refine zis (RR:=fun acc C=>compPost (model X.prog X.w) X.A X.xe none (EP X pins σ Q) acc C) hcalm c hcl hg hts he I2 T st2 f2 rd ?_;intro D C s' H' I' hm fC q;obtain ⟨m,hm⟩:=hm;obtain ⟨f0,f1,f2,f3,f4,f5⟩:=fC;exact ⟨m,hm,fun h' hsb=>⟨.ref D,H',I'.turned (t':=s'.toks) (fun b o hb e=>(hsb.2 b hb).trans e) f0 f1 f3 f4 f5,rfl,q⟩⟩
theorem zfW {i:Nat}{x:Str}{N:List Str}{own:Nat}{cap:List Nat}{scope:Scope}{tg elt iter:Expr}{ifs:List Expr}{pos pos' spos:Pos}{wi:TI}{g:TG}{ts:TT}{te:TE}(hN:X.N.Nodup)(hxi:X.N[i]?=some x)(hx:X.env.scope.names.lookup x=some .local)(hcalm:X.calm=true)(hi:PI X tg iter wi)(c:zkx X scope N own cap)
  (hg:∀ cl C s₂ H₂ fp,PG (zbM X N scope cl C s₂ H₂ fp) tg g) (hts:∀ cl C s₂ H₂ fp,PTs (zbM X N scope cl C s₂ H₂ fp) ifs ts) (he:∀ cl C s₂ H₂ fp,PE (zbM X N scope cl C s₂ H₂ fp) elt te)
  (hsw:swapsWith (.ListComp elt [⟨tg,iter,ifs,0⟩] scope pos) (some (.Name x pos')) spos.line X.env=pure true:=by rfl)
  (hs:∀ x,foldedSetIterable iter X.env x=pure x:=by intro _;rfl):PS X (.Assign [.Name x pos'] (.ListComp elt [⟨tg,iter,ifs,0⟩] scope pos) spos) (tAsg (zqC own cap wi g ts te) (zhw i)):=by
 intro pins s σ H D I h;obtain ⟨cl,hcl⟩:=zga (scope:=scope) (env:=X.env) fun x hx=>I.ok.has x (by
  have:=yaU.mp c.frees _ hx;simpa using this)
 rw[exec_Assign_Name_used _ _ _ _ hsw];refine wpAny_bind (wpAny_standAt (wpAny_bind ?_));show wpAny _ X.A (do let _ ← comprehension (.ListComp elt [⟨tg,iter,ifs,0⟩] scope pos) scope X.env _ (newList []) false (eval iter X.env) (some (assign (.Name x pos') X.env))) _ _ s
 refine wpAny_bind (wpAny_mono (wpAny_comprehension_free (use:=some (assign (.Name x pos') X.env)) (Q:=fun _ s'=>SP X pins D .next s') rfl hs hcl.eq c.kind (fun x hx hl=>by
  have:=yaU.mp c.locs x hx;rw[hl]at this;simpa using this) (thn (hi pins s σ H _ I h) fun v s1 h1=>thn h1 fun itv s2 h2=>?_)) (fun _ s' hq=>wpAny_pure (wpAny_pure hq)) fun _ _ e=>e)
 obtain ⟨it,fp,tn,J,H2,e,I2,T,st2,f2,rd⟩:=h2;subst e;refine zis (RR:=fun acc C=>compPost (model X.prog X.w) X.A X.xe (some (assign (.Name x pos') X.env)) (fun _ s'=>SP X pins D .next s') acc C) (Q:=fun x H1=>zhw i x σ H1 D.nx) hcalm c hcl hg hts he I2 T st2 f2 rd ?_;intro Dd C s' H' I' hm fC q;obtain ⟨m,hm⟩:=hm;have hne:∀ a,(a=X.env.locals∨X.env.cells.lookup x=some a)→a≠C:=fun a z=>by
  obtain ⟨f0,f1,f2,f3,f4,f5⟩:=fC;rcases z with z | z
  ·rw[z];exact Ne.symm f1
  ·exact f4 x a z
 show wpAny _ X.A (assign (.Name x pos') X.env (.ref Dd)) _ _ _;refine wpAny_assign_Name (zhO I' hN hxi (.inl hx) (v:=.ref Dd) rfl (fun s'' I'' hch=>?_) (.inr hx));obtain ⟨a,hsb,ha⟩:=hch;refine ⟨m,hm.sameBut hsb (Ne.symm (hne a ha)),fun h' hs'=>?_⟩;obtain ⟨f0,f1,f2,f3,f4,f5⟩:=fC;exact ⟨_,H',I''.turned (t':=s''.toks) (fun b o hb e=>(hs'.2 b hb).trans e) f0 f1 f3 f4 f5,q⟩
end
end L2
namespace L2
open PySem PySem.Spec PyProof.Rows PySem.SeqAt
class Srt (α:Type)[Rep α] where
 blt:α→α→Bool
 irrefl:∀ a,blt a a=false
 trans:∀ a b c,blt a b=true→blt b c=true→blt a c=true
 negTrans:∀ a b c,blt a c=true→blt a b=true∨blt b c=true
 total:∀ a b,blt a b=false→blt b a=false→a=b
 kd:SortKind
 one:α
 lt:∀{X:Cx} {pins:List (Addr×Obj)} {σ:St} {H:Hp} {s:Shared} {A:Around} {a b:α} {x y:V} {u v:Value} {Q:Bool→Shared→Prop} {E:Value→Shared→Prop},Inv X pins σ H s→Rep.has X.K H a x→Rep.has X.K H b y→RelV x u→RelV y v→Q (blt a b) s→wpAny (model X.prog X.w) A (keyLt' kd u v) Q E s
 kind:∀{X:Cx} {pins:List (Addr×Obj)} {σ:St} {H:Hp} {s:Shared} {A:Around} {as:List α} {xs:List V} {us:List Value} {Q:SortKind→Shared→Prop} {E:Value→Shared→Prop},Inv X pins σ H s→zar X.K H as xs→Vals xs us→2≤us.length→Q kd s→wpAny (model X.prog X.w) A (keyKind' us.toArray) Q E s
section
variable {α:Type}[Rep α][Srt α]
noncomputable def srtKind (α:Type)[Rep α][Srt α](K:Frag)(H:Hp):PyProof.Rows.KeyKind where
 α:=α
 blt:=Srt.blt
 irrefl:=Srt.irrefl
 trans:=Srt.trans
 negTrans:=Srt.negTrans
 total:=Srt.total
 keyOf:=fun u=>open Classical in if h:∃ a:α,∃ x,RelV x u∧Rep.has K H a x then some (Classical.choose h) else none
 dflt:=Srt.one
theorem zod {X:Cx}{pins:List (Addr×Obj)}{σ:St}{H:Hp}{s:Shared}{a:α}{x:V}{u:Value}(I:Inv X pins σ H s)(r:RelV x u)(h:Rep.has X.K H a x):(srtKind α X.K H).keyOf u=some a:=by
 have e:∃ a:α,∃ x,RelV x u∧Rep.has X.K H a x:=⟨a,x,r,h⟩;unfold srtKind;dsimp only;rw[dif_pos e];obtain ⟨y,ry,hy⟩:=Classical.choose_spec e;have z:=ry.inj r;subst z;exact congrArg some (Rep.inj I hy h)
theorem zgz {K:Frag}{H:Hp}{a:α}{u:Value}(h:(srtKind α K H).keyOf u=some a):∃ x,RelV x u∧Rep.has K H a x:=by
 unfold srtKind at h;dsimp only at h;split at h
 ·rename_i e;cases h
  exact Classical.choose_spec e
 ·cases h
def zen (as:List α):List α:=as.mergeSort fun a b=>!Srt.blt b a
theorem zcf (as:List α):(zen as).Perm as:=List.mergeSort_perm _ _
theorem zfR {as:List α}{a:α}:a∈zen as↔a∈as:=(zcf as).mem_iff
theorem zdr (as:List α):(zen as).length=as.length:=(zcf as).length_eq
theorem znf {a b:α}(h:Srt.blt a b=true):Srt.blt b a=false:=by
 cases e:Srt.blt b a with
 | false=>rfl
 | true=>
  have:=Srt.trans _ _ _ h e;rw[Srt.irrefl]at this;cases this
theorem zjS (as:List α):(zen as).Pairwise fun a b=>Srt.blt b a=false:=by
 have h:=List.pairwise_mergeSort (le:=fun a b:α=>!Srt.blt b a) (fun a b c h1 h2=>by
  simp only[ybj]at h1 h2 ⊢;cases e:Srt.blt c a with
  | false=>rfl
  | true=>
   rcases Srt.negTrans c b a e with z | z
   ·rw[h2]at z;cases z
   ·rw[h1]at z;cases z) (fun a b=>by
  cases e:Srt.blt b a with
  | false=>rfl
  | true=>rw[znf e];rfl) as
 exact h.imp fun {a b} z=>by simpa using z
theorem znB {as bs:List α}(hp:bs.Perm as)(hs:bs.Pairwise fun a b=>Srt.blt b a=false):bs=zen as:=
 List.Perm.eq_of_pairwise (fun a b _ _ h1 h2=>Srt.total a b h2 h1) hs (zjS as) (hp.trans (zcf as).symm)
theorem zgs {as:List α}(hn:as.Nodup):(zen as).Pairwise fun a b=>Srt.blt a b=true:=by
 have h1:=zjS as;have h2:(zen as).Nodup:=(zcf as).nodup_iff.mpr hn;refine (h1.and h2).imp fun {a b} z=>?_;cases e:Srt.blt a b with
 | true=>rfl
 | false=>exact absurd (Srt.total a b e z.1) z.2
theorem zid {K:Frag}{H:Hp}:∀{out:List Value},(∀ v∈out,∃ a:α,∃ x,RelV x v∧Rep.has K H a x∧(srtKind α K H).keyOf v=some a)→
  ∃(ws:List V) (bs:List α),Vals ws out∧zar K H bs ws∧bs=out.map (Tim.keyV (srtKind α K H))
 | [],_=>⟨[],[],.nil,.nil,rfl⟩
 | v::out,h=>by
  obtain ⟨ws,bs,h1,h2,h3⟩:=zid (out:=out) fun u hu=>h u (yas _ hu);obtain ⟨a,x,r,e,k⟩:=h v yak;refine ⟨x::ws,a::bs,.cons r h1,.cons e h2,?_⟩;rw[yaw,← h3];have z:Tim.keyV (srtKind α K H) v=a:=by
   unfold Tim.keyV;rw[k];rfl
  rw[z];rfl
theorem zmE {X:Cx}{pins:List (Addr×Obj)}{σ:St}{H:Hp}{s:Shared}(I:Inv X pins σ H s):∀{as:List α} {xs:List V} {us:List Value},zar X.K H as xs→Vals xs us→us.map (Tim.keyV (srtKind α X.K H))=as∧∀ v∈us,∃ a:α,∃ x,RelV x v∧Rep.has X.K H a x∧(srtKind α X.K H).keyOf v=some a
 | _,_,_,.nil,.nil=>⟨rfl,fun _ z=>nomatch z⟩
 | _,_,_,.cons e t,.cons r q=>by
  obtain ⟨h1,h2⟩:=zmE I t q;have k:=zod I r e;refine ⟨?_,fun v hv=>?_⟩
  ·rw[yaw,h1];unfold Tim.keyV;rw[k];rfl
  ·rcases yal.mp hv with z | z
   ·subst z;exact ⟨_,_,r,e,k⟩
   ·exact h2 v z
end
def zqP (α:Type)[Rep α][Srt α](K:Frag):List V→Hp→VK→Prop:=fun xs H Q=>∃(p:Addr) (vs:List V) (as:List α),xs=[.ref p]∧SqL K H p vs∧zar K H as vs∧
 ∀ l ws,H l=none→zar K H (zen as) ws→Q (.ref l) (upd H l (.lst ws))
section
variable {X:Cx}
theorem zgI (α:Type)[Rep α][Srt α]:zce X (.builtin "sorted") (zqP α X.K):=by
 intro pins s σ H xs us Q I r h;obtain ⟨p,vs,as,rfl,hq,ha,q⟩:=h;obtain ⟨u,rfl,rx⟩:=zeY r;cases rx
 obtain ⟨its,rv,pl,hz⟩:=I.list hq;have hlen:=rv.length;obtain ⟨km,kk⟩:=zmE I ha rv;refine Tim.znA (κ:=srtKind α X.K H) (kd:=Srt.kd α) pl.isList (by omega) (fun v hv=>?_) (fun h' k E x y a b Q hx hy q=>?_) (fun h' E Q k h2 q=>Srt.kind (Inv.kept (t':=s.toks) I k) ha rv h2 q) fun out h' c p1 p2 k hc=>?_
 ·obtain ⟨a,_,_,_,e⟩:=kk v hv;exact ⟨a,e⟩
 ·obtain ⟨x1,r1,e1⟩:=zgz hx;obtain ⟨y1,r2,e2⟩:=zgz hy;exact Srt.lt (Inv.kept (t':=s.toks) I k) e1 e2 r1 r2 q
 ·obtain ⟨ws,bs,w1,w2,w3⟩:=zid (α:=α) (K:=X.K) (H:=H) (out:=out) fun v hv=>kk v (p1.mem_iff.mp hv);have eb:bs=zen as:=by
   refine znB ?_ ?_
   ·rw[w3,← km];exact p1.map _
   ·rw[w3];exact yb2.mpr p2
  rw[eb]at w2;have hw:ws.length≤sizeLine:=by
   have:=w1.length;have:=p1.length_eq;omega
  exact ⟨.ref (s.heap.objs.size+1),_,I.laid (a:=s.heap.objs.size+1) (o:=.lst ws) (t':=s.toks) k (ybv _) ⟨hw,out,c,w1,hc⟩,rfl,q _ ws (I.hok.fresh (ybv _)) w2⟩
end
instance:Srt Int where
 blt:=fun a b=>decide (a < b)
 irrefl:=fun a=>by simp
 trans:=fun a b c h1 h2=>by
  simp only[decide_eq_true_eq]at *;omega
 negTrans:=fun a b c h=>by
  simp only[decide_eq_true_eq]at *;omega
 total:=fun a b h1 h2=>by
  simp only[decide_eq_false_iff_not]at *;omega
 kd:=oneType'
 one:=0
 lt:=fun {X pins σ H s A a b x y u v Q E} _ h1 h2 r1 r2 q=>by
  have h1:x=.int a:=h1;have h2:y=.int b:=h2;subst h1 h2;obtain ⟨t,rfl⟩:=r1;obtain ⟨t',rfl⟩:=r2;exact PySem.W.kat_lt_int q
 kind:=fun {X pins σ H s A as xs us Q E} _ h r hl q=>by
  have e:=zar.toInts h;subst e;have hi:IntsAre us as:=by
   clear q hl
   induction as generalizing us with
   | nil=>cases r;exact .nil
   | cons a as ih=>
    cases r with
    | cons r1 r2=>
     obtain ⟨t,rfl⟩:=r1;exact .cons a t (ih (by first | exact zar.ints | assumption) r2)
  match us,hl,hi with
  | v₁::v₂::rest,_,hi=>
   rw[keyKind_ints hi];exact wpAny_pure q
def pLt (a b:Int×Int):Bool:=decide (a.1 < b.1) || (decide (a.1=b.1) && decide (a.2 < b.2))
theorem zcO {a b:Int×Int}:pLt a b=true↔a.1 < b.1∨(a.1=b.1∧a.2 < b.2):=by
 unfold pLt;simp
theorem ziQ {a b:Int×Int}:pLt a b=false↔¬ (a.1 < b.1∨(a.1=b.1∧a.2 < b.2)):=by
 rw[← zcO];simp
theorem zhf {X:Cx}{pins:List (Addr×Obj)}{σ:St}{H:Hp}{s:Shared}{a:Int×Int}{x:V}{u:Value}(I:Inv X pins σ H s)(h:Rep.has X.K H a x)(r:RelV x u) :
  ∃(p:Addr) (o:Obj) (n:Nat) (t t':Tok),u=.ref p∧s.heap.get? p=some o∧o.cls=.type "tuple"∧o.data=.seq #[.int a.1 t,.int a.2 t'] n:=by
 obtain ⟨p,x1,x2,rfl,q,e1,e2⟩:=(show hasP X.K H a x from h);have e1:x1=.int a.1:=e1;have e2:x2=.int a.2:=e2;subst e1 e2;cases r
 obtain ⟨us,ru,pu,_⟩:=I.tuple (SqT.of q);obtain ⟨u1,u2,rfl,⟨t,rfl⟩,⟨t',rfl⟩⟩:=zgR ru;obtain ⟨o,ho,hc,n,hd⟩:=pu;exact ⟨p,o,n,t,t',rfl,ho,hc,hd⟩
theorem zoY {prog:Program}{w:World}{A:Around}{E:Value→Shared→Prop}{s:Shared}{x y:Int}{t u:Tok}{Q:Bool→Shared→Prop}(b:Bool)(h:Q (decide (x < y)) s):wpAny (model prog w) A (oneLt' b (.int x t) (.int y u)) Q E s:=by
 cases b with
 | true=>
  rw[← keyLt'_oneType];exact PySem.W.kat_lt_int h
 | false=>exact PySem.W.kat_one _ _ (lt_int h)
instance:Srt (Int×Int) where
 blt:=pLt
 irrefl:=fun a=>by rw[ziQ];omega
 trans:=fun a b c h1 h2=>by
  rw[zcO]at *;omega
 negTrans:=fun a b c h=>by
  rw[zcO]at *;rw[zcO];omega
 total:=fun a b h1 h2=>by
  rw[ziQ]at *;obtain ⟨a1,a2⟩:=a;obtain ⟨b1,b2⟩:=b;have:a1=b1∧a2=b2:=by dsimp only at *;omega
  rw[this.1,this.2]
 kd:=tuples' true
 one:=(0,0)
 lt:=fun {X pins σ H s A a b x y u v Q E} I h1 h2 r1 r2 q=>by
  obtain ⟨p,o,n,t1,t2,rfl,ho,hc,hd⟩:=zhf I h1 r1;obtain ⟨p',o',n',t3,t4,rfl,ho',hc',hd'⟩:=zhf I h2 r2;refine PySem.W.kat_lt ho hd ho' hd' ?_;show PySem.W.KatLex X.prog X.w A true _ Q [(.int a.1 t1,.int b.1 t3),(.int a.2 t2,.int b.2 t4)] 0 s;refine PySem.W.kat_cons (EqAt.int_int a.1 t1 b.1 t3 _ _ _ _ (PySem.W.kat_go (fun e=>PySem.W.kat_yes ?_) (fun e=>PySem.W.kat_no ?_)))
  ·have e1:a.1=b.1:=eq_of_beq e;refine PySem.W.kat_cons (EqAt.int_int a.2 t2 b.2 t4 _ _ _ _ (PySem.W.kat_go (fun e=>PySem.W.kat_yes (PySem.W.kat_nil ?_)) (fun e=>PySem.W.kat_no (zoY _ ?_))))
   ·have e2:a.2=b.2:=eq_of_beq e;have z:pLt a b=false:=by rw[ziQ];omega
    rw[z]at q;exact q
   ·have z:pLt a b=decide (a.2 < b.2):=by
     unfold pLt;rw[yaq (by omega:¬ a.1 < b.1),yam e1];rfl
    rw[z]at q;exact q
  ·have e1:¬ a.1=b.1:=fun z=>by rw[z]at e;simp at e
   refine zoY _ ?_;have z:pLt a b=decide (a.1 < b.1):=by
    unfold pLt;rw[yaq e1];simp
   rw[z]at q;exact q
 kind:=fun {X pins σ H s A as xs us Q E} I h r hl q=>by
  have go:∀{as:List (Int×Int)} {xs:List V} {us:List Value},zar X.K H as xs→Vals xs us→∃ fs,PySem.W.KatTups s.heap us fs∧fs.length=us.length∧∀ v∈fs,∃ i t,v=Value.int i t:=by
   intro as
   induction as with
   | nil=>
    intro xs us h r;cases h
    cases r
    exact ⟨[],.nil,rfl,fun _ z=>nomatch z⟩
   | cons a as ih=>
    intro xs us h r;cases h with
    | cons h1 h2=>
     cases r with
     | cons r1 r2=>
      obtain ⟨fs,f1,f2,f3⟩:=ih h2 r2;obtain ⟨p,o,n,t,t',rfl,ho,hc,hd⟩:=zhf I h1 r1;refine ⟨.int a.1 t::fs,PySem.W.KatTups.cons ho hc hd rfl f1,by rw[yaK,yaK,f2],fun v hv=>?_⟩;rcases yal.mp hv with z | z
      ·exact ⟨_,_,z⟩
      ·exact f3 v z
  obtain ⟨fs,f1,f2,f3⟩:=go h r;refine PySem.W.kat_kind (T:=.type "int") f1 (by omega) (fun v hv=>?_) (by decide) ?_
  ·obtain ⟨i,t,rfl⟩:=f3 v hv;exact PySem.W.Looks.of_pure rfl
  ·exact q
end L2
namespace L2
open PySem PySem.Spec PyProof.Rows
section
variable {X:Cx}
theorem zfJ {x:Str}{i:Int}{pos:Pos}(hg:Gl X x)(hm:∃ t,X.mg x=some (.int i t))(hd:(x == ("__debug__" : Str))=false:=by decide):PE X (.Name x pos) (tC (.int i)):=by
 obtain ⟨t,e⟩:=hm;exact zb1 hg e ⟨t,rfl⟩ hd
end
theorem zcw {K:Frag}{a D:Addr}{xs:List V}{g:TG}{ts:TT}{te:TE}{σ:St}{H:Hp}{Q:Hp→Prop}(Pv:Nat→St→Hp→Prop)(h0:Pv 0 σ H)(hl:∀ i σ H,i≤xs.length→Pv i σ H→SqL K H a xs)
  (hs:∀ i m x σ H,xs[i]?=some x→i+m=xs.length→Pv i σ H→g x σ H fun σ2 H2=>ts σ2 H2 fun b H3=>if b=true then te σ2 H3 fun y H4=>∃ zs,H4 D=some (.lst zs)∧zs.length < sizeLine∧∃ m',m' < m∧(i+1+m'=xs.length∧Pv (i+1) σ2 (upd H4 D (.lst (zs++[y])))) else ∃ m',m' < m∧(i+1+m'=xs.length∧Pv (i+1) σ2 H3))
  (hd:∀ σ H,Pv xs.length σ H→Q H) :
  ∃ W:Nat→Nat→St→Hp→Prop,(∃ m,W 0 m σ H)∧∀ i m σ H,W i m σ H→((Itl K a).stop i H∧Q H)∨((Itl K a).go i H∧∀ x H',(Itl K a).yld i H x H'→g x σ H' fun σ2 H2=>ts σ2 H2 fun b H3=>if b=true then te σ2 H3 fun y H4=>∃ xs,H4 D=some (.lst xs)∧xs.length < sizeLine∧∃ m',m' < m∧W (i+1) m' σ2 (upd H4 D (.lst (xs++[y]))) else ∃ m',m' < m∧W (i+1) m' σ2 H3):=by
 refine ⟨fun i m σ H=>i+m=xs.length∧Pv i σ H,⟨xs.length,by omega,h0⟩,fun i m σ H zq0=>?_⟩;obtain ⟨e,pv⟩:=zq0;have hS:=hl i σ H (by omega) pv;by_cases hi:i < xs.length
 ·refine .inr ⟨⟨xs,xs[i],hS,yac hi⟩,fun x H' y=>?_⟩;obtain ⟨e1,y⟩:=y;subst e1;exact hs i m x σ _ (y xs hS) e pv
 ·have:i=xs.length:=by omega
  subst this;exact .inl ⟨⟨xs,hS,yaa _⟩,hd σ H pv⟩
theorem zd2 {lo:Int}{n:Nat}{D:Addr}{g:TG}{ts:TT}{te:TE}{σ:St}{H:Hp}{Q:Hp→Prop}(Pv:Nat→St→Hp→Prop)(h0:Pv 0 σ H)
  (hs:∀ i m σ H,i+m=n→i < n→Pv i σ H→g (.int (lo+i)) σ H fun σ2 H2=>ts σ2 H2 fun b H3=>if b=true then te σ2 H3 fun y H4=>∃ zs,H4 D=some (.lst zs)∧zs.length < sizeLine∧∃ m',m' < m∧(i+1+m'=n∧Pv (i+1) σ2 (upd H4 D (.lst (zs++[y])))) else ∃ m',m' < m∧(i+1+m'=n∧Pv (i+1) σ2 H3))
  (hd:∀ σ H,Pv n σ H→Q H) :
  ∃ W:Nat→Nat→St→Hp→Prop,(∃ m,W 0 m σ H)∧∀ i m σ H,W i m σ H→((Itr lo n).stop i H∧Q H)∨((Itr lo n).go i H∧∀ x H',(Itr lo n).yld i H x H'→g x σ H' fun σ2 H2=>ts σ2 H2 fun b H3=>if b=true then te σ2 H3 fun y H4=>∃ xs,H4 D=some (.lst xs)∧xs.length < sizeLine∧∃ m',m' < m∧W (i+1) m' σ2 (upd H4 D (.lst (xs++[y]))) else ∃ m',m' < m∧W (i+1) m' σ2 H3):=by
 refine ⟨fun i m σ H=>i+m=n∧Pv i σ H,⟨n,by omega,h0⟩,fun i m σ H zq0=>?_⟩;obtain ⟨e,pv⟩:=zq0;by_cases hi:i < n
 ·refine .inr ⟨hi,fun x H' y=>?_⟩;obtain ⟨e1,y⟩:=y;subst e1 y;exact hs i m σ _ e hi pv
 ·have:i=n:=by omega
  subst this;exact .inl ⟨yaa _,hd σ H pv⟩
end L2
namespace L2
open PySem PySem.Spec PyProof.Rows
theorem zfh:∀{ns:List Int} {us:List Value},Vals (ns.map V.int) us→IntsAre us ns
 | [],_,.nil=>.nil
 | n::_,_,.cons ⟨t,e⟩ q=>by
  subst e;exact .cons n t (zfh q)
end L2
namespace L2
open PySem PySem.Spec PyProof.Rows
theorem zo2:kitO "tuple" "tuple" = some true:=by decide +kernel
end L2
namespace L2
theorem zd8 {i:Nat}{x:V}{σ:St}{H:Hp}{A B:St→Hp→Prop}(h:A (σ.set i (some x)) H):zhw i x σ H fun σ2 H2=>tYes σ2 H2 fun b H3=>if b=true then A σ2 H3 else B σ2 H3:=by
 show (if true=true then A (σ.set i (some x)) H else B (σ.set i (some x)) H)
 rw[if_pos rfl];exact h
end L2
namespace L2
open PySem PySem.Spec PyProof.Rows
theorem zgo:∀{bs:List Bool} {us:List Value},Vals (bs.map V.bl) us→us=bs.map Value.bool
 | [],_,.nil=>rfl
 | b::_,_,.cons e q=>by
  have e:_=Value.bool b:=e;rw[e,zgo q];rfl
section
variable {X:Cx}
theorem zdF (hc:X.calm=true):zce X (.builtin "all") (fun xs H Q=>∃(p:Addr) (bs:List Bool),xs=[.ref p]∧SqL X.K H p (bs.map V.bl)∧Q (.bl (bs.all id)) H):=by
 intro pins s σ H xs us Q I r h;obtain ⟨p,bs,rfl,hq,q⟩:=h;obtain ⟨u,rfl,rx⟩:=zeY r;cases rx
 obtain ⟨its,rv,pl,_⟩:=I.list hq;have e:=zgo rv;subst e;have hl:=pl.isList;have hlt:p < s.heap.objs.size:=by obtain ⟨_,e,_⟩:=hl;exact yae e
 refine call_all_walk (wpAny_pyIter_list hl ?_);refine ⟨s.heap.objs.size,[s.heap.objs.size,p],[s.heap.objs.size],(bs.map Value.bool).toArray.size,_,_,fun i=>(bs[i]?).getD true,rfl,Walks.list (A:=X.A.in1) (I.ok.hd hc) _ p (yau hlt) _,
  ⟨⟨_,yaO _ rfl,rfl,rfl⟩,hl.push _⟩,fun i v s' Q' E' hP hQ=>?_,fun h' tk hk=>?_⟩
 ·have hP:(bs.map Value.bool)[i]?=some v:=by simpa using hP
  rw[yaj]at hP;cases e:bs[i]? with
  | none=>rw[e]at hP;cases hP
  | some b=>
   rw[e]at hP;cases hP
   simp only[e,Option.getD_some]at hQ;exact wpAny_truthy_bool hQ
 ·have e:((List.range (bs.map Value.bool).toArray.size).all fun i=>(bs[i]?).getD true)=bs.all id:=by
   rw[yay,yab];exact PyProof.Rows.LSm.range_all bs
  rw[e];have kk:∀ b o,s.heap.get? b=some o→h'.get? b=some o:=fun b o eb=>hk b o (fun hm=>by rw[yah.mp hm]at eb;exact yaV _ (yae eb)) (yap _ eb);have I':Inv X pins σ H { s with heap:=h',toks:=tk }:=I.kept (t':=tk) kk;exact ⟨.bl _,H,I',rfl,q⟩
def tRev (K:Frag)(te:TE)(th:TO):TE:=fun σ H Q=>te σ H fun x H1=>th σ H1 fun u H2=>∃ a xs,x=.ref a∧u=some (-1)∧SqL K H2 a xs∧∀ p,H2 p=none→Q (.ref p) (upd H2 p (.lst xs.reverse))
theorem Vals.rev:∀{xs:List V} {us:List Value},Vals xs us→Vals xs.reverse us.reverse
 | _,_,.nil=>.nil
 | _,_,.cons r t=>by
  rw[ybN,ybN];exact Vals.append (Vals.rev t) (.cons r .nil)
theorem zpx {e st:Expr}{te:TE}{th:TO}{p2 pos:Pos}(he:PE X e te)(hu:PO X (some st) th):PE X (.Subscript e (.Slice none none (some st) p2) pos) (tRev X.K te th):=by
 intro pins s σ H Q I h;refine Subscript_ (thn (he pins s σ H _ I h) fun v s1 zq0=>?_);obtain ⟨x,H1,I1,r1,q1⟩:=zq0;refine wpAny_Slice ?_;rw[evalPart_none];refine wpAny_pure (wpAny_pure ?_);refine thn (hu pins s1 σ H1 _ I1 q1) fun vu s3 zq0=>?_;obtain ⟨u,H3,I3,pu,q3⟩:=zq0;obtain ⟨a,xs,rfl,rfl,hq,q⟩:=q3;cases r1
 have I4:Inv X pins σ H3 { s3 with heap:=s3.heap.push { cls:=.type "slice",data:=.fields #[.none,.none,vu] } }:=I3.kept (t':=s3.toks) fun b ob q=>yap _ q;obtain ⟨its,r,ht,hz⟩:=I4.list hq;have hlen:=r.length;show wpAny (model X.prog X.w) X.A (subscriptTail e (.Slice none none (some st) p2) (.ref a) (.ref s3.heap.objs.size)) (EP X pins σ Q) X.xe { s3 with heap:=s3.heap.push { cls:=.type "slice",data:=.fields #[.none,.none,vu] } };refine tail_any (T := "list") (ops:=[.ref a,.ref s3.heap.objs.size]) ht.isList.typeIs slot_list_getitem.lookup ?_ (by with_unfolding_all rfl)
 refine wpAny_getItem_list_slice ht.isList (Heap.IsSliceOf.new ..) .none .none pu (by simp) ?_ (by rw[yay] <;> omega)
 rw[PySem.W.krv_pick];refine ⟨.ref _,_,I4.laid (t':=s3.toks) (o:=.lst xs.reverse) (fun b ob q=>yap _ q) (yaa _) ?_,rfl,q _ (I4.hok.fresh (yaa _))⟩;exact ⟨by rw[ybw];exact hz,_,0,Vals.rev r,yaO _ rfl⟩
end
end L2
namespace L2
open PySem PySem.Spec PyProof.Rows
section
variable {X:Cx}{K:Frag}
theorem zfK (h:X.K=K:=by rfl):IxR X (rIxL K):=by
 subst h;exact zay
theorem zcP (h:X.K=K:=by rfl):IxR X (rIxT K):=by
 subst h;exact zaF
end
end L2
namespace L2
open PySem PySem.Spec PyProof.Rows
theorem zhI {c:TT}{tb:TS}{D:Ends}{σ:St}{H:Hp}(Pv Pe:St→Hp→Prop)(μ:St→Hp→Nat)(h0:Pv σ H)
  (hs:∀ σ H,Pv σ H→c σ H fun b H1=>if b=true then tb { D with nx:=fun σ' H'=>Pv σ' H'∧μ σ' H' < μ σ H,ct:=fun σ' H'=>Pv σ' H'∧μ σ' H' < μ σ H,bk:=D.nx } σ H1 else Pe σ H1)
  (mono:∀ σ H Q Q',(∀ b H1,Q b H1→Q' b H1)→c σ H Q→c σ H Q') (he:∀ σ H,Pe σ H→D.nx σ H):zlA c tb D σ H:=by
 refine znq Pv μ h0 (fun σ H p=>mono σ H _ _ (fun b H1 q=>?_) (hs σ H p)) mono;cases b with
 | true=>exact q
 | false=>exact he _ _ q
def zqp (c:TT):Prop:=∀ σ H Q Q',(∀ b H1,Q b H1→Q' b H1)→c σ H Q→c σ H Q'
theorem zlE {a b:TT}(ha:zqp a)(hb:zqp b):zqp (tAnd a b):=fun σ H Q Q' m h=>ha σ H _ _ (fun c H1 q=>by
 cases c with
 | false=>exact m _ _ q
 | true=>exact hb σ H1 Q Q' m q) h
section
variable {X:Cx}{K:Frag}
theorem zhi (h:X.K=K:=by rfl):OpR X (compareOp .NotIn) (rIn K true):=by
 subst h;exact zfk
theorem zfX {es:List Expr}{k:Nat}{t:TGs}{n:Nat}{pos:Pos}(hc:X.calm=true)(h:PGs X es t)(hK:X.K=K:=by rfl)
  (hn:(assignEach es X.env).length=n:=by rfl) (hst:(assignEach es X.env).findIdx? (·.1)=none:=by rfl):PG X (.Tuple es k pos) (gTup K n t):=by
 subst hK;exact zgx hc h hn hst
end
theorem zkr {K:Frag}{a b D:Addr}{xs ys:List V}{g:TG}{ts:TT}{te:TE}{σ:St}{H:Hp}{Q:Hp→Prop}(hlen:xs.length=ys.length)(Pv:Nat→St→Hp→Prop)(h0:Pv 0 σ H)(hl:∀ i σ H,i≤xs.length→Pv i σ H→SqL K H a xs∧SqL K H b ys)
  (hs:∀ i m x y σ H r,xs[i]?=some x→ys[i]?=some y→i+m=xs.length→Pv i σ H→H r=none→g (.ref r) σ (upd H r (.tup [x,y])) fun σ2 H2=>ts σ2 H2 fun b H3=>if b=true then te σ2 H3 fun y H4=>∃ zs,H4 D=some (.lst zs)∧zs.length < sizeLine∧∃ m',m' < m∧(i+1+m'=xs.length∧Pv (i+1) σ2 (upd H4 D (.lst (zs++[y])))) else ∃ m',m' < m∧(i+1+m'=xs.length∧Pv (i+1) σ2 H3))
  (hd:∀ σ H,Pv xs.length σ H→Q H) :
  ∃ W:Nat→Nat→St→Hp→Prop,(∃ m,W 0 m σ H)∧∀ i m σ H,W i m σ H→((Itz K a b).stop i H∧Q H)∨((Itz K a b).go i H∧∀ x H',(Itz K a b).yld i H x H'→g x σ H' fun σ2 H2=>ts σ2 H2 fun b H3=>if b=true then te σ2 H3 fun y H4=>∃ xs,H4 D=some (.lst xs)∧xs.length < sizeLine∧∃ m',m' < m∧W (i+1) m' σ2 (upd H4 D (.lst (xs++[y]))) else ∃ m',m' < m∧W (i+1) m' σ2 H3):=by
 refine ⟨fun i m σ H=>i+m=xs.length∧Pv i σ H,⟨xs.length,by omega,h0⟩,fun i m σ H zq0=>?_⟩;obtain ⟨e,pv⟩:=zq0;obtain ⟨hS,hS'⟩:=hl i σ H (by omega) pv;by_cases hi:i < xs.length
 ·refine .inr ⟨⟨xs,ys,xs[i],ys[i]'(by omega),hS,hS',yac hi,yac (by omega)⟩,fun x H' y=>?_⟩;obtain ⟨p,z,z',rfl,hp,hz,hz',rfl⟩:=y;exact hs i m z z' σ H p (hz xs hS) (hz' ys hS') e pv hp
 ·have:i=xs.length:=by omega
  subst this;exact .inl ⟨⟨xs,ys,hS,hS',.inl (yaa _)⟩,hd σ H pv⟩
end L2
namespace L2
open PySem PySem.Spec PyProof.Rows
section
variable {X:Cx}
theorem znd (hc:X.calm=true):zce X (.builtin "min") (fun xs H Q=>∃(p:Addr) (ns:List Int),xs=[.ref p]∧SqL X.K H p (ns.map V.int)∧0 < ns.length∧∀ M,M∈ns→(∀ a,a∈ns→M≤a)→Q (.int M) H):=by
 intro pins s σ H xs us Q I r h;obtain ⟨p,ns,rfl,hq,hne,q⟩:=h;obtain ⟨u,rfl,rx⟩:=zeY r;cases rx
 obtain ⟨its,rv,pl,_⟩:=I.list hq;have hi:=zfh rv;obtain ⟨xs,hx⟩:=hi.allInts.items;have hl':s.heap.IsList p (intItems xs):=hx ▸ pl.isList;have e1:ns=xs.toList.map (·.1):=by
  rw[← nums_intItems,← hx];exact (show numsOf its.toArray.toList=ns from hi.numsOf).symm
 have hsz:0 < xs.size:=by
  rw[e1,yab,yav]at hne;exact hne
 refine min_intList (I.ok.hd hc) hl' hsz fun v h' tk hv hk=>?_;obtain ⟨t,rfl⟩:=intItems_at hv;obtain ⟨h1,h2⟩:=argBest_lt (numAt xs) (xs.size - 1);refine ⟨.int _,H,Inv.kept (t':=tk) I hk,⟨t,rfl⟩,q _ ?_ fun a ha=>?_⟩
 ·rw[e1,numAt_eq];rw[yad,yac (by rw[yab,yav];omega)];exact yaG _
 ·rw[e1]at ha;obtain ⟨j,hj,rfl⟩:=mem_getD ha;rw[yab,yav]at hj;rw[← numAt_eq];exact h2 j (by omega)
end
theorem zhA {K:Frag}{a D:Addr}{xs:List V}{g:TG}{ts:TT}{te:TE}{σ:St}{H:Hp}{Q:Hp→Prop}(Pv:Nat→St→Hp→Prop)(h0:Pv 0 σ H)(hl:∀ i σ H,i≤xs.length→Pv i σ H→SqT K H a xs)
  (hs:∀ i m x σ H,xs[i]?=some x→i+m=xs.length→Pv i σ H→g x σ H fun σ2 H2=>ts σ2 H2 fun b H3=>if b=true then te σ2 H3 fun y H4=>∃ zs,H4 D=some (.lst zs)∧zs.length < sizeLine∧∃ m',m' < m∧(i+1+m'=xs.length∧Pv (i+1) σ2 (upd H4 D (.lst (zs++[y])))) else ∃ m',m' < m∧(i+1+m'=xs.length∧Pv (i+1) σ2 H3))
  (hd:∀ σ H,Pv xs.length σ H→Q H) :
  ∃ W:Nat→Nat→St→Hp→Prop,(∃ m,W 0 m σ H)∧∀ i m σ H,W i m σ H→((Itt K a).stop i H∧Q H)∨((Itt K a).go i H∧∀ x H',(Itt K a).yld i H x H'→g x σ H' fun σ2 H2=>ts σ2 H2 fun b H3=>if b=true then te σ2 H3 fun y H4=>∃ xs,H4 D=some (.lst xs)∧xs.length < sizeLine∧∃ m',m' < m∧W (i+1) m' σ2 (upd H4 D (.lst (xs++[y]))) else ∃ m',m' < m∧W (i+1) m' σ2 H3):=by
 refine ⟨fun i m σ H=>i+m=xs.length∧Pv i σ H,⟨xs.length,by omega,h0⟩,fun i m σ H zq0=>?_⟩;obtain ⟨e,pv⟩:=zq0;have hS:=hl i σ H (by omega) pv;by_cases hi:i < xs.length
 ·refine .inr ⟨⟨xs,xs[i],hS,yac hi⟩,fun x H' y=>?_⟩;obtain ⟨e1,y⟩:=y;subst e1;exact hs i m x σ _ (y xs hS) e pv
 ·have:i=xs.length:=by omega
  subst this;exact .inl ⟨⟨xs,hS,yaa _⟩,hd σ H pv⟩
end L2
namespace L2
open PySem PySem.Spec PyProof.Rows
def Itv (K:Frag)(a:Addr)(n:Nat):It:=
 ⟨fun i H=>i < n∧∃ xs,SqL K H a xs∧xs.length=n,fun i H x H'=>H'=H∧∀ xs,SqL K H a xs→xs.length=n→xs.reverse[i]?=some x,fun i _=>i=n⟩
theorem znu {P:Program}{w:World}{K:Frag}{tg:Expr}(a it:Addr)(n:Nat):Turn P w K tg (Itv K a n) [it] it (fun i h=>h.IsRevIter it a ((n:Int) - 1 - (i:Int))) where
 mem:=by simp
 obj:=fun i h st b hb=>by
  have e:b=it:=by simpa using hb
  subst e;obtain ⟨o,e,c,d⟩:=st;exact ⟨o,e,fun v z=>by rw[d]at z;cases z⟩
 keep:=fun i h h' st k=>st.at fun o e=>k it (by simp) o e
 item:=by
  intro X hP hw hK hc i pins s σ H E I hf st hg;subst hP hw hK;obtain ⟨hi,xs,hq,hn⟩:=hg;obtain ⟨its,rv,p,hz⟩:=I.list hq;have hx:xs[n - 1 - i]?=some (xs[n - 1 - i]'(by omega)):=yac (by omega);obtain ⟨u,hu,ru⟩:=rv.get hx;obtain ⟨f0,f1,f2,f3,f4,f5⟩:=hf it (by simp);have e1:(n:Int) - 1 - (i:Int)=((n - 1 - i:Nat):Int):=by omega
  rw[e1]at st;refine wpAny_pyNext_rev_item st p.isList (x:=u) (by simpa using hu) fun h' st' sb=>?_;have e2:((n - 1 - i:Nat):Int) - 1=(n:Int) - 1 - ((i+1:Nat):Int):=by omega
  rw[e2]at st';have I1:Inv X pins σ H { s with heap:=h' }:=I.turned (t':=s.toks) (fun b o hb e=>(sb.2 b hb).trans e) f0 f1 f3 f4 f5;obtain ⟨o,e,c,d⟩:=id st';refine ⟨u,rfl,zom (s:={ s with heap:=h' }) e c d (by decide) ⟨xs[n - 1 - i]'(by omega),H,I1,ru,⟨rfl,fun ys hy hyn=>?_⟩,st',fun b hb=>(hf b hb).1⟩⟩;rw[I.list_inj hy hq,yb4 (by omega),show xs.length - 1 - i=n - 1 - i by omega];exact hx
 done:=by
  intro X hP hw hK hc i pins s σ H E I hf st hg;subst hP hw hK;have hi:i=n:=hg;subst hi;obtain ⟨f0,f1,f2,f3,f4,f5⟩:=hf it (by simp);have e1:(i:Int) - 1 - (i:Int) = -1:=by omega
  rw[e1]at st;exact wpAny_pyNext_rev_end (I.ok.hd hc) st fun h' eb=>⟨rfl,I.turned (t':=s.toks) (fun b o hb e=>eb b o hb e) f0 f1 f3 f4 f5⟩
 self:=fun _ _ _ _ _ st h=>wpAny_pyIter_revIter st h
def iRev (K:Frag)(ta:TA):TI:=fun σ H R=>ta σ H fun vs H1=>∃ a xs,vs=[.ref a]∧SqL K H1 a xs∧R (Itv K a xs.length) H1
section
variable {X:Cx}
theorem ziO {tg:Expr}{a:Expr}{ta:TA}{p pos:Pos}(hg:Gl X "reversed")(hm:X.mg "reversed" = none)(ha:PA X [a] ta)(hs:starEach [a] X.env=[(false,eval a X.env)]:=by rfl):PI X tg (.Call (.Name "reversed" p) [a] [] pos) (iRev X.K ta):=by
 intro pins s σ H R I h;refine Call_ (zfq I hg hm boot_reversed (PyProof.Rows.callWith_type1 (thn (ha pos pins s σ H _ I h) fun us s1 zq0=>?_) hs rfl));obtain ⟨vs,H1,I1,r1,q1⟩:=zq0;obtain ⟨l,xs,e,hq,q⟩:=q1;subst e;cases r1 with
 | cons r rr=>
  cases rr
  cases r
  obtain ⟨its,rv,pl,hz⟩:=I1.list hq;have hl:=rv.length;refine call_reversed_list pl.isList ?_;have I2:Inv X pins σ H1 { s1 with heap:=s1.heap.push (revObj l ((its.toArray.size:Int) - 1)) }:=I1.kept (t':=s1.toks) fun b o e=>yap _ e;have hr:(s1.heap.push (revObj l ((its.toArray.size:Int) - 1))).IsRevIter s1.heap.objs.size l (((xs.length:Nat):Int) - 1 - ((0:Nat):Int)):=by
   refine ⟨_,yaO _ rfl,rfl,?_⟩;have:(its.toArray.size:Int) - 1=((xs.length:Nat):Int) - 1 - ((0:Nat):Int):=by
    rw[yay,hl];omega
   rw[this];rfl
  refine wpAny_pyIter_revIter (s:={ s1 with heap:=s1.heap.push (revObj l ((its.toArray.size:Int) - 1)) }) hr ⟨_,[s1.heap.objs.size],_,_,H1,rfl,I2,znu l s1.heap.objs.size xs.length,hr,fun b hb=>?_,q⟩;have e:b=s1.heap.objs.size:=by simpa using hb
  subst e;exact I1.fpOk (yaa _) (I1.hok.fresh (yaa _))
end
theorem zp6 {K:Frag}{a:Addr}{xs:List V}{g:TG}{tb:TS}{D:Ends}{σ:St}{H:Hp}(Pv:Nat→St→Hp→Prop)(h0:Pv 0 σ H)(hl:∀ i σ H,i≤xs.length→Pv i σ H→SqL K H a xs)
  (hs:∀ i x σ H,xs.reverse[i]?=some x→Pv i σ H→g x σ H fun σ2 H2=>tb { D with nx:=Pv (i+1),ct:=Pv (i+1),bk:=D.nx } σ2 H2) (hd:∀ σ H,Pv xs.length σ H→D.nx σ H) :
  ∃ W:Nat→Nat→St→Hp→Prop,(∃ m,W 0 m σ H)∧∀ i m σ H,W i m σ H→((Itv K a xs.length).stop i H∧D.nx σ H)∨((Itv K a xs.length).go i H∧∃ N:St→Hp→Prop,(∀ σ' H',N σ' H'→∃ m',m' < m∧W (i+1) m' σ' H')∧∀ x H',(Itv K a xs.length).yld i H x H'→g x σ H' fun σ2 H2=>tb { D with nx:=N,ct:=N,bk:=D.nx } σ2 H2):=by
 refine ⟨fun i m σ H=>i+m=xs.length∧Pv i σ H,⟨xs.length,by omega,h0⟩,fun i m σ H zq0=>?_⟩;obtain ⟨e,pv⟩:=zq0;have hS:=hl i σ H (by omega) pv;by_cases hi:i < xs.length
 ·refine .inr ⟨⟨hi,xs,hS,rfl⟩,Pv (i+1),fun σ' H' q=>⟨m - 1,by omega,by omega,q⟩,fun x H' y=>?_⟩;obtain ⟨e1,y⟩:=y;subst e1;exact hs i x σ _ (y xs hS rfl) pv
 ·have:i=xs.length:=by omega
  subst this;exact .inl ⟨rfl,hd σ H pv⟩
end L2
namespace L2
open PySem PySem.Spec PyProof.Rows
theorem zlW {P:Program}{w:World}{k:Key}{u:Value}(h:(zaG P w).is k u=true):RelV (kV k) u:=by
 rw[zkY]at h;rcases zaV h with ⟨i,t,rfl,rfl⟩ | ⟨x,t,rfl,rfl⟩
 ·exact ⟨t,rfl⟩
 ·exact ⟨t,rfl⟩
section
variable {X:Cx}
theorem zli (hc:X.calm=true):zce X (.type "list") (fun xs H Q=>∃(p:Addr) (kvs:List (Key×V)),xs=[.ref p]∧H p=some (.dK kvs)∧∀ l,H l=none→Q (.ref l) (upd H l (.lst (kvs.map fun kv=>kV kv.1)))):=by
 intro pins s σ H xs us Q I r h;obtain ⟨p,kvs,rfl,hq,q⟩:=h;obtain ⟨u,rfl,rx⟩:=zeY r;cases rx
 obtain ⟨hz,hne,vs,rel,o,es,ep,h1,h2,h3,h4,h5,h6⟩:=zqd I.hok hq;have hlen:kvs.length=vs.length:=rel.length;refine PySem.W.kdl_call (PySem.W.kdl_dict (knd:=zaG X.prog X.w) (kvs:=vs) (ep:=ep) hne) (I.ok.hd hc) ⟨o,es,h1,h2,h3,h4,h5,h6⟩ (by omega) fun h' tk acc c k e hi=>?_;have hv:Vals (kvs.map fun kv=>kV kv.1) acc.toList:=by
  obtain ⟨g1,g2⟩:=hi;have key:∀(m:Nat) (kvs:List (Key×V)) (vs:List (Key×Value)) (us:List Value),KV kvs vs→us.length=vs.length→(∀(i:Nat) (v:Value),us[i]?=some v→∃ k x,vs[i]?=some (k,x)∧(zaG X.prog X.w).is k v=true)→Vals (kvs.map fun kv=>kV kv.1) us:=by
   intro m kvs
   induction kvs with
   | nil=>
    intro vs us r hl _;cases r
    have:us=[]:=ycm hl;subst this;exact .nil
   | cons kv kvs ih=>
    intro vs us r hl hh;cases r with
    | cons a b=>
     cases us with
     | nil=>cases hl
     | cons v us=>
      refine .cons ?_ (ih _ us b (Nat.succ.inj hl) fun i v e=>?_)
      ·obtain ⟨k,x,e1,e2⟩:=hh 0 v rfl;cases e1
       have h9:=zlW e2;have a1:kv.1=k:=a.1;rw[← a1]at h9;exact h9
      ·have:=hh (i+1) v (by simpa using e);simpa using this
  refine key 0 kvs vs acc.toList rel (by rw[yav];exact g1) fun i v e=>?_;exact g2 i v (by rw[← ya3];exact e)
 refine ⟨.ref s.heap.objs.size,_,I.laid (a:=s.heap.objs.size) (o:=.lst (kvs.map fun kv=>kV kv.1)) (t':=tk) k (yaa _) ⟨?_,acc.toList,c,hv,by rw[Array.toArray_toList];exact e⟩,rfl,q _ (I.hok.fresh (yaa _))⟩;rw[yab];omega
end
end L2
namespace L2
open PySem PySem.Spec PyProof.Rows
mutual
inductive RD (H:Hp):V→PyData→List Addr→Prop
 | non:RD H .non .none []
 | bl (b:Bool):RD H (.bl b) (.bool b) []
 | int (i:Int):RD H (.int i) (.int i) []
 | str (x:Str):RD H (.str x) (.str x) []
 | lst {a:Addr} {xs:List V} {ds:List PyData} {as:List Addr}:H a=some (.lst xs)→RDs H xs ds as→RD H (.ref a) (.list ds) (a::as)
 | tup {a:Addr} {xs:List V} {ds:List PyData} {as:List Addr}:H a=some (.tup xs)→RDs H xs ds as→RD H (.ref a) (.tuple ds) as
 | dic {a:Addr}:H a=some (.dK [])→RD H (.ref a) (.dict []) [a]
inductive RDs (H:Hp):List V→List PyData→List Addr→Prop
 | nil:RDs H [] [] []
 | cons {x:V} {xs:List V} {d:PyData} {ds:List PyData} {as bs:List Addr}:RD H x d as→RDs H xs ds bs→RDs H (x::xs) (d::ds) (as++bs)
end
mutual
theorem RD.same {H H':Hp}(s:Same H H'):∀{x:V} {d:PyData} {as:List Addr},RD H x d as→RD H' x d as
 | _,_,_,.non=>.non
 | _,_,_,.bl b=>.bl b
 | _,_,_,.int i=>.int i
 | _,_,_,.str x=>.str x
 | _,_,_,.lst e t=>.lst (s _ _ e) (RDs.same s t)
 | _,_,_,.tup e t=>.tup (s _ _ e) (RDs.same s t)
 | _,_,_,.dic e=>.dic (s _ _ e)
theorem RDs.same {H H':Hp}(s:Same H H'):∀{xs:List V} {ds:List PyData} {as:List Addr},RDs H xs ds as→RDs H' xs ds as
 | _,_,_,.nil=>.nil
 | _,_,_,.cons r t=>.cons (RD.same s r) (RDs.same s t)
end
section
variable {X:Cx}{pins:List (Addr×Obj)}{σ:St}{H:Hp}{s:Shared}
mutual
theorem RD.reads (I:Inv X pins σ H s):∀{x:V} {d:PyData} {as:List Addr} {u:Value},RD H x d as→RelV x u→Reads s.heap u d as
 | _,_,_,_,.non,r=>by
  cases r
  exact .none
 | _,_,_,_,.bl b,r=>by
  cases r
  exact .bool b
 | _,_,_,_,.int i,r=>by
  obtain ⟨t,rfl⟩:=r;exact .int i t
 | _,_,_,_,.str x,r=>by
  obtain ⟨t,rfl⟩:=r;exact .str x t
 | _,_,_,_,.lst (a:=a) (xs:=xs) e t,r=>by
  cases r
  obtain ⟨_,its,n,rv,h1⟩:=(show za7 X.prog X.w H s.heap a (.lst xs) from I.hok a _ e);exact .list h1 rfl rfl (RDs.reads I t rv)
 | _,_,_,_,.tup (a:=a) (xs:=xs) e t,r=>by
  cases r
  obtain ⟨_,its,rv,p⟩:=(show za7 X.prog X.w H s.heap a (.tup xs) from I.hok a _ e);obtain ⟨o,h1,h2,n,h3⟩:=(show s.heap.IsTuple a its.toArray from p);exact .tuple h1 h2 h3 (RDs.reads I t rv)
 | _,_,_,_,.dic (a:=a) e,r=>by
  cases r
  obtain ⟨_,_,vs,rel,o,es,ep,h1,h2,h3,h4,h5,h6⟩:=(show za7 X.prog X.w H s.heap a (.dK []) from I.hok a _ e);cases rel
  have e0:es.toList=[]:=by
   have:=h5.length;exact List.length_eq_zero_iff.mp this
  have:=Reads.dict (kvs:=[]) (as:=[]) (bs:=[]) h1 h2.1 h3 (by rw[e0];exact .nil) (by rw[e0];exact .nil);exact this
theorem RDs.reads (I:Inv X pins σ H s):∀{xs:List V} {ds:List PyData} {as:List Addr} {us:List Value},RDs H xs ds as→Vals xs us→ReadsAll s.heap us ds as
 | _,_,_,_,.nil,.nil=>.nil
 | _,_,_,_,.cons r t,.cons rv q=>.cons (RD.reads I r rv) (RDs.reads I t q)
end
end
def zqQ:List V→Hp→VK→Prop:=fun xs H Q=>∃(a:Addr) (d:PyData) (as:List Addr),xs=[.ref a]∧RD H (.ref a) d as∧d.showable=true∧(d.hasDict=true→sysModules∉as)∧d.depth≤8∧d.shown.length≤sizeLine∧Q (.str d.shown) H
theorem ziv {X:Cx}(hg:X.A.guards=some [])(hu:X.A.units+16 < cLine):zce X (.builtin "repr") zqQ:=by
 intro pins s σ H xs us Q I r h;obtain ⟨a,d,as,rfl,rd,h1,h2,h3,h4,q⟩:=h;obtain ⟨u,rfl,rx⟩:=zeY r;have rr:=rd.reads I rx;cases rx
 exact repr_of_reads' rr h1 h2 hg (by omega) (fun b o e=>e) (fun h' u tk k=>⟨.str d.shown,H,Inv.kept (t':=tk) I k,⟨u,rfl⟩,q⟩) h4
end L2
namespace L2
open PySem PySem.Spec PyProof.Rows
section
variable {X:Cx}
inductive zju (H:Hp):V→Str→Prop where
 | non:zju H .non "None"
 | bl (b:Bool):zju H (.bl b) (if b then "True" else "False")
 | int (i:Int) (h:i.natAbs.log2 < 1920):zju H (.int i) (toString i)
 | str (y:Str) (h:(reprText y).length≤sizeLine):zju H (.str y) (reprText y)
 | dic (a:Addr) (h:H a=some (.dK [])):zju H (.ref a) (PyData.dict []).shown
def zoT:List V→Hp→VK→Prop:=fun xs H Q=>∃(x:V) (t:Str),xs=[x]∧zju H x t∧Q (.str t) H
theorem zgJ (hg:X.A.guards=some [])(hu:X.A.units+16 < cLine):zce X (.builtin "repr") zoT:=by
 intro pins s σ H xs us Q I r h;obtain ⟨x,t,rfl,hx,q⟩:=h;obtain ⟨u,rfl,rx⟩:=zeY r;cases hx with
 | non=>
  cases rx
  exact P.repr_of_none ⟨.str _,H,I.tok _,⟨_,rfl⟩,q⟩
 | bl b=>
  cases rx
  exact P.repr_of_bool ⟨.str _,H,I.tok _,⟨_,rfl⟩,by cases b <;> exact q⟩
 | int i h=>
  obtain ⟨t,rfl⟩:=rx;exact P.repr_of_int h ⟨.str _,H,I.tok _,⟨_,rfl⟩,q⟩
 | str y h=>
  obtain ⟨t,rfl⟩:=rx;exact P.repr_of_str ⟨.str _,H,I.tok _,⟨_,rfl⟩,q⟩ h
 | dic a h=>
  have rr:=(RD.dic h).reads I rx;cases rx
  have hno:sysModules∉[a]:=fun hm=>by
   obtain ⟨_,g2,_⟩:=(show za7 X.prog X.w H s.heap sysModules (.dK []) from I.hok _ _ (by rw[yah.mp hm];exact h));exact absurd g2 (by decide)
  exact repr_of_reads' rr (by decide) (fun _=>hno) hg (by show X.A.units+_ < _;simp[PyData.depth,PyData.depthKv];omega) (fun b o e=>e) (fun h' u tk k=>⟨.str _,H,Inv.kept (t':=tk) I k,⟨u,rfl⟩,q⟩) (by decide)
end
end L2
namespace L2
open PySem PySem.Spec PyProof.Rows
structure zhG (scope:Scope)(ps caps:List Str):Prop where
 kind:scope.kind=.function
 co:scope.isCoroutine=false
 gen:scope.isGenerator=false
 nocell:∀ x∈scope.names,x.2≠.cell
 par:∀ x∈ps,scope.names.lookup x=some .local
 cap:∀ x∈caps,scope.names.lookup x=some .free
 nd:(ps++caps).Nodup
def zlc (P:Program)(w:World)(K:Frag)(mg:Str→Option Value)(base:Heap)(N:List Str)(qual:Str)(scope:Scope)(f:Addr)(cd:Value)(cl:List (Str×Addr))(A:Around)(outer:List Env)(s:Shared)(H:Hp):Cx where
 prog:=P
 w:=w
 K:=K
 mg:=mg
 base:=base
 A:=A.deeper (PySem.W.envX qual scope s.heap.objs.size f cd cl)
 N:=N
 s₀:=s
 H₀:=H
 env:=PySem.W.envX qual scope s.heap.objs.size f cd cl
 outer:=outer
 stack:=PySem.W.envX qual scope s.heap.objs.size f cd cl::outer
 ex:=[]
 calm:=true
 fn:=fun _=>false
 pn:=[]
 xe:=fun _ _=>False
def znb (c:Addr)(q:Str):Heap→Prop:=fun h=>h.CodeRec (.ref c) q
def zgj (H:Hp)(c:Addr)(q:Str):Prop:=H c=some (.ext (znb c q))
theorem zlg {c:Addr}{q:Str}(h1 h2:Heap)(x:znb c q h1)(k:∀ o,h1.get? c=some o→h2.get? c=some o):znb c q h2:=by
 obtain ⟨c',o,vs,t,e,ho,r⟩:=x;cases e
 exact ⟨c,o,vs,t,rfl,k o ho,r⟩
theorem zgj.rec {P:Program}{w:World}{H:Hp}{h:Heap}{c:Addr}{q:Str}(x:zgj H c q)(ok:HOk P w H h):h.CodeRec (.ref c) q:=(ok c _ x).1
theorem zgu {x:Str}{u:Value}:∀{ps:List Str} {us:List Value} {i:Nat},ps.Nodup→ps[i]?=some x→us[i]?=some u→(ps.zip us).reverse.lookup x=some u
 | [],_,_,_,e,_=>by simp at e
 | _::_,[],_,_,_,e=>by simp at e
 | p::ps,v::us,0,hn,e1,e2=>by
  have e1:p=x:=by simpa using e1
  have e2:v=u:=by simpa using e2
  subst e1 e2;rw[ycy,ybN,List.lookup_append];have z:(ps.zip us).reverse.lookup p=none:=by
   rw[List.lookup_eq_none_iff];intro y hy;have:=ybY (ybO.mp hy);simp only[beq_eq_false_iff_ne,ne_eq,bne_iff_ne];intro q;rw[yaW]at hn
   first
    | exact hn.1 (q ▸ this.1)
    | (rw[q]at hn;exact hn.1 this.1)
  rw[z];simp
 | p::ps,v::us,i+1,hn,e1,e2=>by
  rw[yaW]at hn;have ih:=zgu (ps:=ps) (us:=us) (i:=i) hn.2 (by simpa using e1) (by simpa using e2);rw[ycy,ybN,List.lookup_append,ih];rfl
def zny (n:Nat)(tb:TE)(vcs:List V)(c:Addr)(q:Str):Sp:=fun vs H Q _=>vs.length=n∧zgj H c q∧tb (vs.map some++vcs.map some) H Q
theorem zrj {P:Program}{w:World}{K:Frag}{mg:Str→Option Value}{base:Heap}{k:Nat}{f c:Addr}{name qual:Str}{params:Arguments}{body:Expr}{scope:Scope}{cl:List (Str×Addr)}{pm ctv:Value}{ps caps:List Str}{vcs:List V}{tb:TE}
  (S:zhG scope ps caps) (hf:base.get? f=some (PySem.W.kla_obj name qual params body scope cl pm c ctv)) (hlen:vcs.length=caps.length)
  (hcap:∀(j:Nat) (x:Str) (v:V),caps[j]?=some x→vcs[j]?=some v→∃ a u,cl.lookup x=some a∧base.IsCell a (some u)∧RelV v u)
  (hcell:∀ x a,cl.lookup x=some a→∃ v,base.IsCell a v) (hinj:∀ x y a,cl.lookup x=some a→cl.lookup y=some a→x=y) (hhas:∀ x,scope.names.lookup x=some .free→∃ a,cl.lookup x=some a)
  (hb:∀(A:Around) (outer:List Env) (s:Shared) (H:Hp),Room k (A.deeper (PySem.W.envX qual scope s.heap.objs.size f (.ref c) cl))→PE (zlc P w K mg base (ps++caps) qual scope f (.ref c) cl A outer s H) body tb) :
  FnOk P w K mg base CX0 (k+1) f (PySem.W.kla_fn name qual params body scope cl pm (.ref c) ctv) ps (zny ps.length tb vcs c qual):=by
 refine ⟨fun vs H Q E h=>h.1,fun A outer s H args us vs Q E hr e0 hbind r hsp=>?_⟩;obtain ⟨hl,hc,hq⟩:=hsp;have bk:∀ b o,base.get? b=some o→s.heap.get? b=some o:=fun b o e=>(e0.bs b o e).1;have hul:us.length=ps.length:=by rw[← r.length];exact hl
 refine PySem.W.kla_callFunE hr.depth (bk _ _ hf) rfl S.co S.gen rfl (hc.rec e0.hok) ?_;refine hbind _ _ _ _ ?_;refine wpAny_newFunctionEnv S.nocell (fun y hy=>S.par _ (ybY hy).1) (fun h1 hns hsb=>⟨(e0.mod.nolimit.keeps bk).fresh _ hsb,?_⟩) S.kind;show codeAny _ _ (.expr body (PySem.W.envX qual scope s.heap.objs.size f (.ref c) cl)) _ _;have hk:∀ b o,s.heap.get? b=some o→h1.get? b=some o:=fun b o e=>hsb.extBut b o (yau (yae e)) (yap _ e);have cellK:∀ a v,base.IsCell a v→h1.IsCell a v∧H a=none:=fun a v ⟨o,ho,hd⟩=>⟨⟨o,hk _ _ (bk _ _ ho),hd⟩,(e0.bs _ _ ho).2⟩;have ndps:ps.Nodup:=(ybx.mp S.nd).1;have noA:∀ b:Addr,b∉([]:List Addr):=fun b z=>absurd z (by simp);have I:Inv (zlc P w K mg base (ps++caps) qual scope f (.ref c) cl A outer s H) [] (vs.map some++vcs.map some) H { s with heap:=h1,toks:=s.toks+(ps.zip us).length }:=by
  refine ⟨⟨e0.mod,S.kind,rfl,rfl,yaa _,hinj,fun y hy=>?_,fun y a z _=>(by cases z),fun _=>hr.hd,Around.frames_deeper e0.frames,.inr ⟨rfl,rfl⟩,fun b z=>absurd z (noA b),e0.bs,e0.bsz,fun b _ _=>noA b,fun b z=>absurd z (noA b),e0.funs,e0.frf⟩,
   rfl,e0.bare,Un.kept hk,⟨_,hns,fun i y v h1' h2 h3=>?_⟩,fun y a h=>?_,e0.hok.fresh (yaa _),fun y a h=>?_,fun p hp=>absurd (show p∈([]:List (Addr×Obj)) from hp) (by simp),e0.hok.kept hk,?_⟩
  ·have hy:scope.names.lookup y=some .cell∨scope.names.lookup y=some .free:=hy;rcases hy with hy | hy
   ·exact absurd rfl (S.nocell _ (PySem.mem_of_lookup hy))
   ·exact hhas y hy
  ·have h1':(ps++caps)[i]?=some y:=h1';by_cases hi:i < ps.length
   ·rw[ya0 hi]at h1';rw[ya0 (by rw[yab];omega),yaj]at h2;cases e:vs[i]? with
    | none=>rw[e]at h2;cases h2
    | some v'=>
     rw[e]at h2;cases h2
     obtain ⟨u,hu,ru⟩:=r.get e;exact ⟨u,ru,.inl ⟨S.par y (yaQ h1'),zgu ndps h1' hu⟩⟩
   ·rw[yaP (by omega)]at h1';rw[yaP (by rw[yab];omega),yab,yaj]at h2;cases e:vcs[i - vs.length]? with
    | none=>rw[e]at h2;cases h2
    | some v'=>
     rw[e]at h2;cases h2
     rw[hl]at e;obtain ⟨a,u,e1,e2,ru⟩:=hcap _ _ _ h1' e;exact ⟨u,ru,.inr ⟨.inr (S.cap y (yaQ h1')),a,e1,(cellK _ _ e2).1⟩⟩
  ·obtain ⟨v,z⟩:=hcell y a h;exact ⟨v,(cellK _ _ z).1⟩
  ·obtain ⟨v,z⟩:=hcell y a h;exact (cellK _ _ z).2
  ·show (vs.map some++vcs.map some).length=(ps++caps).length;rw[yaf,yaf,yab,yab,hl,hlen]
 refine PySem.W.kla_codeExpr (wpAny_mono (hb A outer s H (hr.deeper _) [] _ _ H Q I hq) (fun u s' hu=>?_) fun _ _ z=>(show False from z).elim);obtain ⟨v,H',J,rv,q⟩:=hu;exact ⟨v,H',J.os,J.bare,J.base,J.hok,rv,q⟩
end L2
namespace L2
open PySem PySem.Spec PyProof.Rows
def Gro (Pt:Addr)(H H':Hp):Prop:=∀ b o,b≠Pt→H b=some o→H' b=some o
theorem Gro.refl (Pt:Addr)(H:Hp):Gro Pt H H:=fun _ _ _ h=>h
structure zbu (H:Hp)(Pt:Addr)(pos:Pos)(q:Str):Prop where
 ex:∃ tab:Array Value,H Pt=some (.tbl tab)∧TriplesOk tab.toList∧(codeAmong pos tab.toList=none∨∃ c,codeAmong pos tab.toList=some (.ref c)∧zgj H c q)
theorem zbu.ext {H H':Hp}{Pt:Addr}{pos:Pos}{q:Str}(x:zbu H Pt pos q)(e:Ext H H'):zbu H' Pt pos q:=by
 obtain ⟨tab,h1,h2,h3⟩:=x.ex;refine ⟨tab,e _ _ h1 (fun _ z=>nomatch z),h2,?_⟩;rcases h3 with h3 | ⟨c,h3,h4⟩
 ·exact .inl h3
 ·exact .inr ⟨c,h3,e _ _ h4 (fun _ z=>nomatch z)⟩
theorem zbu.gro {H H':Hp}{Pt P2:Addr}{pos:Pos}{q:Str}(x:zbu H Pt pos q)(e:Gro P2 H H')(hne:Pt≠P2)(h2:∃ tab,H P2=some (.tbl tab)):zbu H' Pt pos q:=by
 obtain ⟨tab,h1,h3,h4⟩:=x.ex;refine ⟨tab,e _ _ hne h1,h3,?_⟩;rcases h4 with h4 | ⟨c,h4,h5⟩
 ·exact .inl h4
 ·refine .inr ⟨c,h4,e _ _ (fun z=>?_) h5⟩;obtain ⟨tab2,y⟩:=h2;rw[← z,show H c=_ from h5]at y;cases y
def BMAt (mg:Str→Option Value)(base:Heap):Prop:=∃ bm o,mg "__builtins__" = some (.ref bm)∧bm≠builtinsNs∧bm≠mainGlobals∧base.get? bm=some o∧o.cls=.type "module"∧o.dict=some builtinsNs∧o.data=.plain
section
variable {X:Cx}{pins:List (Addr×Obj)}{σ:St}{H:Hp}{s:Shared}{params:Arguments}{body:Expr}{scope:Scope}{lpos:Pos}{c Pt:Addr}{Q:Value→Shared→Prop}
theorem zol {c':Addr}{q:Str}{tab more:Array Value}{h':Heap}{tk:Nat}(I:Inv X pins σ H s)(hP:H Pt=some (.tbl tab))(hx:∀ b o,b≠Pt→s.heap.get? b=some o→h'.get? b=some o)(hge:s.heap.objs.size≤c')
  (hrec:h'.CodeRec (.ref c') q) (htb:h'.get? Pt=some (PySem.W.tabObj (tab++more))):Inv X pins σ (upd (upd H Pt (.tbl (tab++more))) c' (.ext (znb c' q))) { s with heap:=h',toks:=tk }:=by
 have hfr:H c'=none:=I.hok.fresh hge;have nPc:Pt≠c':=zab hP hfr;have low:∀ b u,H b=some u→b≠c':=fun b u e=>zab e hfr;have lows:∀ b o,s.heap.get? b=some o→b≠c':=fun b o e=>yau (yaz (yae e) hge);have nP:∀ b,H b=none→b≠Pt:=fun b n z=>by rw[z,hP]at n;cases n
 refine I.un (t':=tk) ⟨fun b o e n _ _=>hx b o (nP b n) e,fun b o e n _ _=>⟨o.slots,hx b o (nP b n) e⟩,fun b o e n _=>?_,fun b o e _=>?_,fun b xs e=>?_,fun b o u e=>?_,fun b ps e=>?_⟩ fun a o e=>?_
 ·rw[zah (lows b o e),zah (nP b n)];exact n
 ·by_cases z:b=Pt
  ·exact ⟨_,by rw[z];exact htb⟩
  ·exact ⟨o,hx b o z e⟩
 ·rw[zah (low b _ e),zah (fun z=>by rw[z,hP]at e;cases e)]
  exact e
 ·rw[zah (low b _ e),zah (fun z=>by rw[z,hP]at e;cases e)]
  exact e
 ·by_cases z:b=Pt
  ·rw[z,hP]at e;cases e
   exact ⟨more,by rw[z,zah nPc,zad]⟩
  ·exact ⟨#[],by rw[zah (low b _ e),zah z,e];simp⟩
 ·by_cases z:a=c'
  ·subst z;rw[zad]at e;cases e
   obtain ⟨c2,o2,vs,t,e2,ho2,r2⟩:=id hrec;cases e2
   exact ⟨hrec,⟨o2,ho2⟩,fun h1 h2 x k=>zlg h1 h2 x k⟩
  ·rw[zah z]at e;by_cases y:a=Pt
   ·subst y;rw[zad]at e;cases e
    exact htb
   ·rw[zah y]at e;refine (I.hok a o e).stay (fun b u hb q=>hx b u ?_ q) (fun b q=>?_) fun b xs q=>?_
    ·rcases hb with rfl | hb
     ·exact y
     ·intro z2;rw[z2,hP]at hb;cases hb
    ·rw[zah (low b _ q),zah (fun z2=>by rw[z2,hP]at q;cases q)]
     exact q
    ·rw[zah (low b _ q),zah (fun z2=>by rw[z2,hP]at q;cases q)]
     exact q
theorem zob (I:Inv X pins σ H s)(hdef:defaultsOf params X.env=([],[]))(hfr:∀ x,(x,NameKind.free)∈scope.names→(X.env.kindOf x=some .cell∨X.env.kindOf x=some .free))(hcode:X.env.code=.ref c)(hC:codeHdIn X.K c Pt=true)(hBM:BMAt X.mg X.base)
  (hT:zbu H Pt lpos (X.env.qual ++ "<lambda>"))
  (h:∀(f c':Addr) (cl:List (Str×Addr)) (pm ctv:Value) (H':Hp) (s':Shared),ziG scope X.env cl→Inv X pins σ H' s'→s'.heap.get? f=some (PySem.W.kla_obj "<lambda>" (X.env.qual ++ "<lambda>") params body scope cl pm c' ctv)→H' f=none→s.heap.objs.size≤f→
   Gro Pt H H'→zbu H' Pt lpos (X.env.qual ++ "<lambda>")→zgj H' c' (X.env.qual ++ "<lambda>")→Q (.ref f) s') :
  wpAny (model X.prog X.w) X.A (eval (.Lambda params body scope lpos) X.env) Q X.xe s:=by
 obtain ⟨cl,hcl⟩:=zga (scope:=scope) (env:=X.env) fun x hx=>I.ok.has x (hfr x hx);obtain ⟨tab,hP,ht,hor⟩:=hT.ex;have hPo:s.heap.get? Pt=some (PySem.W.tabObj tab):=I.hok Pt _ hP;have C:PySem.W.CodeHd s.heap c Pt:=(PySem.W.codeHd_of_K I.ok.mod.kin hC).keeps I.bk;have hgl:=I.mod.glob.keeps I.bk;have hgP:mainGlobals≠Pt:=fun z=>by
  obtain ⟨o,es,ep,e,_⟩:=I.mod.glob;have:=(I.bs _ _ e).2;rw[z,hP]at this;cases this
 have hb:s.heap.BuiltinsAt X.mg Pt:=by
  obtain ⟨bm,o,b1,b2,b3,b4,b5⟩:=hBM;refine ⟨bm,o,b1,b2,b3,fun z=>?_,I.bk _ _ b4,b5⟩;have:=(I.bs _ _ b4).2;rw[z,hP]at this;cases this
 refine PySem.W.kla_eval hdef ?_;rcases hor with hnone | ⟨c',hsome,hca⟩
 ·refine PySem.W.kla_makeFunction (clos:=cl) hcl.eq I.ok.glob hgl hcode C hPo ht hnone hgP hb fun c' ctv h' tk hx hge hlt hrec htb=>?_;have hx':∀ o2 b o,b≠Pt→s.heap.get? b=some o→(h'.push o2).get? b=some o:=fun o2 b o n e=>yap _ (hx b o n e);have I':=zol (c':=c') (q:=X.env.qual ++ "<lambda>") (tk:=tk) I hP (hx' _) hge (hrec.push (PySem.W.kla_obj "<lambda>" (X.env.qual ++ "<lambda>") params body scope cl ((X.mg "__name__").getD .none) c' ctv)) (yap _ htb);have hsz:s.heap.objs.size≤h'.objs.size:=ybd (ybe hge hlt);have nPc:Pt≠c':=zab hP (I.hok.fresh hge);have eT:(tab++#[rawInt lpos.line,rawInt lpos.col,.ref c']).toList=tab.toList++[rawInt lpos.line,rawInt lpos.col,.ref c']:=by simp
  have hTI:zbu (upd (upd H Pt (.tbl (tab++#[rawInt lpos.line,rawInt lpos.col,.ref c']))) c' (.ext (znb c' (X.env.qual ++ "<lambda>")))) Pt lpos (X.env.qual ++ "<lambda>"):=
   ⟨_,by rw[zah nPc,zad],by rw[eT];exact TriplesOk_snoc _ _ _ _ ht,.inr ⟨c',by rw[eT];exact codeAmong_snoc _ ht hnone,zad⟩⟩
  refine h h'.objs.size c' cl _ ctv _ _ hcl I' (yaO _ rfl) ?_ hsz ?_ hTI zad
  ·rw[zah (ybB hlt),zah (fun z=>?_)]
   ·exact I.hok.fresh hsz
   ·have:=yae hPo;rw[← z]at this;exact absurd this (Nat.not_lt.mpr hsz)
  ·intro b o n e;rw[zah (zab e (I.hok.fresh hge)),zah n];exact e
 ·refine PySem.W.kla_makeFunctionHit (clos:=cl) hcl.eq I.ok.glob hgl hcode C hPo ht hsome hb fun ctv h' tk hk hsz=>?_;exact h h'.objs.size c' cl _ ctv H _ hcl (I.kept (t':=tk) fun b o e=>yap _ (hk b o e)) (yaO _ rfl) (I.hok.fresh hsz) hsz (Gro.refl _ _) hT hca
end
end L2
namespace L2
open PySem PySem.Spec PyProof.Rows
def zdl (X:Cx)(s:Shared)(H:Hp):Heap:=PySem.W.hideAll s.heap (trk s.heap H++frs X.stack)
theorem zef {h b1 b2:Heap}:∀{l:List Env},h.FunFrames b1 l→(∀ b∈frs l,b2.get? b=none)→h.FunFrames b2 l
 | [],_,_=>trivial
 | env::l,⟨h1,⟨L,o,h2,h3,h4,h5⟩,h6⟩,k=>by
  have m:∀ b∈frs l,b∈frs (env::l):=fun b hb=>by
   unfold frs;rw[ybA,h2];exact yas _ hb
  refine ⟨h1,⟨L,o,h2,k L ?_,h4,h5⟩,zef h6 fun b hb=>k b (m b hb)⟩;unfold frs;rw[ybA,h2];exact yak
section
variable {X:Cx}{pins:List (Addr×Obj)}{σ:St}{H:Hp}{s:Shared}
theorem zfe {b:Addr}{o:Obj}(e:s.heap.get? b=some o)(n:H b=none)(hf:b∉frs X.stack):(zdl X s H).get? b=some o:=
 PySem.W.hideAll_get _ e fun hm=>by
  rcases yai.mp hm with z | z
  ·have q:(H b).isSome=true:=(ya7.mp z).2;rw[n]at q;cases q
  ·exact hf z
theorem zh3 {b:Addr}{o:Obj}(e:(zdl X s H).get? b=some o):s.heap.get? b=some o∧H b=none∧b∉frs X.stack:=by
 have e1:=PySem.W.of_hideAll _ e;have hm:b∉trk s.heap H++frs X.stack:=fun z=>by
  unfold zdl at e;rw[PySem.W.hideAll_none _ z]at e;cases e
 rw[yai,not_or]at hm;refine ⟨e1,?_,hm.2⟩;cases q:H b with
 | none=>rfl
 | some u=>exact absurd (ya7.mpr ⟨yaX.mpr (yae e1),by rw[q];rfl⟩) hm.1
theorem zgK (I:Inv X pins σ H s):∀ b o,X.base.get? b=some o→(zdl X s H).get? b=some o:=fun b o e=>by
 obtain ⟨h1,h2⟩:=I.bs b o e;refine zfe h1 h2 fun z=>?_;have:=(I.stack.mem z).1;rw[e]at this;cases this
theorem zjp (I:Inv X pins σ H s):Env0 X.prog X.w X.K X.mg (zdl X s H) X.A X.stack s H:=by
 have sub:=zgK I;refine ⟨I.ok.frames,⟨I.mod.kin.keeps sub,I.mod.glob.keeps sub,?_,I.mod.nolimit.keeps sub⟩,fun b o e=>⟨(zh3 e).1,(zh3 e).2.1⟩,Nat.le_of_eq (PySem.W.hideAll_size _ _),zef I.stack fun b hb=>PySem.W.hideAll_none _ (yax _ hb),I.stkFree,I.hok,I.bare⟩;obtain ⟨mb,h1,h2⟩:=I.mod.blt;exact ⟨mb,h1.keeps sub,h2⟩
end
structure FV (P:Program)(w:World)(K:Frag)(mg:Str→Option Value)(base:Heap)(k:Nat)(f:Addr)(ps:List Str)(sp:Sp):Prop where
 ex:∃ fd,FnOk P w K mg base CX0 k f fd ps sp∧zgn K fd ps []∧PySem.W.FnAt f base
section
variable {X:Cx}
def zqF (X:Cx)(kr:Nat)(tf:TE)(t:TA):TE:=fun σ H Q=>tf σ H fun x H1=>∃ f k ps sp,x=.ref f∧FV X.prog X.w X.K X.mg X.base k f ps sp∧k≤kr∧t σ H1 fun vs H2=>sp vs H2 Q E0
theorem zhe {kr:Nat}{x:Str}{e:Expr}{es:List Expr}{tf:TE}{t:TA}{p pos:Pos}(hr:Room kr X.A)(hf:PE X (.Name x p) tf)(ha:PA X (e::es) t)
  (he:starEach (e::es) X.env=(false,eval e X.env)::starEach es X.env:=by rfl) (hpl:(backTo pos (starEach es X.env)).any (·.1)=false:=by rfl):PE X (.Call (.Name x p) (e::es) [] pos) (zqF X kr tf t):=by
 intro pins s σ H Q I h;refine wpAny_Call_Name_kw (thn (hf pins s σ H _ I h) fun u s1 zq0=>?_);obtain ⟨x1,H1,I1,r1,q1⟩:=zq0;obtain ⟨f,k,ps,sp,rfl,hF,hk,q⟩:=q1;cases r1
 obtain ⟨fd,ok,bd,oc,od,fd2,sl,ho⟩:=hF.ex;refine PySem.W.callWith_F ⟨oc,od,fd2,sl,I1.bk _ _ ho⟩ (thn (ha pos pins s1 σ H1 _ I1 q) fun us s2 zq0=>?_) he hpl;obtain ⟨vs,H2,I2,r,q2⟩:=zq0;refine ⟨⟨oc,od,fd2,sl,I2.bk _ _ ho⟩,?_⟩;exact zoS ok (hr.mono hk) bd .nil zqY I2 r (by rw[yaI];exact q2)
structure znn (X:Cx)(params:Arguments)(body:Expr)(scope:Scope)(ps caps:List Str)(cap:List Nat):Prop where
 sc:zhG scope ps caps
 frees:∀ x,(x,NameKind.free)∈scope.names→(X.env.kindOf x=some .cell∨X.env.kindOf x=some .free)
 capAt:∀(j:Nat) (x:Str),caps[j]?=some x→∃ i:Nat,cap[j]?=some i∧X.N[i]?=some x∧(X.env.kindOf x=some .cell∨X.env.kindOf x=some .free)
 dflt:defaultsOf params X.env=([],[])
 binds:∀(cl:List (Str×Addr)) (pm cdv ct:Value) (us:List Value),us.length=ps.length→bindArgs (PySem.W.kla_fn "<lambda>" (X.env.qual ++ "<lambda>") params body scope cl pm cdv ct) ⟨us,[]⟩=pure (ps.zip us)
 own:∀ x,X.fn x=true
end
end L2
namespace L2
open PySem PySem.Spec PyProof.Rows
theorem zmA {P:Program}{w:World}{K:Frag}{mg mb:Str→Option Value}{CX:CXT}{k:Nat}{fa a:Addr}{fd:FuncData}{x:Str}{sp:Sp}{s₁:Shared}{vs:List Value}{ns:List Int}{tabs:List (Addr×Addr)}
  (KX:K.In s₁.heap) (hns:s₁.heap.Ns mainGlobals mg) (hb:s₁.heap.Ns builtinsNs mb) (hbb:∀ x:Str,x ≠ "__name__"→mb x=bootBuiltins x) (hlim:s₁.heap.NoLimit) (hg:s₁.gens=#[]) (hBM:BMAt mg s₁.heap)
  (hT:PySem.W.TabsAt tabs s₁.heap) (hKT:∀ q∈tabs,K.lookup q.2=none)
  (ha:s₁.heap.get? a=some { cls:=.type "list",data:=.seq vs.toArray }) (hi:IntsAre vs ns) (hl:ns.length≤sizeLine) (hr:Room k callerA)
  (F:∀ base:Heap,K.In base→base.Ns mainGlobals mg→BMAt mg base→FnOk P w K mg base CX k fa fd [x] sp) (hbind:∀(s:Shared) (u:Value),BindsTo s fd ⟨[u],[]⟩ [(x,u)])
  (hsp:∀ H:Hp,(∀ q∈tabs,H q.2=some (.tbl #[]))→SqL K H a (ns.map V.int)→sp [.ref a] H (fun v _=>v=.bl true) fun _ _ _=>False)
  (hCX:∀ H e s',CX [] H s₁ (fun _ _ _=>False) e s'→False) :
  codeAny (model P w) callerA (.call (.ref fa) ⟨[.ref a],[]⟩) (fun r s'=>r=.ok (.ret (.bool true))∧OldK s₁.heap s'.heap∧s'.os=s₁.os∧AllBare s'.gens) s₁:=by
 have rv:=zhL hi;have lenV:=hi.length;have tabO:∀ b,b∈tabs.map (·.2)→s₁.heap.get? b=some (PySem.W.tabObj #[])∧isCodeTable s₁.heap b∧K.lookup b=none:=fun b hm=>by
  obtain ⟨q,hq,rfl⟩:=yaA.mp hm;exact ⟨(hT q hq).2,((hT q hq).1.tab (hT q hq).2).isCodeTable,hKT q hq⟩
 have nat:a∉tabs.map (·.2):=fun z=>by
  have:=(tabO a z).1;rw[ha]at this;cases this
 have core:∀ Hs:Hp,(∀ b,Hs b=none∨(b=a∧Hs b=some (.frz { cls:=.type "list",data:=.seq vs.toArray } (.lst (ns.map V.int)))))→(∀ H:Hp,(∀ b,b∉tabs.map (·.2)→H b=Hs b)→SqL K H a (ns.map V.int))→(Hs a≠none→K.lookup a=none)→
   codeAny (model P w) callerA (.call (.ref fa) ⟨[.ref a],[]⟩) (fun r s'=>r=.ok (.ret (.bool true))∧OldK s₁.heap s'.heap∧s'.os=s₁.os∧AllBare s'.gens) s₁:=by
  intro Hs hO hS hK;obtain ⟨H,hH⟩:∃ H:Hp,H=fun b=>if b∈tabs.map (·.2) then some (.tbl #[]) else Hs b:=⟨_,rfl⟩
  have H1:∀ b,b∈tabs.map (·.2)→H b=some (.tbl #[]):=fun b z=>by rw[hH];exact if_pos z
  have H2:∀ b,b∉tabs.map (·.2)→H b=Hs b:=fun b z=>by rw[hH];exact if_neg z
  have cases3:∀ b,H b=none∨(b=a∧H b=some (.frz { cls:=.type "list",data:=.seq vs.toArray } (.lst (ns.map V.int))))∨(b∈tabs.map (·.2)∧H b=some (.tbl #[])):=fun b=>by
   by_cases z:b∈tabs.map (·.2)
   ·exact .inr (.inr ⟨z,H1 b z⟩)
   ·rcases hO b with y | ⟨y1,y2⟩
    ·exact .inl ((H2 b z).trans y)
    ·exact .inr (.inl ⟨y1,(H2 b z).trans y2⟩)
  have hok:HOk P w H s₁.heap:=fun b u e=>by
   rcases cases3 b with y | ⟨y1,y2⟩ | ⟨y1,y2⟩
   ·rw[y]at e;cases e
   ·rw[y2]at e;cases e
    subst y1;exact ⟨ha,by rw[yab];exact hl,vs,_,rv,ha⟩
   ·rw[y2]at e;cases e
    exact (tabO b y1).1
  have base_of:∀{b:Addr} {o:Obj},s₁.heap.get? b=some o→H b=none→(hidT s₁.heap H).get? b=some o:=fun e n=>zoi e n;have noD:∀{b:Addr} {o:Obj},s₁.heap.get? b=some o→(∀ xs n,o.data≠.seq xs n)→(∀ xs,o.data≠.fields xs)→H b=none:=fun {b o} e d1 d2=>by
   rcases cases3 b with y | ⟨y1,y2⟩ | ⟨y1,y2⟩
   ·exact y
   ·subst y1;rw[ha]at e;cases e
    exact absurd rfl (d1 _ _)
   ·rw[(tabO b y1).1]at e;cases e
    exact absurd rfl (d2 _)
  have nsK:∀{b:Addr} {m:Str→Option Value},s₁.heap.Ns b m→(hidT s₁.heap H).Ns b m:=fun {b m} ⟨o,es,ep,e,d,r⟩=>⟨o,es,ep,base_of e (noD e (fun _ _ z=>by rw[d]at z;cases z) (fun _ z=>by rw[d]at z;cases z)),d,r⟩
  have hKb:K.In (hidT s₁.heap H):=fun b o e=>base_of (KX b o e) (by
   rcases cases3 b with y | ⟨y1,y2⟩ | ⟨y1,y2⟩
   ·exact y
   ·subst y1;rw[hK (by rw[← H2 b nat,y2];exact fun z=>nomatch z)]at e;cases e
   ·rw[(tabO b y1).2.2]at e;cases e)
  have hM:Mod K mg (hidT s₁.heap H):=⟨hKb,nsK hns,⟨mb,nsK hb,hbb⟩,let ⟨mc,h1,h2⟩:=hlim;⟨mc,nsK h1,h2⟩⟩;have hBMb:BMAt mg (hidT s₁.heap H):=by
   obtain ⟨bm,o,b1,b2,b3,b4,b5,b6,b7⟩:=hBM;exact ⟨bm,o,b1,b2,b3,base_of b4 (noD b4 (fun _ _ z=>by rw[b7]at z;cases z) (fun _ z=>by rw[b7]at z;cases z)),b5,b6,b7⟩
  have e0:Env0 P w K mg (hidT s₁.heap H) callerA [] s₁ H:=⟨rfl,hM,fun b o e=>zpK e,Nat.le_of_eq (zmP _ _),trivial,fun b hb=>absurd (show b∈([]:List Addr) from hb) (by simp),hok,.of_eq hg⟩;refine codeAny_mono ((F _ hKb (nsK hns) hBMb).run callerA [] s₁ H ⟨[.ref a],[]⟩ [.ref a] [.ref a] _ _ hr e0 (hbind s₁ (.ref a)) (.cons rfl .nil) (hsp H (fun q hq=>H1 _ (List.mem_map_of_mem hq)) (hS H H2))) fun r s' h=>?_;cases r with
  | error e=>exact (hCX H e s' h).elim
  | ok fl=>
   cases fl with
   | next=>exact False.elim h
   | brk=>exact False.elim h
   | cont=>exact False.elim h
   | ret u=>
    obtain ⟨v,H',os,bare,un,hok',r',q⟩:=h;have q':v=.bl true:=q;subst q';obtain rfl:u=Value.bool true:=r';have keep:∀ b o,H b=none→s₁.heap.get? b=some o→s'.heap.get? b=some o:=fun b o n e=>un.keep b o e n (by intro z;exact absurd (show b∈([]:List Addr) from z) (by simp)) (by simp);have frz:∀ b o,b=a→H b=some (.frz { cls:=.type "list",data:=.seq vs.toArray } (.lst (ns.map V.int)))→s₁.heap.get? b=some o→s'.heap.get? b=some o:=fun b o y1 y2 e=>by
     obtain ⟨e1,_⟩:=hok b _ y2;obtain ⟨e2,_⟩:=hok' b _ (un.frzs b _ _ y2);rw[e]at e1;cases e1
     exact e2
    have tbl:∀ b,H b=some (.tbl #[])→∃ ps,s'.heap.get? b=some (PySem.W.tabObj ps):=fun b y=>by
     obtain ⟨more,e⟩:=un.tbls b _ y;exact ⟨_,hok' b _ e⟩
    refine ⟨rfl,⟨fun b o e=>?_,fun b o e=>?_⟩,os,bare⟩
    ·rcases cases3 b with y | ⟨y1,y2⟩ | ⟨y1,y2⟩
     ·exact .inl (keep b o y e)
     ·exact .inl (frz b o y1 y2 e)
     ·obtain ⟨ps,hp⟩:=tbl b y2;obtain ⟨t1,t2,_⟩:=tabO b y1;rw[e]at t1;cases t1
      exact .inr (.inl ⟨t2,rfl,#[],ps,rfl,by rw[Array.empty_append];exact hp⟩)
    ·rcases cases3 b with y | ⟨y1,y2⟩ | ⟨y1,y2⟩
     ·exact ⟨o,keep b o y e⟩
     ·exact ⟨o,frz b o y1 y2 e⟩
     ·obtain ⟨ps,hp⟩:=tbl b y2;exact ⟨_,hp⟩
 cases hk:K.lookup a with
 | some o=>
  have e:=KX a o hk;rw[ha]at e;cases e
  exact core (fun _=>none) (fun _=>.inl rfl) (fun H _=>.inr ⟨_,vs.toArray,_,hk,rfl,rfl,rfl,by rw[yay,lenV];exact hl,by simpa using rv⟩) fun z=>absurd rfl z
 | none=>
  refine core (fun b=>if b=a then some (.frz { cls:=.type "list",data:=.seq vs.toArray } (.lst (ns.map V.int))) else none) (fun b=>?_) (fun H h=>.inl (.inr ⟨{ cls:=.type "list",data:=.seq vs.toArray },by rw[h a nat];exact if_pos rfl⟩)) fun _=>hk
  by_cases z:b=a
  ·exact .inr ⟨z,if_pos z⟩
  ·exact .inl (if_neg z)
theorem znr {l:OpenLaw}{n k:Nat}{q:Program}{loose:List Str}{XP:(Str→Option Value)→Heap→Prop}{YP:World→Heap→Prop}{d:DefRec}{K:Params→Frag}{sp:World→Sp}{x:Str}{tabs:List (Addr×Addr)}
  (hn:l.most=some n) (hn2:n≤sizeLine) (hdf:d.params.defaults=[]) (hr:Room k callerA)
  (hY:∀(w:World) (h:Heap),YP w h→(K w.params).In h) (hYT:∀(w:World) (h:Heap),YP w h→∀ q∈tabs,h.get? q.2=some (PySem.W.tabObj #[]))
  (hC:∀(w:World),∀ q∈tabs,codeHdIn (K w.params) q.1 q.2=true∧(K w.params).lookup q.2=none)
  (F:∀(w:World) (mg:Str→Option Value) (fa:Addr) (h:Heap),(K w.params).In h→h.Ns mainGlobals mg→mg d.name=some (.ref fa)→
   ∃ fd:FuncData,(∀(s:Shared) (u:Value),BindsTo s fd ⟨[u],[]⟩ [(x,u)])∧
    ∀ base:Heap,(K w.params).In base→base.Ns mainGlobals mg→BMAt mg base→FnOk l.prog w (K w.params) mg base CX0 k fa fd [x] (sp w))
  (hsp:∀(w:World) (H:Hp) (a:Addr) (ns:List Int),ns.length≤n→(∀ q∈tabs,H q.2=some (.tbl #[]))→SqL (K w.params) H a (ns.map V.int)→sp w [.ref a] H (fun v _=>v=.bl true) fun _ _ _=>False) :
  PySem.W.WalkO q loose XP YP l.row.toRowW d [] (fun f vs=>PySem.call f vs):=by
 refine Att.attach_call hn hdf fun w s₀ s₁ mg mb fa o pm cd doc a vs ns G Y ho hd hcd hmg hobj hints hlen hg=>?_;have KX:=hY w _ Y;obtain ⟨fd,hb,hF⟩:=F w mg fa _ KX G.T.g hmg;have hBM:BMAt mg s₁.heap:=by
  obtain ⟨bm,ob,b1,b2,b3,b4,b5,b6⟩:=G.T.bmain;refine ⟨bm,ob,b1,b2,fun z=>?_,b3,b4,b5,b6⟩;obtain ⟨o,es,ep,e,hd,_⟩:=G.T.g;rw[z,e]at b3;cases b3
  rw[hd]at b6;cases b6
 exact zmA (tabs:=tabs) KX G.T.g G.T.b G.T.builtins G.T.nolimit hg hBM (fun q hq=>⟨PySem.W.codeHd_of_K KX (hC w q hq).1,hYT w _ Y q hq⟩) (fun q hq=>(hC w q hq).2) hobj hints (yaB hlen hn2) hr hF hb (fun H hO hS=>hsp w H a ns hlen hO hS) fun H e s' z=>z
structure DFT (K:Frag)(mg:Str→Option Value)(x:Str)(st:Stmt)(ps:List Str)(c Pt:Addr):Prop where
 ex:∃(f:Addr) (oc:Value) (od:Option Addr) (kV dc pm:Value) (an:Option Addr) (ct:Value) (osl:Array (Option Value)),K.lookup f=some ⟨oc,od,.func (fnOf x x (zcR st) (zbL st) (zaj st) .none kV dc pm an (.ref c) ct),osl⟩∧
  codeIn K (.ref c) x=true∧keepIn K (.ref f)=true∧mg x=some (.ref f)∧zgn K (fnOf x x (zcR st) (zbL st) (zaj st) .none kV dc pm an (.ref c) ct) ps []
 hd:codeHdIn K c Pt=true
theorem DFT.ok {P:Program}{w:World}{K:Frag}{mg:Str→Option Value}{base:Heap}{x:Str}{st:Stmt}{N ps:List Str}{k:Nat}{sp:Sp}{c Pt:Addr}(D:DFT K mg x st ps c Pt)(S:zaq N ps (zaj st))(len:∀ vs H Q E,sp vs H Q E→vs.length=ps.length)
  (hbody:∀(f:Addr) (A:Around) (outer:List Env) (s:Shared) (H:Hp) (vs:List V) (Q:VK) (E:XK),Room k (A.deeper (envOfC x (zaj st) s.heap.objs.size f (.ref c)))→sp vs H Q E→
   ∃ t,PSs (cxOf CX0 P w K mg base N x (zaj st) f (.ref c) A outer s H E).nox (zbL st) t∧t { nx:=fun _ H'=>Q .non H',rt:=Q } (zcV N vs) H):FC P w K mg base (k+1) x ps sp:=by
 obtain ⟨f,oc,od,kV,dc,pm,an,ct,osl,lk,hcd,kp,m,bd⟩:=D.ex;refine ⟨f,_,zp7 lk hcd S len fun A outer s H vs Q E hr hsp=>?_,bd,kp,m,oc,od,osl,lk⟩;obtain ⟨t,h,q⟩:=hbody f A outer s H vs Q E hr hsp;exact ⟨t,h.nox,q⟩
theorem znv {K:Frag}{x:Str}{c Pt f:Addr}{oc:Value}{od:Option Addr}{fd:FuncData}{sl:Array (Option Value)}(a:nsIn K mainGlobals x=some (some (.ref f)))(l:K.lookup f=some ⟨oc,od,.func fd,sl⟩)(t:tabIn K x=some (c,Pt)):fd.code=.ref c:=by
 unfold tabIn at t;rw[a]at t;dsimp only at t;rw[l]at t;dsimp only at t;split at t
 ·rename_i c2 hc;split at t
  ·split at t
   ·cases t
    exact hc
   ·cases t
  ·cases t
 ·cases t
end L2
namespace L2
open PySem PySem.Spec PyProof.Rows
theorem zo1 {X:Cx}{params:Arguments}{body:Expr}{scope osc:Scope}{N ps caps:List Str}{cap:List Nat}(sc:zhG scope ps caps)
  (h1:∀ p∈scope.names,p.2=NameKind.free→osc.names.lookup p.1=some NameKind.cell) (h2:∀ p∈caps.zip cap,N[p.2]?=some p.1∧osc.names.lookup p.1=some NameKind.cell) (hl:caps.length=cap.length)
  (ho:X.env.scope=osc) (hN:X.N=N) (d:defaultsOf params X.env=([],[]))
  (b:∀(cl:List (Str×Addr)) (pm cdv ct:Value) (us:List Value),us.length=ps.length→bindArgs (PySem.W.kla_fn "<lambda>" (X.env.qual ++ "<lambda>") params body scope cl pm cdv ct) ⟨us,[]⟩=pure (ps.zip us))
  (o:∀ x,X.fn x=true):znn X params body scope ps caps cap:=by
 have hk:∀ x,X.env.kindOf x=osc.names.lookup x:=fun x=>by
  unfold Env.kindOf;rw[ho]
 refine ⟨sc,fun x hx=>.inl ?_,fun j x hj=>?_,d,b,o⟩
 ·rw[hk];exact h1 (x,.free) hx rfl
 ·have hj':=(yao.mp hj).1;have hc:cap[j]?=some (cap[j]'(by omega)):=yac _;have hz:(caps.zip cap)[j]?=some (x,cap[j]'(by omega)):=by
   rw[List.getElem?_zip_eq_some];exact ⟨hj,hc⟩
  obtain ⟨a1,a2⟩:=h2 _ (yaQ hz);refine ⟨_,hc,?_,.inl ?_⟩
  ·rw[hN];exact a1
  ·rw[hk];exact a2
end L2
namespace L2
open PySem PySem.Spec PyProof.Rows
structure Sub (K:Frag)(mg:Str→Option Value)(b1 b2:Heap):Prop where
 mod:Mod K mg b1
 get:∀ b o,b1.get? b=some o→b2.get? b=some o
 size:b1.objs.size≤b2.objs.size
section
variable {P:Program}{w:World}{K:Frag}{mg:Str→Option Value}{b1 b2:Heap}{k:Nat}{f:Addr}{ps:List Str}{sp:Sp}
theorem FnOk.lift {CX:CXT}{fd:FuncData}(F:FnOk P w K mg b1 CX k f fd ps sp)(S:Sub K mg b1 b2):FnOk P w K mg b2 CX k f fd ps sp:=
 ⟨F.len,fun A outer s H args us vs Q E hr e0=>F.run A outer s H args us vs Q E hr ⟨e0.frames,S.mod,fun b o e=>e0.bs b o (S.get b o e),yaB S.size e0.bsz,zef e0.funs (fun b hb=>by
  cases q:b1.get? b with
  | none=>rfl
  | some o=>
   have z:=(e0.funs.mem hb).1;rw[S.get b o q]at z;exact nomatch z),e0.frf,e0.hok,e0.bare⟩⟩
theorem FV.lift (F:FV P w K mg b1 k f ps sp)(S:Sub K mg b1 b2):FV P w K mg b2 k f ps sp:=by
 obtain ⟨fd,ok,bd,oc,od,fd2,sl,ho⟩:=F.ex;exact ⟨fd,FnOk.lift ok S,bd,oc,od,fd2,sl,S.get _ _ ho⟩
theorem BMAt.lift (h:BMAt mg b1)(S:Sub K mg b1 b2):BMAt mg b2:=by
 obtain ⟨bm,o,h1,h2,h3,h4,h5⟩:=h;exact ⟨bm,o,h1,h2,h3,S.get _ _ h4,h5⟩
end
def zqE (P:Program)(w:World)(K:Frag)(mg:Str→Option Value)(base:Heap)(kr:Nat)(tf:TE)(t:TA):TE:=fun σ H Q=>tf σ H fun x H1=>∃ f k ps sp,x=.ref f∧FV P w K mg base k f ps sp∧k≤kr∧t σ H1 fun vs H2=>sp vs H2 Q E0
theorem znI (P:Program)(w:World)(K:Frag)(mg:Str→Option Value)(base:Heap){X:Cx}{kr:Nat}{x:Str}{e:Expr}{es:List Expr}{tf:TE}{t:TA}{p pos:Pos}(hr:Room kr X.A)(hf:PE X (.Name x p) tf)(ha:PA X (e::es) t)
  (h1:X.prog=P:=by rfl) (h2:X.w=w:=by rfl) (h3:X.K=K:=by rfl) (h4:X.mg=mg:=by rfl) (h5:X.base=base:=by rfl)
  (he:starEach (e::es) X.env=(false,eval e X.env)::starEach es X.env:=by rfl) (hpl:(backTo pos (starEach es X.env)).any (·.1)=false:=by rfl):PE X (.Call (.Name x p) (e::es) [] pos) (zqE P w K mg base kr tf t):=by
 subst h1 h2 h3 h4 h5;exact zhe hr hf ha he hpl
section
variable {X:Cx}{pins:List (Addr×Obj)}{σ:St}{H:Hp}{s:Shared}
theorem zff (I:Inv X pins σ H s):Sub X.K X.mg X.base (zdl X s H):=⟨I.ok.mod,zgK I,yaB I.env0.bsz (Nat.le_of_eq (PySem.W.hideAll_size _ _).symm)⟩
def zno (X:Cx)(n kf:Nat)(ps:List Str)(cap:List Nat)(Pt:Addr)(lpos:Pos)(tb:Heap→TE)(σ:St)(H1:Hp)(q:Heap→Addr→Hp→Prop):Prop:=zbu H1 Pt lpos (X.env.qual ++ "<lambda>")∧∃ vcs:List V,vcs.length=n∧(∀(j i:Nat) (v:V),cap[j]?=some i→vcs[j]?=some v→σ[i]?=some (some v))∧
 ∀(base:Heap) (f c':Addr) (H2:Hp),Gro Pt H1 H2→zbu H2 Pt lpos (X.env.qual ++ "<lambda>")→zgj H2 c' (X.env.qual ++ "<lambda>")→Sub X.K X.mg X.base base→FV X.prog X.w X.K X.mg base kf f ps (zny ps.length (tb base) vcs c' (X.env.qual ++ "<lambda>"))→q base f H2
theorem zrv {params:Arguments}{body:Expr}{scope:Scope}{ps caps:List Str}{cap:List Nat}{f c':Addr}{cl:List (Str×Addr)}{pm ctv:Value}{vcs:List V}{tb:TE}{k n:Nat}(I:Inv X pins σ H s)(L:znn X params body scope ps caps cap)(hcl:ziG scope X.env cl)
  (ho:s.heap.get? f=some (PySem.W.kla_obj "<lambda>" (X.env.qual ++ "<lambda>") params body scope cl pm c' ctv)) (hn:H f=none) (hfr:∀ b∈frs X.stack,b < n) (hge:n≤f)
  (hv:vcs.length=caps.length) (hvs:∀(j i:Nat) (v:V),cap[j]?=some i→vcs[j]?=some v→σ[i]?=some (some v))
  (hb:∀(f:Addr) (cd:Value) (cl:List (Str×Addr)) (A:Around) (outer:List Env) (s1:Shared) (H1:Hp),Room k (A.deeper (PySem.W.envX (X.env.qual ++ "<lambda>") scope s1.heap.objs.size f cd cl))→PE (zlc X.prog X.w X.K X.mg (zdl X s H) (ps++caps) (X.env.qual ++ "<lambda>") scope f cd cl A outer s1 H1) body tb) :
  FV X.prog X.w X.K X.mg (zdl X s H) (k+1) f ps (zny ps.length tb vcs c' (X.env.qual ++ "<lambda>")):=by
 have nf:f∉frs X.stack:=fun z=>absurd (yaz (hfr f z) hge) (yaV _);have hbf:=zfe (X:=X) ho hn nf;have cellB:∀ x a v,X.env.cells.lookup x=some a→s.heap.IsCell a v→(zdl X s H).IsCell a v:=fun x a v e ⟨o,h1,h2⟩=>by
  refine ⟨o,zfe h1 (I.freeC x a e) fun z=>?_,h2⟩;rcases yal.mp (I.stkSub a z) with y | y
  ·exact I.cne x a e y
  ·obtain ⟨_,o2,h3,_⟩:=I.ok.funs.mem y;exact absurd (yaz (yae h3) (I.ok.cab x a (L.own x) e)) (yaV _)
 refine ⟨_,zrj L.sc hbf hv (fun j x v h1 h2=>?_) (fun x a e=>?_) (fun x y a h1 h2=>I.ok.inj x y a (hcl.sub x a h1) (hcl.sub y a h2)) (fun x e=>?_) (fun A outer s H hr=>hb f _ cl A outer s H hr),.all (L.binds cl pm (.ref c') ctv),⟨_,_,_,_,hbf⟩⟩
 ·obtain ⟨i,e1,e2,e3⟩:=L.capAt j x h1;obtain ⟨m,hm,hl⟩:=I.loc;obtain ⟨u,ru,lk⟩:=hl i x v e2 (hvs j i v e1 h2) (by
   rcases e3 with z | z
   ·exact .inr (.inl z)
   ·exact .inr (.inr z))
  rcases lk with ⟨z,_⟩ | ⟨_,a,e4,e5⟩
  ·rcases e3 with y | y
   ·rw[y]at z;cases z
   ·rw[y]at z;cases z
  ·obtain ⟨a',e6⟩:=hcl.has x (PySem.mem_of_lookup (L.sc.cap x (yaQ h1)));have e7:=hcl.sub x a' e6;rw[e4]at e7;cases e7
   exact ⟨a,u,e6,cellB x a _ e4 e5,ru⟩
 ·obtain ⟨v,z⟩:=I.cell x a (hcl.sub x a e);exact ⟨v,cellB x a v (hcl.sub x a e) z⟩
 ·exact hcl.has x (PySem.mem_of_lookup e)
theorem zkb {params:Arguments}{body:Expr}{scope:Scope}{lpos:Pos}{tb:Heap→TE}{kf:Nat}{c Pt:Addr}{ps caps:List Str}{cap:List Nat}{q:Heap→Addr→Hp→Prop}{Qv:List Value→Shared→Prop}(I:Inv X pins σ H s)
  (L:znn X params body scope ps caps cap) (hcode:X.env.code=.ref c) (hC:codeHdIn X.K c Pt=true) (hBM:BMAt X.mg X.base)
  (hb:∀(base:Heap) (f:Addr) (cd:Value) (cl:List (Str×Addr)) (A:Around) (outer:List Env) (s:Shared) (H:Hp),Sub X.K X.mg X.base base→Room kf (A.deeper (PySem.W.envX (X.env.qual ++ "<lambda>") scope s.heap.objs.size f cd cl))→PE (zlc X.prog X.w X.K X.mg base (ps++caps) (X.env.qual ++ "<lambda>") scope f cd cl A outer s H) body (tb base))
  (hg:zno X caps.length (kf+1) ps cap Pt lpos tb σ H q) (h:∀ f H2 s2,Inv X pins σ H2 s2→q (zdl X s2 H2) f H2→Qv [.ref f] s2):wpAny (model X.prog X.w) X.A (spliced [(false,eval (.Lambda params body scope lpos) X.env)]) Qv X.xe s:=by
 obtain ⟨hT,vcs,hv,hvs,q⟩:=hg;refine Calls.spliced_cons (zob I L.dflt L.frees hcode hC hBM hT fun f c' cl pm ctv H2 s2 hcl I2 ho hn hge hgr hT2 hca=>?_);have S:=zff I2;have hF:=zrv (k:=kf) (n:=s.heap.objs.size) (tb:=tb (zdl X s2 H2)) I2 L hcl ho hn (fun b hb=>by
  obtain ⟨_,o,e,_⟩:=I.stack.mem hb;exact yae e) hge hv hvs (fun f cd cl A outer s H hr=>hb _ f cd cl A outer s H S hr)
 exact Calls.spliced_nil (h f H2 s2 I2 (q _ f c' H2 hgr hT2 hca S hF))
theorem zo4 {x:Str}{qs:List Str}{sp:Sp}{j k:Nat}{g:Addr}{Q:VK}{us:List Value}{vs:List V}(I:Inv X pins σ H s)(m:X.mg x=some (.ref g))(F:FC X.prog X.w X.K X.mg (zdl X s H) j x qs sp)(hr:Room k X.A)(hjk:j≤k)(r:Vals vs us)(h:sp vs H Q E0) :
  wpAny (model X.prog X.w) X.A (call (.ref g) us) (EP X pins σ Q) X.xe s:=by
 obtain ⟨g2,fd2,ok,bd,_,m2,_⟩:=F.ex;rw[m]at m2;cases m2
 refine wpAny_call (codeAny_mono (ok.run X.A X.stack s H ⟨us,[]⟩ us vs Q E0 (hr.mono hjk) (zjp I) (by simpa using bd s us I.kIn (by rw[yaI,← r.length];exact ok.len _ _ _ _ h)) r h) fun r s' hq=>?_);cases r with
 | error e=>exact False.elim hq
 | ok fl=>
  cases fl with
  | ret u=>exact I.after hq
  | next=>exact False.elim hq
  | brk=>exact False.elim hq
  | cont=>exact False.elim hq
end
section
variable {X:Cx}
def zlD (X:Cx)(n kf:Nat)(ps:List Str)(cap:List Nat)(Pt:Addr)(lpos:Pos)(tb:Heap→TE)(te:TE)(spH:Heap→Sp):TE:=fun σ H Q=>te σ H fun x1 H1=>zno X n kf ps cap Pt lpos tb σ H1 fun base f H2=>spH base [x1,.ref f] H2 Q E0
theorem ziP {x:Str}{qs:List Str}{e1:Expr}{params:Arguments}{body:Expr}{scope:Scope}{lpos p pos:Pos}{te:TE}{tb:Heap→TE}{spH:Heap→Sp}{j k kf:Nat}{c Pt:Addr}{ps caps:List Str}{cap:List Nat}
  (F:∀ base,Sub X.K X.mg X.base base→FC X.prog X.w X.K X.mg base j x qs (spH base)) (hr:Room k X.A) (h1:PE X e1 te) (L:znn X params body scope ps caps cap) (hcode:X.env.code=.ref c) (hC:codeHdIn X.K c Pt=true) (hBM:BMAt X.mg X.base)
  (hb:∀(base:Heap) (f:Addr) (cd:Value) (cl:List (Str×Addr)) (A:Around) (outer:List Env) (s:Shared) (H:Hp),Sub X.K X.mg X.base base→Room kf (A.deeper (PySem.W.envX (X.env.qual ++ "<lambda>") scope s.heap.objs.size f cd cl))→PE (zlc X.prog X.w X.K X.mg base (ps++caps) (X.env.qual ++ "<lambda>") scope f cd cl A outer s H) body (tb base))
  (hjk:j≤k:=by decide) (hg:Gl X x:=by rfl) (hdb:(x == ("__debug__" : Str))=false:=by decide) (he:starEach [e1,.Lambda params body scope lpos] X.env=(false,eval e1 X.env)::starEach [.Lambda params body scope lpos] X.env:=by rfl)
  (he2:starEach [.Lambda params body scope lpos] X.env=[(false,eval (.Lambda params body scope lpos) X.env)]:=by rfl) (hpl:(backTo pos (starEach [.Lambda params body scope lpos] X.env)).any (·.1)=false:=by rfl) :
  PE X (.Call (.Name x p) [e1,.Lambda params body scope lpos] [] pos) (zlD X caps.length (kf+1) ps cap Pt lpos tb te spH):=by
 intro pins s σ H Q I h;obtain ⟨g,fd,_,_,kp,m,oc,od,osl,lk⟩:=(F X.base ⟨I.ok.mod,fun _ _ e=>e,yaa _⟩).ex;refine wpAny_Call_Name_kw (zed I hg m ?_ hdb);refine PySem.W.callWith_K (h₀:=X.base) I.ok.mod.kin kp ?_ he hpl;rw[he];show wpAny _ _ (spliced ((false,eval e1 X.env)::backTo pos (starEach [.Lambda params body scope lpos] X.env))) _ _ s;refine Calls.spliced_cons (thn (h1 pins s σ H _ I h) fun u s1 zq0=>?_);obtain ⟨x1,H1,I1,r1,q1⟩:=zq0;rw[he2];show wpAny _ _ (spliced [(false,eval (.Lambda params body scope lpos) X.env)]) _ _ s1;exact zkb I1 L hcode hC hBM hb q1 fun f H2 s2 I2 hsp=>⟨I2.kIn,zo4 I2 m (F _ (zff I2)) hr hjk (vs:=[x1,.ref f]) (.cons r1 (.cons rfl .nil)) hsp⟩
def zkI (X:Cx)(n kf:Nat)(ps:List Str)(cap:List Nat)(Pt:Addr)(lpos:Pos)(tb:Heap→TE)(te te2:TE)(spH:Heap→Sp):TE:=fun σ H Q=>te σ H fun x1 H1=>te2 σ H1 fun x2 H2=>zno X n kf ps cap Pt lpos tb σ H2 fun base f H3=>spH base [x1,x2,.ref f] H3 Q E0
theorem zhY {x:Str}{qs:List Str}{e1 e2:Expr}{params:Arguments}{body:Expr}{scope:Scope}{lpos p pos:Pos}{te te2:TE}{tb:Heap→TE}{spH:Heap→Sp}{j k kf:Nat}{c Pt:Addr}{ps caps:List Str}{cap:List Nat}
  (F:∀ base,Sub X.K X.mg X.base base→FC X.prog X.w X.K X.mg base j x qs (spH base)) (hr:Room k X.A) (h1:PE X e1 te) (h2:PE X e2 te2) (L:znn X params body scope ps caps cap) (hcode:X.env.code=.ref c) (hC:codeHdIn X.K c Pt=true) (hBM:BMAt X.mg X.base)
  (hb:∀(base:Heap) (f:Addr) (cd:Value) (cl:List (Str×Addr)) (A:Around) (outer:List Env) (s:Shared) (H:Hp),Sub X.K X.mg X.base base→Room kf (A.deeper (PySem.W.envX (X.env.qual ++ "<lambda>") scope s.heap.objs.size f cd cl))→PE (zlc X.prog X.w X.K X.mg base (ps++caps) (X.env.qual ++ "<lambda>") scope f cd cl A outer s H) body (tb base))
  (hjk:j≤k:=by decide) (hg:Gl X x:=by rfl) (hdb:(x == ("__debug__" : Str))=false:=by decide) (he:starEach [e1,e2,.Lambda params body scope lpos] X.env=(false,eval e1 X.env)::starEach [e2,.Lambda params body scope lpos] X.env:=by rfl)
  (he2:starEach [e2,.Lambda params body scope lpos] X.env=[(false,eval e2 X.env),(false,eval (.Lambda params body scope lpos) X.env)]:=by rfl) (hpl:(backTo pos (starEach [e2,.Lambda params body scope lpos] X.env)).any (·.1)=false:=by rfl) :
  PE X (.Call (.Name x p) [e1,e2,.Lambda params body scope lpos] [] pos) (zkI X caps.length (kf+1) ps cap Pt lpos tb te te2 spH):=by
 intro pins s σ H Q I h;obtain ⟨g,fd,_,_,kp,m,oc,od,osl,lk⟩:=(F X.base ⟨I.ok.mod,fun _ _ e=>e,yaa _⟩).ex;refine wpAny_Call_Name_kw (zed I hg m ?_ hdb);refine PySem.W.callWith_K (h₀:=X.base) I.ok.mod.kin kp ?_ he hpl;rw[he];show wpAny _ _ (spliced ((false,eval e1 X.env)::backTo pos (starEach [e2,.Lambda params body scope lpos] X.env))) _ _ s;refine Calls.spliced_cons (thn (h1 pins s σ H _ I h) fun u s1 zq0=>?_);obtain ⟨x1,H1,I1,r1,q1⟩:=zq0;rw[he2];show wpAny _ _ (spliced ((false,eval e2 X.env)::[(false,eval (.Lambda params body scope lpos) X.env)])) _ _ s1;refine Calls.spliced_cons (thn (h2 pins s1 σ H1 _ I1 q1) fun u2 s2 zq0=>?_);obtain ⟨x2,H2,I2,r2,q2⟩:=zq0;exact zkb I2 L hcode hC hBM hb q2 fun f H3 s3 I3 hsp=>⟨I3.kIn,zo4 I3 m (F _ (zff I3)) hr hjk (vs:=[x1,x2,.ref f]) (.cons r1 (.cons r2 (.cons rfl .nil))) hsp⟩
end
theorem zon {K:Frag}{a b:Addr}{xs ys:List V}{g:TG}{tb:TS}{D:Ends}{σ:St}{H:Hp}(hlen:ys.length≤xs.length)(Pv:Nat→St→Hp→Prop)(h0:Pv 0 σ H)(hl:∀ i σ H,i≤ys.length→Pv i σ H→SqL K H a xs∧SqL K H b ys)
  (hs:∀ i x y σ H p,xs[i]?=some x→ys[i]?=some y→Pv i σ H→H p=none→g (.ref p) σ (upd H p (.tup [x,y])) fun σ2 H2=>tb { D with nx:=Pv (i+1),ct:=Pv (i+1),bk:=D.nx } σ2 H2) (hd:∀ σ H,Pv ys.length σ H→D.nx σ H) :
  ∃ W:Nat→Nat→St→Hp→Prop,(∃ m,W 0 m σ H)∧∀ i m σ H,W i m σ H→((Itz K a b).stop i H∧D.nx σ H)∨((Itz K a b).go i H∧∃ N:St→Hp→Prop,(∀ σ' H',N σ' H'→∃ m',m' < m∧W (i+1) m' σ' H')∧∀ x H',(Itz K a b).yld i H x H'→g x σ H' fun σ2 H2=>tb { D with nx:=N,ct:=N,bk:=D.nx } σ2 H2):=by
 refine ⟨fun i m σ H=>i+m=ys.length∧Pv i σ H,⟨ys.length,by omega,h0⟩,fun i m σ H zq0=>?_⟩;obtain ⟨e,pv⟩:=zq0;obtain ⟨hS,hS'⟩:=hl i σ H (by omega) pv;by_cases hi:i < ys.length
 ·refine .inr ⟨⟨xs,ys,xs[i]'(by omega),ys[i],hS,hS',yac (by omega),yac hi⟩,Pv (i+1),fun σ' H' q=>⟨m - 1,by omega,by omega,q⟩,fun x H' y=>?_⟩;obtain ⟨p,z,z',rfl,hp,hz,hz',rfl⟩:=y;exact hs i z z' σ H p (hz xs hS) (hz' ys hS') pv hp
 ·have:i=ys.length:=by omega
  subst this;exact .inl ⟨⟨xs,ys,hS,hS',.inr (yaa _)⟩,hd σ H pv⟩
end L2
namespace L2
open PySem PySem.Spec PyProof.Rows
theorem zm8 {K:Frag}{a b D:Addr}{xs ys:List V}{g:TG}{ts:TT}{te:TE}{σ:St}{H:Hp}{Q:Hp→Prop}(hlen:ys.length≤xs.length)(Pv:Nat→St→Hp→Prop)(h0:Pv 0 σ H)(hl:∀ i σ H,i≤ys.length→Pv i σ H→SqL K H a xs∧SqL K H b ys)
  (hs:∀ i m x y σ H r,xs[i]?=some x→ys[i]?=some y→i+m=ys.length→Pv i σ H→H r=none→g (.ref r) σ (upd H r (.tup [x,y])) fun σ2 H2=>ts σ2 H2 fun b H3=>if b=true then te σ2 H3 fun y H4=>∃ zs,H4 D=some (.lst zs)∧zs.length < sizeLine∧∃ m',m' < m∧(i+1+m'=ys.length∧Pv (i+1) σ2 (upd H4 D (.lst (zs++[y])))) else ∃ m',m' < m∧(i+1+m'=ys.length∧Pv (i+1) σ2 H3))
  (hd:∀ σ H,Pv ys.length σ H→Q H) :
  ∃ W:Nat→Nat→St→Hp→Prop,(∃ m,W 0 m σ H)∧∀ i m σ H,W i m σ H→((Itz K a b).stop i H∧Q H)∨((Itz K a b).go i H∧∀ x H',(Itz K a b).yld i H x H'→g x σ H' fun σ2 H2=>ts σ2 H2 fun b H3=>if b=true then te σ2 H3 fun y H4=>∃ xs,H4 D=some (.lst xs)∧xs.length < sizeLine∧∃ m',m' < m∧W (i+1) m' σ2 (upd H4 D (.lst (xs++[y]))) else ∃ m',m' < m∧W (i+1) m' σ2 H3):=by
 refine ⟨fun i m σ H=>i+m=ys.length∧Pv i σ H,⟨ys.length,by omega,h0⟩,fun i m σ H zq0=>?_⟩;obtain ⟨e,pv⟩:=zq0;obtain ⟨hS,hS'⟩:=hl i σ H (by omega) pv;by_cases hi:i < ys.length
 ·refine .inr ⟨⟨xs,ys,xs[i]'(by omega),ys[i],hS,hS',yac (by omega),yac hi⟩,fun x H' y=>?_⟩;obtain ⟨p,z,z',rfl,hp,hz,hz',rfl⟩:=y;exact hs i m z z' σ H p (hz xs hS) (hz' ys hS') e pv hp
 ·have:i=ys.length:=by omega
  subst this;exact .inl ⟨⟨xs,ys,hS,hS',.inr (yaa _)⟩,hd σ H pv⟩
end L2
namespace DictP
open PySem PySem.Spec PyProof.Rows
set_option autoImplicit false
set_option maxRecDepth 100000
theorem zic:typeLookup (.type "list") "keys" = pure none:=by rw[typeLookup_type,builtinLookup_eq_fast];kernel_rfl
section
variable {prog:Program}{w:World}{A:Around}{E:Value→Shared→Prop}{a:Addr}{o:Obj}{h:Heap}{g:Array GenState}{d:Drawn}{t:Nat}{os:OsState}{xs:Array Value}{n:Nat}{sl:Array (Option Value)}
theorem zk4 {tk:Tok}{Q:Fin→Shared→Prop}(hh:A.handled=none)(hx:h.get? a=some { cls:=.type "list",dict:=none,data:=.seq xs n,slots:=sl })
  (q:∀ h' t' e,(∀ b u,h.get? b=some u→h'.get? b=some u)→(⟨h',g,d,t',os⟩:Shared).TypeIs (.ref e) "AttributeError"→E (.ref e) ⟨h',g,d,t',os⟩) :
  wpAny (model prog w) A (Builtin.«object.__getattribute__» ⟨[.ref a,.str "keys" tk],[]⟩) Q E ⟨h,g,d,t,os⟩:=by
 have hT:(⟨h,g,d,t,os⟩:Shared).TypeIs (.ref a) "list":=⟨_,hx,rfl⟩;have f4:=zic
 repeat (any_goals (first | assumption | wp_step))
 have hm:(Str.ofString (toString "'" ++ toString ((Manifest.find? "list").elim "list" fun x=>x.tpName)++toString "' object has no attribute '")++Str.ofString "keys" ++ Str.ofString "'").length≤sizeLine:=by decide +kernel
 generalize (Str.ofString (toString "'" ++ toString ((Manifest.find? "list").elim "list" fun x=>x.tpName)++toString "' object has no attribute '")++Str.ofString "keys" ++ Str.ofString "'")=msg at hm ⊢;unfold raiseAttrError;refine wpAny_bind (wpAny_mkStr (wpAny_bind ?_) hm);unfold newExc newTuple;refine wpAny_bind (wpAny_newObj_type ?_);refine wpAny_bind (m:=firstArgMember _ _) (wpAny_of_eq (a:=Value.none) (by rfl) ?_);refine wpAny_newObj_type ?_;refine wpAny_bind (wpAny_mkText ?_);have hX:=yaO (h.push { cls:=.type "tuple",data:=.seq #[Value.str msg t] }) (o:={ cls:=.type "AttributeError",data:=.fields (#[.ref h.objs.size,.none,.none,.none,.bool false,.none]++#[unsetMember,unsetMember]) }) rfl;have hk:∀ b u,h.get? b=some u→((h.push { cls:=.type "tuple",data:=.seq #[Value.str msg t] }).push { cls:=.type "AttributeError",data:=.fields (#[.ref h.objs.size,.none,.none,.none,.bool false,.none]++#[unsetMember,unsetMember]) }).get? b=some u:=fun b u e=>yap _ (yap _ e);have hne:h.get? (h.push { cls:=.type "tuple",data:=.seq #[Value.str msg t] }).objs.size=none:=Heap.get?_none_of_le (by simp);show wpAny (model prog w) A (noteAttr (.ref (h.push { cls:=.type "tuple",data:=.seq #[Value.str msg t] }).objs.size) (.ref a) (.str "keys" (t+1)) >>= fun _=>raiseNew (.ref (h.push { cls:=.type "tuple",data:=.seq #[Value.str msg t] }).objs.size)) Q E ⟨(h.push { cls:=.type "tuple",data:=.seq #[Value.str msg t] }).push { cls:=.type "AttributeError",data:=.fields (#[.ref h.objs.size,.none,.none,.none,.bool false,.none]++#[unsetMember,unsetMember]) },g,d,t+2,os⟩;generalize (h.push { cls:=.type "tuple",data:=.seq #[Value.str msg t] }).push { cls:=.type "AttributeError",data:=.fields (#[.ref h.objs.size,.none,.none,.none,.bool false,.none]++#[unsetMember,unsetMember]) }=h2 at hX hk ⊢;generalize (h.push { cls:=.type "tuple",data:=.seq #[Value.str msg t] }).objs.size=e at hX hne ⊢;generalize (Value.ref h.objs.size)=r0 at hX;unfold noteAttr;dsimp only;have hTe:(⟨h2,g,d,t+2,os⟩:Shared).TypeIs (.ref e) "AttributeError":=⟨_,hX,rfl⟩;refine wpAny_bind (wpAny_bind ?_);unfold lacksNameAndObj;dsimp only;refine wpAny_bind (wpAny_isInstance (T := "AttributeError") (b:=true) hTe (by rw[isSubtype_type];kernel_rfl) ?_);simp only[ybM,yaM,if_false];refine wpAny_bind (wpAny_load hX ?_);dsimp only;have i6:(#[r0,Value.none,Value.none,Value.none,Value.bool false,Value.none]++#[unsetMember,unsetMember])[6]?=some unsetMember:=by simp
 have i7:(#[r0,Value.none,Value.none,Value.none,Value.bool false,Value.none]++#[unsetMember,unsetMember])[7]?=some unsetMember:=by simp
 refine wpAny_ite_split (fun z=>absurd z (by rw[i6,i7];decide)) (fun _=>?_);refine wpAny_ite_split (fun z=>absurd z (by rw[i6,i7];decide)) (fun _=>?_);refine wpAny_pure ?_;rw[if_pos rfl];refine wpAny_bind (wpAny_rule (wpAny_bind (wpAny_typeOf hTe ?_)));dsimp only;unfold layMembers;refine wpAny_bind (wpAny_load hX ?_);dsimp only;refine wpAny_update (s:=⟨h2,g,d,t+2,os⟩) hX ?_;unfold raiseNew;refine wpAny_bind (wpAny_handled ?_);rw[hh]
 first
  | refine wpAny_throw ?_
  | refine wpAny_bind (wpAny_pure (wpAny_throw ?_))
 refine q _ _ e (fun b u eb=>?_) ⟨_,Heap.get?_update_self _ hX (Obj.isFreed_of_fields (Obj.data_mapFields rfl _)),rfl⟩;have nb:b≠e:=fun z=>by
  rw[z,hne]at eb;cases eb
 exact (ybp _ _ (Ne.symm nb)).trans (hk b u eb)
theorem zmH {tk:Tok}{R:Result→Shared→Prop}(hh:A.handled=none)(hx:h.get? a=some { cls:=.type "list",dict:=none,data:=.seq xs n,slots:=sl })
  (q:∀ h' t' e,(∀ b u,h.get? b=some u→h'.get? b=some u)→(⟨h',g,d,t',os⟩:Shared).TypeIs (.ref e) "AttributeError"→R (.error (.ref e)) ⟨h',g,d,t',os⟩) :
  codeAny (model prog w) A (.call (.builtin "list.__getattribute__") ⟨[.ref a,.str "keys" tk],[]⟩) R ⟨h,g,d,t,os⟩:=
 codeAny_call_builtin F.slot_list_getattribute.plain F.entry_list_ga (F.slot_list_getattribute.check _ _ _ _ _ _ _ _ (show (⟨h,g,d,t,os⟩:Shared).TypeIs (.ref a) "list" from ⟨_,hx,rfl⟩) (F.args_list_getattribute_2 _ _) (zk4 (A:=A.in1) hh hx q))
theorem zmF {Q:Option Value→Shared→Prop}(hh:A.handled=none)(hx:h.get? a=some { cls:=.type "list",dict:=none,data:=.seq xs n,slots:=sl })
  (q:∀ h' t',(∀ b u,h.get? b=some u→h'.get? b=some u)→Q none ⟨h',g,d,t',os⟩):wpAny (model prog w) A (getAttr? (.ref a) "keys") Q E ⟨h,g,d,t,os⟩:=by
 have hT:(⟨h,g,d,t,os⟩:Shared).TypeIs (.ref a) "list":=⟨_,hx,rfl⟩;have f2:=F.slot_list_getattribute.lookup;have f3:=F.slot_list_getattribute.bind (.ref a);have f5:typeLookup (.type "list") "__getattr__" = pure none:=by rw[typeLookup_type,builtinLookup_eq_fast];kernel_rfl
 unfold getAttr? getAttrBy?
 repeat (any_goals (first | assumption | wp_step))
 refine zmH hh hx fun h' t' e k ty=>?_;have su:isSubtype (.type "AttributeError") (.type "AttributeError")=pure true:=by rw[isSubtype_type];kernel_rfl
 show wpAny (model prog w) A (getattributeRaised (.ref a) (.str "keys" t) (.type "list") (.ref e) none false false) _ _ _;unfold getattributeRaised;refine wpAny_bind (wpAny_isInstance ty su ?_);rw[if_pos rfl];refine wpAny_bind (?_:wpAny _ _ (typeLookup (.type "list") "__getattr__") _ _ _);rw[f5];refine wpAny_pure ?_;show wpAny _ _ (throw (Value.ref e)) _ _ _;refine wpAny_throw ?_;show wpAny _ _ (do let b ← isInstance (.ref e) (.type "AttributeError");if b=true then pure none else throw (Value.ref e)) _ _ _
 refine wpAny_bind (wpAny_isInstance ty su ?_);exact wpAny_pure (q h' t' k)
end
end DictP
namespace DictP
open PySem PySem.Spec PyProof.Rows L2
set_option autoImplicit false
set_option maxRecDepth 100000
theorem zir:entryFor table "dict.update.loop" = some Builtin.«dict.update.loop»:=entryFor_of_tree (by kernel_rfl)
theorem zeI:plainId "dict.update.loop" = true:=by decide +kernel
theorem zkJ {K:Type}[DecidableEq K]{kvs:List (K×Value)}{k:K}{v:Value}(h:k∉kvs.map (·.1)):stored kvs k v=kvs++[(k,v)]:=by
 unfold stored;rw[if_neg fun z=>?_];obtain ⟨kv,h1,h2⟩:=List.any_eq_true.mp z;exact h (yaA.mpr ⟨kv,h1,yaD h2⟩)
section
variable {prog:Program}{w:World}{A:Around}{R:Result→Shared→Prop}{I:Addr}{fp wr:List Addr}{G:Array GenState→Array GenState→Prop}{n:Nat}{P:Nat→Value→Prop}{St:Nat→Shared→Prop}
theorem zkN {h0:Heap}(W:WalksS prog w A.in1 I fp wr G n P St)(d:Addr)(hdf:d∉fp)(res:Value)(kvs:List (Key×Value))(hn:n=kvs.length)(hnd:(kvs.map (·.1)).Nodup)
  (hP:∀ i v,P i v→∃ tp key k val,v=.ref tp∧tp≠d∧tp∉wr∧h0.IsTuple tp #[key,val]∧(zaG prog w).is k key=true∧kvs[i]?=some (k,val)) (hz:kvs.length≤sizeLine) :
  ∀(j i:Nat) (s:Shared) (tk:Tok),n - i=j→i≤n→St i s→(∀ b o,b≠d→b∉wr→h0.get? b=some o→s.heap.get? b=some o)→s.heap.DictOf (zaG prog w) d (kvs.take i)→
   (∀ s',Moved (d::wr) G s s'→s'.heap.DictOf (zaG prog w) d kvs→R (.ok (.ret res)) s')→codeAny (model prog w) A (.builtin "dict.update.loop" ⟨[.ref d,.ref I,.int i tk,res],[]⟩) R s:=by
 have hdw:d∉wr:=fun h=>hdf (W.sub _ h);have up:∀ b∈wr,b∈d::wr:=fun b hb=>yas _ hb;intro j
 induction j with
 | zero=>
  intro i s tk hj hi st hk hd q;have e:i=n:=by omega
  subst e;refine codeAny_builtin zir ?_;rw[Around.under_plainId zeI _];show wpAny _ A.in1 (pyNext (.ref I) >>= _) _ _ s;refine wpAny_bind (W.done s _ _ st fun s' hm=>?_);refine wpAny_bind (?_:wpAny _ A.in1 (Builtin.Dict.addKeywords d []) _ _ s');refine wpAny_pure (wpAny_pure (q s' (hm.mono up) ?_));obtain ⟨o,es,ep,ho,r⟩:=hd;rw[hn,List.take_length]at r;exact ⟨o,es,ep,hm.heap d o hdw ho,r⟩
 | succ j ih=>
  intro i s tk hj hi st hk hd q;have hlt:i < n:=by omega
  refine codeAny_builtin zir ?_;rw[Around.under_plainId zeI _];show wpAny _ A.in1 (pyNext (.ref I) >>= _) _ _ s;refine wpAny_bind (W.item i s _ _ hlt st fun v s' hPi st' hm=>?_);obtain ⟨tp,key,k,val,rfl,ntd,ntw,ht,hkey,hkv⟩:=hP i v hPi;obtain ⟨ot,o1,o2,nt,o3⟩:=ht;have g1:=hm.heap tp ot ntw (hk tp ot ntd ntw o1);have hd':s'.heap.DictOf (zaG prog w) d (kvs.take i):=by
   obtain ⟨o,es,ep,ho,r⟩:=hd;exact ⟨o,es,ep,hm.heap d o hdw ho,r⟩
  obtain ⟨hik,hek⟩:=yao.mp hkv;have hnew:k∉(kvs.take i).map (·.1):=fun z=>by
   rw[ycn]at z;obtain ⟨m,hm1,hm2⟩:=ycz.mp z;have h2:m < (kvs.map (·.1)).length:=by omega
   have h3:i < (kvs.map (·.1)).length:=by rw[yab];exact hik
   have:=yba.mp hnd m i h2 h3 (by omega);apply this;rw[hm2,List.getElem_map,hek]
  refine wpAny_bind (wpAny_holding (wpAny_bind (wpAny_tryCatch ?_)));unfold Builtin.Dict.pairItems;refine wpAny_bind (wpAny_typeOf (T := "tuple") ⟨_,g1,o2⟩ ?_);rw[if_pos (by decide)];unfold seqItems?;refine wpAny_bind (wpAny_bind (wpAny_load g1 ?_));rw[o3];refine wpAny_pure (wpAny_pure ?_);show wpAny _ A.in1 (holding [key,val] (dictSet d key val)) _ _ s';refine wpAny_holding (wpAny_dictSet_pairs hkey hd' (fun h' hd2 sb=>?_) (by rw[yar];omega));rw[zkJ hnew]at hd2;have tk1:kvs.take (i+1)=kvs.take i++[(k,val)]:=by
   rw[yaH hik,hek]
  rw[← tk1]at hd2;refine wpAny_pure ⟨plainId_quiet zeI _,ih (i+1) _ 0 (by omega) hlt (W.frame _ s' _ _ st' (ybv _) fun b hb o e=>?_) (fun b o n1 n2 e=>?_) hd2 fun s'' hm'' x3=>?_⟩
  ·rw[sb.2 b (fun h:b=d=>hdf (by rw[← h];exact hb))];exact e
  ·rw[sb.2 b n1];exact hm.heap b o n2 (hk b o n1 n2 e)
  ·refine q s'' (Moved.trans W.gtrans ((hm.mono up).then_heap (ybv _) fun b o hb e=>?_) hm'') x3;rw[sb.2 b (fun h:b=d=>hb (by rw[h];exact yak))];exact e
end
end DictP
namespace DictP
open PySem PySem.Spec PyProof.Rows L2
set_option autoImplicit false
set_option maxRecDepth 100000
section
variable {prog:Program}{w:World}{A:Around}{E:Value→Shared→Prop}{s:Shared}
theorem of_pairs {l:Addr}{items:Array Value}{nl:Nat}{sl:Array (Option Value)}{kvs:List (Key×Value)}{Q:Value→Shared→Prop}(hh:A.handled=none)(hl:s.heap.get? l=some { cls:=.type "list",dict:=none,data:=.seq items nl,slots:=sl })
  (hnd:(kvs.map (·.1)).Nodup) (hlen:items.size=kvs.length) (hz:kvs.length≤sizeLine)
  (hit:∀(i:Nat) v,items[i]?=some v→∃ tp key k val,v=.ref tp∧s.heap.IsTuple tp #[key,val]∧(zaG prog w).is k key=true∧kvs[i]?=some (k,val))
  (q:∀ h' tk,h'.DictOf (zaG prog w) s.heap.objs.size kvs→(∀ b o,s.heap.get? b=some o→h'.get? b=some o)→Q (.ref s.heap.objs.size) { s with heap:=h',toks:=tk }) :
  wpAny (model prog w) A (call (.type "dict") [.ref l]) Q E s:=by
 refine callType_codes (Q₁:=fun obj s₁=>obj=.ref s.heap.objs.size∧s₁={ s with heap:=s.heap.push { cls:=.type "dict",data:=.dict #[] } }) F.kt_called_dict (F.kt_typeCall_dict_1 _) F.entry_dict_init (kt_code_dict_new _ ⟨rfl,rfl⟩) ?_;rintro obj s₁ ⟨rfl,rfl⟩;have hnew:(s.heap.push { cls:=.type "dict",data:=.dict #[] }).DictOf (zaG prog w) s.heap.objs.size []:=Heap.DictOf.new s.heap;have hl1:=yap { cls:=.type "dict",data:=.dict #[] } hl;have hkp:∀ b o,s.heap.get? b=some o→(s.heap.push { cls:=.type "dict",data:=.dict #[] }).get? b=some o:=fun b o e=>yap _ e;have hds:s.heap.objs.size < (s.heap.push { cls:=.type "dict",data:=.dict #[] }).objs.size:=by
  rw[Heap.size_push];exact Nat.lt_succ_self _
 have hlS:l < s.heap.objs.size:=yae hl;refine ⟨hnew.typeIs,F.args_dict_init_2 _ _,?_⟩;generalize s.heap.push { cls:=.type "dict",data:=.dict #[] }=h1 at hnew hl1 hkp hds ⊢;unfold Builtin.«dict.__init__»;refine wpAny_bind ?_;unfold Builtin.Dict.selfAndRest;refine wpAny_bind (wpAny_notOrdered_dict hnew.typeIs ?_);show wpAny _ _ (pure (s.heap.objs.size,[Value.ref l])) _ _ _;refine wpAny_pure ?_;show wpAny _ _ (Builtin.Dict.updateFrom "dict.__init__" s.heap.objs.size (.ref l) [] .none) _ _ _;unfold Builtin.Dict.updateFrom;refine wpAny_bind (wpAny_typeOf (T := "list") ⟨_,hl1,rfl⟩ ?_);rw[if_pos (by decide)];refine wpAny_bind (zmF (A:=_) hh hl1 fun h2 t2 k2=>?_);rw[if_pos (show (none:Option Value).isNone=true from rfl)];refine wpAny_bind (wpAny_rule (wpAny_bind ?_));have hl2:=k2 _ _ hl1;have hL2:h2.IsList l items:=⟨_,hl2,rfl,nl,rfl⟩;refine wpAny_pyIter_list (s:=⟨h2,s.gens,s.drawn,t2,s.os⟩) hL2 ?_;refine wpAny_pure ⟨plainId_quiet zeI _,?_⟩;have hd2:h2.DictOf (zaG prog w) s.heap.objs.size []:=by
  obtain ⟨o,es,ep,ho,r⟩:=hnew;exact ⟨o,es,ep,k2 _ _ ho,r⟩
 have hdlt:s.heap.objs.size < h2.objs.size:=by
  obtain ⟨o,es,ep,ho,r⟩:=hd2;exact yae ho
 have hne:l≠h2.objs.size:=yau (Nat.lt_trans hlS hdlt);have h3:A.in1.in1.handled=none:=by simp[hh]
 refine zkN (h0:=s.heap) ((Walks.list h3 _ l hne items).toS) s.heap.objs.size (fun z=>?_) .none kvs hlen hnd (fun i v hv=>?_) hz items.size 0 _ 0 (by omega) (yaE _) ⟨⟨_,yaO _ rfl,rfl,rfl⟩,hL2.push _⟩ (fun b o n1 n2 e=>yap _ (k2 _ _ (hkp _ _ e))) ?_ fun s' hm hd'=>?_
 ·simp only[yal,yaF,or_false]at z;rcases z with z | z
  ·exact absurd hdlt (by rw[← z];exact yaV _)
  ·exact absurd hlS (by rw[← z];exact yaV _)
 ·obtain ⟨tp,key,k,val,e1,e2,e3,e4⟩:=hit i v hv;have htp:tp < s.heap.objs.size:=by
   obtain ⟨ot,o1,_⟩:=e2;exact yae o1
  refine ⟨tp,key,k,val,e1,yau htp,fun z=>?_,e2,e3,e4⟩;rw[yah.mp z]at htp;exact absurd (Nat.lt_trans htp hdlt) (yaV _)
 ·rw[ybK];exact hd2.push _
 ·refine ⟨rfl,?_⟩;rw[Moved.eq_with hm];refine q s'.heap s'.toks hd' fun b o e=>hm.heap b o (fun z=>?_) (yap _ (k2 _ _ (hkp _ _ e)));have hb:=yae e;simp only[yal,yaF,or_false]at z;rcases z with z | z
  ·rw[z]at hb;exact absurd hb (yaV _)
  ·rw[z]at hb;exact absurd (Nat.lt_trans hb hdlt) (yaV _)
end
end DictP
namespace L2
open PySem PySem.Spec PyProof.Rows
def zqR (K:Frag):List V→Hp→VK→Prop:=fun xs H Q=>∃(p:Addr) (zs:List V) (kvs:List (Key×V)),xs=[.ref p]∧SqL K H p zs∧Paired (fun (z:V) (kv:Key×V)=>∃ b,z=.ref b∧H b=some (.tup [kV kv.1,kv.2])) zs kvs∧(kvs.map (·.1)).Nodup∧
 ∀ d,H d=none→Q (.ref d) (upd H d (.dK kvs))
section
variable {X:Cx}
theorem zj2 {pins:List (Addr×Obj)}{σ:St}{H:Hp}{s:Shared}(I:Inv X pins σ H s):∀{zs:List V} {kvs:List (Key×V)} {us:List Value},Paired (fun (z:V) (kv:Key×V)=>∃ b,z=.ref b∧H b=some (.tup [kV kv.1,kv.2])) zs kvs→Vals zs us→
  ∃ ks:List (Key×Value),KV kvs ks∧∀(i:Nat) v,us[i]?=some v→∃ tp key k val,v=.ref tp∧s.heap.IsTuple tp #[key,val]∧(zaG X.prog X.w).is k key=true∧ks[i]?=some (k,val)
 | _,_,_,.nil,.nil=>⟨[],.nil,fun i v h=>by simp at h⟩
 | _::_,kv::_,_::_,.cons ⟨b,e1,e2⟩ t,.cons r q=>by
  subst e1;obtain ⟨ks,h1,h2⟩:=zj2 I t q;cases r
  obtain ⟨its,rv,p,_⟩:=I.tuple (SqT.of e2);cases rv with
  | cons r1 rv=>
   cases rv with
   | cons r2 rv=>
    cases rv
    refine ⟨(kv.1,_)::ks,.cons ⟨rfl,r2⟩ h1,fun i v hv=>?_⟩;cases i with
    | zero=>
     simp only[List.getElem?_cons_zero,Option.some.injEq]at hv;subst hv;exact ⟨b,_,kv.1,_,rfl,p,zk5 r1,rfl⟩
    | succ i=>
     rw[yci]at hv ⊢;exact h2 i v hv
theorem zmC:∀{kvs:List (Key×V)} {ks:List (Key×Value)},KV kvs ks→ks.map (·.1)=kvs.map (·.1)
 | _,_,.nil=>rfl
 | _,_,.cons r t=>by
  rw[yaw,yaw,zmC t,r.1]
theorem zlj (hc:X.calm=true):zce X (.type "dict") (zqR X.K):=by
 intro pins s σ H xs us Q I r h;obtain ⟨p,zs,kvs,rfl,hq,hp,hn,q⟩:=h;obtain ⟨u,rfl,rx⟩:=zeY r;cases rx
 obtain ⟨its,rv,pl,hz⟩:=I.list hq;obtain ⟨ks,hk,hit⟩:=zj2 I hp rv;have l1:=Paired.length hp;have l2:=rv.length;have l3:=Paired.length hk;obtain ⟨⟨oc,od,oda,osl⟩,n,e,e1,e2,e3⟩:=pl;simp only at e1 e2 e3;subst e1 e2 e3;refine DictP.of_pairs (kvs:=ks) (I.ok.hd hc) e (by rw[zmC hk];exact hn) (by rw[yay];omega) (by omega) (fun i v hv=>hit i v (by simpa using hv)) fun h' tk hd k=>?_;exact ⟨.ref s.heap.objs.size,_,I.laid (a:=s.heap.objs.size) (o:=.dK kvs) (t':=tk) k (yaa _) ⟨by omega,beq_eq_false_iff_ne.mpr (Ne.symm (yau I.big)),ks,hk,hd⟩,rfl,q _ (I.hok.fresh (yaa _))⟩
end
end L2
namespace L2
open PySem PySem.Spec PyProof.Rows
theorem za7.there {P:Program}{w:World}{H:Hp}{h:Heap}{a:Addr}{o:HO}(x:za7 P w H h a o):∃ ob,h.get? a=some ob:=by
 cases o with
 | lst xs=>obtain ⟨_,_,_,_,e⟩:=x;exact ⟨_,e⟩
 | tup xs=>obtain ⟨_,_,_,o,e,_⟩:=x;exact ⟨_,e⟩
 | dK kvs=>obtain ⟨_,_,_,_,o,_,_,e,_⟩:=x;exact ⟨_,e⟩
 | dT kvs=>obtain ⟨_,_,_,_,o,_,_,e,_⟩:=x;exact ⟨_,e⟩
 | set S n=>obtain ⟨o,_,_,_,e,_⟩:=x;exact ⟨_,e⟩
 | ins C dx fs=>obtain ⟨_,_,_,e,_⟩:=x;exact ⟨_,e⟩
 | own y=>obtain ⟨o,e⟩:=x;exact ⟨o,e⟩
 | xd fs=>obtain ⟨_,⟨o,_,_,e,_⟩,_⟩:=x;exact ⟨_,e⟩
 | rng lo hi=>obtain ⟨_,_,_,e⟩:=x;exact ⟨_,e⟩
 | frz ob u=>obtain ⟨e,_⟩:=x;exact ⟨_,e⟩
 | tbl ps=>exact ⟨_,(show h.get? a=some _ from x)⟩
 | met f y=>exact ⟨_,(show h.get? a=some _ from x)⟩
 | ext φ=>obtain ⟨_,⟨o,e⟩,_⟩:=x;exact ⟨o,e⟩
structure Air (P:Program)(w:World)(l:List Env)(H:Hp)(old:Heap)(a:Addr)(cls fl:Value)(H':Hp)(h:Heap):Prop where
 un:Un (frs l) [] H H' old h
 hok:HOk P w H' h
 ua:H' a=none
 na:old.get? a=none
 uf:∀ b∈frs l,H' b=none
 nf:∀ b∈frs l,∃ o,h.get? b=some o∧∀ vs,o.data≠.fields vs
 tr:∃(a0:Value) (oe:Obj) (vs:Array Value) (T:Addr) (oT:Obj) (ts:Array Value),(h.get? a=some oe∧(oe.cls=cls∧vs[0]?=some a0)∧oe.data=.fields vs∧vs[1]?=some (.ref T)∧T≠a∧h.get? T=some oT∧oT.data=.fields ts∧ts[3]?=some fl)∧H' T=none∧old.get? T=none
section
variable {P:Program}{w:World}{l:List Env}{H H':Hp}{old h h':Heap}{a:Addr}{cls fl fl':Value}
theorem Air.step (x:Air P w l H old a cls fl H' h)(hl:∀ B:Heap,(∀ b,b∈frs l→B.get? b=none)→∀ h:Heap,(∀ b∈frs l,∃ o,h.get? b=some o∧∀ vs,o.data≠.fields vs)→h.FunFrames B l) :
  ∃(B:Heap) (a0:Value),B.StaysIn h∧B.get? a=none∧h.FunFrames B l∧h.TracedAtW B a cls a0 fl∧
   ∀(h':Heap) (fl':Value),B.StaysIn h'→h.UpToSlots h'→h'.TracedAtW B a cls a0 fl'→Air P w l H old a cls fl' H' h':=by
 obtain ⟨a0,oe,vs,T,oT,ts,⟨e1,e2,e3,e4,e5,e6,e7,e8⟩,u1,u2⟩:=x.tr;have hB:∀ b o,h.get? b=some o→b≠a→b≠T→b∉frs l→(PySem.W.hideAll h (a::T::frs l)).get? b=some o:=fun b o e n1 n2 n3=>PySem.W.hideAll_get _ e fun hm=>by
  rcases yal.mp hm with z | hm
  ·exact n1 z
  rcases yal.mp hm with z | hm
  ·exact n2 z
  ·exact n3 hm
 refine ⟨PySem.W.hideAll h (a::T::frs l),a0,fun b o q=>PySem.W.of_hideAll _ q,PySem.W.hideAll_none _ yak,hl _ (fun b hb=>PySem.W.hideAll_none _ (yas _ (yas _ hb))) h x.nf,?_,?_⟩
 ·exact ⟨oe,vs,T,oT,ts,e1,e2,e3,e4,PySem.W.hideAll_none _ (yas _ yak),e5,e6,e7,e8⟩
 intro h' fl' k1 k2 k3;have kT:∀ b o,h.get? b=some o→b≠a→b≠T→∃ sl,h'.get? b=some { o with slots:=sl }:=fun b o e n1 n2=>by
  by_cases hb:b∈frs l
  ·obtain ⟨o',q,nf⟩:=x.nf b hb;rw[e]at q;cases q
   exact k2 b o e nf
  ·exact ⟨o.slots,k1 b o (hB b o e n1 n2 hb)⟩
 have ne:∀ b u,H' b=some u→b≠a∧b≠T∧b∉frs l:=fun b u e=>⟨zab e x.ua,zab e u1,fun hb=>(by rw[x.uf b hb]at e;cases e)⟩
 have ne2:∀ b o,old.get? b=some o→b≠a∧b≠T:=fun b o e=>⟨fun z=>(by rw[z,x.na]at e;cases e),fun z=>(by rw[z,u2]at e;cases e)⟩
 refine ⟨⟨fun b o e n hb hx=>?_,fun b o e n hb hx=>?_,x.un.free,fun b o e hx=>?_,x.un.tups,x.un.frzs,x.un.tbls⟩,fun b u e=>?_,x.ua,x.na,x.uf,fun b hb=>?_,?_⟩
 ·exact k1 b o (hB b o (x.un.keep b o e n hb hx) (ne2 b o e).1 (ne2 b o e).2 hb)
 ·obtain ⟨sl,q⟩:=x.un.slot b o e n hb hx;obtain ⟨sl',q'⟩:=kT b _ q (ne2 b o e).1 (ne2 b o e).2;exact ⟨sl',q'⟩
 ·obtain ⟨o',q⟩:=x.un.there b o e hx;obtain ⟨sl',q'⟩:=kT b _ q (ne2 b o e).1 (ne2 b o e).2;exact ⟨_,q'⟩
 ·refine (x.hok b u e).stay (fun c v hc q=>?_) (fun _ q=>q) fun _ _ q=>q;have hc':∃ z,H' c=some z:=by
   rcases hc with rfl | z
   ·exact ⟨_,e⟩
   ·exact ⟨_,z⟩
  obtain ⟨z,ez⟩:=hc';exact k1 c v (hB c v q (ne c z ez).1 (ne c z ez).2.1 (ne c z ez).2.2)
 ·obtain ⟨o,q,nf⟩:=x.nf b hb;obtain ⟨sl,q'⟩:=k2 b o q nf;exact ⟨_,q',nf⟩
 ·obtain ⟨oe',vs',T',oT',ts',f1,f2,f3,f4,f5,f6,f7,f8,f9⟩:=k3;have hnT:T'∉frs l:=fun hb=>by
   obtain ⟨o,q,nf⟩:=x.nf T' hb;obtain ⟨sl,q'⟩:=k2 T' o q nf;rw[f7]at q';cases q'
   exact nf _ f8
  have hno:∀ o,h.get? T'=some o→T'=T:=fun o e=>Decidable.byContradiction fun z=>by
   rw[hB T' o e f6 z hnT]at f5;cases f5
  refine ⟨a0,oe',vs',T',oT',ts',⟨f1,f2,f3,f4,f6,f7,f8,f9⟩,?_,?_⟩
  ·cases e:H' T' with
   | none=>rfl
   | some u=>
    obtain ⟨o,q⟩:=(x.hok T' u e).there;rw[hno o q,u1]at e;cases e
  ·cases e:old.get? T' with
   | none=>rfl
   | some o=>
    obtain ⟨o',q⟩:=x.un.there T' o e (by simp);rw[hno o' q,u2]at e;cases e
end
theorem zeU {base h0:Heap}:∀{l:List Env},h0.FunFrames base l→∀ B h:Heap,(∀ b,b∈frs l→B.get? b=none)→(∀ b∈frs l,∃ o,h.get? b=some o∧∀ vs,o.data≠.fields vs)→h.FunFrames B l
 | [],_,_,_,_,_=>trivial
 | env::r,⟨hk,⟨L,o,hf,_,_,_⟩,hr⟩,B,h,hB,hh=>by
  have e:frs (env::r)=L::frs r:=by unfold frs;rw[ybA,hf]
  rw[e]at hB hh;obtain ⟨o',q,nf⟩:=hh L yak;exact ⟨hk,⟨L,o',hf,hB L yak,q,nf⟩,zeU hr B h (fun b hb=>hB b (yas _ hb)) fun b hb=>hh b (yas _ hb)⟩
def CXE (P:Program)(w:World):CXT:=fun outer H s E e s'=>∃(a:Addr) (cls:Value) (H':Hp),e=.ref a∧s'.os=s.os∧AllBare s'.gens∧Air P w outer H s.heap a cls .none H' s'.heap∧E cls none H'
section
variable {P:Program}{w:World}{K:Frag}{mg:Str→Option Value}{base:Heap}{N:List Str}{q:Str}{sc:Scope}{f:Addr}{cd:Value}{A:Around}{outer:List Env}{s0:Shared}{H0:Hp}{E:XK}
abbrev cxE (P:Program)(w:World)(K:Frag)(mg:Str→Option Value)(base:Heap)(N:List Str)(q:Str)(sc:Scope)(f:Addr)(cd:Value)(A:Around)(outer:List Env)(s0:Shared)(H0:Hp)(E:XK):Cx:=cxOf (CXE P w) P w K mg base N q sc f cd A outer s0 H0 E
theorem zrw {X:Cx}{pins:List (Addr×Obj)}{σ:St}{H:Hp}{s:Shared}(I:Inv X pins σ H s):∀ b∈frs X.stack,∃ o,s.heap.get? b=some o∧∀ vs,o.data≠.fields vs:=fun b hb=>(I.stack.mem hb).2
theorem Air.out {pins:List (Addr×Obj)}{σ:St}{H H':Hp}{s:Shared}{h:Heap}{a:Addr}{cls fl:Value}(I:Inv (cxE P w K mg base N q sc f cd A outer s0 H0 E) pins σ H s)(x:Air P w (envOfC q sc s0.heap.objs.size f cd::outer) H s.heap a cls fl H' h):Air P w outer H0 s0.heap a cls fl H' h:=by
 have ef:frs (envOfC q sc s0.heap.objs.size f cd::outer)=s0.heap.objs.size::frs outer:=rfl;have nl:∀ b o,s0.heap.get? b=some o→b≠s0.heap.objs.size:=fun b o e=>yau (yae e);have nx:∀ b:Addr,b∉(cxE P w K mg base N q sc f cd A outer s0 H0 E).ex:=fun b z=>absurd (show b∈([]:List Addr) from z) (by simp);obtain ⟨a0,oe,vs,T,oT,ts,tr,u1,u2⟩:=x.tr;have old:∀ b,s.heap.get? b=none→s0.heap.get? b=none:=fun b e=>by
  cases z:s0.heap.get? b with
  | none=>rfl
  | some o=>
   obtain ⟨o',e'⟩:=I.base.there b o z (nx b);rw[e]at e';cases e'
 refine ⟨⟨fun b o e n hb hx=>?_,fun b o e n hb hx=>?_,fun b o e n hx=>?_,fun b o e hx=>?_,fun b xs e=>x.un.tups b xs (I.base.tups b xs e),fun b o u e=>x.un.frzs b o u (I.base.frzs b o u e),fun b ps e=>?_⟩,x.hok,x.ua,old a x.na,fun b hb=>x.uf b (by rw[ef];exact yas _ hb),fun b hb=>x.nf b (by rw[ef];exact yas _ hb),a0,oe,vs,T,oT,ts,tr,u1,old T u2⟩
 ·exact x.un.keep b o (I.base.keep b o e n hb (nx b)) (I.base.free b o e n (nx b)) (by rw[ef];exact fun z=>(yal.mp z).elim (nl b o e) hb) hx
 ·obtain ⟨sl,e1⟩:=I.base.slot b o e n hb (nx b);obtain ⟨sl',e2⟩:=x.un.slot b _ e1 (I.base.free b o e n (nx b)) (by rw[ef];exact yas _ hb) hx;exact ⟨sl',e2⟩
 ·obtain ⟨o',e'⟩:=I.base.there b o e (nx b);exact x.un.free b o' e' (I.base.free b o e n (nx b)) hx
 ·obtain ⟨o',e'⟩:=I.base.there b o e (nx b);exact x.un.there b o' e' hx
 ·obtain ⟨m1,e1⟩:=I.base.tbls b ps e;obtain ⟨m2,e2⟩:=x.un.tbls b _ e1;exact ⟨m1++m2,by rw[e2,Array.append_assoc]⟩
theorem zqX:ziE (CXE P w) (cxE P w K mg base N q sc f cd A outer s0 H0 E) E:=by
 intro pins σ H s e s' I h;obtain ⟨a,cls,H',rfl,ho,hb,x,hE⟩:=h;obtain ⟨B,a0,b1,b2,b3,b4,next⟩:=x.step fun B hB h hh=>zeU I.stack B h hB hh
 show wpAny _ _ (leaving _ _) _ _ _;refine wpAny_leaves_onW (base:=B) (cls:=cls) (a0:=a0) I.ok.frames rfl ⟨b1,b2,b3,b4⟩ fun h' k1 k2=>?_;exact ⟨a,cls,H',rfl,ho.trans I.os,hb,(next h' .none k1.1 k2 k1.2.2.2).out I,hE⟩
theorem zqu {pins:List (Addr×Obj)}{σ:St}{H:Hp}{s:Shared}{h':Heap}{a:Addr}{cls:Value}{vs:List Value}(I:Inv (cxE P w K mg base N q sc f cd A outer s0 H0 E) pins σ H s)(m:Heap.MadeExcOf s.heap h' a cls vs)(hE:E cls none H) :
  (cxE P w K mg base N q sc f cd A outer s0 H0 E).xe (.ref a) { s with heap:=h' }:=by
 have hin:=zrw I;have hB:∀ b o,s.heap.get? b=some o→b∉frs (envOfC q sc s0.heap.objs.size f cd::outer)→(PySem.W.hideAll s.heap (frs (envOfC q sc s0.heap.objs.size f cd::outer))).get? b=some o:=fun b o e n=>PySem.W.hideAll_get _ e n;show wpAny _ _ (leaving _ _) _ _ _;refine wpAny_leaves_madeW (base:=PySem.W.hideAll s.heap (frs (envOfC q sc s0.heap.objs.size f cd::outer))) I.ok.frames rfl (fun b o q=>PySem.W.of_hideAll _ q) (zeU I.stack _ _ (fun b hb=>PySem.W.hideAll_none _ hb) hin) m fun h2 t k1 k2 k3 k4=>?_;obtain ⟨k11,k12,k13,oe,ws,T,oT,ts,f1,f2,f3,f4,f5,f6,f7,f8,f9⟩:=k1;have kT:∀ b o,s.heap.get? b=some o→∃ sl,h2.get? b=some { o with slots:=sl }:=fun b o e=>by
  by_cases hb:b∈frs (envOfC q sc s0.heap.objs.size f cd::outer)
  ·obtain ⟨o',z,nf⟩:=hin b hb;rw[e]at z;cases z
   exact k4 b o (m.keeps b o e) nf
  ·exact ⟨o.slots,k11 b o (hB b o e hb)⟩
 have trk:∀ b u,H b=some u→∃ o,s.heap.get? b=some o∧b∉frs (envOfC q sc s0.heap.objs.size f cd::outer):=fun b u e=>by
  obtain ⟨o,z⟩:=(I.hok b u e).there;exact ⟨o,z,fun hb=>(by rw[I.stkFree b hb]at e;cases e)⟩
 have hnT:T∉frs (envOfC q sc s0.heap.objs.size f cd::outer):=fun hb=>by
  obtain ⟨o,z,nf⟩:=hin T hb;obtain ⟨sl,z'⟩:=kT T o z;rw[f7]at z';cases z'
  exact nf _ f8
 have x:Air P w (envOfC q sc s0.heap.objs.size f cd::outer) H s.heap a cls .none H h2:=by
  refine ⟨⟨fun b o e n hb hx=>k11 b o (hB b o e hb),fun b o e n hb hx=>kT b o e,fun b o e n hx=>n,fun b o e hx=>?_,fun b xs e=>e,fun b o u e=>e,fun b ps e=>⟨#[],by rw[e];simp⟩⟩,fun b u e=>?_,?_,m.new,I.stkFree,fun b hb=>?_,.ref t,oe,ws,T,oT,ts,⟨f1,f2,f3,f4,f6,f7,f8,f9⟩,?_,?_⟩
  ·obtain ⟨sl,z⟩:=kT b o e;exact ⟨_,z⟩
  ·refine (I.hok b u e).stay (fun c v hc z=>?_) (fun _ q=>q) fun _ _ q=>q;have hc':∃ y,H c=some y:=by
    rcases hc with rfl | y
    ·exact ⟨_,e⟩
    ·exact ⟨_,y⟩
   obtain ⟨y,ey⟩:=hc';obtain ⟨o,_,n⟩:=trk c y ey;exact k11 c v (hB c v z n)
  ·cases e:H a with
   | none=>rfl
   | some u=>
    obtain ⟨o,z,_⟩:=trk a u e;rw[m.new]at z;cases z
  ·obtain ⟨o,z,nf⟩:=hin b hb;obtain ⟨sl,z'⟩:=kT b o z;exact ⟨_,z',nf⟩
  ·cases e:H T with
   | none=>rfl
   | some u=>
    obtain ⟨o,z,n⟩:=trk T u e;rw[hB T o z n]at f5;cases f5
  ·cases e:s.heap.get? T with
   | none=>rfl
   | some o=>
    rw[hB T o e hnT]at f5;cases f5
 exact ⟨a,cls,H,rfl,I.os,I.bare,x.out I,hE⟩
end
end L2
namespace L2
open PySem PySem.Spec PyProof.Rows
abbrev zqs:List Value:=[.type "ValueError",.type "Exception",.type "BaseException",.type "object"]
theorem zqb {K:Frag}{h:Heap}{C:Addr}{bmB:List Value}{newId:String}(X:K.In h)(q:PySem.W.excIn K C bmB newId=true) :
  ∃ bm N nm qn bs hdct sn sub ab col dd k0 k1 k2 k3 k5,∃ mN:Str→Option Value,h.get? C=some (excClassObj nm qn C N bs bm hdct sn sub ab col dd k0 k1 k2 k3 k5 newId)∧h.Ns N mN∧mN "__init__" = none∧OwnTail h bmB bm:=by
 unfold PySem.W.excIn at q;split at q
 rotate_left
 ·exact absurd q (by decide)
 rename_i dct cdt slots hlook;split at q
 rotate_left
 ·exact absurd q (by decide)
 rename_i C2 tail s0 s1 s2 s3 nid s5 hmro hslots;simp only[ybh,beq_iff_eq,ybj]at q;obtain ⟨⟨⟨⟨⟨z1,z2⟩,z3⟩,z4⟩,z5⟩,z6⟩:=q;subst z1 z2;obtain ⟨cnm,cbs,cmro,cns,cqn,chd,csn,csub,cab,ccol,cdel⟩:=cdt;dsimp only at hmro z3 z5 z6;subst hmro z3;obtain ⟨ls⟩:=slots;dsimp only at hslots;subst hslots;exact ⟨tail,cns,cnm,cqn,cbs,chd,csn,csub,cab,ccol,dct,s0,s1,s2,s3,s5,_,X _ _ hlook,.of_isNs (PySem.W.isNs_of_in X z5),PySem.W.nsMap_none_of_in X z5 z6,PySem.W.tail_of_in X z4⟩
structure Exc (K:Frag)(mg:Str→Option Value)(x:Str)(C:Addr):Prop where
 nm:mg x=some (.ref C)
 ex:PySem.W.excIn K C zqs "ValueError.__new__" = true
def Thr (X:Cx)(E:XK):Prop:=∀(pins:List (Addr×Obj)) (σ:St) (H:Hp) (s:Shared) (h':Heap) (a:Addr) (cls:Value) (vs:List Value),Inv X pins σ H s→Heap.MadeExcOf s.heap h' a cls vs→E cls none H→X.xe (.ref a) { s with heap:=h' }
theorem thrX {P:Program}{w:World}{K:Frag}{mg:Str→Option Value}{base:Heap}{N:List Str}{q:Str}{sc:Scope}{f:Addr}{cd:Value}{A:Around}{outer:List Env}{s0:Shared}{H0:Hp}{E:XK}:Thr (cxE P w K mg base N q sc f cd A outer s0 H0 E) E:=fun _ _ _ _ _ _ _ _ I m hE=>zqu I m hE
def zqw (C:Addr)(E:XK)(t:TA):TS:=fun _ σ H=>t σ H fun vs H1=>vs.length≤sizeLine∧E (.ref C) none H1
section
variable {X:Cx}{x:Str}{C:Addr}{E:XK}{e:Expr}{es:List Expr}{t:TA}{np cpos pos:Pos}
theorem znE (O:Exc X.K X.mg x C)(hT:Thr X E)(hc:X.calm=true)(hg:Gl X x)(ha:PA X (e::es) t)(hd:(x == ("__debug__" : Str))=false:=by decide)(he:starEach (e::es) X.env=(false,eval e X.env)::starEach es X.env:=by rfl)(hpl:(backTo cpos (starEach es X.env)).any (·.1)=false:=by rfl) :
  PS X (.Raise (some (.Call (.Name x np) (e::es) [] cpos)) none pos) (zqw C E t):=by
 intro pins s σ H D I h;obtain ⟨bm,Nn,nm,qn,bs,hdct,sn,sub,ab,col,dd,k0,k1,k2,k3,k5,mN,hC,hN,hni,T⟩:=zqb I.mod.kin O.ex;refine wpAny_Raise_call_subT (C:=C) (nm:=nm) (q:=qn) (N:=Nn) (bs:=bs) (bm:=bm) (hdct:=hdct) (sn:=sn) (sub:=sub) (ab:=ab) (col:=col) (dd:=dd) (k0:=k0) (k1:=k1) (k2:=k2) (k3:=k3) (k5:=k5)
  F.excBase_ValueError (mN:=mN) (T.hasType F.excBase_ValueError.hasBase) (I.ok.hd hc) (by rw[he];exact hpl) hni (zed I hg O.nm ⟨rfl,?_⟩ hd)
 have h1:=ha cpos pins s σ H _ I h;rw[he]at h1 ⊢;refine Calls.evalArgs_plain (thn h1 fun us s1 zq0=>?_);obtain ⟨vs,H1,I1,r,hl,hE⟩:=zq0;exact ⟨rfl,by rw[← r.length];exact hl,I1.bk _ _ hC,hN.keeps I1.bk,T.keeps I1.bk,fun h' a m=>hT pins σ H1 s1 h' a _ _ I1 m hE⟩
end
structure FX (P:Program)(w:World)(K:Frag)(mg:Str→Option Value)(base:Heap)(k:Nat)(x:Str)(ps:List Str)(sp:Sp):Prop where
 ex:∃ f fd,FnOk P w K mg base (CXE P w) k f fd ps sp∧zgn K fd ps []∧keepIn K (.ref f)=true∧mg x=some (.ref f)∧∃ oc od osl,K.lookup f=some ⟨oc,od,.func fd,osl⟩
theorem DF.okx {P:Program}{w:World}{K:Frag}{mg:Str→Option Value}{base:Heap}{x:Str}{st:Stmt}{N ps:List Str}{k:Nat}{sp:Sp}(D:DF K mg x st ps)(S:zaq N ps (zaj st))(len:∀ vs H Q E,sp vs H Q E→vs.length=ps.length)
  (hbody:∀(f:Addr) (cdv:Value) (A:Around) (outer:List Env) (s:Shared) (H:Hp) (vs:List V) (Q:VK) (E:XK),Room k (A.deeper (envOfC x (zaj st) s.heap.objs.size f cdv))→sp vs H Q E→
   ∃ t,PSs (cxE P w K mg base N x (zaj st) f cdv A outer s H E) (zbL st) t∧t { nx:=fun _ H'=>Q .non H',rt:=Q } (zcV N vs) H):FX P w K mg base (k+1) x ps sp:=by
 obtain ⟨f,fd,F,b,m⟩:=D.ex;obtain ⟨oc,od,kV,doc,pm,an,cdv,ct,osl,rfl,lk,hcd⟩:=F.ex;exact ⟨f,_,zp7 lk hcd S len fun A outer s H vs Q E hr hsp=>hbody f cdv A outer s H vs Q E hr hsp,b,F.kp,m,oc,od,osl,lk⟩
section
variable {X:Cx}{j k:Nat}{x:Str}{ps:List Str}{sp:Sp}{e:Expr}{es:List Expr}{t:TA}{p pos:Pos}{E:XK}
theorem zo9 (F:FX X.prog X.w X.K X.mg X.base j x ps sp)(hr:Room k X.A)(ha:PA X.nox (e::es) t){pins:List (Addr×Obj)}{s:Shared}{σ:St}{H:Hp}{Q:VK}(I:Inv X pins σ H s)(h:t σ H fun vs H1=>sp vs H1 Q E)(hjk:j≤k:=by decide)(hg:Gl X x:=by rfl)
  (hdb:(x == ("__debug__" : Str))=false:=by decide) (he:starEach (e::es) X.env=(false,eval e X.env)::starEach es X.env:=by rfl) (hpl:(backTo pos (starEach es X.env)).any (·.1)=false:=by rfl) :
  wpAny (model X.prog X.w) X.A (eval (.Call (.Name x p) (e::es) [] pos) X.env) (EP X pins σ Q) (fun er s'=>∃ H1 s1,Inv X pins σ H1 s1∧CXE X.prog X.w X.stack H1 s1 E er s') s:=by
 obtain ⟨f,fd,ok,b,kp,m,_⟩:=F.ex;refine wpAny_Call_Name_kw (zed I hg m ?_ hdb);refine PySem.W.callWith_K (h₀:=X.base) I.ok.mod.kin kp (wpAny_mono (ha pos pins s σ H _ (I.wish _) h) (fun us s1 zq0=>?_) fun _ _ z=>z.elim) he hpl;obtain ⟨vs,H1,I1,r,q⟩:=zq0;refine ⟨I1.kIn,?_⟩;have I1':Inv X pins σ H1 s1:=I1.unwish;have hl:(us++[]).length=ps.length:=by rw[yaI,← r.length];exact ok.len _ _ _ _ q
 have hb:=b s1 us I1'.kIn hl;rw[yaI]at hb;refine wpAny_call (codeAny_mono (ok.run X.A X.stack s1 H1 ⟨us,[]⟩ us vs Q E (hr.mono hjk) I1'.env0 hb r q) fun res s' hq=>?_);cases res with
 | error er=>exact ⟨H1,s1,I1',hq⟩
 | ok fl=>
  cases fl with
  | ret u=>exact I1'.after hq
  | next=>exact False.elim hq
  | brk=>exact False.elim hq
  | cont=>exact False.elim hq
theorem zoW (F:FX X.prog X.w X.K X.mg X.base j x ps sp)(hr:Room k X.A)(hP:ziE (CXE X.prog X.w) X E)(ha:PA X.nox (e::es) t)(hjk:j≤k:=by decide)(hg:Gl X x:=by rfl)
  (hdb:(x == ("__debug__" : Str))=false:=by decide) (he:starEach (e::es) X.env=(false,eval e X.env)::starEach es X.env:=by rfl) (hpl:(backTo pos (starEach es X.env)).any (·.1)=false:=by rfl):PE X (.Call (.Name x p) (e::es) [] pos) (zpn sp [] E t):=by
 intro pins s σ H Q I h;refine wpAny_mono (zo9 F hr ha I (Q:=Q) (E:=E) ?_ hjk hg hdb he hpl) (fun _ _ q=>q) fun er s' zq0=>(by obtain ⟨H1,s1,I1,q⟩:=zq0;exact hP pins σ H1 s1 er s' I1 q);have e1:(fun vs H1=>sp (vs++[]) H1 Q E)=fun vs H1=>sp vs H1 Q E:=by funext vs H1;rw[yaI]
 have h':t σ H fun vs H1=>sp (vs++[]) H1 Q E:=h;rw[e1]at h';exact h'
end
end L2
namespace L2
open PySem PySem.Spec PyProof.Rows
def ziq (a:Addr)(cls:Value):HO:=.ext fun h=>∃ oe vs,h.get? a=some oe∧oe.cls=cls∧oe.data=.fields vs
def Cx.inH (X:Cx)(a:Addr):Cx:={ X with A:=X.A.mark (some (.ref a)),calm:=false,xe:=fun _ _=>False }
section
variable {X:Cx}{pins:List (Addr×Obj)}{σ:St}{H H':Hp}{s:Shared}
theorem Inv.inH (I:Inv X pins σ H s)(a:Addr):Inv (X.inH a) pins σ H s:=
 ⟨⟨I.ok.mod,I.ok.kind,I.ok.glob,I.ok.blt,I.ok.above,I.ok.inj,I.ok.has,I.ok.cab,(fun z=>nomatch z),I.ok.frames,I.ok.stk,I.ok.exf,I.ok.bs,I.ok.bsz,I.ok.noex,I.ok.exfs,I.ok.funs,I.ok.frf⟩,I.os,I.bare,I.base,I.loc,I.cell,I.free,I.freeC,I.pin,I.hok,I.len⟩
theorem Inv.outH {a:Addr}(hh:X.calm=true→X.A.handled=none)(I:Inv (X.inH a) pins σ H s):Inv X pins σ H s:=
 ⟨⟨I.ok.mod,I.ok.kind,I.ok.glob,I.ok.blt,I.ok.above,I.ok.inj,I.ok.has,I.ok.cab,hh,I.ok.frames,I.ok.stk,I.ok.exf,I.ok.bs,I.ok.bsz,I.ok.noex,I.ok.exfs,I.ok.funs,I.ok.frf⟩,I.os,I.bare,I.base,I.loc,I.cell,I.free,I.freeC,I.pin,I.hok,I.len⟩
theorem Inv.unname {i:Nat}{x:Str}{m:Str→Option Value}{h':Heap}{v:Option Value}{tk:Nat}(I:Inv X pins σ H s)(hN:X.N.Nodup)(hi:X.N[i]?=some x)(hn:s.heap.Ns X.env.locals m)(hn':h'.Ns X.env.locals (fun y=>if y=x then v else m y))(hs:Heap.SameBut X.env.locals s.heap h') :
  Inv X pins (σ.set i none) H { s with heap:=h',toks:=tk }:=by
 obtain ⟨m0,hn0,hl⟩:=id I.loc;have em:m0=m:=by
  funext y
  obtain ⟨o,es,ep,a1,a2,a3,a4⟩:=hn0;obtain ⟨o',es',ep',b1,b2,b3,b4⟩:=hn;rw[a1]at b1;cases b1
  rw[a2]at b2;cases b2
  rw[← a4 y,← b4 y]
 subst em;have ab:∀ b o,X.s₀.heap.get? b=some o→b≠X.env.locals:=fun b o e=>yau (yaz (yae e) I.ok.above);have trk:∀ b u,H b=some u→b≠X.env.locals:=fun b u e=>zab e I.free;refine ⟨I.ok,I.os,I.bare,⟨fun b o e n hb hx=>(hs.2 b (ab b o e)).trans (I.base.keep b o e n hb hx),fun b o e n hb hx=>?_,I.base.free,fun b o e hx=>?_,I.base.tups,I.base.frzs,I.base.tbls⟩,⟨_,hn',fun j y u e1 e2 e3=>?_⟩,fun y c e=>?_,I.free,I.freeC,fun p hp=>?_,fun b u e=>?_,by simpa using I.len⟩
 ·obtain ⟨sl,e1⟩:=I.base.slot b o e n hb hx;exact ⟨sl,(hs.2 b (ab b o e)).trans e1⟩
 ·obtain ⟨o',e1⟩:=I.base.there b o e hx;exact ⟨o',(hs.2 b (ab b o e)).trans e1⟩
 ·have hj:j≠i:=fun z=>by
   subst z;rw[List.getElem?_set]at e2;simp at e2
  rw[ycu (Ne.symm hj)]at e2;obtain ⟨u',r',q⟩:=hl j y u e1 e2 e3;have hyx:y≠x:=fun z=>hj (zhm hN e1 (z ▸ hi));refine ⟨u',r',?_⟩;rcases q with ⟨k,e⟩ | ⟨k,c,e,z⟩
  ·exact .inl ⟨k,by simp[hyx,e]⟩
  ·exact .inr ⟨k,c,e,z.sameBut hs (I.cne y c e)⟩
 ·obtain ⟨w',z⟩:=I.cell y c e;exact ⟨w',z.sameBut hs (I.cne y c e)⟩
 ·obtain ⟨e,n,ne,nf,d⟩:=I.pin p hp;exact ⟨(hs.2 p.1 ne).trans e,n,ne,nf,d⟩
 ·refine (I.hok b u e).stay (fun c w' hc q=>(hs.2 c ?_).trans q) (fun _ q=>q) fun _ _ q=>q;rcases hc with rfl | z
  ·exact trk _ _ e
  ·exact trk _ _ z
theorem Air.held {H1:Hp}{s1 s':Shared}{h:Heap}{a:Addr}{cls fl:Value}(I:Inv X pins σ H1 s1)(ho:s'.os=s1.os)(hg:AllBare s'.gens)(x:Air X.prog X.w X.stack H1 s1.heap a cls fl H' h)(tk:Nat):Inv X pins σ (upd H' a (ziq a cls)) { s' with heap:=h,toks:=tk }:=by
 obtain ⟨a0,oe,vs,T,oT,ts,⟨e1,e2,e3,_⟩,_,_⟩:=x.tr;have nt:∀ b u,H' b=some u→b≠a:=fun b u e=>zab e x.ua;have un:Un (frs X.stack) [] H1 (upd H' a (ziq a cls)) s1.heap h:=by
  refine ⟨x.un.keep,x.un.slot,fun b o e n hx=>?_,x.un.there,fun b xs e=>?_,fun b o u e=>?_,fun b ps e=>?_⟩
  ·rw[zah (fun z=>by rw[z,x.na]at e;cases e)]
   exact x.un.free b o e n hx
  ·have:=x.un.tups b xs e;rw[zah (nt b _ this)];exact this
  ·have:=x.un.frzs b o u e;rw[zah (nt b _ this)];exact this
  ·obtain ⟨m,this⟩:=x.un.tbls b ps e;exact ⟨m,by rw[zah (nt b _ this)];exact this⟩
 have hok:HOk X.prog X.w (upd H' a (ziq a cls)) h:=fun b u e=>by
  by_cases hb:b=a
  ·subst hb;rw[zad]at e;cases e
   exact ⟨⟨oe,vs,e1,e2.1,e3⟩,⟨oe,e1⟩,fun h1 h2 zq0 k=>(by obtain ⟨o,ws,z1,z2,z3⟩:=zq0;exact ⟨o,ws,k o z1,z2,z3⟩)⟩
  ·rw[zah hb]at e;refine (x.hok b u e).stay (fun c v _ q=>q) (fun c q=>by rw[zah (nt c _ q)];exact q) fun c xs q=>by rw[zah (nt c _ q)];exact q
 obtain ⟨hh,g,d,t,os⟩:=s';obtain rfl:os=s1.os:=ho;have J:=I.call (h':=h) (g':=g) (d':=d) (t':=tk) (ch:=[]) un hok hg (fun b z=>absurd z (by simp));exact J
theorem Air.inv {H1:Hp}{s1 s':Shared}{h:Heap}{a:Addr}{cls fl:Value}(I:Inv X pins σ H1 s1)(ho:s'.os=s1.os)(hg:AllBare s'.gens)(x:Air X.prog X.w X.stack H1 s1.heap a cls fl H' h)(tk:Nat):Inv X pins σ H' { s' with heap:=h,toks:=tk }:=by
 obtain ⟨hh,g,d,t,os⟩:=s';obtain rfl:os=s1.os:=ho;have J:=I.call (h':=h) (g':=g) (d':=d) (t':=tk) (ch:=[]) x.un x.hok hg (fun b z=>absurd z (by simp));exact J
end
structure zjv (K:Frag)(C D:Addr):Prop where
 sub:mroIn K C (.ref D)=some true
 cls:(PySem.W.clsIn K D).isSome=true
 ty:PySem.W.typeIn K (.ref D)=some (.type "type")
 exc:mroIn K D (.type "BaseException")=some true
theorem zmY {K:Frag}{prog:Program}{w:World}{A:Around}{E:Value→Shared→Prop}{s:Shared}{a C D:Addr}{oe:Obj}{Q:Bool→Shared→Prop}(X:K.In s.heap)(c:zjv K C D)(he:s.heap.get? a=some oe)(hc:oe.cls=.ref C)(q:Q true s):wpAny (model prog w) A (excMatches (.ref a) (.ref D)) Q E s:=by
 obtain ⟨hh,g,d,t,os⟩:=s;have L1:PySem.W.Looks (model prog w) hh (isInstance (.ref D) (.type "tuple")) false:=(PySem.W.looks_typeIn X c.ty).andThen (PySem.W.Looks.of_pure (by rw[isSubtype_type];kernel_rfl));have L2:PySem.W.Looks (model prog w) hh (isType (.ref D)) true:=by
  obtain ⟨cd,hcd⟩:=ybC.mp c.cls;unfold PySem.W.clsIn at hcd;split at hcd
  ·rename_i ho;intro A' Q' E' s' k z;unfold isType loadHead;exact wpAny_bind (wpAny_loadPart (k _ _ (X _ _ ho)) (wpAny_pure z))
  ·cases hcd
 have L3:=PySem.W.looks_mroIn (M:=model prog w) X c.exc;have L4:PySem.W.Looks (model prog w) hh (typeOf (.ref a)) (.ref C):=hc ▸ (PySem.W.Looks.ld he).andThen .now;have L5:=PySem.W.looks_mroIn (M:=model prog w) X c.sub;unfold excMatches;refine wpAny_bind (L1.at ?_);simp only[yaM,if_false];refine wpAny_bind (wpAny_pure ?_);simp only[List.forIn_cons,List.forIn_nil];refine wpAny_bind (wpAny_bind (wpAny_bind (m:=isExcClass _) ?_));unfold isExcClass;refine wpAny_bind (L2.at ?_);simp only[if_true];refine L3.at ?_;simp only[ybM,yaM,if_false];refine wpAny_pure (wpAny_pure ?_);refine wpAny_bind (L4.at ?_);refine wpAny_bind (wpAny_bind (wpAny_bind (L5.at ?_)));simp only[if_true];exact wpAny_pure (wpAny_pure (wpAny_pure q))
end L2
namespace L2
open PySem PySem.Spec PyProof.Rows
def PX (X:Cx)(e:Expr)(t:XK→TE):Prop:=∀(E:XK) (pins:List (Addr×Obj)) (s:Shared) (σ:St) (H:Hp) (Q:VK),Inv X pins σ H s→t E σ H Q→
 wpAny (model X.prog X.w) X.A (eval e X.env) (EP X pins σ Q) (fun er s'=>∃ H1 s1,Inv X pins σ H1 s1∧CXE X.prog X.w X.stack H1 s1 E er s') s
def zqD (sp:Sp)(t:TA)(E:XK):TE:=fun σ H Q=>t σ H fun vs H1=>sp vs H1 Q E
theorem zlX {X:Cx}{j k:Nat}{x:Str}{ps:List Str}{sp:Sp}{e:Expr}{es:List Expr}{t:TA}{p pos:Pos}(F:FX X.prog X.w X.K X.mg X.base j x ps sp)(hr:Room k X.A)(ha:PA X.nox (e::es) t)(hjk:j≤k:=by decide)(hg:Gl X x:=by rfl)
  (hdb:(x == ("__debug__" : Str))=false:=by decide) (he:starEach (e::es) X.env=(false,eval e X.env)::starEach es X.env:=by rfl) (hpl:(backTo pos (starEach es X.env)).any (·.1)=false:=by rfl):PX X (.Call (.Name x p) (e::es) [] pos) (zqD sp t):=by
 intro E pins s σ H Q I h;exact zo9 F hr ha I h hjk hg hdb he hpl
def hndE (K:Frag)(D:Addr)(i:Nat)(ts:TS)(De:Ends)(σ:St):XK:=fun cls _ H'=>∃ C,cls=.ref C∧zjv K C D∧
 ∀ a,H' a=none→ts { nx:=fun σ2 H2=>De.nx (σ2.set i none) H2,rt:=fun _ _=>False } (σ.set i (some (.ref a))) (upd H' a (ziq a cls))
section
variable {X:Cx}{i:Nat}{n c:Str}{D:Addr}{b0:Stmt}{bs:List Stmt}{ts:TS}{np hpos:Pos}
theorem zot (hst:X.stack=X.env::X.outer)(hf:X.env.frame=some X.env.locals)(hN:X.N.Nodup)(hi:X.N[i]?=some n)(hx:X.env.scope.names.lookup n=some .local)(hm:X.mg c=some (.ref D))(hg:Gl X c)(suite:∀ a,PSs (X.inH a) (b0::bs) ts)(hdb:(c == ("__debug__" : Str))=false)
  {De:Ends} {pins:List (Addr×Obj)} {σ:St} {H1:Hp} {s1 s':Shared} {er:Value} (I1:Inv X pins σ H1 s1) (q:CXE X.prog X.w X.stack H1 s1 (hndE X.K D i ts De σ) er s') :
  wpAny (model X.prog X.w) X.A (noteFrame er X.env) (fun _ s2=>wpAny (model X.prog X.w) X.A (setFlight er none) (fun _ s3=>wpAny (model X.prog X.w) X.A (handleBy er X.env [.ExceptHandler (some (.Name c np)) (some n) (b0::bs) hpos]) (SP X pins De) X.xe s3) X.xe s2) X.xe s':=by
 obtain ⟨a,cls,H',rfl,ho,hb,x,C,rfl,cat,hq⟩:=q;have fo:=fun B h hB hh=>zeU I1.stack B h hB hh;obtain ⟨B,a0,b1,b2,b3,b4,next⟩:=x.step fun B hB h hh=>fo B h hB hh
 refine wpAny_looks_onW (base:=B) (cls:=.ref C) (a0:=a0) (env:=X.env) (outer:=X.outer) (by rw[I1.ok.frames,hst]) hf ⟨b1,b2,hst ▸ b3,b4⟩ fun h4 k1 k2=>?_;have x4:=next h4 _ k1.1 k2 k1.2.2.2
 obtain ⟨B',a1,c1,c2,c3,c4,next'⟩:=x4.step fun B hB h hh=>fo B h hB hh
 refine wpAny_landsW (base:=B') (l:=X.stack) (cls:=.ref C) (a0:=a1) (L:=X.env.locals) ⟨c1,c2,c3,c4⟩ fun h5 k3 k4=>?_;have x5:=next' h5 .none k3.1 k4 k3.2.2.2
 have J5:Inv (X.inH a) pins σ H' { s' with heap:=h5 }:=(x5.inv I1 ho hb s'.toks).inH a;refine wpAny_handleBy_cons (codeAny_handlers_test ?_) (by intro z;cases z)
 refine zed (X:=X.inH a) J5 hg hm ?_ hdb;obtain ⟨_,oe,vs,T,oT,tt,⟨e1,e2,_⟩,_,_⟩:=x5.tr;refine zmY (K:=X.K) J5.kIn cat e1 e2.1 ?_;refine codeAny_handlers_suite_as ?_;obtain ⟨B2,a2,d1,d2,d3,d4,next2⟩:=x5.step fun B hB h hh=>fo B h hB hh;refine lands_againW (base:=B2) (l:=X.stack) (cls:=.ref C) (a0:=a2) ⟨d1,d2,d3,d4⟩ fun h6 k5 k6=>?_;have x6:=next2 h6 .none k5.1 k6 k5.2.2.2;have J6:Inv (X.inH a) pins σ (upd H' a (ziq a (.ref C))) { s' with heap:=h6 }:=(x6.held I1 ho hb s'.toks).inH a;refine zgU (X:=X.inH a) J6 hN hi (.inl hx) (v:=.ref a) rfl (fun s7 J7=>?_) (.inr hx);refine wpAny_mono (suite a pins s7 _ _ _ J7 (hq a x.ua)) (fun fl s8 hf8=>?_) fun _ _ z=>z.elim;cases fl with
 | next=>
  obtain ⟨σ2,H2,J8,q2⟩:=hf8;obtain ⟨m,hn,_⟩:=id J8.loc;refine wpAny_nameGoes_keeps hx hn (by rw[I1.ok.kind];rfl) fun h9 v hn9 hs9=>?_;exact ⟨σ2.set i none,H2,(J8.outH I1.ok.hd).unname hN hi hn hn9 hs9,q2⟩
 | ret u=>
  obtain ⟨_,_,_,_,_,z⟩:=hf8;exact z.elim
 | brk=>
  obtain ⟨_,_,_,z⟩:=hf8;exact z.elim
 | cont=>
  obtain ⟨_,_,_,z⟩:=hf8;exact z.elim
variable {ce:Expr}{tc:XK→TE}{epos tpos:Pos}
end
end L2
namespace L2
open PySem PySem.Spec PyProof.Rows PySem.W
structure ExcC (K:Frag)(C:Addr):Prop where
 ga:findIn K (.ref C) "__getattribute__" = some (some (.builtin "BaseException.__getattribute__"))
 gn:findIn K (.ref C) "__getattr__" = some none
 ca:findIn K (.ref C) "__class__" = some (some (.builtin "object.__class__"))
 gg:specialIn K (.builtin "object.__class__") "__get__" = some (some (.builtin "getset_descriptor.__get__"))
 gt:takesIn K (.builtin "object.__class__")=some true
 ob:mroIn K C (.type "object")=some true
 be:mroIn K C (.type "BaseException")=some true
 cl:(clsIn K C).isSome=true
section
variable {prog:Program}{w:World}{A:Around}{E:Value→Shared→Prop}{s:Shared}{K:Frag}{x C:Addr}{ox:Obj}{vs:Array Value}
theorem zqc {R:Result→Shared→Prop}{hh:Heap}{g:Array GenState}{d:Drawn}{t:Nat}{os:OsState}(L0:Looks (model prog w) hh (typeOf (.ref x)) (.ref C))(L6:Looks (model prog w) hh (isSubtype (.ref C) (.type "object")) true)(hq:R (.ok (.ret (.ref C))) ⟨hh,g,d,t,os⟩) :
  codeAny (model prog w) A (.call (.builtin "getset_descriptor.__get__") ⟨[.builtin "object.__class__",.ref x,.ref C],[]⟩) R ⟨hh,g,d,t,os⟩:=by
 have hT5:(⟨hh,g,d,t,os⟩:Shared).TypeIs (.builtin "object.__class__") "getset_descriptor":=F.typeOf_object_class;have eo:(".".intercalate ("object.__class__".cutAt '.').dropLast) = "object":=by
  rw[show "object.__class__".cutAt '.'=["object","__class__"] by first | rfl | decide +kernel]
  decide +kernel
 have L8:Looks (model prog w) hh (isSubtype (.ref C) (.type (".".intercalate ("object.__class__".cutAt '.').dropLast))) true:=by rw[eo];exact L6
 refine codeAny_call_builtin F.slot_gs_get.plain F.entry_gs_get ?_;refine F.slot_gs_get.check _ _ _ _ _ _ _ _ hT5 (F.args_gs_get _ _ _) ?_
 repeat (any_goals (first | assumption | (with_reducible refine L0.at ?_) | (with_reducible refine L8.at ?_) | wp_step))
 refine ⟨Code.quiet_builtin _ (by decide +kernel),?_⟩;refine codeAny_builtin F.entry_object_class ?_
 repeat (any_goals (first | assumption | (with_reducible refine L0.at ?_) | wp_step))
set_option maxHeartbeats 4000000 in
theorem zmZ {Q:Option Value→Shared→Prop}(X:K.In s.heap)(c:ExcC K C)(he:s.heap.get? x=some ox)(hc:ox.cls=.ref C)(hd:ox.data=.fields vs)(h:Q (some (.ref C)) { s with toks:=s.toks+1 }) :
  wpAny (model prog w) A (getAttr? (.ref x) "__class__") Q E s:=by
 obtain ⟨hh,g,d,t,os⟩:=s;have L0:Looks (model prog w) hh (typeOf (.ref x)) (.ref C):=hc ▸ (Looks.ld he).andThen .now;have L1:=looks_findIn (M:=model prog w) X c.ga;have f3:=F.excAttr_ValueError.ga.bind (.ref x);unfold getAttr? getAttrBy? getAttrBy;refine wpAny_bind (wpAny_mkText (wpAny_bind (wpAny_attempt (wpAny_holding (wpAny_bind (L0.at (wpAny_bind (L1.at ?_))))))));have hx2:(onTheHeap (Value.ref C) && Value.builtin "BaseException.__getattribute__" == Value.builtin "object.__getattribute__")=false:=by
  rw[show (Value.builtin "BaseException.__getattribute__" == Value.builtin "object.__getattribute__")=false by decide +kernel,ybD]
 show wpAny _ _ (if _ then _ else _) _ _ _
 rw[hx2];simp only[yaM,if_false];have L2:=looks_findIn (M:=model prog w) X c.gn;have hx0:(false && onTheHeap (Value.builtin "BaseException.__getattribute__"))=false:=rfl;unfold getAttrByItsOwn hookBefore callGetattribute;dsimp only at X he L1 L2
 repeat (any_goals (first | assumption | (with_reducible refine L0.at ?_) | (with_reducible refine L1.at ?_) | (with_reducible refine L2.at ?_) | wp_step))
 have L3:=looks_mroIn (M:=model prog w) X c.be;have L6:=looks_mroIn (M:=model prog w) X c.ob;have LI:Looks (model prog w) hh (isInstance (.ref x) (.type "BaseException")) true:=L0.andThen L3;have L4:=looks_findIn (M:=model prog w) X c.ca;have L5:=looks_specialIn (M:=model prog w) X c.gg;have L7:=looks_takesIn (M:=model prog w) X c.gt;have hk:builtinKind "BaseException.__getattribute__" = some .slot:=by decide +kernel
 have hsp:splitId "BaseException.__getattribute__" = some ("BaseException","__getattribute__"):=by decide +kernel
 refine codeAny_call_builtin F.excAttr_ValueError.ga.plain F.entry_bexc_ga ?_;have ha:=F.args_bexc_ga (.ref x) (.str "__class__" t);show wpAny _ _ (checkBuiltinCall _ _) _ _ _;simp only[checkBuiltinCall,hk,hsp];refine wpAny_bind (LI.at ?_)
 repeat (any_goals (first | assumption | (with_reducible refine L0.at ?_) | (with_reducible refine L4.at ?_) | (with_reducible refine L5.at ?_) | (with_reducible refine L7.at ?_) | wp_step))
 refine zqc L0 L6 ?_
 repeat (any_goals (first | assumption | wp_step))
end
theorem zht {K:Frag}{a C:Addr}(c:ExcC K C):KitX K (.ref a) (.ref C) (fun h=>∃ oe vs,h.get? a=some oe∧oe.cls=.ref C∧oe.data=.fields vs) where
 ty:=fun M h _ ⟨oe,_,e1,e2,_⟩=>e2 ▸ (Looks.ld e1).andThen .now
 it:=fun M h X _=>by
  obtain ⟨cd,hcd⟩:=ybC.mp c.cl;unfold clsIn at hcd;split at hcd
  ·rename_i ho;intro A' Q' E' s' k z;unfold isType loadHead;exact wpAny_bind (wpAny_loadPart (k _ _ (X _ _ ho)) (wpAny_pure z))
  ·cases hcd
 ne:=fun h tp dd its n sl X htp=>by
  obtain ⟨cd,hcd⟩:=ybC.mp c.cl;refine ybl.mpr fun q=>?_;have e:C=tp:=Value.ref.inj (beq_iff_eq.mp q);subst e;unfold clsIn at hcd;split at hcd
  ·rename_i ho;rw[X _ _ ho]at htp;cases htp
  ·cases hcd
 ca:=fun X ⟨_,_,e1,e2,e3⟩ k=>zmZ X c e1 e2 e3 k
def zrU (K:Frag):List V→Hp→VK→Prop:=fun xs H Q=>∃ a C c b,xs=[.ref a,c]∧H a=some (ziq a (.ref C))∧ExcC K C∧
 ((∃ D,c=.ref D∧kitOne K (.ref C) (.ref D)=some b)∨(∃ n,c=.ty n∧kitOne K (.ref C) (.type n)=some b)∨∃(tp:Addr) (Ds:List Addr),c=.ref tp∧H tp=some (.tup (Ds.map V.ref))∧kitAny K (.ref C) (Ds.map Value.ref)=some b)∧Q (.bl b) H
theorem zjB:∀{Ds:List Addr} {us:List Value},Vals (Ds.map V.ref) us→us=Ds.map Value.ref
 | [],_,.nil=>rfl
 | d::ds,_,.cons r t=>by
  cases r
  rw[zjB t];rfl
theorem zge {X:Cx}:zce X (.builtin "isinstance") (zrU X.K):=by
 intro pins s σ H xs us Q I r h;obtain ⟨a,C,c,b,rfl,ea,cc,hk,q⟩:=h;obtain ⟨u,v,rfl,r1,r2⟩:=zgR r;cases r1
 obtain ⟨p,_,_⟩:=(show za7 X.prog X.w H s.heap a (ziq a (.ref C)) from I.hok a _ ea);rcases hk with ⟨D,rfl,e⟩ | ⟨n,rfl,e⟩ | ⟨tp,Ds,rfl,ht,e⟩
 ·cases r2
  exact kia_one (zht cc) I.kIn p e (fun z=>nomatch z) fun tk=>⟨.bl b,H,I.tok tk,rfl,q⟩
 ·cases r2
  exact kia_one (zht cc) I.kIn p e (fun z=>nomatch z) fun tk=>⟨.bl b,H,I.tok tk,rfl,q⟩
 ·cases r2
  obtain ⟨_,its,rv,o,h1,h2,n,h3⟩:=(show za7 X.prog X.w H s.heap tp (.tup (Ds.map V.ref)) from I.hok tp _ ht);have ei:=zjB rv;subst ei;obtain ⟨oc,odc,oda,osl⟩:=o;dsimp only at h2 h3;subst h2 h3;exact kia_tup (zht cc) I.kIn p h1 e (fun z=>nomatch z) fun tk=>⟨.bl b,H,I.tok tk,rfl,q⟩
end L2
namespace L2
open PySem PySem.Spec PyProof.Rows
section
variable {P:Program}{w:World}{K:Frag}{mg:Str→Option Value}{base:Heap}{k:Nat}{x:Str}{ps:List Str}{sp sp2:Sp}
theorem FC.fx (F:FC P w K mg base k x ps sp):FX P w K mg base k x ps sp:=by
 obtain ⟨f,fd,ok,b,kp,m,l⟩:=F.ex;refine ⟨f,fd,⟨ok.len,fun A outer s H args us vs Q E hr he hb hv hs=>?_⟩,b,kp,m,l⟩;refine codeAny_mono (ok.run A outer s H args us vs Q E hr he hb hv hs) fun r s' hq=>?_;cases r with
 | error e=>exact False.elim hq
 | ok fl=>
  cases fl with
  | ret u=>exact hq
  | next=>exact hq
  | brk=>exact hq
  | cont=>exact hq
theorem FX.or (F:FX P w K mg base k x ps sp)(G:FX P w K mg base k x ps sp2):FX P w K mg base k x ps (fun vs H Q E=>sp vs H Q E∨sp2 vs H Q E):=by
 obtain ⟨f,fd,ok,b,kp,m,oc,od,osl,l⟩:=F.ex;obtain ⟨f2,fd2,ok2,b2,kp2,m2,oc2,od2,osl2,l2⟩:=G.ex;rw[m]at m2;cases m2
 rw[l]at l2;cases l2
 refine ⟨f,fd,⟨fun vs H Q E h=>h.elim (ok.len _ _ _ _) (ok2.len _ _ _ _),fun A outer s H args us vs Q E hr he hb hv hs=>?_⟩,b,kp,m,oc,od,osl,l⟩;rcases hs with hs | hs
 ·exact ok.run A outer s H args us vs Q E hr he hb hv hs
 ·exact ok2.run A outer s H args us vs Q E hr he hb hv hs
end
end L2
namespace L2
open PySem PySem.Spec PyProof.Rows
def PXS (X:Cx)(bs:List Stmt)(t:XK→TS):Prop:=∀(E:XK) (pins:List (Addr×Obj)) (s:Shared) (σ:St) (H:Hp) (De:Ends),Inv X pins σ H s→t E De σ H→
 wpAny (model X.prog X.w) X.A (execs bs X.env) (SP X pins De) (fun er s'=>∃ H1 s1,Inv X pins σ H1 s1∧CXE X.prog X.w X.stack H1 s1 E er s') s
def zqy (tc:XK→TE)(E:XK):TS:=fun De σ H=>tc E σ H fun _ H'=>De.nx σ H'
def tIfX (tt:TT)(ta tb:XK→TS)(E:XK):TS:=tIfS tt (ta E) (tb E)
def zrH (K:Frag)(D:Addr)(i:Nat)(ts:TS)(tb:XK→TS):TS:=fun De σ H=>tb (hndE K D i ts De σ) De σ H
section
variable {X:Cx}{i:Nat}{n c:Str}{D:Addr}{b0:Stmt}{bs body:List Stmt}{ts:TS}{np hpos epos tpos:Pos}{ce:Expr}{tc:XK→TE}{tb:XK→TS}
theorem zjW (hc:PX X ce tc)(hs:swapsWith ce none epos.line X.env=pure false:=by rfl):PXS X [.Expr ce epos] (zqy tc):=by
 intro E pins s σ H De I h;refine wpAny_execs_cons (wpAny_Expr_any (wpAny_mono (hc E pins s σ H _ I h) (fun v s1 zq0=>?_) fun er s' z=>z) I.quiet hs);obtain ⟨y,H1,I1,r1,q1⟩:=zq0;exact wpAny_execs_nil ⟨σ,H1,I1,q1⟩
theorem zqS {c:Expr}{a b:List Stmt}{tt:TT}{ta tb:XK→TS}{pos:Pos}(hc:PT X.nox c tt)(ha:PXS X a ta)(hb:PXS X b tb):PXS X [.If c a b pos] (tIfX tt ta tb):=by
 intro E pins s σ H De I h;have nx:∀{bs:List Stmt} {s1:Shared},wpAny (model X.prog X.w) X.A (execs bs X.env) (SP X pins De) (fun er s'=>∃ H1 s1,Inv X pins σ H1 s1∧CXE X.prog X.w X.stack H1 s1 E er s') s1→
   wpAny (model X.prog X.w) X.A (execs bs X.env) (fun f s'=>match f with | .next=>wpAny (model X.prog X.w) X.A (execs [] X.env) (SP X pins De) (fun er s'=>∃ H1 s1,Inv X pins σ H1 s1∧CXE X.prog X.w X.stack H1 s1 E er s') s' | f=>SP X pins De f s') (fun er s'=>∃ H1 s1,Inv X pins σ H1 s1∧CXE X.prog X.w X.stack H1 s1 E er s') s1:=fun h=>wpAny_mono h (fun f s' q=>by
  cases f with
  | next=>exact wpAny_execs_nil q
  | _=>exact q) fun _ _ z=>z
 refine wpAny_execs_cons (wpAny_If (wpAny_mono (hc pins s σ H _ (I.wish _) h) (fun d s1 z=>?_) fun _ _ z=>z.elim));obtain ⟨H1,I1,q1⟩:=z;cases d with
 | true=>exact nx (ha E pins s1 σ H1 De I1.unwish q1)
 | false=>exact nx (hb E pins s1 σ H1 De I1.unwish q1)
theorem zpv (hb:PXS X body tb)(hst:X.stack=X.env::X.outer)(hf:X.env.frame=some X.env.locals)(hN:X.N.Nodup)(hi:X.N[i]?=some n)(hx:X.env.scope.names.lookup n=some .local)(hm:X.mg c=some (.ref D))(hg:Gl X c)(suite:∀ a,PSs (X.inH a) (b0::bs) ts)
  (hdb:(c == ("__debug__" : Str))=false:=by decide):PS X (.Try body [.ExceptHandler (some (.Name c np)) (some n) (b0::bs) hpos] [] [] tpos) (zrH X.K D i ts tb):=by
 intro pins s σ H De I h;refine wpAny_Try_except (wpAny_mono (hb _ pins s σ H De I h) (fun f s' q=>?_) fun er s' ⟨H1,s1,I1,q⟩=>?_)
 ·cases f with
  | next=>exact wpAny_execs_nil q
  | _=>exact q
 ·exact zot hst hf hN hi hx hm hg suite hdb I1 q
end
end L2
set_option maxHeartbeats 4000000
namespace My
open PySem PySem.Spec PyProof.Rows L2
local macro_rules | `(tactic| walk_at "sc") => `(tactic| exact ⟨rfl,rfl,rfl,by decide +kernel,rfl,by decide +kernel,by decide +kernel⟩)
local macro_rules | `(tactic| walk_at "side")=>`(tactic| first | omega | (dsimp only;omega) | (simp only[CDiv,zr4,CPow,CMul];omega) | decide)
local macro_rules | `(tactic| walk_at "rd")=>`(tactic| repeat (first | (refine ⟨_,rfl,?_⟩) | (refine ⟨_,_,rfl,rfl,?_⟩) | (refine ⟨rfl,?_⟩) | (refine ⟨(by walk_at "side"),?_⟩)))
def top (i:Nat):Stmt:=PySem.Challenge.pw_bridgefind_k36_papers_refused.main.body.getD i (.Pass ⟨0,0,0,0⟩)
abbrev zdK:Stmt:=top 15
abbrev zjU:Stmt:=top 16
abbrev zbw:Stmt:=top 17
abbrev zda:Stmt:=top 18
abbrev zbF:Stmt:=top 21
abbrev zfy:Stmt:=top 22
abbrev zfA:Stmt:=top 23
abbrev zcD:Stmt:=top 25
abbrev zcE:Stmt:=top 26
abbrev zex:Stmt:=top 27
abbrev zg1:Stmt:=top 28
abbrev zfE:Stmt:=top 29
abbrev zaY:Stmt:=top 31
abbrev zdL:Stmt:=top 32
abbrev zey:Stmt:=top 33
abbrev zev:Stmt:=top 34
abbrev zcY:Stmt:=top 35
abbrev zb6:Stmt:=top 37
abbrev za3:Stmt:=top 38
abbrev zdb:Stmt:=top 39
abbrev zep:Stmt:=top 41
abbrev zc8:Stmt:=top 42
abbrev zcG:Stmt:=top 43
abbrev zbk:Stmt:=top 46
abbrev zdJ:Stmt:=top 47
abbrev zcC:Stmt:=top 48
abbrev zfz:Stmt:=top 49
abbrev zaR:Stmt:=top 50
abbrev zcX:Stmt:=top 52
abbrev zew:Stmt:=top 53
abbrev zb8:Stmt:=top 54
abbrev zbG:Stmt:=top 55
abbrev zds:Stmt:=top 56
abbrev zet:Stmt:=top 58
abbrev zeu:Stmt:=top 59
abbrev zer:Stmt:=top 60
abbrev zfC:Stmt:=top 61
abbrev zg4:Stmt:=top 62
abbrev zfB:Stmt:=top 63
abbrev zg3:Stmt:=top 64
abbrev zfD:Stmt:=top 65
abbrev zcF:Stmt:=top 66
abbrev zg2:Stmt:=top 67
abbrev zeq:Stmt:=top 68
abbrev zb7:Stmt:=top 69
abbrev zc9:Stmt:=top 70
abbrev zes:Stmt:=top 71
abbrev znC:Stmt:=top 72
theorem qcG:zaq ["thing"] ["thing"] (zaj zdK):=by walk_at "sc"
theorem qcH:zaq ["entry","key","z"] ["entry"] (zaj zjU):=by walk_at "sc"
theorem qaf:zaq ["length","is_below","low","high","middle"] ["length","is_below"] (zaj zbw):=by walk_at "sc"
theorem qa2:zaq ["lists","together","entries"] ["lists"] (zaj zda):=by walk_at "sc"
theorem qa0:zaq ["one","other","unlike"] ["one","other"] (zaj zbF):=by walk_at "sc"
theorem qa3:zaq ["numbers","told","at","number","figure"] ["numbers"] (zaj zfy):=by walk_at "sc"
theorem qbo:zaq ["entries","numbers","turn"] ["entries"] (zaj zfA):=by walk_at "sc"
theorem qcg:zaq ["things","at"] ["things","at"] (zaj zcD):=by walk_at "sc"
theorem qch:zaq ["taken"] ["taken"] (zaj zcE):=by walk_at "sc"
theorem qba:zaq ["numbers","told","label","at"] ["numbers"] (zaj zex):=by walk_at "sc"
theorem qbp:zaq ["entries","tints","told","colour","at"] ["entries"] (zaj zg1):=by walk_at "sc"
theorem qc3:zaq ["entries"] ["entries"] (zaj zfE):=by walk_at "sc"
theorem qaN:zaq ["many","thing"] ["many","thing"] (zaj zaY):=by walk_at "sc"
theorem qcI:zaq ["tree","knot"] ["tree","knot"] (zaj zdL):=by walk_at "sc"
theorem qbs:zaq ["tree","knot","told","other"] ["tree","knot"] (zaj zey):=by walk_at "sc"
theorem qaP:zaq ["tree","thing","knot","at"] ["tree","thing"] (zaj zev):=by walk_at "sc"
theorem qbH:zaq ["tree","thing"] ["tree","thing"] (zaj zcY):=by walk_at "sc"
theorem qb3:zaq ["stand","knot"] ["stand","knot"] (zaj zb6):=by walk_at "sc"
theorem qad:zaq ["stand","knot","tree","told","at","parts"] ["stand","knot"] (zaj za3):=by walk_at "sc"
theorem qbA:zaq ["stand","told"] ["stand"] (zaj zdb):=by walk_at "sc"
theorem qbt:zaq ["full","knot","told","entry"] ["full","knot"] (zaj zep):=by walk_at "sc"
theorem qav:zaq ["full","child_full","behind","at","entry","told"] ["full","child_full"] (zaj zc8):=by walk_at "sc"
theorem qay:zaq ["tree","fulls","told","knot","full","jumps"] ["tree","fulls"] (zaj zcG):=by walk_at "sc"
theorem qb4:zaq ["bridges","knot","is_below"] ["bridges","knot","is_below"] (zaj zbk):=by walk_at "sc"
theorem qcJ:zaq ["bridges","knot","at","child"] ["bridges","knot","at","child"] (zaj zdJ):=by walk_at "sc"
theorem qaF:zaq ["bridges","knot","start","is_below","beyond","at"] ["bridges","knot","start","is_below"] (zaj zcC):=by walk_at "sc"
theorem qaQ:zaq ["bridges","way","is_below","at","told","parent","knot"] ["bridges","way","is_below"] (zaj zfz):=by walk_at "sc"
theorem qbu:zaq ["tree","fulls","way","key"] ["tree","fulls","way","key"] (zaj zaR):=by walk_at "sc"
theorem qaV:zaq ["stand","way","key","found"] ["stand","way","key"] (zaj zcX):=by walk_at "sc"
theorem qcX:zaq ["thing"] ["thing"] (zaj zew):=by walk_at "sc"
theorem qb5:zaq ["full","at","key"] ["full","at","key"] (zaj zb8):=by walk_at "sc"
theorem qa1:zaq ["bridges","line","below","start"] ["bridges","line","below"] (zaj zbG):=by walk_at "sc"
theorem qaw:zaq ["stand","way","key","paper","fulls","bridges","line"] ["stand","way","key","paper"] (zaj zds):=by walk_at "sc"
theorem qbb:zaq ["_law_rows_here","_law_found","_law_row_here"] ["_law_rows_here"] (zaj zet):=by walk_at "sc"
theorem qcY:zaq ["_law_script"] ["_law_script"] (zaj zeu):=by walk_at "sc"
theorem qbv:zaq ["_law_cell","_law_k","_law_one","_law_two"] ["_law_cell","_law_k"] (zaj zer):=by walk_at "sc"
theorem qaR:zaq ["_law_state","_law_most","_law_k","_law_script","_law_cell","_law_found"] ["_law_state","_law_most"] (zaj zfC):=by walk_at "sc"
theorem qcV:zaq ["_law_state","_law_way_here"] ["_law_state"] (zaj zg4):=by walk_at "sc"
theorem qbq:zaq ["_law_state","_law_most","_law_way_here","_law_parents","_law_k"] ["_law_state","_law_most"] (zaj zfB):=by walk_at "sc"
theorem qci:zaq ["_law_state","_law_most","_law_found","_law_k"] ["_law_state","_law_most"] (zaj zg3):=by walk_at "sc"
theorem qaS:zaq ["_law_state","_law_many","_law_most","_law_rows_here","_law_k","_law_row_here"] ["_law_state","_law_many","_law_most"] (zaj zfD):=by walk_at "sc"
theorem qcj:zaq ["_law_tree_here","_law_knot"] ["_law_tree_here","_law_knot"] (zaj zcF):=by walk_at "sc"
theorem qbG:zaq ["_law_state","_law_tree_here","_law_way_here","_law_some"] ["_law_state","_law_tree_here"] (zaj zg2):=by walk_at "sc"
theorem qbc:zaq ["_law_state","_law_most","_law_keys","_law_tree_here"] ["_law_state"] (zaj zeq):=by walk_at "sc"
theorem qaO:zaq ["_law_state","_law_stand_here","_law_every_here","_law_key_here"] ["_law_state","_law_stand_here"] (zaj zb7):=by walk_at "sc"
theorem qax:zaq ["_law_state","_law_tree_here","_law_way_here","_law_lone","_law_some"] ["_law_state","_law_tree_here","_law_way_here"] (zaj zc9):=by walk_at "sc"
theorem qbd:zaq ["_law_stand_here","_law_thing","_law_key_here","_law_by","_law_caught","e"] ["_law_stand_here","_law_thing","_law_key_here","_law_by"] (zaj zes):=by walk_at "sc"
theorem qbr:zaq ["_law_script","_law_state","_law_stand_here","_law_way_here","_law_key_here","_law_turn","_law_thing","_law_kept","_law_by"] ["_law_script"] (zaj znC):=by walk_at "sc"
abbrev zbR:List Str:=["thing"]
abbrev zg9:List Str:=["entry"]
abbrev zbl:List Str:=["length","is_below"]
abbrev zcJ:List Str:=["lists"]
abbrev zbx:List Str:=["one","other"]
abbrev zeB:List Str:=["numbers"]
abbrev zeD:List Str:=["entries"]
abbrev zbH:List Str:=["things","at"]
abbrev zca:List Str:=["taken"]
abbrev zdT:List Str:=["numbers"]
abbrev zfG:List Str:=["entries"]
abbrev zeH:List Str:=["entries"]
abbrev zaH:List Str:=["many","thing"]
abbrev zcn:List Str:=["tree","knot"]
abbrev zdU:List Str:=["tree","knot"]
abbrev zcm:List Str:=["tree","thing"]
abbrev za5:List Str:=["tree","thing"]
abbrev zbT:List Str:=["stand","knot"]
abbrev zaX:List Str:=["stand","knot"]
abbrev zbc:List Str:=["stand"]
abbrev zdN:List Str:=["full","knot"]
abbrev zcH:List Str:=["full","child_full"]
abbrev zbm:List Str:=["tree","fulls"]
abbrev zbV:List Str:=["bridges","knot","is_below"]
abbrev zcl:List Str:=["bridges","knot","at","child"]
abbrev zb9:List Str:=["bridges","knot","start","is_below"]
abbrev zeC:List Str:=["bridges","way","is_below"]
abbrev zaZ:List Str:=["tree","fulls","way","key"]
abbrev zbQ:List Str:=["stand","way","key"]
abbrev zcZ:List Str:=["thing"]
abbrev zbs:List Str:=["full","at","key"]
abbrev za8:List Str:=["bridges","line","below"]
abbrev zch:List Str:=["stand","way","key","paper"]
abbrev zdR:List Str:=["_law_rows_here"]
abbrev zdS:List Str:=["_law_script"]
abbrev zdP:List Str:=["_law_cell","_law_k"]
abbrev zbb:List Str:=["_law_state","_law_most"]
abbrev zeG:List Str:=["_law_state"]
abbrev zeE:List Str:=["_law_state","_law_most"]
abbrev zfI:List Str:=["_law_state","_law_most"]
abbrev zeF:List Str:=["_law_state","_law_many","_law_most"]
abbrev zcb:List Str:=["_law_tree_here","_law_knot"]
abbrev zfH:List Str:=["_law_state","_law_tree_here"]
abbrev zdO:List Str:=["_law_state"]
abbrev zbU:List Str:=["_law_state","_law_stand_here"]
abbrev zcI:List Str:=["_law_state","_law_tree_here","_law_way_here"]
abbrev zdQ:List Str:=["_law_stand_here","_law_thing","_law_key_here","_law_by"]
abbrev zjY:List Str:=["_law_script"]
structure Txt (K:Frag)(mg:Str→Option Value):Prop where
 qcB:mg "ValueError" = none
 qd4:mg "abs" = none
 qc4:mg "all" = none
 qd5:mg "bool" = none
 qd6:mg "dict" = none
 qbh:mg "enumerate" = none
 qd7:mg "int" = none
 qae:mg "isinstance" = none
 qaz:mg "len" = none
 qbI:mg "list" = none
 qdL:mg "max" = none
 qdM:mg "min" = none
 qap:mg "range" = none
 qdK:mg "repr" = none
 qcZ:mg "reversed" = none
 qcW:mg "sorted" = none
 qbJ:mg "tuple" = none
 qc0:mg "zip" = none
 qb6:∃ t,mg "KNOT_NUMBERS" = some (.int 64 t)
 qdN:∃ t,mg "TURNS" = some (.int 5 t)
 qaJ:∃ t,mg "MOST_BEHIND_START" = some (.int 2 t)
structure Cls (K:Frag)(mg:Str→Option Value)(qab qak qaa qah qaq qai qal qam qar qaj qas qan:Addr):Prop where
 qck:mg "BridgeError" = some (.ref qab)
 qdu:mg "NoTree" = some (.ref qak)
 qdO:mg "NoWay" = some (.ref qaa)
 qc5:mg "NoStand" = some (.ref qah)
 qdP:mg "Twice" = some (.ref qaq)
 qc6:mg "Missing" = some (.ref qai)
 qdv:mg "NoRoom" = some (.ref qal)
 qdw:mg "NoKnot" = some (.ref qam)
 qdQ:mg "NoKey" = some (.ref qar)
 qc7:mg "NoOrder" = some (.ref qaj)
 qdR:mg "NoRow" = some (.ref qas)
 qdx:mg "NoText" = some (.ref qan)
 qdS:Exc K mg "NoWay" qaa
 qcK:ExcC K qaa
 qc8:zjv K qaa qab
 qdT:kitOne K (.ref qaa) (.type "ValueError")=some true
 qcL:kitOne K (.ref qaa) (.ref qab)=some true
 qb7:kitOne K (.ref qaa) (.ref qak)=some false
 qcl:kitOne K (.ref qaa) (.ref qaa)=some true
 qbK:kitOne K (.ref qaa) (.ref qah)=some false
 qcm:kitOne K (.ref qaa) (.ref qaq)=some false
 qbL:kitOne K (.ref qaa) (.ref qai)=some false
 qb8:kitOne K (.ref qaa) (.ref qal)=some false
 qb9:kitOne K (.ref qaa) (.ref qam)=some false
 qcn:kitOne K (.ref qaa) (.ref qar)=some false
 qbM:kitOne K (.ref qaa) (.ref qaj)=some false
 qco:kitOne K (.ref qaa) (.ref qas)=some false
 qca:kitOne K (.ref qaa) (.ref qan)=some false
theorem ziZ (m n i j:Nat)(hi:i < 2)(hj:j < 2):(2*m+i) &&& (2*n+j)=2*(m &&& n)+(i &&& j):=by
 apply Nat.eq_of_testBit_eq;intro k;cases k with
 | zero=>
  have h1:i=0∨i=1:=by omega
  have h2:j=0∨j=1:=by omega
  rcases h1 with rfl | rfl <;> rcases h2 with rfl | rfl <;> simp[Nat.testBit_zero] <;> omega
 | succ k=>
  have h1:i=0∨i=1:=by omega
  have h2:j=0∨j=1:=by omega
  have e1:(2*m+i)/2=m:=by omega
  have e2:(2*n+j)/2=n:=by omega
  have e3:(2*(m &&& n)+(i &&& j))/2=m &&& n:=by
   rcases h1 with rfl | rfl <;> rcases h2 with rfl | rfl <;> simp <;> omega
  rw[Nat.testBit_and,ybP,ybP,ybP,e1,e2,e3,Nat.testBit_and]
theorem zri (m n i j:Nat)(hi:i < 2)(hj:j < 2):(2*m+i) ||| (2*n+j)=2*(m ||| n)+(i ||| j):=by
 apply Nat.eq_of_testBit_eq;intro k;cases k with
 | zero=>
  have h1:i=0∨i=1:=by omega
  have h2:j=0∨j=1:=by omega
  rcases h1 with rfl | rfl <;> rcases h2 with rfl | rfl <;> simp[Nat.testBit_zero] <;> omega
 | succ k=>
  have h1:i=0∨i=1:=by omega
  have h2:j=0∨j=1:=by omega
  have e1:(2*m+i)/2=m:=by omega
  have e2:(2*n+j)/2=n:=by omega
  have e3:(2*(m ||| n)+(i ||| j))/2=m ||| n:=by
   rcases h1 with rfl | rfl <;> rcases h2 with rfl | rfl <;> simp <;> omega
  rw[Nat.testBit_or,ybP,ybP,ybP,e1,e2,e3,Nat.testBit_or]
def lu (a b:Nat):Nat:=if a=b then 0 else if a % 2=b % 2 then lu (a / 2) (b / 2)+1 else 0
termination_by a+b
decreasing_by omega
theorem ziY {a b:Nat}(hab:a≠b)(h:a % 2=b % 2):lu a b=lu (a / 2) (b / 2)+1:=by
 rw[lu,if_neg hab,if_pos h]
theorem zmy {a b:Nat}(h:a % 2≠b % 2):lu a b=0:=by
 rw[lu];split
 ·rfl
 ·rfl
def xr (a b:Nat):Nat:=(a ||| b) - (a &&& b)
def zfp (n:Nat):Nat:=n - (n &&& (n - 1))
theorem ziD (a b:Nat):a &&& b≤a ||| b:=yaB Nat.and_le_left Nat.left_le_or
theorem zrG (m n i j:Nat)(hi:i < 2)(hj:j < 2):xr (2*m+i) (2*n+j)=2 * xr m n+(if i=j then 0 else 1):=by
 unfold xr;rw[zri m n i j hi hj,ziZ m n i j hi hj];have q:=ziD m n;have h1:i=0∨i=1:=by omega
 have h2:j=0∨j=1:=by omega
 rcases h1 with rfl | rfl <;> rcases h2 with rfl | rfl <;> simp <;> omega
theorem zll (a b:Nat):xr a b=2 * xr (a / 2) (b / 2)+(if a % 2=b % 2 then 0 else 1):=by
 have e1:2 * (a / 2)+a % 2=a:=by omega
 have e2:2 * (b / 2)+b % 2=b:=by omega
 have q:=zrG (a / 2) (b / 2) (a % 2) (b % 2) (by omega) (by omega);rw[e1,e2]at q;exact q
theorem zoy:∀(n a b:Nat),a+b≤n→a≠b→0 < xr a b:=by
 intro n
 induction n with
 | zero=>intro a b h1 h2;omega
 | succ n ih=>
  intro a b h1 h2;rw[zll];by_cases h:a % 2=b % 2
  ·have:=ih (a / 2) (b / 2) (by omega) (by omega);omega
  ·rw[if_neg h];omega
theorem zpQ (m:Nat):zfp (2 * m+1)=1:=by
 unfold zfp;have q:=ziZ m m 1 0 (by omega) (by omega);have e:2 * m+1 - 1=2 * m+0:=by omega
 rw[e,q];simp
theorem zoa (m:Nat)(h:0 < m):zfp (2 * m)=2 * zfp m:=by
 unfold zfp;have q:=ziZ m (m - 1) 0 1 (by omega) (by omega);have e:2 * m - 1=2 * (m - 1)+1:=by omega
 have e':2 * m=2 * m+0:=by omega
 rw[e];have:(2 * m &&& 2 * (m - 1)+1)=2 * (m &&& m - 1)+(0 &&& 1):=q;rw[this];have z:m &&& (m - 1)≤m:=Nat.and_le_left;simp;omega
theorem zrg:∀(n a b:Nat),a+b≤n→a≠b→zfp (xr a b)=2 ^ lu a b:=by
 intro n
 induction n with
 | zero=>intro a b h1 h2;omega
 | succ n ih=>
  intro a b h1 h2;rw[zll];by_cases h:a % 2=b % 2
  ·rw[if_pos h,ziY h2 h,ybr,zoa _ (zoy n _ _ (by omega) (by omega)),ih _ _ (by omega) (by omega),yb5];omega
  ·rw[if_neg h,zmy h,zpQ,Nat.pow_zero]
theorem zpO:∀(n a b:Nat),a+b≤n→a≠b→a % 2 ^ lu a b=b % 2 ^ lu a b∧a % 2 ^ (lu a b+1)≠b % 2 ^ (lu a b+1):=by
 intro n
 induction n with
 | zero=>intro a b h1 h2;omega
 | succ n ih=>
  intro a b h1 h2;by_cases h:a % 2=b % 2
  ·rw[ziY h2 h];obtain ⟨q1,q2⟩:=ih (a / 2) (b / 2) (by omega) (by omega);have s:∀ x k:Nat,x % 2 ^ (k+1)=2 * (x / 2 % 2 ^ k)+x % 2:=by
    intro x k;rw[yb5,Nat.mul_comm,Nat.mod_mul];omega
   rw[s a,s b,s a,s b];constructor
   ·omega
   ·omega
  ·rw[zmy h];simp[Nat.mod_one];omega
theorem zrW:∀(k a b:Nat),a≠b→a < 2 ^ k→b < 2 ^ k→lu a b < k:=by
 intro k
 induction k with
 | zero=>intro a b h1 h2 h3;simp at h2 h3;omega
 | succ k ih=>
  intro a b h1 h2 h3;by_cases h:a % 2=b % 2
  ·rw[ziY h1 h];have:=ih (a / 2) (b / 2) (by omega) (by rw[yb5]at h2;omega) (by rw[yb5]at h3;omega);omega
  ·rw[zmy h];omega
def fig (a b:Nat):Nat:=2 * lu a b+b / 2 ^ lu a b % 2
theorem zhy (a b:Nat):fig a b / 2=lu a b:=by
 unfold fig;have:=Nat.mod_lt (b / 2 ^ lu a b) (by decide:0 < 2);omega
theorem zje (a b:Nat):fig a b % 2=b / 2 ^ lu a b % 2:=by
 unfold fig;have:=Nat.mod_lt (b / 2 ^ lu a b) (by decide:0 < 2);omega
theorem zfm (x k:Nat):x % 2 ^ (k+1)=x % 2 ^ k+2 ^ k * (x / 2 ^ k % 2):=by
 rw[yb5,Nat.mod_mul]
theorem zo0 {a b:Nat}(h:a≠b):a / 2 ^ lu a b % 2≠b / 2 ^ lu a b % 2:=by
 obtain ⟨h1,h2⟩:=zpO _ a b (yaa _) h;intro e;apply h2;rw[zfm,zfm,h1,e]
theorem zrx {a b c:Nat}(h2:b≠c):fig a b≠fig b c:=by
 intro e;have e1:lu a b=lu b c:=by rw[← zhy,e,zhy]
 have e2:b / 2 ^ lu a b % 2=c / 2 ^ lu b c % 2:=by rw[← zje,e,zje]
 rw[e1]at e2;exact zo0 h2 e2
theorem zqa {a b:Nat}(h:a≠b):a % 2≠fig a b:=by
 intro e;have l:a % 2 < 2:=Nat.mod_lt _ (by decide);have e1:lu a b=0:=by
  have:=zhy a b;omega
 have e2:=zje a b;have e3:=zo0 h;rw[e1]at e2 e3;simp at e2 e3;omega
theorem zry {a b k:Nat}(h:a≠b)(ha:a < 2 ^ k)(hb:b < 2 ^ k):fig a b < 2 * k:=by
 have:=zrW k a b h ha hb;have:=Nat.mod_lt (b / 2 ^ lu a b) (by decide:0 < 2);unfold fig;omega
def zei (xs:List Nat)(i:Nat):Nat:=if i=0 then xs.getD 0 0 % 2 else fig (xs.getD (i - 1) 0) (xs.getD i 0)
def zdn (xs:List Nat):List Nat:=(List.range xs.length).map (zei xs)
theorem zbz (xs:List Nat):(zdn xs).length=xs.length:=by unfold zdn;rw[yab,ya5]
theorem zhM {xs:List Nat}{i:Nat}(h:i < xs.length):(zdn xs)[i]?=some (zei xs i):=by
 unfold zdn;rw[yaj,ybm h];rfl
theorem zeZ {xs:List Nat}{i:Nat}(h:i < xs.length):(zdn xs).getD i 0=zei xs i:=by
 rw[yad,zhM h];rfl
theorem zkE {xs:List Nat}{i:Nat}(h:i < xs.length):(zdn xs).take (i+1)=(zdn xs).take i++[zei xs i]:=by
 have h':i < (zdn xs).length:=by rw[zbz];exact h
 rw[yaH h'];have:=zhM h;rw[yac h']at this;rw[yag this]
def Unl (xs:List Nat):Prop:=∀ i,i+1 < xs.length→xs.getD i 0≠xs.getD (i+1) 0
theorem zlw {xs:List Nat}(h:Unl xs):Unl (zdn xs):=by
 intro i hi;rw[zbz]at hi;rw[zeZ (by omega),zeZ hi];unfold zei;rw[if_neg (by omega:¬ i+1=0),ybQ];by_cases h0:i=0
 ·subst h0;rw[if_pos rfl];exact zqa (h 0 hi)
 ·rw[if_neg h0];exact zrx (h i hi)
def zdp (m:Nat)(xs:List Nat):Prop:=∀ i,i < xs.length→xs.getD i 0 < m
theorem zcj {xs:List Nat}{k:Nat}(hk:1≤k)(h:Unl xs)(hb:zdp (2 ^ k) xs):zdp (2 * k) (zdn xs):=by
 intro i hi;rw[zbz]at hi;rw[zeZ hi];unfold zei;split
 ·have:xs.getD 0 0 % 2 < 2:=Nat.mod_lt _ (by decide);omega
 ·have:=h (i - 1) (by omega);rw[show i - 1+1=i by omega]at this;exact zry this (hb _ (by omega)) (hb _ hi)
theorem zpc (a b:Nat):Builtin.bitXor (a:Int) (b:Int)=((xr a b:Nat):Int):=by
 have h1:Builtin.bitAnd (a:Int) (b:Int)=((a &&& b:Nat):Int):=by
  unfold Builtin.bitAnd;rw[yam (ybn a),yam (ybn b)];rfl
 have n1:¬ (0:Int)≤Builtin.bitNot (a:Int):=by unfold Builtin.bitNot;omega
 have n2:¬ (0:Int)≤Builtin.bitNot (b:Int):=by unfold Builtin.bitNot;omega
 have h2:Builtin.bitOr (a:Int) (b:Int)=((a ||| b:Nat):Int):=by
  unfold Builtin.bitOr Builtin.bitAnd;rw[yaq n1,yaq n2];have e:∀ x:Int,Builtin.bitNot (Builtin.bitNot x)=x:=fun x=>by unfold Builtin.bitNot;omega
  show Builtin.bitNot (Builtin.bitNot _)=_;rw[e,e,e];rfl
 unfold Builtin.bitXor xr;rw[h1,h2];have:=ziD a b;omega
theorem zqm (n:Nat)(h:0 < n):Builtin.bitAnd (n:Int) (-(n:Int))=((zfp n:Nat):Int):=by
 have n2:¬ (0:Int)≤-(n:Int):=by omega
 have e:(Builtin.bitNot (-(n:Int))).toNat=n - 1:=by unfold Builtin.bitNot;omega
 unfold Builtin.bitAnd zfp;rw[yam (ybn n),yaq n2];show (n:Int) - (((n:Int).toNat &&& (Builtin.bitNot (-(n:Int))).toNat:Nat):Int)=_;rw[e,ya9];have:n &&& (n - 1)≤n:=Nat.and_le_left;omega
theorem zrh (a b:Nat)(h:a≠b):((Builtin.Int.intBits (Builtin.bitAnd (Builtin.bitXor (a:Int) (b:Int)) (-(Builtin.bitXor (a:Int) (b:Int)))):Nat):Int) - 1=((lu a b:Nat):Int):=by
 rw[zpc,zqm _ (zoy _ a b (yaa _) h),zrg _ a b (yaa _) h];unfold Builtin.Int.intBits;have p:0 < 2 ^ lu a b:=Nat.two_pow_pos _;rw[if_neg (by
  intro z;have z':=eq_of_beq z;omega),Int.natAbs_natCast,Nat.log2_two_pow]
 omega
def atZ {α:Type}(l:List α)(i:Int):Option α:=if 0≤i then l[i.toNat]? else none
theorem zdj {α:Type}(l:List α)(i:Nat):atZ l (i:Int)=l[i]?:=by
 unfold atZ;rw[if_pos (ybn i),ya9]
theorem zhE {α:Type}{l:List α}{i:Int}(h:i < 0):atZ l i=none:=by
 unfold atZ;rw[if_neg (by omega)]
theorem zhD {α:Type}{l:List α}{i:Int}{x:α}(h:atZ l i=some x):0≤i∧i < l.length:=by
 unfold atZ at h;split at h
 ·have:=(yao.mp h).1;omega
 ·cases h
theorem zpa {α:Type}{l:List α}{i:Int}(h0:0≤i)(h:i < l.length):∃ x,atZ l i=some x:=by
 unfold atZ;rw[if_pos h0];exact ⟨_,yac (by omega)⟩
def zk1 {α β:Type}(f:Option α→α→Option α→β):Option α→List α→List β
 | _,[]=>[]
 | p,x::l=>f p x l.head? :: zk1 f (some x) l
def mapW {α β:Type}(f:Option α→α→Option α→β)(l:List α):List β:=zk1 f none l
theorem zdy {α β:Type}(f:Option α→α→Option α→β):∀(l:List α) (p:Option α) (k:Nat),(zk1 f p l)[k]?=l[k]?.map fun x=>f (if k=0 then p else l[k - 1]?) x l[k+1]?
 | [],_,_=>rfl
 | x::l,p,0=>by
  show some (f p x l.head?)=some (f p x l[0]?);rw[List.head?_eq_getElem?]
 | x::l,p,k+1=>by
  show (zk1 f (some x) l)[k]?=l[k]?.map fun y=>f (x::l)[k]? y l[k+1]?;rw[zdy f l (some x) k];cases k with
  | zero=>rfl
  | succ k=>rfl
theorem zfo {α β:Type}(f:Option α→α→Option α→β):∀(l:List α) (p:Option α),(zk1 f p l).length=l.length
 | [],_=>rfl
 | x::l,p=>by
  show (zk1 f (some x) l).length+1=l.length+1;rw[zfo f l]
theorem zcs {α β:Type}(f:Option α→α→Option α→β)(l:List α):(mapW f l).length=l.length:=zfo f l none
theorem zhs {α β:Type}(f:Option α→α→Option α→β)(l:List α)(i:Int):atZ (mapW f l) i=(atZ l i).map fun x=>f (atZ l (i - 1)) x (atZ l (i+1)):=by
 by_cases h:0≤i
 ·obtain ⟨k,rfl⟩:∃ k:Nat,i=(k:Int):=⟨i.toNat,by omega⟩;rw[zdj,zdj,mapW,zdy,show ((k:Int)+1)=((k+1:Nat):Int) by omega,zdj];have e:atZ l ((k:Int) - 1)=if k=0 then none else l[k - 1]?:=by
   split
   ·rw[zhE (by omega)]
   ·rw[show ((k:Int) - 1)=((k - 1:Nat):Int) by omega,zdj]
  rw[e]
 ·rw[zhE (l:=mapW f l) (by omega),zhE (l:=l) (i:=i) (by omega)];rfl
def UnlZ (xs:List Nat):Prop:=∀(i:Int) (x y:Nat),atZ xs i=some x→atZ xs (i+1)=some y→x≠y
theorem unlZ {xs:List Nat}(h:Unl xs):UnlZ xs:=by
 intro i x y hx hy;obtain ⟨a,b⟩:=zhD hx;obtain ⟨_,c⟩:=zhD hy;obtain ⟨k,rfl⟩:∃ k:Nat,i=(k:Int):=⟨i.toNat,by omega⟩;rw[zdj]at hx;rw[show ((k:Int)+1)=((k+1:Nat):Int) by omega,zdj]at hy;have:=h k (by omega);rw[yad,yad,hx,hy]at this;exact this
theorem zoC {xs:List Nat}(h:UnlZ xs):Unl xs:=by
 intro k hk;have:=h k xs[k] xs[k+1] (by rw[zdj];exact yac (by omega)) (by rw[show ((k:Int)+1)=((k+1:Nat):Int) by omega,zdj];exact yac hk);rw[yad,yad,yac (show k < xs.length by omega),yac hk];exact this
def zfw (p n:Option Nat):Nat:=if p≠some 0∧n≠some 0 then 0 else if p≠some 1∧n≠some 1 then 1 else 2
theorem zkn (p n:Option Nat):zfw p n≤2:=by
 unfold zfw;split
 ·omega
 ·split <;> omega
theorem zfa {p n:Option Nat}{x:Nat}(h:p=some x):zfw p n≠x:=by
 subst h;unfold zfw;split
 ·rename_i c;intro z;exact c.1 (by rw[← z])
 ·split
  ·rename_i c;intro z;exact c.1 (by rw[← z])
  ·rename_i c d;intro z;subst z;have c1:n=some 0:=Decidable.byContradiction fun q=>c ⟨by decide,q⟩;have d1:n=some 1:=Decidable.byContradiction fun q=>d ⟨by decide,q⟩;rw[c1]at d1;cases d1
theorem zk9 (p n:Option Nat):zfw p n=zfw n p:=by
 unfold zfw;simp only[And.comm]
theorem zgG {p n:Option Nat}{x:Nat}(h:n=some x):zfw p n≠x:=by
 rw[zk9];exact zfa h
def recF (v:Nat)(p:Option Nat)(x:Nat)(n:Option Nat):Nat:=if x=v then zfw p n else x
def recL (v:Nat)(xs:List Nat):List Nat:=mapW (recF v) xs
theorem za4 (v:Nat)(xs:List Nat):(recL v xs).length=xs.length:=zcs _ _
theorem zfF {v:Nat}{xs:List Nat}(h:UnlZ xs):UnlZ (recL v xs):=by
 intro i x y hx hy;unfold recL at hx hy;rw[zhs]at hx hy;cases ex:atZ xs i with
 | none=>rw[ex]at hx;cases hx
 | some x0=>
  cases ey:atZ xs (i+1) with
  | none=>rw[ey]at hy;cases hy
  | some y0=>
   rw[ex]at hx;rw[ey]at hy;have hx:x=recF v (atZ xs (i - 1)) x0 (atZ xs (i+1)):=(yag hx).symm;have hy:y=recF v (atZ xs (i+1 - 1)) y0 (atZ xs (i+1+1)):=(yag hy).symm;have n0:=h i x0 y0 ex ey;have e1:i+1 - 1=i:=by omega
   unfold recF at hx hy;rw[e1,ex]at hy;rw[ey]at hx;split at hx
   ·rename_i c;split at hy
    ·rename_i c';omega
    ·rw[hx,hy];exact zgG rfl
   ·split at hy
    ·rw[hx,hy];exact (zfa rfl).symm
    ·omega
theorem zg6 {v:Nat}{P:Nat→Prop}{xs:List Nat}(hP:∀ x,x≤2→P x)(h:∀ i x,atZ xs i=some x→x=v∨P x):∀ i x,atZ (recL v xs) i=some x→P x:=by
 intro i x hx;unfold recL at hx;rw[zhs]at hx;cases ex:atZ xs i with
 | none=>rw[ex]at hx;cases hx
 | some x0=>
  rw[ex]at hx;have hx:x=recF v (atZ xs (i - 1)) x0 (atZ xs (i+1)):=(yag hx).symm;unfold recF at hx;split at hx
  ·rw[hx];exact hP _ (zkn _ _)
  ·rw[hx];rcases h i x0 ex with q | q
   ·exact absurd q (by assumption)
   ·exact q
def colL (xs:List Nat):List Nat:=recL 5 (recL 4 (recL 3 xs))
theorem zf8 (xs:List Nat):(colL xs).length=xs.length:=by
 unfold colL;rw[za4,za4,za4]
theorem zks {xs:List Nat}(h:UnlZ xs):UnlZ (colL xs):=zfF (zfF (zfF h))
theorem zqh {xs:List Nat}(h:∀ i x,atZ xs i=some x→x≤5):∀ i x,atZ (colL xs) i=some x→x≤2:=by
 refine zg6 (P:=fun x=>x≤2) (fun x h=>h) ?_;refine zg6 (P:=fun x=>x=5∨x≤2) (fun x h=>.inr h) ?_;refine zg6 (P:=fun x=>x=4∨x=5∨x≤2) (fun x h=>.inr (.inr h)) ?_;intro i x e;have:=h i x e;omega
def zpN (sh:Nat)(p:Option (Nat×Bool))(x:Nat×Bool)(n:Option (Nat×Bool)):Nat×Bool:=
 (x.1,x.2 || (decide (x.1=sh) && p.isSome && !(p.map (·.2)).getD false && !(n.map (·.2)).getD false))
def zc3 (sh:Nat)(l:List (Nat×Bool)):List (Nat×Bool):=mapW (zpN sh) l
def zcV (c:List Nat):List (Nat×Bool):=c.map fun x=>(x,false)
def marked (c:List Nat):List (Nat×Bool):=zc3 0 (zc3 1 (zc3 2 (zcV c)))
def zeM (c:List Nat):List Bool:=(marked c).map (·.2)
theorem zhp (c:List Nat):(marked c).length=c.length:=by
 unfold marked zc3 zcV;rw[zcs,zcs,zcs,yab]
theorem zeL (c:List Nat):(zeM c).length=c.length:=by
 unfold zeM;rw[yab,zhp]
theorem zjD (c:List Nat)(i:Int):atZ (zcV c) i=(atZ c i).map fun x=>(x,false):=by
 unfold zcV atZ;split
 ·rw[yaj]
 ·rfl
def mkZ (l:List (Nat×Bool))(i:Int):Bool:=((atZ l i).map (·.2)).getD false
def clZ (l:List (Nat×Bool))(i:Int):Option Nat:=(atZ l i).map (·.1)
theorem zpM (sh:Nat)(l:List (Nat×Bool))(i:Int):clZ (zc3 sh l) i=clZ l i:=by
 unfold clZ zc3;rw[zhs];cases atZ l i <;> rfl
theorem zhq (sh:Nat)(l:List (Nat×Bool))(i:Int):mkZ (zc3 sh l) i=(mkZ l i || (decide (clZ l i=some sh) && (clZ l (i - 1)).isSome && !mkZ l (i - 1) && !mkZ l (i+1))):=by
 unfold mkZ clZ zc3;rw[zhs];cases atZ l i with
 | none=>simp
 | some x=>
  unfold zpN;cases atZ l (i - 1) <;> cases atZ l (i+1) <;> simp
structure MkOk (c:List Nat)(l:List (Nat×Bool)):Prop where
 cl:∀ i,clZ l i=atZ c i
 ind:∀ i,mkZ l i=true→mkZ l (i+1)=true→False
 fst:∀ i,mkZ l i=true→(atZ c (i - 1)).isSome=true∧(atZ c i).isSome=true
theorem zfx (c:List Nat):MkOk c (zcV c):=by
 have e:∀ i,mkZ (zcV c) i=false:=fun i=>by
  unfold mkZ;rw[zjD];cases atZ c i <;> rfl
 refine ⟨fun i=>?_,fun i h=>?_,fun i h=>?_⟩
 ·unfold clZ;rw[zjD];cases atZ c i <;> rfl
 ·rw[e]at h;cases h
 ·rw[e]at h;cases h
theorem ze6 {c:List Nat}{l:List (Nat×Bool)}{sh:Nat}(hu:UnlZ c)(h:MkOk c l):MkOk c (zc3 sh l):=by
 refine ⟨fun i=>by rw[zpM,h.cl],fun i h1 h2=>?_,fun i h1=>?_⟩
 ·rw[zhq]at h1 h2;simp only[Bool.or_eq_true,ybh,decide_eq_true_eq,ybj]at h1 h2;rw[show i+1 - 1=i by omega]at h2;rcases h1 with h1 | h1 <;> rcases h2 with h2 | h2
  ·exact h.ind i h1 h2
  ·rw[h1]at h2;exact absurd h2.1.2 (by decide)
  ·rw[h2]at h1;exact absurd h1.2 (by decide)
  ·have a:=h1.1.1.1;have b:=h2.1.1.1;rw[h.cl]at a b;exact hu i sh sh a b rfl
 ·rw[zhq]at h1;simp only[Bool.or_eq_true,ybh,decide_eq_true_eq,ybj]at h1;rcases h1 with h1 | h1
  ·exact h.fst i h1
  ·refine ⟨?_,?_⟩
   ·rw[← h.cl];exact h1.1.1.2
   ·rw[← h.cl,h1.1.1.1];rfl
theorem zbf {sh:Nat}{l:List (Nat×Bool)}{i:Int}(h:mkZ l i=true):mkZ (zc3 sh l) i=true:=by
 rw[zhq,h];rfl
theorem zhr {c:List Nat}{l:List (Nat×Bool)}{sh:Nat}{i:Int}(h:MkOk c l)(hc:atZ c i=some sh)(hp:(atZ c (i - 1)).isSome=true):mkZ (zc3 sh l) (i - 1)=true∨mkZ (zc3 sh l) i=true∨mkZ (zc3 sh l) (i+1)=true:=by
 by_cases a:mkZ l (i - 1)=true
 ·exact .inl (zbf a)
 ·by_cases b:mkZ l (i+1)=true
  ·exact .inr (.inr (zbf b))
  ·refine .inr (.inl ?_);rw[zhq,h.cl,h.cl,hc,hp,ybl.mpr a,ybl.mpr b];simp
theorem zh9 {c:List Nat}(hu:UnlZ c):MkOk c (marked c):=ze6 hu (ze6 hu (ze6 hu (zfx c)))
theorem zk0 {c:List Nat}(hu:UnlZ c)(hc:∀ i x,atZ c i=some x→x≤2){i:Int}(h1:(atZ c (i - 1)).isSome=true)(h2:(atZ c i).isSome=true):mkZ (marked c) (i - 1)=true∨mkZ (marked c) i=true∨mkZ (marked c) (i+1)=true:=by
 obtain ⟨x,hx⟩:=ybC.mp h2;have hle:=hc i x hx;have z:x=2∨x=1∨x=0:=by omega
 rcases z with rfl | rfl | rfl
 ·rcases zhr (zfx c) hx h1 with q | q | q
  ·exact .inl (zbf (zbf q))
  ·exact .inr (.inl (zbf (zbf q)))
  ·exact .inr (.inr (zbf (zbf q)))
 ·rcases zhr (ze6 (sh:=2) hu (zfx c)) hx h1 with q | q | q
  ·exact .inl (zbf q)
  ·exact .inr (.inl (zbf q))
  ·exact .inr (.inr (zbf q))
 ·exact zhr (ze6 (sh:=1) hu (ze6 (sh:=2) hu (zfx c))) hx h1
structure zdH (ms:List Bool):Prop where
 fst:ms.getD 0 false=false
 ind:∀ i,ms.getD i false=true→ms.getD (i+1) false=true→False
 dom:∀ i,1≤i→i < ms.length→ms.getD (i - 1) false=true∨ms.getD i false=true∨ms.getD (i+1) false=true
theorem zcr (c:List Nat)(i:Nat):(zeM c).getD i false=mkZ (marked c) (i:Int):=by
 unfold mkZ zeM;rw[zdj,yad,yaj]
theorem zmw {c:List Nat}(hu:UnlZ c)(hc:∀ i x,atZ c i=some x→x≤2):zdH (zeM c):=by
 refine ⟨?_,fun i h1 h2=>?_,fun i h1 h2=>?_⟩
 ·rw[zcr];cases e:mkZ (marked c) ((0:Nat):Int) with
  | false=>rfl
  | true=>
   have:=((zh9 hu).fst _ e).1;rw[zhE (by omega)]at this;cases this
 ·rw[zcr]at h1 h2;exact (zh9 hu).ind i h1 h2
 ·rw[zeL]at h2;have a:(atZ c ((i:Int) - 1)).isSome=true:=by
   obtain ⟨x,hx⟩:=zpa (l:=c) (i:=(i:Int) - 1) (by omega) (by omega);rw[hx];rfl
  have b:(atZ c (i:Int)).isSome=true:=by
   obtain ⟨x,hx⟩:=zpa (l:=c) (i:=(i:Int)) (by omega) (by omega);rw[hx];rfl
  rcases zk0 hu hc a b with q | q | q
  ·refine .inl ?_;rw[zcr,show ((i - 1:Nat):Int)=(i:Int) - 1 by omega];exact q
  ·refine .inr (.inl ?_);rw[zcr];exact q
  ·refine .inr (.inr ?_);rw[zcr];exact q
theorem zjb {p n:Option Nat}{y:Nat}(h:y < zfw p n):p=some y∨n=some y:=by
 unfold zfw at h;split at h
 ·omega
 ·rename_i c;have c0:p=some 0∨n=some 0:=Decidable.byContradiction fun q=>c ⟨fun z=>q (.inl z),fun z=>q (.inr z)⟩;split at h
  ·have:y=0:=by omega
   subst this;exact c0
  ·rename_i d;have d0:p=some 1∨n=some 1:=Decidable.byContradiction fun q=>d ⟨fun z=>q (.inl z),fun z=>q (.inr z)⟩;have:y=0∨y=1:=by omega
   rcases this with rfl | rfl
   ·exact c0
   ·exact d0
def zaW (xs:List Nat)(k:Nat):List Nat:=(if k=0 then none else xs[k - 1]?).toList++xs[k+1]?.toList
theorem zgf {xs:List Nat}{k y:Nat}:y∈zaW xs k↔(if k=0 then none else xs[k - 1]?)=some y∨xs[k+1]?=some y:=by
 unfold zaW;rw[yai,Option.mem_toList,Option.mem_toList]
def zd9 (xs:List Nat)(k:Nat):Nat:=zfw (if k=0 then none else xs[k - 1]?) xs[k+1]?
theorem zk8 {xs:List Nat}{k:Nat}:zd9 xs k∉zaW xs k:=fun h=>by
 rcases zgf.mp h with q | q
 ·exact zfa q rfl
 ·exact zgG q rfl
theorem zil {xs:List Nat}{k y:Nat}(h:y < zd9 xs k):y∈zaW xs k:=zgf.mpr (zjb h)
theorem zmU (xs:List Nat)(k:Nat):zd9 xs k≤2:=zkn _ _
theorem zg5 {v:Nat}{xs:List Nat}{k:Nat}(h:k < xs.length):(recL v xs)[k]?=some (if xs.getD k 0=v then zd9 xs k else xs.getD k 0):=by
 unfold recL mapW;rw[zdy,yad,yac h];rfl
def mixL (v:Nat)(xs:List Nat)(k:Nat):List Nat:=(recL v xs).take k++xs.drop k
theorem zn9 {v:Nat}{xs:List Nat}{k:Nat}(h:xs.length≤k):mixL v xs k=recL v xs:=by
 unfold mixL;rw[yat (by rw[za4];exact h),ya2 h,yaI]
theorem zf1 (v:Nat)(xs:List Nat)(k:Nat):(mixL v xs k).length=xs.length:=by
 unfold mixL;rw[yaf,yar,yaL,za4];omega
theorem zdX (v:Nat)(xs:List Nat)(k j:Nat):(mixL v xs k)[j]?=if j < k then (recL v xs)[j]? else xs[j]?:=by
 unfold mixL;by_cases hk:k≤xs.length
 ·rw[List.getElem?_append,yar,za4,ybk hk];split
  ·rw[ybL];rw[if_pos (by assumption)]
  ·rw[ybu];congr 1;omega
 ·rw[ya2 (by omega),yaI,yat (by rw[za4];omega)];split
  ·rfl
  ·rw[ya8 (by rw[za4];omega),ya8 (by omega)]
theorem zmv {v:Nat}{xs:List Nat}{k j:Nat}(h:k≤j):(mixL v xs k)[j]?=xs[j]?:=by
 rw[zdX,if_neg (by omega)]
theorem zmt {v:Nat}{xs:List Nat}{k:Nat}(h:k < xs.length)(hv:xs.getD k 0≠v):mixL v xs (k+1)=mixL v xs k:=by
 apply ybf;intro j;rw[zdX,zdX];by_cases c:j < k
 ·rw[if_pos c,if_pos (by omega)]
 ·rw[if_neg c];split
  ·have:j=k:=by omega
   subst this;rw[zg5 h,if_neg hv,yad,yac h];rfl
  ·rfl
theorem zmu {v:Nat}{xs:List Nat}{k:Nat}(hu:Unl xs)(h:k < xs.length)(hv:xs.getD k 0=v):(if k=0 then none else (mixL v xs k)[k - 1]?)=if k=0 then none else xs[k - 1]?:=by
 cases k with
 | zero=>rfl
 | succ k=>
  show (mixL v xs (k+1))[k]?=xs[k]?;rw[zdX,if_pos (by omega),zg5 (by omega)];have:=hu k h;rw[hv]at this;rw[if_neg this,yad,yac (show k < xs.length by omega)];rfl
theorem ziU {v:Nat}{xs:List Nat}{k:Nat}(hu:Unl xs)(h:k < xs.length)(hv:xs.getD k 0=v):zaW (mixL v xs k) k=zaW xs k:=by
 unfold zaW;rw[zmu hu h hv,zmv (j:=k+1) (by omega)]
theorem zn8 {v:Nat}{xs:List Nat}{k:Nat}(h:k < xs.length)(hv:xs.getD k 0=v):mixL v xs (k+1)=(mixL v xs k).set k (zd9 xs k):=by
 apply ybf;intro j;rw[List.getElem?_set,zf1,zdX,zdX];by_cases c:k=j
 ·subst c;rw[if_pos rfl,if_pos h,if_pos (by omega),zg5 h,if_pos hv]
 ·rw[if_neg c];by_cases c2:j < k
  ·rw[if_pos c2,if_pos (by omega)]
  ·rw[if_neg c2,if_neg (by omega)]
def zcp (sh:Nat)(cs:List Nat)(ms:List Bool):List Bool:=(zc3 sh (cs.zip ms)).map (·.2)
theorem zaT {sh:Nat}{cs:List Nat}{ms:List Bool}(h:cs.length=ms.length):(zcp sh cs ms).length=ms.length:=by
 unfold zcp zc3;rw[yab,zcs,yco];omega
theorem ziI {cs:List Nat}:∀{ms:List Bool},cs.length=ms.length→(cs.zip ms).map (·.1)=cs:=by
 induction cs with
 | nil=>intro ms _;rfl
 | cons c cs ih=>
  intro ms h;cases ms with
  | nil=>cases h
  | cons m ms=>
   show c::(cs.zip ms).map (·.1)=c::cs;rw[ih (Nat.succ.inj h)]
theorem zjw:∀(l:List (Nat×Bool)),(l.map (·.1)).zip (l.map (·.2))=l
 | []=>rfl
 | x::l=>by
  show x::(l.map (·.1)).zip (l.map (·.2))=x::l;rw[zjw l]
theorem zmx (sh:Nat)(l:List (Nat×Bool)):(zc3 sh l).map (·.1)=l.map (·.1):=by
 apply ybf;intro k;unfold zc3 mapW;rw[yaj,yaj,zdy];cases l[k]? <;> rfl
theorem zia {sh:Nat}{cs:List Nat}{ms:List Bool}(h:cs.length=ms.length):zc3 sh (cs.zip ms)=cs.zip (zcp sh cs ms):=by
 have e:=zjw (zc3 sh (cs.zip ms));rw[zmx,ziI h]at e;exact e.symm
theorem zlG (cs:List Nat):zcV cs=cs.zip (cs.map fun _=>false):=by
 unfold zcV
 induction cs with
 | nil=>rfl
 | cons c cs ih=>
  show (c,false)::cs.map (fun x=>(x,false))=(c,false)::cs.zip (cs.map fun _=>false);rw[ih]
theorem zh8 (cs:List Nat):zeM cs=zcp 0 cs (zcp 1 cs (zcp 2 cs (cs.map fun _=>false))):=by
 have l1:cs.length=(cs.map fun _=>false).length:=by rw[yab]
 have l2:cs.length=(zcp 2 cs (cs.map fun _=>false)).length:=by rw[zaT l1,← l1]
 unfold zeM marked;rw[zlG,zia l1,zia l2];rfl
theorem zdW {sh:Nat}{cs:List Nat}{ms:List Bool}(hl:cs.length=ms.length){k:Nat}(h:k < cs.length):(zcp sh cs ms)[k]?=some (ms.getD k false || (decide (cs.getD k 0=sh) && decide (1≤k) && !ms.getD (k - 1) false && !ms.getD (k+1) false)):=by
 unfold zcp zc3 mapW;have gz:∀ j,(cs.zip ms)[j]?=if h:j < cs.length then some (cs[j],ms[j]'(by omega)) else none:=fun j=>by
  split
  ·rename_i q;rw[yac (by rw[yco];omega),List.getElem_zip]
  ·exact ya8 (by rw[yco];omega)
 have gm:∀ j,ms.getD j false=(((cs.zip ms)[j]?).map (·.2)).getD false:=fun j=>by
  rw[gz];split
  ·rw[yad,yac (by omega)];rfl
  ·rw[yad,ya8 (by omega)];rfl
 rw[yaj,zdy,gm k,gm (k+1),gm (k - 1),yad,yac h];have e:=gz k;rw[dif_pos h]at e;rw[e];show some _=some _;unfold zpN;cases k with
 | zero=>simp
 | succ k=>
  have e2:=gz k;rw[dif_pos (by omega)]at e2;simp[e2]
def mixM (sh:Nat)(cs:List Nat)(ms:List Bool)(k:Nat):List Bool:=(zcp sh cs ms).take k++ms.drop k
theorem zn7 {sh:Nat}{cs:List Nat}{ms:List Bool}(hl:cs.length=ms.length){k:Nat}(h:cs.length≤k):mixM sh cs ms k=zcp sh cs ms:=by
 unfold mixM;rw[yat (by rw[zaT hl];omega),ya2 (by omega),yaI]
theorem zf0 {sh:Nat}{cs:List Nat}{ms:List Bool}(hl:cs.length=ms.length)(k:Nat):(mixM sh cs ms k).length=cs.length:=by
 unfold mixM;rw[yaf,yar,yaL,zaT hl];omega
theorem zcK {sh:Nat}{cs:List Nat}{ms:List Bool}(hl:cs.length=ms.length)(k j:Nat):(mixM sh cs ms k)[j]?=if j < k then (zcp sh cs ms)[j]? else ms[j]?:=by
 unfold mixM;by_cases hk:k≤ms.length
 ·rw[List.getElem?_append,yar,zaT hl,ybk hk];split
  ·rw[ybL];rw[if_pos (by assumption)]
  ·rw[ybu];congr 1;omega
 ·rw[ya2 (by omega),yaI,yat (by rw[zaT hl];omega)];split
  ·rfl
  ·rw[ya8 (by rw[zaT hl];omega),ya8 (by omega)]
def zo8 (ms:List Bool)(k:Nat):Bool:=!ms.getD (k - 1) false && !ms.getD k false && !ms.getD (k+1) false
theorem zmr {sh:Nat}{cs:List Nat}{ms:List Bool}(hl:cs.length=ms.length){k:Nat}(h:k < cs.length)(hn:¬ (1≤k∧cs.getD k 0=sh∧zo8 ms k=true)):mixM sh cs ms (k+1)=mixM sh cs ms k:=by
 apply ybf;intro j;rw[zcK hl,zcK hl];by_cases c:j < k
 ·rw[if_pos c,if_pos (by omega)]
 ·rw[if_neg c];split
  ·have:j=k:=by omega
   subst this;rw[zdW hl h];unfold zo8 at hn;rw[yac (by omega)];have e:ms.getD j false=ms[j]'(by omega):=by
    rw[yad,yac (by omega)];rfl
   rw[e]at hn ⊢;congr 1;generalize ms[j]=a at hn ⊢;generalize ms.getD (j - 1) false=b at hn ⊢;generalize ms.getD (j+1) false=d at hn ⊢;cases a <;> cases b <;> cases d <;> simp at hn ⊢
   intro q;omega
  ·rfl
structure zdG (ms:List Bool)(sp:List Nat):Prop where
 up:sp.Pairwise (· < ·)
 iff:∀ j,j∈sp↔ms.getD j false=true
theorem znx (ms:List Bool):zdG ms ((List.range ms.length).filter fun k=>ms.getD k false):=by
 refine ⟨List.Pairwise.filter _ ycA,fun j=>?_⟩;rw[ya7,yaX];constructor
 ·exact fun h=>h.2
 ·intro h;refine ⟨?_,h⟩;rw[yad]at h;cases e:ms[j]? with
  | none=>rw[e]at h;cases h
  | some x=>exact (yao.mp e).1
theorem zdG.lt {ms:List Bool}{sp:List Nat}(S:zdG ms sp){j:Nat}(h:j∈sp):j < ms.length:=by
 have h:=(S.iff j).mp h;rw[yad]at h;cases e:ms[j]? with
 | none=>rw[e]at h;cases h
 | some x=>exact (yao.mp e).1
theorem zdG.step {ms:List Bool}{sp:List Nat}(S:zdG ms sp)(M:zdH ms){t:Nat}(h:t+1 < sp.length):sp[t]+2≤sp[t+1]∧sp[t+1]≤sp[t]+3:=by
 have up:=yba.mp S.up;have lt:=up t (t+1) (by omega) h (by omega);have m0:=(S.iff _).mp (yaG (show t < sp.length by omega));have m1:=(S.iff _).mp (yaG h);have l1:=S.lt (yaG h);have no:∀ j,sp[t] < j→j < sp[t+1]→ms.getD j false=false:=fun j a b=>by
  cases e:ms.getD j false with
  | false=>rfl
  | true=>
   obtain ⟨u,hu,q⟩:=ybb ((S.iff j).mpr e);have c1:¬ u≤t:=fun z=>by
    by_cases z':u=t
    ·subst z';omega
    ·have:=up u t hu (by omega) (by omega);omega
   have c2:¬ t+1≤u:=fun z=>by
    by_cases z':u=t+1
    ·subst z';omega
    ·have:=up (t+1) u h hu (by omega);omega
   omega
 refine ⟨?_,?_⟩
 ·by_cases c:sp[t+1]=sp[t]+1
  ·rw[c]at m1;exact (M.ind _ m0 m1).elim
  ·omega
 ·refine ybq fun c=>?_;rcases M.dom (sp[t]+2) (by omega) (by omega) with q | q | q
  ·rw[no (sp[t]+2 - 1) (by omega) (by omega)]at q;cases q
  ·rw[no (sp[t]+2) (by omega) (by omega)]at q;cases q
  ·rw[no (sp[t]+2+1) (by omega) (by omega)]at q;cases q
theorem zdG.first {ms:List Bool}{sp:List Nat}(S:zdG ms sp)(M:zdH ms)(h:2≤ms.length):∃ hp:0 < sp.length,1≤sp[0]∧sp[0]≤2:=by
 have ex:∃ j,j≤2∧ms.getD j false=true:=by
  rcases M.dom 1 (by omega) (by omega) with q | q | q
  ·exact ⟨0,by omega,q⟩
  ·exact ⟨1,by omega,q⟩
  ·exact ⟨2,by omega,q⟩
 obtain ⟨j,hj,e⟩:=ex;obtain ⟨u,hu,q⟩:=ybb ((S.iff j).mpr e);refine ⟨by omega,?_,?_⟩
 ·have m0:=(S.iff _).mp (yaG (show 0 < sp.length by omega));refine ycB fun z=>?_;rw[z,M.fst]at m0;cases m0
 ·by_cases c:u=0
  ·subst c;omega
  ·have:=yba.mp S.up 0 u (by omega) hu (by omega);omega
theorem zdG.last {ms:List Bool}{sp:List Nat}(S:zdG ms sp)(M:zdH ms)(h:2≤ms.length)(hp:0 < sp.length):ms.length≤sp[sp.length - 1]+2:=by
 have ex:∃ j,ms.length - 2≤j∧ms.getD j false=true:=by
  rcases M.dom (ms.length - 1) (by omega) (by omega) with q | q | q
  ·exact ⟨_,by omega,q⟩
  ·exact ⟨_,by omega,q⟩
  ·exact ⟨_,by omega,q⟩
 obtain ⟨j,hj,e⟩:=ex;obtain ⟨u,hu,q⟩:=ybb ((S.iff j).mpr e);by_cases c:u=sp.length - 1
 ·subst c;omega
 ·have:=yba.mp S.up u (sp.length - 1) hu (by omega) (by omega);omega
theorem zdG.low {ms:List Bool}{sp:List Nat}(S:zdG ms sp)(M:zdH ms):∀(t:Nat) (h:t < sp.length),2 * t+1≤sp[t]
 | 0,h=>by
  have m0:=(S.iff _).mp (yaG h);refine ycB fun z=>?_;rw[z,M.fst]at m0;cases m0
 | t+1,h=>by
  have a:=zdG.low S M t (by omega);have b:=(S.step M h).1;omega
theorem zdG.half {ms:List Bool}{sp:List Nat}(S:zdG ms sp)(M:zdH ms):2 * sp.length≤ms.length:=by
 by_cases c:sp.length=0
 ·omega
 ·have a:=S.low M (sp.length - 1) (by omega);have b:=S.lt (yaG (show sp.length - 1 < sp.length by omega));omega
theorem zdG.none {ms:List Bool}{sp:List Nat}(S:zdG ms sp)(M:zdH ms)(h:ms.length < 2):sp=[]:=by
 have:=S.half M;exact ycm (by omega)
def zdg {α:Type}(es:List α)(ms:List Bool):List α:=((es.zip ms).filter (·.2)).map (·.1)
def colN (xs:List Nat):Nat→List Nat
 | 0=>xs
 | i+1=>recL (3+i) (colN xs i)
theorem zjk (xs:List Nat)(i:Nat):(colN xs i).length=xs.length:=by
 induction i with
 | zero=>rfl
 | succ i ih=>rw[colN,za4,ih]
theorem zor {xs:List Nat}(h:Unl xs)(i:Nat):Unl (colN xs i):=by
 induction i with
 | zero=>exact h
 | succ i ih=>exact zoC (zfF (unlZ ih))
def mkN (cs:List Nat):Nat→List Bool
 | 0=>cs.map fun _=>false
 | i+1=>zcp (2 - i) cs (mkN cs i)
theorem zmq (cs:List Nat):mkN cs 3=zeM cs:=(zh8 cs).symm
theorem zkX (cs:List Nat)(i:Nat):cs.length=(mkN cs i).length:=by
 induction i with
 | zero=>rw[mkN,yab]
 | succ i ih=>rw[mkN,zaT ih,ih]
theorem zn6 {sh:Nat}{cs:List Nat}{ms:List Bool}(hl:cs.length=ms.length):mixM sh cs ms 1=ms:=by
 by_cases h:0 < cs.length
 ·rw[zmr hl h (fun z=>by omega)];rfl
 ·have:ms=[]:=ycm (by omega);subst this;unfold mixM;rw[ycm (show (zcp sh cs []).length=0 by rw[zaT hl];rfl)];rfl
def zaC (ps:List Nat):Prop:=∀ i (h:i < ps.length),ps[i]≤i
def par (ps:List Nat):Nat→Option Nat
 | 0=>none
 | k+1=>ps[k]?
theorem zaP {ps:List Nat}(T:zaC ps){k p:Nat}(h:par ps k=some p):p < k∧k < ps.length+1:=by
 cases k with
 | zero=>cases h
 | succ k=>
  obtain ⟨h1,rfl⟩:=yao.mp (show ps[k]?=some p from h);have:=T k h1;omega
theorem zj1 {ps:List Nat}{k:Nat}(h1:1≤k)(h2:k < ps.length+1):∃ p,par ps k=some p:=by
 cases k with
 | zero=>omega
 | succ k=>exact ⟨_,yac (show k < ps.length by omega)⟩
theorem znK {ps:List Nat}{k:Nat}(h2:k < ps.length+1)(h:par ps k=none):k=0:=by
 cases k with
 | zero=>rfl
 | succ k=>
  have:=List.getElem?_eq_none_iff.mp (show ps[k]?=none from h);omega
def wayF (ps:List Nat)(one:Nat):Nat→Nat→Option (List Nat)
 | 0,_=>none
 | f+1,o=>if o=one then some [o] else match par ps o with
  | none=>none
  | some p=>(wayF ps one f p).map (· ++ [o])
theorem zhK {ps:List Nat}(T:zaC ps){one:Nat}:∀ f g o,o < f→o < g→wayF ps one f o=wayF ps one g o
 | 0,_,_,h,_=>absurd h (ybR _)
 | _,0,_,_,h=>absurd h (ybR _)
 | f+1,g+1,o,hf,hg=>by
  unfold wayF;split
  ·rfl
  ·cases e:par ps o with
   | none=>rfl
   | some p=>
    have:=(zaP T e).1;show (wayF ps one f p).map _=(wayF ps one g p).map _;rw[zhK T f g p (by omega) (by omega)]
def wayL (ps:List Nat)(one o:Nat):Option (List Nat):=wayF ps one (o+1) o
theorem zlr {ps:List Nat}{o:Nat}:wayL ps o o=some [o]:=by
 unfold wayL wayF;rw[if_pos rfl]
theorem zeh {ps:List Nat}(T:zaC ps){one o:Nat}(h:o≠one):wayL ps one o=match par ps o with
  | none=>none
  | some p=>(wayL ps one p).map (· ++ [o]):=by
 unfold wayL;rw[wayF,if_neg h];cases e:par ps o with
 | none=>rfl
 | some p=>
  show (wayF ps one o p).map _=(wayF ps one (p+1) p).map _;rw[zhK T o (p+1) p (zaP T e).1 (by omega)]
theorem zls {ps:List Nat}(T:zaC ps){one:Nat}:∀ n o,o≤n→o < one→wayL ps one o=none
 | n,o,hn,h=>by
  rw[zeh T (by omega)];cases e:par ps o with
  | none=>rfl
  | some p=>
   have hp:=(zaP T e).1;show (wayL ps one p).map _=none;cases n with
   | zero=>omega
   | succ n=>rw[zls T n p (by omega) (by omega)];rfl
def zhH (ps:List Nat)(w:List Nat):Prop:=∀ t,t+1 < w.length→par ps (w.getD (t+1) 0)=some (w.getD t 0)
theorem zlh {ps:List Nat}{w:List Nat}{x:Nat}(h:zhH ps w)(hx:w≠[]→par ps x=some (w.getD (w.length - 1) 0)):zhH ps (w++[x]):=by
 intro t ht;rw[yaf,yaJ]at ht;have e0:(w++[x]).getD t 0=w.getD t 0:=by
  rw[yad,yad,ya0 (by omega)]
 rw[e0];by_cases c:t+1 < w.length
 ·have e1:(w++[x]).getD (t+1) 0=w.getD (t+1) 0:=by
   rw[yad,yad,ya0 c]
  rw[e1];exact h t c
 ·have et:t+1=w.length:=by omega
  have e1:(w++[x]).getD (t+1) 0=x:=by
   rw[yad,et,yaP (yaa _),yby];rfl
  rw[e1];have:=hx (fun z=>by rw[z]at et;simp at et);rw[← et,ybQ]at this;exact this
def isB (ps:List Nat)(k j:Nat):Bool:=(wayL ps k j).isSome
def benL (ps:List Nat)(k n:Nat):List Nat:=(List.range n).filter (isB ps k)
theorem zdf {ps:List Nat}{k:Nat}:isB ps k k=true:=by
 unfold isB;rw[zlr];rfl
theorem zfr {ps:List Nat}(T:zaC ps){k j:Nat}(h:j < k):isB ps k j=false:=by
 unfold isB;rw[zls T j j (yaa _) h];rfl
theorem zbX {ps:List Nat}(T:zaC ps){k j p:Nat}(h:j≠k)(e:par ps j=some p):isB ps k j=isB ps k p:=by
 unfold isB;rw[zeh T h,e];show ((wayL ps k p).map _).isSome=_;cases wayL ps k p <;> rfl
theorem zov {ps:List Nat}(T:zaC ps)(k:Nat):benL ps k (k+1)=[k]:=by
 unfold benL;rw[ybz,ya6];have e1:(List.range k).filter (isB ps k)=[]:=by
  rw[ycp];intro j hj z;rw[zfr T (yaX.mp hj)]at z;cases z
 rw[e1,yce,ybg zdf];rfl
theorem zcd {ps:List Nat}{k n j:Nat}:j∈benL ps k n↔j < n∧isB ps k j=true:=by
 unfold benL;rw[ya7,yaX]
theorem ziC {ps:List Nat}{k n:Nat}:benL ps k (n+1)=benL ps k n++(if isB ps k n=true then [n] else []):=by
 unfold benL;rw[ybz,ya6];congr 1;by_cases h:isB ps k n=true
 ·rw[if_pos h,ybg h];rfl
 ·rw[if_neg h,ybS h];rfl
theorem zkv (ps:List Nat)(k n:Nat):(benL ps k n).length≤n:=by
 have:=yb6 (isB ps k) (List.range n);rw[ya5]at this;exact this
theorem zjo (ps:List Nat)(k n:Nat):(benL ps k n).Pairwise (· < ·):=List.Pairwise.filter _ ycA
theorem zkj {ps:List Nat}(T:zaC ps):∀ n j,j≤n→j < ps.length+1→isB ps 0 j=true
 | n,j,hn,h=>by
  by_cases c:j=0
  ·rw[c];exact zdf
  ·obtain ⟨p,e⟩:=zj1 (by omega) h;have:=(zaP T e).1;rw[zbX T c e];cases n with
   | zero=>omega
   | succ n=>exact zkj T n p (by omega) (by omega)
theorem znh {ps:List Nat}(T:zaC ps):benL ps 0 (ps.length+1)=List.range (ps.length+1):=by
 unfold benL;rw[ycC];exact fun j hj=>zkj T j j (yaa _) (yaX.mp hj)
def zaN (ps:List Nat)(k n:Nat):List Nat:=(List.range n).filter fun j=>decide (par ps j=some k)
theorem zaD {ps:List Nat}{k n j:Nat}:j∈zaN ps k n↔j < n∧par ps j=some k:=by
 unfold zaN;rw[ya7,yaX,decide_eq_true_eq]
theorem zdh {ps:List Nat}{k n:Nat}:zaN ps k (n+1)=zaN ps k n++(if par ps n=some k then [n] else []):=by
 unfold zaN;rw[ybz,ya6];congr 1;by_cases h:par ps n=some k
 ·rw[if_pos h,ybg (by exact yam h)];rfl
 ·rw[if_neg h,ybS (by rw[yaq h];decide)];rfl
theorem zc6 (ps:List Nat)(k n:Nat):(zaN ps k n).length≤n:=by
 have:=yb6 (fun j=>decide (par ps j=some k)) (List.range n);rw[ya5]at this;exact this
theorem ziu (ps:List Nat)(k n:Nat):(zaN ps k n).Pairwise (· < ·):=List.Pairwise.filter _ ycA
theorem zeP {ps:List Nat}(T:zaC ps){k:Nat}:∀ n j,j≤n→j < ps.length+1→(isB ps k j=true↔j=k∨∃ c,par ps c=some k∧isB ps c j=true)
 | n,j,hn,h=>by
  by_cases c:j=k
  ·constructor
   ·exact fun _=>.inl c
   ·intro _;rw[c];exact zdf
  ·cases e:par ps j with
   | none=>
    have j0:=znK h e;have no:∀ m,j≠m→isB ps m j=false:=fun m hm=>by
     unfold isB;rw[zeh T hm,e];rfl
    constructor
    ·intro z;rw[no k c]at z;cases z
    ·rintro (z | ⟨d,hd,z⟩)
     ·exact absurd z c
     ·by_cases y:j=d
      ·rw[← y,e]at hd;cases hd
      ·rw[no d y]at z;cases z
   | some p=>
    have hp:=(zaP T e).1;cases n with
    | zero=>omega
    | succ n=>
     have ih:=zeP T (k:=k) n p (by omega) (by omega);rw[zbX T c e,ih];constructor
     ·rintro (z | ⟨d,hd,z⟩)
      ·refine .inr ⟨j,?_,zdf⟩;rw[e,z]
      ·by_cases y:j=d
       ·rw[← y]at z;rw[zfr T hp]at z;cases z
       ·exact .inr ⟨d,hd,by rw[zbX T y e];exact z⟩
     ·rintro (z | ⟨d,hd,z⟩)
      ·exact absurd z c
      ·by_cases y:j=d
       ·subst y;rw[e]at hd;exact .inl (yag hd)
       ·rw[zbX T y e]at z;exact .inr ⟨d,hd,z⟩
theorem zeQ {ps:List Nat}(T:zaC ps){k c d:Nat}(hc:par ps c=some k)(hd:par ps d=some k)(hcd:c≠d):∀ n j,j≤n→isB ps c j=true→isB ps d j=true→False
 | n,j,hn,h1,h2=>by
  by_cases e1:j=c
  ·subst e1;rw[zbX T hcd hc,zfr T (zaP T hd).1]at h2;cases h2
  ·by_cases e2:j=d
   ·subst e2;rw[zbX T e1 hd,zfr T (zaP T hc).1]at h1;cases h1
   ·cases e:par ps j with
    | none=>
     unfold isB at h1;rw[zeh T e1,e]at h1;cases h1
    | some p=>
     have hp:=(zaP T e).1;rw[zbX T e1 e]at h1;rw[zbX T e2 e]at h2;cases n with
     | zero=>omega
     | succ n=>exact zeQ T hc hd hcd n p (by omega) h1 h2
theorem zkM {ps:List Nat}(T:zaC ps){k:Nat}(hk:k < ps.length+1):(k::((zaN ps k (ps.length+1)).map fun c=>benL ps c (ps.length+1)).flatten).Perm (benL ps k (ps.length+1)):=by
 have lt:∀{l:List Nat},l.Pairwise (· < ·)→l.Nodup:=fun h=>List.Pairwise.imp (fun {a b} (q:a < b)=>yau q) h;refine (List.perm_ext_iff_of_nodup ?_ (lt (zjo ps k _))).mpr fun j=>?_
 ·rw[yaW];refine ⟨fun h=>?_,?_⟩
  ·obtain ⟨l,hl,hj⟩:=ycq.mp h;obtain ⟨c,hc,rfl⟩:=yaA.mp hl;have h1:=(zaD.mp hc).2;have h2:=(zcd.mp hj).2;rw[zfr T (zaP T h1).1]at h2;cases h2
  ·show List.Pairwise _ _;rw[List.pairwise_flatten];refine ⟨fun l hl=>?_,?_⟩
   ·obtain ⟨c,hc,rfl⟩:=yaA.mp hl;exact lt (zjo ps c _)
   ·rw[yb2];refine List.Pairwise.imp_of_mem (fun {c d} hc hd hcd=>?_) (ziu ps k _);intro x hx y hy z;subst z;exact zeQ T (zaD.mp hc).2 (zaD.mp hd).2 (yau hcd) x x (yaa _) (zcd.mp hx).2 (zcd.mp hy).2
 ·rw[yal,ycq,zcd];constructor
  ·rintro (rfl | ⟨l,hl,hj⟩)
   ·exact ⟨hk,zdf⟩
   ·obtain ⟨c,hc,rfl⟩:=yaA.mp hl;obtain ⟨h1,h2⟩:=zcd.mp hj;exact ⟨h1,(zeP T j j (yaa _) h1).mpr (.inr ⟨c,(zaD.mp hc).2,h2⟩)⟩
  ·rintro ⟨h1,h2⟩;rcases (zeP T j j (yaa _) h1).mp h2 with q | ⟨c,hc,q⟩
   ·exact .inl q
   ·exact .inr ⟨_,yaA.mpr ⟨c,zaD.mpr ⟨(zaP T hc).2,hc⟩,rfl⟩,zcd.mpr ⟨h1,q⟩⟩
def zrK (t u:TS):TS:=fun D σ H=>∀ N:L2.St→Hp→Prop,(∀ σ' H',u D σ' H'→N σ' H')→t { D with nx:=N } σ H
theorem zbY {X:Cx}{st:Stmt}{rest:List Stmt}{t u:TS}(h1:PS X st t)(h2:PSs X rest u):PSs X (st::rest) (zrK t u):=fun pins s σ H D I h=>zag h1 h2 pins s σ H D I (h (u D) fun _ _ z=>z)
def zrI (t u:TS):TS:=fun D σ H=>∃ M:L2.St→Hp→Prop,(∀ N:L2.St→Hp→Prop,(∀ σ' H',M σ' H'→N σ' H')→t { D with nx:=N } σ H)∧∀ σ' H',M σ' H'→u D σ' H'
theorem zeA {X:Cx}{st:Stmt}{rest:List Stmt}{t u:TS}(h1:PS X st t)(h2:PSs X rest u):PSs X (st::rest) (zrI t u):=fun pins s σ H D I h=>by
 obtain ⟨M,h3,h4⟩:=h;exact zaJ h1 h2 pins s σ H D I ⟨M,h3 M fun _ _ z=>z,h4⟩
theorem zr2 {tb:TS}{D:Ends}{Pn:L2.St→Hp→Prop}{i:Nat}{x:V}{σ:L2.St}{H:Hp}(h:∀(N B:L2.St→Hp→Prop) (R:VK),(∀ σ H,Pn σ H→N σ H)→(∀ σ H,D.nx σ H→B σ H)→(∀ v H,D.rt v H→R v H)→tb { nx:=N,rt:=R,bk:=B,ct:=N } (σ.set i (some x)) H):zhw i x σ H fun σ2 H2=>tb { D with nx:=Pn,ct:=Pn,bk:=D.nx } σ2 H2:=h Pn D.nx D.rt (fun _ _ z=>z) (fun _ _ z=>z) (fun _ _ z=>z)
seal PSs PS PE PT PW PA PI PG PO PX
section
variable {P:Program}{w:World}{K:Frag}{mg:Str→Option Value}{base:Heap}
theorem znR (T:Txt K mg)(qbN:DF K mg "_law_mixed" zer zdP):FC P w K mg base 1 "_law_mixed" zdP zlK:=by
 refine qbN.ok qbv (fun vs H Q E h=>?_) (fun f cdv A outer s H vs Q E hr h=>?_)
 ·obtain ⟨c,k,rfl,_⟩:=h;rfl
 obtain ⟨c,k,rfl,q⟩:=h;refine ⟨_,(zag (zas (i:=2) qbv.nd rfl (Or.inl rfl) (zaw zfl (zaw zc1 (zaw zbe (zaw zbe (zaw zfl (pv 0) zae) (zaw zc1 zae (pv 1))) zae) zae) zae))
   (zag (zas (i:=3) qbv.nd rfl (Or.inl rfl) (zaw zfl (zaw zbe (zaw zbe (zaw zc1 (pv 2) (pv 2)) (zaw zc1 zae (pv 2))) (pv 1)) zae))
   (zaf (zao (zaw ziR (zaw zfl (zaw zbe (zaw zbe (zaw zc1 (pv 3) (pv 3)) (zaw zc1 zae (pv 3))) (zaw zc1 zae (pv 1))) zae) zae))))),?_⟩
 walk_at "rd"
 exact q _
theorem zn1 (T:Txt K mg)(qbO:DF K mg "_law_begin" zeu zdS):FC P w K mg base 1 "_law_begin" zdS (zlR K):=by
 refine qbO.ok qcY (fun vs H Q E h=>?_) (fun f cdv A outer s H vs Q E hr h=>?_)
 ·obtain ⟨L,ns,rfl,_⟩:=h;rfl
 obtain ⟨L,ns,rfl,hS,q⟩:=h;refine ⟨_,(zaf (zao (zpy (zha zbo (pv 0) (zha zbo zae (zha zbo zae zpw))) rfl rfl (by simp) (by decide)))),?_⟩;intro p hp;refine ⟨_,rfl,zad,[(.inr "script",.ref L),(.inr "at",.int 0),(.inr "left",.int 0)],rfl,(by show 3≤15;decide),?_⟩;have e:upd (upd H p (.dK [])) p (.dK (zfn [] [(.inr "script",.ref L),(.inr "at",.int 0),(.inr "left",.int 0)]))=upd H p (zdd L 0 0):=by
  rw[zpf];have:zfn [] [((.inr "script" : Key),V.ref L),(.inr "at",.int 0),(.inr "left",.int 0)]=[(.inr "script",.ref L),(.inr "at",.int 0),(.inr "left",.int 0)]:=by
   have a1:putK [] (.inr "script" : Key) (V.ref L)=[(.inr "script",.ref L)]:=zez (kvs:=[]) _ rfl;have a2:putK [((.inr "script" : Key),V.ref L)] (.inr "at") (.int 0)=[(.inr "script",.ref L),(.inr "at",.int 0)]:=by
    rw[zez _ (by rw[zbv (zd7 (show ("script" : Str) ≠ "at" by decide +kernel))];rfl)];rfl
   have a3:putK [((.inr "script" : Key),V.ref L),(.inr "at",.int 0)] (.inr "left") (.int 0)=[(.inr "script",.ref L),(.inr "at",.int 0),(.inr "left",.int 0)]:=by
    rw[zez _ (by rw[zbv (zd7 (show ("script" : Str) ≠ "left" by decide +kernel)),zbv (zd7 (show ("at" : Str) ≠ "left" by decide +kernel))];rfl)];rfl
   unfold zfn;simp only[List.foldl_cons,List.foldl_nil];rw[a1,a2,a3]
  rw[this];rfl
 rw[e];exact q p _ hp (zai hp _) ⟨ns,0,0,zad,(zai hp _).seq hS⟩
theorem zpA (T:Txt K mg)(qcp:DF K mg "_law_take" zfC zbb)(qc9:FC P w K mg base 1 "_law_mixed" zdP zlK):FC P w K mg base 2 "_law_take" zbb (zem K):=by
 refine qcp.ok qaR (fun vs H Q E h=>?_) (fun f cdv A outer s H vs Q E hr h=>?_)
 ·obtain ⟨d,L,m,rfl,_⟩:=h;rfl
 obtain ⟨d,L,m,rfl,⟨hm,hm'⟩,⟨ns,a,l,hd,hS⟩,q⟩:=h;refine ⟨_,(zag (zas (i:=2) qaR.nd rfl (Or.inl rfl) (zdv (zee hr) (pv 0) zbo (fun _ _=>rfl)))
   (zag (zas (i:=3) qaR.nd rfl (Or.inl rfl) (zdv (zee hr) (pv 0) zbo (fun _ _=>rfl)))
   (zaJ (za6 (zav zdx (zdv (zee hr) (pv 0) zbo (fun _ _=>rfl)) zae (zaB _)) (zag (ze2 (zee hr) (pv 0) zbo (zaw zbe (pv 2) zae) rfl)
   (zag (zas (i:=4) qaR.nd rfl (Or.inl rfl) zae)
   (zaJ (za6 (zav zkR (zal zam rfl T.qaz boot_len (zaa (pv 3) zac)) zae (zaB _)) (zaf (zas (i:=4) qaR.nd rfl (Or.inl rfl) (zau zay (pv 3) (zaw zfl (pv 2) (zal zam rfl T.qaz boot_len (zaa (pv 3) zac))) (fun _ _=>rfl)))) zaA)
   (zaJ (za6 (PW.pt (zgk (zav znM (pv 2) (zal zam rfl T.qaz boot_len (zaa (pv 3) zac)) (zaB _)) (zd4 (zav zh1 (zal zku rfl T.qd4 boot_abs (zaa (pv 4) zac)) (zaw zfj zae zae) (zaB _))))) (zaf (zao (zaw zfl (zaz qc9 hr (zaa (pv 4) (zaa (pv 2) zac))) (pv 1)))) zaA)
   (zaf (ze2 (zee hr) (pv 0) zbo (zal zku rfl T.qd4 boot_abs (zaa (pv 4) zac)) rfl)))))) zaA)
   (zag (zas (i:=5) qaR.nd rfl (Or.inl rfl) (zaw zfl (zdv (zee hr) (pv 0) zbo (fun _ _=>rfl)) (pv 1)))
   (zag (ze2 (zee hr) (pv 0) zbo (zaw ziR (zdv (zee hr) (pv 0) zbo (fun _ _=>rfl)) (pv 1)) rfl)
   (zaf (zao (pv 5)))))))),?_⟩
 refine ⟨_,rfl,_,_,rfl,zru hd,_,rfl,_,_,rfl,zk6 hd,?_⟩;refine ⟨fun σ' H'=>∃(x2 x3 x4 x5:Option V) (a' l':Int),σ'=[some (.ref d),some (.int m),x2,x3,x4,x5]∧H' d=some (zdd L a' l')∧Keep d H H',?_,?_⟩
 ·refine ⟨_,rfl,_,_,rfl,zhv hd,rfl,_,rfl,?_⟩;refine ite2 (fun _=>?_) (fun _=>?_)
  ·refine ⟨_,rfl,_,_,rfl,rfl,_,rfl,_,_,rfl,zqT hd,?_⟩;have hd1:upd H d (zdd L (a+1) l) d=some (zdd L (a+1) l):=zad;obtain ⟨-,k1⟩:=LS.set (a':=a+1) (l':=l) hd hS;have hS1:=zgY hd k1 hS;generalize upd H d (zdd L (a+1) l)=H1 at hd1 k1 hS1 ⊢;refine ⟨fun σ' H'=>∃ c:Int,σ'=[some (.ref d),some (.int m),some (.int a),some (.ref L),some (.int c),none]∧H1=H',?_,?_⟩
   ·refine ⟨_,rfl,_,_,rfl,.inl hS1,_,_,rfl,rfl,_,rfl,?_⟩;refine ite2 (fun c=>?_) (fun c=>?_)
    ·have c':(0:Int) < (((ns.map V.int).length:Nat):Int):=yaD c;obtain ⟨v,hv⟩:=zrD (ns:=ns) (k:=a) (by rw[yab]at c';omega);refine ⟨_,rfl,_,rfl,_,rfl,_,_,rfl,.inl hS1,_,_,rfl,rfl,c',_,_,_,_,rfl,rfl,hS1,hv,?_⟩;exact ⟨v,rfl,rfl⟩
    ·exact ⟨0,rfl,rfl⟩
   rintro σ' H' ⟨c,rfl,rfl⟩;refine ⟨fun σ' H'=>σ'=[some (.ref d),some (.int m),some (.int a),some (.ref L),some (.int c),none]∧H1=H',?_,?_⟩
   ·refine ⟨_,rfl,_,rfl,_,_,rfl,.inl hS1,_,_,rfl,rfl,_,rfl,?_⟩;refine ite2 (fun _=>?_) (fun _=>?_)
    ·refine iteT ?_;refine ⟨_,rfl,_,rfl,c,a,rfl,fun v=>⟨_,rfl,_,_,rfl,rfl,hm,?_⟩⟩;exact q _ _ (ycj _ (by omega)) (yck _ hm) k1 ⟨ns,a+1,l,hd1,hS1⟩
    ·refine ⟨_,rfl,_,rfl,_,_,rfl,rfl,⟨by decide,by decide,by decide⟩,_,_,rfl,rfl,_,rfl,?_⟩;refine ite2 (fun _=>?_) (fun _=>?_)
     ·refine ⟨_,rfl,_,rfl,c,a,rfl,fun v=>⟨_,rfl,_,_,rfl,rfl,hm,?_⟩⟩;exact q _ _ (ycj _ (by omega)) (yck _ hm) k1 ⟨ns,a+1,l,hd1,hS1⟩
     ·exact ⟨rfl,rfl⟩
   rintro σ' H' ⟨rfl,rfl⟩;refine ⟨_,rfl,_,rfl,_,rfl,_,_,rfl,zjX hd1,?_⟩;obtain ⟨-,k2⟩:=LS.set (a':=a+1) (l':=if c < 0 then -c else c) hd1 hS1
   exact ⟨_,_,_,_,_,_,rfl,zad,k1.trans k2⟩
  ·exact ⟨_,_,_,_,a,l,rfl,hd,Keep.refl _ _⟩
 rintro σ' H' ⟨x2,x3,x4,x5,a',l',rfl,hd',k'⟩;have hS':=zgY hd k' hS;refine ⟨_,rfl,_,_,rfl,zhv hd',_,rfl,_,_,rfl,rfl,hm,?_⟩;refine ⟨_,rfl,_,_,rfl,zhv hd',_,rfl,_,_,rfl,rfl,⟨hm,hm'⟩,_,rfl,_,_,rfl,zjX hd',?_⟩;obtain ⟨s1,k1⟩:=LS.set (a':=a') (l':=l' / m) hd' hS';refine ⟨_,rfl,?_⟩;exact q _ _ (ycj _ (by omega)) (yck _ hm) (k'.trans k1) s1
inductive zby (K:Frag)(H:Hp):V→Bool→Prop where
 | int (i:Int):zby K H (.int i) true
 | bl (b:Bool):zby K H (.bl b) false
 | oth (x:V) (t:String) (ty:TyOf K H x (.type t)) (h2:kitO t "int" = some false):zby K H x false
def zgW (K:Frag):Sp:=fun vs H Q _=>∃(x:V) (b:Bool),vs=[x]∧zby K H x b∧Q (.bl b) H
theorem znN (T:Txt K mg)(qbw:DF K mg "is_whole" zdK zbR):FC P w K mg base 1 "is_whole" zbR (zgW K):=by
 refine qbw.ok qcG (fun vs H Q E h=>?_) (fun f cdv A outer s H vs Q E hr h=>?_)
 ·obtain ⟨x,b,rfl,_⟩:=h;rfl
 obtain ⟨x,b,rfl,hk,q⟩:=h;refine ⟨_,(zaf (zao (zl1 (zal zdi rfl T.qae boot_isinstance (zaa (pv 0) (zaa (zdw (v:=.ty "int") rfl T.qd7 boot_int rfl) zac))) (zjZ (zqV (zal zdi rfl T.qae boot_isinstance (zaa (pv 0) (zaa (zdw (v:=.ty "bool") rfl T.qd5 boot_bool rfl) zac)))))))),?_⟩;cases hk with
 | int i=>
  refine ⟨_,rfl,_,_,_,_,rfl,.int _,zrk,_,rfl,?_⟩;refine iteT ?_;refine ⟨_,rfl,_,_,_,_,rfl,.int _,zrl,_,rfl,?_⟩;exact q
 | bl c=>
  refine ⟨_,rfl,_,_,_,_,rfl,.bl _,(show kitO "bool" "int" = some true by decide +kernel),_,rfl,?_⟩;refine iteT ?_;refine ⟨_,rfl,_,_,_,_,rfl,.bl _,zrm,_,rfl,?_⟩;exact q
 | oth x t ty h2=>
  refine ⟨_,rfl,_,_,_,_,rfl,ty,h2,_,rfl,?_⟩;refine iteF ?_;exact q
def zqK:Sp:=fun vs H Q _=>∃ a b:Nat,vs=[.int a,.int b]∧a≠b∧Q (.int (lu a b:Nat)) H
theorem zq9 (T:Txt K mg)(qaK:DF K mg "lowest_unlike" zbF zbx):FC P w K mg base 1 "lowest_unlike" zbx zqK:=by
 refine qaK.ok qa0 (fun vs H Q E h=>?_) (fun f cdv A outer s H vs Q E hr h=>?_)
 ·obtain ⟨a,b,rfl,_⟩:=h;rfl
 obtain ⟨a,b,rfl,hab,q⟩:=h;refine ⟨_,(zag (zas (i:=2) qa0.nd rfl (Or.inl rfl) (zaw zq4 (pv 0) (pv 1)))
   (zaf (zao (zaw zbO (zqW F.plainAttrs_int F.slot_int_bit_length F.type_int_bit_length zho (zaw zoX (pv 2) (ze3 zcT (pv 2)))) zae)))),?_⟩
 refine ⟨_,rfl,_,rfl,_,_,rfl,rfl,_,rfl,_,rfl,_,rfl,_,_,rfl,rfl,rfl,_,rfl,rfl,_,_,rfl,rfl,?_⟩;rw[← zrh a b hab]at q;exact q
def znz (K:Frag):Sp:=fun vs H Q _=>∃ d L:Addr,vs=[.ref d]∧LS K L d H∧∀(v:Int) (H':Hp),-(10 ^ 60) < v→v < 10 ^ 60→Keep d H H'→LS K L d H'→Q (.int v) H'
theorem zoc {x m:Int}(h1:-999≤x)(h2:x≤999)(h3:0 < m)(h4:m≤10 ^ 57):-(10 ^ 60) < x * m∧x * m < 10 ^ 60:=by
 have a:=Int.mul_le_mul_of_nonneg_right h2 (Int.le_of_lt h3);have b:=Int.mul_le_mul_of_nonneg_right h1 (Int.le_of_lt h3);omega
theorem zrb (T:Txt K mg)(qcM:DF K mg "_law_key" zg4 zeG)(qac:FC P w K mg base 2 "_law_take" zbb (zem K)):FC P w K mg base 3 "_law_key" zeG (znz K):=by
 refine qcM.ok qcV (fun vs H Q E h=>?_) (fun f cdv A outer s H vs Q E hr h=>?_)
 ·obtain ⟨d,L,rfl,_⟩:=h;rfl
 obtain ⟨d,L,rfl,hs,q⟩:=h;refine ⟨_,(zag (zas (i:=1) qcV.nd rfl (Or.inl rfl) (zaz qac hr (zaa (pv 0) (zaa zae zac))))
   (zaJ (za6 (zav zh1 (pv 1) zae (zaB _)) (zaf (zao (zaz qac hr (zaa (pv 0) (zaa zae zac))))) zaA)
   (zaJ (za6 (zav zh1 (pv 1) zae (zaB _)) (zaf (zao (zaw zbO (zaz qac hr (zaa (pv 0) (zaa zae zac))) zae))) zaA)
   (zaJ (za6 (zav zdx (pv 1) zae (zaB _)) (zaf (zao (zaw zc1 (zaw zbO (zaz qac hr (zaa (pv 0) (zaa zae zac))) zae) (zau zay (zaI (zaa zae (zaa (zaw zfj zae zae) (zaa (zaw zfj zae zae) (zaa (zaw zfj zae zae) zac))))) (zaz qac hr (zaa (pv 0) (zaa zae zac))) (fun _ _=>rfl))))) zaA)
   (zaf (zao (zaw zc1 (zau zay (zaI (zaa zae (zaa (ze3 zcT zae) zac))) (zaz qac hr (zaa (pv 0) (zaa zae zac))) (fun _ _=>rfl)) (zaw zbO (zaw zbO (zaw zfj zae zae) zae) (zaz qac hr (zaa (pv 0) (zaa zae zac))))))))))),?_⟩
 refine ⟨_,rfl,d,L,8,rfl,by decide,hs,fun w1 H1 w0 w8 k1 s1=>?_⟩;have nd:∀{H':Hp} {p:Addr},LS K L d H'→H' p=none→p≠d:=fun s hp z=>by
  obtain ⟨_,_,_,e,_⟩:=s.ex;rw[← z,hp]at e;cases e
 refine ⟨fun σ' H'=>σ'=[some (.ref d),some (.int w1)]∧H1=H',?_,?_⟩
 ·refine ⟨_,rfl,_,_,rfl,rfl,_,rfl,?_⟩;refine ite2 (fun c=>?_) (fun c=>?_)
  ·refine ⟨_,rfl,d,L,10,rfl,by decide,s1,fun u H2 u0 u1 k2 s2=>?_⟩;exact q u H2 (by omega) (by omega) (k1.trans k2) s2
  ·exact ⟨rfl,rfl⟩
 rintro σ' H' ⟨rfl,rfl⟩;refine ⟨fun σ' H'=>σ'=[some (.ref d),some (.int w1)]∧H1=H',?_,?_⟩
 ·refine ⟨_,rfl,_,_,rfl,rfl,_,rfl,?_⟩;refine ite2 (fun c=>?_) (fun c=>?_)
  ·refine ⟨_,rfl,d,L,60,rfl,by decide,s1,fun u H2 u0 u1 k2 s2=>⟨_,_,rfl,rfl,?_⟩⟩;exact q (u - 30) H2 (by omega) (by omega) (k1.trans k2) s2
  ·exact ⟨rfl,rfl⟩
 rintro σ' H' ⟨rfl,rfl⟩;refine ⟨fun σ' H'=>σ'=[some (.ref d),some (.int w1)]∧H1=H',?_,?_⟩
 ·refine ⟨_,rfl,rfl,_,rfl,?_⟩;refine ite2 (fun c=>?_) (fun c=>?_)
  ·refine ⟨_,rfl,d,L,1999,rfl,by decide,s1,fun u H2 u0 u1 k2 s2=>⟨_,_,rfl,rfl,?_⟩⟩;refine ⟨_,_,rfl,rfl,⟨by decide,by decide,by decide⟩,_,_,rfl,rfl,⟨by decide,by decide,by decide⟩,_,_,rfl,rfl,⟨by decide,by decide,by decide⟩,(by show 4≤sizeLine;decide),fun p hp=>?_⟩;refine ⟨_,rfl,d,L,4,rfl,by decide,s2.of_new hp _,fun b H3 b0 b1 k3 s3=>?_⟩;obtain ⟨m,hat,m0,m1⟩:∃ m:Int,atI [V.int 1,V.int (10 ^ (19:Int).toNat),V.int (10 ^ (38:Int).toNat),V.int (10 ^ (57:Int).toNat)] b=some (.int m)∧0 < m∧m≤10 ^ 57:=by
    have z:b=0∨b=1∨b=2∨b=3:=by omega
    rcases z with rfl | rfl | rfl | rfl
    ·exact ⟨_,rfl,by decide +kernel,by decide +kernel⟩
    ·exact ⟨_,rfl,by decide +kernel,by decide +kernel⟩
    ·exact ⟨_,rfl,by decide +kernel,by decide +kernel⟩
    ·exact ⟨_,rfl,by decide +kernel,by decide +kernel⟩
   refine ⟨_,_,_,_,rfl,rfl,SqL.of (k3 p _ (nd s2 hp) zad),hat,_,_,rfl,rfl,.inl ⟨by omega,by omega⟩,?_⟩;obtain ⟨f1,f2⟩:=zoc (x:=u - 999) (m:=m) (by omega) (by omega) m0 m1;exact q _ H3 f1 f2 ((k1.trans k2).trans ((zai hp _).keep.trans k3)) s3
  ·exact ⟨rfl,rfl⟩
 rintro σ' H' ⟨rfl,rfl⟩;refine ⟨_,rfl,(by show 2≤sizeLine;decide),fun p hp=>?_⟩;refine ⟨_,rfl,d,L,2,rfl,by decide,s1.of_new hp _,fun b H2 b0 b1 k2 s2=>?_⟩;obtain ⟨m,hat,hm⟩:∃ m:Int,atI [V.int 1,V.int (-1)] b=some (.int m)∧(m=1∨m = -1):=by
  have z:b=0∨b=1:=by omega
  rcases z with rfl | rfl
  ·exact ⟨_,rfl,.inl rfl⟩
  ·exact ⟨_,rfl,.inr rfl⟩
 refine ⟨_,_,_,_,rfl,rfl,SqL.of (k2 p _ (nd s1 hp) zad),hat,_,_,rfl,rfl,⟨by decide,by decide,by decide⟩,_,_,rfl,rfl,_,rfl,d,L,3,rfl,by decide,s2,fun u H3 u0 u1 k3 s3=>⟨_,_,rfl,rfl,_,_,rfl,rfl,.inl ⟨by omega,by omega⟩,?_⟩⟩;have e60:(10:Int) ^ (60:Int).toNat=10 ^ 60:=rfl;rw[e60];have kk:=k1.trans ((zai hp _).keep.trans (k2.trans k3));rcases hm with rfl | rfl
 ·exact q _ H3 (by omega) (by omega) kk s3
 ·exact q _ H3 (by omega) (by omega) kk s3
def Rise (es:List (Int×Int)):Prop:=es.Pairwise fun a b=>pLt a b=true
def zeg (k:Int)(e:Int×Int):Prop:=-(10 ^ 60) < e.1∧e.1 < 10 ^ 60∧0≤e.2∧e.2 < k
theorem zlY {κ:Type}[DecidableEq κ](kvs:List (κ×V))(k:κ)(v:V):(putK kvs k v).map (·.1)=if (kvs.any fun kv=>decide (kv.1=k))=true then kvs.map (·.1) else kvs.map (·.1)++[k]:=by
 unfold putK;split
 ·rw[ybc];apply ycD;intro a ha;show (if a.1=k then (a.1,v) else a).1=a.1
  split <;> rfl
 ·rw[yan];rfl
def zit (e:Int×Int):Int:=64 * (if 0≤e.1 then 2 * e.1 else -2 * e.1 - 1)+e.2
def zgm (e:Int×Int):Nat:=(zit e).toNat
theorem zfP {e:Int×Int}(h:zeg 64 e):((zgm e:Nat):Int)=zit e:=by
 obtain ⟨h1,h2,h3,h4⟩:=h;unfold zgm zit;split <;> omega
theorem zos {e:Int×Int}(h:zeg 64 e):zgm e < 2 ^ 207:=by
 have z:=zfP h;obtain ⟨h1,h2,h3,h4⟩:=h;unfold zit at z;split at z <;> omega
theorem zna {e f:Int×Int}(h:zeg 64 e)(g:zeg 64 f)(z:zgm e=zgm f):e=f:=by
 have z1:=zfP h;have z2:=zfP g;obtain ⟨h1,h2,h3,h4⟩:=h;obtain ⟨g1,g2,g3,g4⟩:=g;obtain ⟨a,b⟩:=e;obtain ⟨c,d⟩:=f;rw[z,z2]at z1;unfold zit at z1;dsimp only at *;have:a=c∧b=d:=by
  split at z1 <;> split at z1 <;> omega
 rw[this.1,this.2]
def zoQ (K:Frag):Sp:=fun vs H Q _=>∃(v:V) (e:Int×Int),vs=[v]∧Rep.has K H e v∧Q (.int (zit e)) H
theorem zpI (T:Txt K mg)(qda:DF K mg "code" zjU zg9):FC P w K mg base 1 "code" zg9 (zoQ K):=by
 refine qda.ok qcH (fun vs H Q E h=>?_) (fun f cdv A outer s H vs Q E hr h=>?_)
 ·obtain ⟨v,e,rfl,_⟩:=h;rfl
 obtain ⟨v,e,rfl,he,q⟩:=h;obtain ⟨p,x1,x2,rfl,hT,e1,e2⟩:=(show hasP K H e v from he);have hT:=SqT.of (K:=K) hT;have e1:x1=.int e.1:=e1;have e2:x2=.int e.2:=e2;subst e1 e2;refine ⟨_,(zag (zas (i:=1) qcH.nd rfl (Or.inl rfl) (zau zaF (pv 0) zae (fun _ _=>rfl)))
   (zag (zas (i:=2) qcH.nd rfl (Or.inl rfl) (zj0 (zav znM (pv 1) zae (zaB _)) (zaw zc1 zae (pv 1)) (zaw zbO (zaw zc1 (ze3 zcT zae) (pv 1)) zae)))
   (zaf (zao (zaw zbe (zaw zc1 (zfJ rfl T.qb6) (pv 2)) (zau zaF (pv 0) zae (fun _ _=>rfl))))))),?_⟩
 refine ⟨_,rfl,_,_,_,_,rfl,rfl,hT,rfl,?_⟩;refine ⟨_,rfl,_,_,rfl,rfl,_,rfl,?_⟩;refine ite2 (fun c=>?_) (fun c=>?_)
 ·have c':0≤e.1:=yaD c;refine ⟨_,rfl,_,_,rfl,rfl,.inl ⟨by decide,by decide⟩,?_⟩;refine ⟨_,rfl,_,_,rfl,rfl,.inl ⟨by decide,by decide⟩,_,rfl,_,_,_,_,rfl,rfl,hT,rfl,_,_,rfl,rfl,?_⟩;unfold zit at q;rw[if_pos c']at q;exact q
 ·have c':¬ 0≤e.1:=ycE (ybl.mpr c);refine ⟨_,rfl,_,rfl,_,_,rfl,rfl,.inl ⟨by decide,by decide⟩,_,_,rfl,rfl,?_⟩;refine ⟨_,rfl,_,_,rfl,rfl,.inl ⟨by decide,by decide⟩,_,rfl,_,_,_,_,rfl,rfl,hT,rfl,_,_,rfl,rfl,?_⟩;unfold zit at q;rw[if_neg c']at q;exact q
abbrev nV (n:Nat):V:=.int (n:Int)
theorem zh6 {v:Int}(h:0≤v):∃ n:Nat,v=(n:Int):=⟨v.toNat,by omega⟩
theorem zgL {xs:List Nat}{i:Nat}(h:i < xs.length):atI (xs.map nV) (i:Int)=some (nV (xs.getD i 0)):=
 zaQ (by rw[yaj,yac h,yad,yac h];rfl)
theorem zqk {xs:List Nat}{i:Nat}(h0:i≠0)(h:i < xs.length):atI (xs.map nV) ((i:Int) - 1)=some (nV (xs.getD (i - 1) 0)):=by
 have e:(i:Int) - 1=((i - 1:Nat):Int):=by omega
 rw[e];exact zgL (by omega)
theorem zgD {xs:List Nat}{i:Nat}{x:V}(h:(xs.map nV)[i]?=some x):i < xs.length∧x=nV (xs.getD i 0):=by
 rw[yaj]at h;cases e:xs[i]? with
 | none=>rw[e]at h;cases h
 | some y=>
  rw[e]at h;refine ⟨(yao.mp e).1,?_⟩;rw[yad,e];exact (yag h).symm
theorem zql (n:Nat):Builtin.bitAnd (n:Int) 1=((n % 2:Nat):Int):=by
 unfold Builtin.bitAnd;rw[yam (ybn n),yam (by decide:(0:Int)≤1)];show ((n &&& 1:Nat):Int)=_;rw[Nat.and_one_is_mod]
theorem zrz (a b:Nat):2 * ((lu a b:Nat):Int)+Builtin.bitAnd ((b:Int) / 2 ^ ((lu a b:Nat):Int).toNat) 1=((fig a b:Nat):Int):=by
 have e:(b:Int) / 2 ^ ((lu a b:Nat):Int).toNat=((b / 2 ^ lu a b:Nat):Int):=by
  rw[ya9,Int.natCast_ediv,Int.natCast_pow];rfl
 rw[e,zql];unfold fig;omega
theorem zj6 {K:Frag}{H:Hp}{xs:List Nat}:zar K H (xs.map fun n:Nat=>(n:Int)) (xs.map nV):=by
 have e:xs.map nV=(xs.map fun n:Nat=>(n:Int)).map V.int:=by rw[ybc];rfl
 rw[e];exact zar.ints
def But (p:Addr)(H H':Hp):Prop:=∀ b o,b≠p→H b=some o→H' b=some o
theorem But.sq {K:Frag}{p:Addr}{H H':Hp}{a:Addr}{xs:List V}(k:But p H H')(h:SqL K H a xs)(n:H p=none):SqL K H' a xs:=by
 rcases h with (h | ⟨o,h⟩) | h
 ·exact .inl (.inl (k _ _ (zab h n) h))
 ·exact .inl (.inr ⟨o,k _ _ (zab h n) h⟩)
 ·exact .inr h
theorem zmV (xs:List Nat):(xs.map nV).all zgl=true:=by
 rw[yaU];intro x hx;obtain ⟨n,_,rfl⟩:=yaA.mp hx;rfl
theorem zo3 (n:Nat)(xs:List Nat):inV (.int (n:Int)) (xs.map nV)=decide (n∈xs):=by
 unfold inV
 induction xs with
 | nil=>rfl
 | cons x xs ih=>
  rw[yaw,ybi,ih];show ((x:Int) == (n:Int) || decide (n∈xs))=decide (n∈x::xs);by_cases h:x=n
  ·subst h;simp
  ·have:((x:Int) == (n:Int))=false:=by
    rw[beq_eq_false_iff_ne];omega
   rw[this,Bool.false_or];have e:(n∈x::xs)=(n∈xs):=propext (by simp[Ne.symm h]);simp[Ne.symm h]
def zjF (K:Frag):Sp:=fun vs H Q _=>∃(a:Addr) (xs:List Nat),vs=[.ref a]∧SqL K H a (xs.map nV)∧Unl xs∧xs.length≤1000∧
 ∀(p:Addr) (H':Hp),H p=none→Same H H'→H' p=some (.lst ((zdn xs).map nV))→Q (.ref p) H'
theorem zl6 (T:Txt K mg)(qcq:DF K mg "turned" zfy zeB)(qbP:FC P w K mg base 1 "lowest_unlike" zbx zqK):FC P w K mg base 2 "turned" zeB (zjF K):=by
 refine qcq.ok qa3 (fun vs H Q E h=>?_) (fun f cdv A outer s H vs Q E hr h=>?_)
 ·obtain ⟨a,xs,rfl,_⟩:=h;rfl
 obtain ⟨a,xs,rfl,hS,hu,hz,q⟩:=h;refine ⟨_,(zag (zas (i:=1) qa3.nd rfl (Or.inl rfl) (zaI zac))
   (zag (za2 PassesOwn.never rfl (zdu rfl T.qbh (zaa (pv 0) zac)) (zgx rfl (zaM (zan (i:=2) qa3.nd rfl (Or.inl rfl)) (zaM (zan (i:=3) qa3.nd rfl (Or.inl rfl)) zcN))) (zaf (za6 (zav zdx (pv 2) zae (zaB _)) (zaf (zbd (ze4 F.plainAttrs_list F.slot_list_append F.type_list_append za0 (pv 1) (zaa (zaw zfl (pv 3) zae) zac)))) (zag (zas (i:=4) qa3.nd rfl (Or.inl rfl) (zaz qbP hr (zaa (zau zay (pv 0) (zaw zbO (pv 2) zae) (fun _ _=>rfl)) (zaa (pv 3) zac))))
   (zaf (zbd (ze4 F.plainAttrs_list F.slot_list_append F.type_list_append za0 (pv 1) (zaa (zaw zbe (zaw zc1 zae (pv 4)) (zaw zoX (zaw zq5 (pv 3) (pv 4)) zae)) zac))))))))
   (zaf (zao (pv 1))))),?_⟩
 refine ⟨(by show 0≤sizeLine;decide),fun p hp=>?_⟩;have k0:But p H (upd H p (.lst [])):=fun b o n e=>by rw[zah n];exact e
 refine ⟨_,rfl,a,rfl,⟨_,k0.sq hS hp⟩,?_⟩;refine zhx (xs:=xs.map nV) (fun i σ H2=>∃ x2 x3 x4:Option V,σ=[some (.ref a),some (.ref p),x2,x3,x4]∧H2 p=some (.lst (((zdn xs).take i).map nV))∧But p H H2) ?_ ?_ ?_ ?_
 ·exact ⟨_,_,_,rfl,zad,k0⟩
 ·rintro i σ H2 _ ⟨x2,x3,x4,rfl,_,k2⟩;exact k2.sq hS hp
 ·rintro i x σ H2 r hx ⟨x2,x3,x4,rfl,h2,k2⟩ hr;obtain ⟨hi,rfl⟩:=zgD hx;have hS2:=k2.sq hS hp;have np:p≠r:=zab h2 hr;have h3:upd H2 r (.tup [.int i,nV (xs.getD i 0)]) p=some (.lst (((zdn xs).take i).map nV)):=by rw[zah np];exact h2
  have k3:But p H (upd H2 r (.tup [.int i,nV (xs.getD i 0)])):=fun b o n e=>(zai hr _) b o (k2 b o n e);have hS3:=k3.sq hS hp;have hlen:(((zdn xs).take i).map nV).length < sizeLine:=zap (by rw[yab,yar,zbz];omega);refine ⟨r,_,rfl,SqT.of zad,rfl,_,_,rfl,_,_,rfl,rfl,?_⟩;generalize upd H2 r (.tup [.int i,nV (xs.getD i 0)])=H3 at h3 k3 hS3 ⊢;have fin:∀ v:V,v=nV (zei xs i)→∃ y2 y3 y4:Option V,[some (V.ref a),some (V.ref p),y2,y3,y4]=[some (V.ref a),some (V.ref p),y2,y3,y4]∧upd H3 p (.lst (((zdn xs).take i).map nV++[v])) p=some (.lst (((zdn xs).take (i+1)).map nV))∧But p H (upd H3 p (.lst (((zdn xs).take i).map nV++[v]))):=by
   rintro v rfl;refine ⟨none,none,none,rfl,?_,fun b o n e=>by rw[zah n];exact k3 b o n e⟩;rw[zad,zkE hi,yan];rfl
  refine ⟨_,rfl,rfl,_,rfl,?_⟩;refine ite2 (fun c=>?_) (fun c=>?_)
  ·have c':i=0:=by
    have:=V.int.inj (yaD c);omega
   refine ⟨_,rfl,.inl ⟨rfl,_,SqL.of h3⟩,_,rfl,_,_,rfl,rfl,(by show (0:Int) < 2;decide),_,_,_,rfl,rfl,h3,hlen,?_⟩;obtain ⟨_,_,_,_,g2,g3⟩:=fin (.int (((xs.getD i 0:Nat):Int) % 2)) (by
    unfold zei;rw[if_pos c',c'];show V.int _=V.int _;rw[Int.natCast_emod];rfl)
   exact ⟨_,_,_,rfl,g2,g3⟩
  ·have c':i≠0:=fun z=>c (by subst z;decide);have hne:xs.getD (i - 1) 0≠xs.getD i 0:=by
    have:=hu (i - 1) (by omega);rw[show i - 1+1=i by omega]at this;exact this
   refine ⟨_,rfl,_,rfl,_,_,rfl,rfl,_,_,_,_,rfl,rfl,hS3,zqk c' hi,_,rfl,_,_,rfl,hne,?_⟩;refine ⟨_,rfl,.inl ⟨rfl,_,SqL.of h3⟩,_,rfl,_,_,rfl,rfl,.inl ⟨by decide,by decide⟩,_,rfl,_,rfl,_,_,rfl,rfl,ybn _,_,_,rfl,rfl,_,_,rfl,rfl,_,_,_,rfl,rfl,h3,hlen,?_⟩;obtain ⟨_,_,_,_,g2,g3⟩:=fin (.int (2 * ((lu (xs.getD (i - 1) 0) (xs.getD i 0):Nat):Int)+Builtin.bitAnd (((xs.getD i 0:Nat):Int) / 2 ^ ((lu (xs.getD (i - 1) 0) (xs.getD i 0):Nat):Int).toNat) 1)) (by
    unfold zei;rw[if_neg c',zrz])
   exact ⟨_,_,_,rfl,g2,g3⟩
 ·rintro σ H2 ⟨x2,x3,x4,rfl,h2,k2⟩;refine ⟨_,rfl,?_⟩;refine q p H2 hp (fun b o e=>k2 b o (zab e hp) e) ?_;rw[h2,yat (by rw[zbz,yab];exact yaa _)]
def zdm:Nat→List Nat→List Nat
 | 0,xs=>xs
 | n+1,xs=>zdn (zdm n xs)
theorem zcB (n:Nat)(xs:List Nat):(zdm n xs).length=xs.length:=by
 induction n with
 | zero=>rfl
 | succ n ih=>rw[zdm,zbz,ih]
theorem zcU {xs:List Nat}(h:Unl xs)(n:Nat):Unl (zdm n xs):=by
 induction n with
 | zero=>exact h
 | succ n ih=>exact zlw ih
theorem zd3 {m k:Nat}{xs:List Nat}(h:zdp m xs)(hk:m≤k):zdp k xs:=fun i hi=>yaz (h i hi) hk
theorem zpk {xs:List Nat}(h:Unl xs)(hb:zdp (2 ^ 207) xs):zdp 414 (zdm 1 xs):=zcj (k:=207) (by decide) h hb
theorem zpj {xs:List Nat}(h:Unl xs)(hb:zdp (2 ^ 207) xs):zdp 18 (zdm 2 xs):=zcj (k:=9) (by decide) (zcU h 1) (zd3 (zpk h hb) (by decide))
theorem zpi {xs:List Nat}(h:Unl xs)(hb:zdp (2 ^ 207) xs):zdp 10 (zdm 3 xs):=zcj (k:=5) (by decide) (zcU h 2) (zd3 (zpj h hb) (by decide))
theorem zph {xs:List Nat}(h:Unl xs)(hb:zdp (2 ^ 207) xs):zdp 8 (zdm 4 xs):=zcj (k:=4) (by decide) (zcU h 3) (zd3 (zpi h hb) (by decide))
theorem zpg {xs:List Nat}(h:Unl xs)(hb:zdp (2 ^ 207) xs):zdp 6 (zdm 5 xs):=zcj (k:=3) (by decide) (zcU h 4) (zd3 (zph h hb) (by decide))
def zc5 (es:List (Int×Int)):List Nat:=es.map zgm
theorem zaU (es:List (Int×Int)):(zc5 es).length=es.length:=yab _
theorem zfd {es:List (Int×Int)}{i:Nat}(h:i < es.length):(zc5 es).getD i 0=zgm es[i]:=by
 unfold zc5;rw[yad,yaj,yac h];rfl
theorem zjl {es:List (Int×Int)}(h:∀ e∈es,zeg 64 e):zdp (2 ^ 207) (zc5 es):=fun i hi=>by
 rw[zaU]at hi;rw[zfd hi];exact zos (h _ (yaG hi))
theorem zf9 {es:List (Int×Int)}(h:∀ e∈es,zeg 64 e)(hr:Rise es):Unl (zc5 es):=fun i hi=>by
 rw[zaU]at hi;rw[zfd (by omega),zfd hi];intro z;have e:=zna (h _ (yaG (by omega))) (h _ (yaG hi)) z;have:=yba.mp hr i (i+1) (by omega) hi (by omega);rw[e]at this;have q:=zcO.mp this;omega
theorem zle {es:List (Int×Int)}{i:Nat}(h:i < es.length):(zc5 es).take (i+1)=(zc5 es).take i++[zgm es[i]]:=by
 have h':i < (zc5 es).length:=by rw[zaU];exact h
 have z:(zc5 es)[i]'h'=zgm es[i]:=List.getElem_map zgm;rw[yaH h',z]
def zjJ (K:Frag):Sp:=fun vs H Q _=>∃(a:Addr) (ws:List V) (es:List (Int×Int)),vs=[.ref a]∧SqL K H a ws∧zar K H es ws∧es.length≤1000∧(∀ e∈es,zeg 64 e)∧Rise es∧
 ∀(p:Addr) (H':Hp),H p=none→Same H H'→H' p=some (.lst ((zdm 5 (zc5 es)).map nV))→Q (.ref p) H'
theorem zlf {K:Frag}{H0 H2:Hp}{D:Addr}{es:List (Int×Int)}{ws:List V}{i:Nat}{x:V}(hD:H0 D=none)(hw:zar K H0 es ws)(hx:ws[i]?=some x)(k:But D H0 H2):∃ h:i < es.length,Rep.has K H2 es[i] x:=by
 obtain ⟨e,h1,h2⟩:=hw.get hx;have hi:=(yao.mp h1).1;refine ⟨hi,?_⟩;have z:es[i]=e:=(yao.mp h1).2;rw[z];obtain ⟨a,x1,x2,rfl,q,e1,e2⟩:=(show hasP K H0 e x from h2);exact ⟨a,x1,x2,rfl,k _ _ (zab q hD) q,e1,e2⟩
theorem zmb (T:Txt K mg)(qcr:DF K mg "labels" zfA zeD)(qd8:FC P w K mg base 1 "code" zg9 (zoQ K))(qdy:FC P w K mg base 2 "turned" zeB (zjF K)):FC P w K mg base 3 "labels" zeD (zjJ K):=by
 refine qcr.ok qbo (fun vs H Q E h=>?_) (fun f cdv A outer s H vs Q E hr h=>?_)
 ·obtain ⟨a,ws,es,rfl,_⟩:=h;rfl
 obtain ⟨a,ws,es,rfl,hS,hw,hz,he,hri,q⟩:=h;have hlen:=hw.length;refine ⟨_,(zag (zfW (i:=1) (N:=["entry"]) (own:=1) (cap:=[]) qbo.nd rfl rfl rfl (zbq (pv 0)) ⟨rfl,rfl,rfl,rfl,rfl,rfl⟩ (fun _ _ _ _ _=>(zan (i:=0) (show List.Nodup (["entry"]:List Str) by decide +kernel) rfl (Or.inl rfl))) (fun _ _ _ _ _=>zbp) (fun _ _ _ _ _=>(zaz qd8 hr (zaa (pv 0) zac))))
   (zag (za2 PassesOwn.never rfl (zbI rfl T.qap (zaa (zfJ rfl T.qdN) zac)) (zan (i:=2) qbo.nd rfl (Or.inl rfl)) (zaf (zas (i:=1) qbo.nd rfl (Or.inl rfl) (zaz qdy hr (zaa (pv 1) zac)))))
   (zaf (zao (pv 1))))),?_⟩
 refine ⟨_,rfl,a,rfl,⟨_,hS⟩,fun D hD=>?_⟩;have k0:But D H (upd H D (.lst [])):=fun b o n e=>by rw[zah n];exact e
 refine zcw (xs:=ws) (fun i σ H2=>∃ x0:Option V,σ=[x0]∧H2 D=some (.lst (((zc5 es).take i).map nV))∧But D H H2) ?_ ?_ ?_ ?_
 ·exact ⟨_,rfl,zad,k0⟩
 ·rintro i σ H2 _ ⟨x0,rfl,_,k2⟩;exact k2.sq hS hD
 ·rintro i m x σ H2 hx hm ⟨x0,rfl,h2,k2⟩;obtain ⟨hi,hhas⟩:=zlf hD hw hx k2;refine zd8 ?_;refine ⟨_,rfl,x,es[i],rfl,hhas,?_⟩;refine ⟨_,h2,zap (by rw[yab,yar,zaU];omega),m - 1,by omega,by omega,_,rfl,?_,fun b o n e=>by rw[zah n];exact k2 b o n e⟩;rw[zad,zle hi,yan,← zfP (he _ (yaG hi))];rfl
 ·rintro σ H2 ⟨x0,rfl,h2,k2⟩;have e0:H2 D=some (.lst ((zc5 es).map nV)):=by
   rw[h2,yat (by rw[zaU];omega)]
  have same0:Same H H2:=fun b o e=>k2 b o (zab e hD) e;refine ⟨5,rfl,by decide,by decide,?_⟩;refine zbh (n:=5) (fun i σ H3=>∃(p:Addr) (x2 x3:Option V),σ=[some (.ref a),some (.ref p),x2]∧H p=none∧Same H H3∧H3 p=some (.lst ((zdm i (zc5 es)).map nV))) ?_ ?_ ?_
  ·exact ⟨D,_,none,rfl,hD,same0,e0⟩
  ·rintro i σ H3 hi ⟨p,x2,x3,rfl,hp,s3,h3⟩;refine ⟨_,rfl,p,_,rfl,SqL.of h3,zcU (zf9 he hri) i,by rw[zcB,zaU];exact hz,fun p4 H4 hp4 s4 h4=>?_⟩;exact ⟨p4,_,none,rfl,s3.free hp4,s3.trans s4,h4⟩
  ·rintro σ H3 ⟨p,x2,x3,rfl,hp,s3,h3⟩;refine ⟨_,rfl,?_⟩;exact q p H3 hp s3 h3
theorem zfT {n d i:Nat}:HT.sIx n d (some (i:Int))=min i n:=by
 unfold HT.sIx;simp
 try omega
theorem zkp (xs:List V)(a b:Nat):cutV xs (some (a:Int)) (some (b:Int))=(xs.drop a).take (b - a):=by
 unfold cutV;rw[zfT,zfT];by_cases h:a≤xs.length
 ·rw[ybk h];by_cases h2:b≤xs.length
  ·rw[ybk h2]
  ·rw[ycr (by omega),yat (by rw[yaL];exact yaa _),yat (by rw[yaL];omega)]
 ·rw[ycr (show xs.length≤a by omega),ya2 (yaa _),ya2 (show xs.length≤a by omega)];simp
theorem zgq {α:Type}(xs:List α)(k:Nat):(xs.drop k).take 1=xs[k]?.toList:=by
 by_cases h:k < xs.length
 ·rw[yb9 h,yac h];rfl
 ·rw[ya2 (by omega),ya8 (by omega)];rfl
theorem zm7 {xs:List V}{k:Nat}{i j:Int}(hi:i=if (k:Int) - 1 > 0 then (k:Int) - 1 else 0)(hj:j=(k:Int)):cutV xs (some i) (some j)=(if k=0 then none else xs[k - 1]?).toList:=by
 subst hj;have e:i=((k - 1:Nat):Int):=by
  rw[hi];split <;> omega
 subst e;rw[zkp];split
 ·rename_i h;subst h;simp
 ·rw[show k - (k - 1)=1 by omega,zgq]
theorem zld {xs:List V}{k:Nat}{i j:Int}(hi:i=(k:Int)+1)(hj:j=(k:Int)+2):cutV xs (some i) (some j)=xs[k+1]?.toList:=by
 subst hi hj;rw[show (k:Int)+1=((k+1:Nat):Int) by omega,show (k:Int)+2=((k+2:Nat):Int) by omega,zkp,show k+2 - (k+1)=1 by omega,zgq]
theorem zng (xs:List Nat)(k:Nat):(if k=0 then none else (xs.map nV)[k - 1]?).toList++(xs.map nV)[k+1]?.toList=(zaW xs k).map nV:=by
 unfold zaW;rw[yan,yaj,yaj];congr 1
 ·split
  ·rfl
  ·cases xs[k - 1]? <;> rfl
 ·cases xs[k+1]? <;> rfl
theorem But.new {p b:Addr}{H H2:Hp}(k:But p H H2)(hb:H2 b=none)(o:HO):But p H (upd H2 b o):=fun x o' n e=>(zai hb o) x o' (k x o' n e)
def zhR (K:Frag):Sp:=fun vs H Q _=>∃(a:Addr) (xs:List Nat),vs=[.ref a]∧SqL K H a (xs.map nV)∧Unl xs∧zdp 6 xs∧xs.length≤1000∧
 ∀(p:Addr) (H':Hp),H p=none→Same H H'→H' p=some (.lst ((colL xs).map nV))→Q (.ref p) H'
def zcq (es:List (Int×Int)):List Bool:=zeM (colL (zdm 5 (zc5 es)))
theorem zbn (es:List (Int×Int)):(zcq es).length=es.length:=by
 unfold zcq;rw[zeL,zf8,zcB,zaU]
theorem zi0 {es:List (Int×Int)}(he:∀ e∈es,zeg 64 e)(hri:Rise es):Unl (zdm 5 (zc5 es)):=zcU (zf9 he hri) 5
theorem zie {es:List (Int×Int)}(he:∀ e∈es,zeg 64 e)(hri:Rise es):zdp 6 (zdm 5 (zc5 es)):=zpg (zf9 he hri) (zjl he)
theorem zni {xs:List Nat}(h:zdp 6 xs):∀ i x,atZ xs i=some x→x≤5:=fun i x e=>by
 obtain ⟨h0,h1⟩:=zhD e;have:=h i.toNat (by omega);unfold atZ at e;rw[if_pos h0]at e;rw[yad,e]at this;exact Nat.lt_succ_iff.mp this
theorem zh7 {es:List (Int×Int)}(he:∀ e∈es,zeg 64 e)(hri:Rise es):zdH (zcq es):=zmw (zks (unlZ (zi0 he hri))) (zqh (zni (zie he hri)))
def zlL (K:Frag):Sp:=fun vs H Q _=>∃(a:Addr) (ws:List V) (es:List (Int×Int)),vs=[.ref a]∧H a=some (.lst ws)∧zar K H es ws∧es.length≤1000∧(∀ e∈es,zeg 64 e)∧Rise es∧
 ∀(p:Addr) (H':Hp),H p=none→Same H H'→H' p=some (.lst ((zcq es).map V.bl))→Q (.ref p) H'
def zjO (K:Frag):Sp:=fun vs H Q _=>∃(a:Addr) (ws:List V) (es:List (Int×Int)),vs=[.ref a]∧H a=some (.lst ws)∧zar K H es ws∧es.length≤1000∧(∀ e∈es,zeg 64 e)∧Rise es∧
 ∀(p:Addr) (H':Hp),H p=none→Same H H'→H' p=some (.lst (zdg ws (zcq es)))→Q (.ref p) H'
theorem zgp (o:Option Bool):o.toList.any id=o.getD false:=by
 cases o with
 | none=>rfl
 | some b=>cases b <;> rfl
theorem zog (ms:List Bool):inV (.bl true) (ms.map V.bl)=ms.any id:=by
 unfold inV
 induction ms with
 | nil=>rfl
 | cons m ms ih=>
  rw[yaw,ybi,ih,ybi];cases m <;> rfl
theorem zp9 (ms:List Bool):(ms.map V.bl).all zgl=true:=by
 rw[yaU];intro x hx;obtain ⟨n,_,rfl⟩:=yaA.mp hx;rfl
theorem zii {α:Type}{as:List α}{bs:List Bool}{a:α}{b:Bool}(h:as.length=bs.length):zdg (as++[a]) (bs++[b])=zdg as bs++(if b=true then [a] else []):=by
 unfold zdg;rw[List.zip_append h,ya6,yan];congr 1;cases b <;> rfl
theorem zi7 {α:Type}(as:List α)(bs:List Bool):(zdg as bs).length≤as.length:=by
 unfold zdg;rw[yab];refine yaB (yb6 _ _) ?_;rw[yco];omega
theorem zkl {α:Type}[Rep α]{K:Frag}{H:Hp}:∀{es:List α} {ws:List V} {ms:List Bool},zar K H es ws→zar K H (zdg es ms) (zdg ws ms)
 | _,_,_,.nil=>by
  unfold zdg;exact .nil
 | e::es,w::ws,[],.cons h t=>by
  unfold zdg;exact .nil
 | e::es,w::ws,m::ms,.cons h t=>by
  have:=zkl (ms:=ms) t;unfold zdg at this ⊢;cases m with
  | false=>exact this
  | true=>exact .cons h this
theorem zea (bs:List Nat)(c:Nat):((List.range (c+1)).filter fun c=>!decide (c∈bs))=((List.range c).filter fun c=>!decide (c∈bs))++(if c∈bs then [] else [c]):=by
 rw[ybz,ya6];congr 1;by_cases h:c∈bs
 ·rw[if_pos h];simp[List.filter,h]
 ·rw[if_neg h];simp[List.filter,h]
theorem zd6 {H:Hp}{p t:Addr}{xs ys:List V}(h1:H p=some (.lst xs))(h2:H t=some (.tup ys)):p≠t:=fun z=>by
 rw[z,h2]at h1;cases h1
theorem zmL {n k:Nat}(h:k < n):ixN n (k:Int)=some k:=by
 unfold ixN;simp;omega
def besV (xs:List V)(k:Nat):List V:=(if k=0 then none else xs[k - 1]?).toList++xs[k+1]?.toList
theorem zjm (xs:List V)(k:Nat):(besV xs k).length≤2:=by
 have e:∀ o:Option V,o.toList.length≤1:=fun o=>by cases o <;> simp
 unfold besV;rw[yaf];have:=e (if k=0 then none else xs[k - 1]?)
 have:=e xs[k+1]?;omega
def spNb (K:Frag):Sp:=fun vs H Q _=>∃(a:Addr) (xs:List V) (k:Nat),vs=[.ref a,.int k]∧H a=some (.lst xs)∧
 ∀(g:Addr) (H':Hp),H g=none→Same H H'→H' g=some (.lst (besV xs k))→Q (.ref g) H'
theorem zhk (T:Txt K mg)(qa4:DF K mg "neighbours" zcD zbH):FC P w K mg base 1 "neighbours" zbH (spNb K):=by
 refine qa4.ok qcg (fun vs H Q E h=>?_) (fun f cdv A outer s H vs Q E hr h=>?_)
 ·obtain ⟨a,xs,k,rfl,_⟩:=h;rfl
 obtain ⟨a,xs,k,rfl,ha,q⟩:=h;refine ⟨_,(zaf (zao (zaw zb4 (zbW zcM (pv 0) (zbS (zal (zgd rfl) rfl T.qdL boot_max (zaa (zaw zbO (pv 1) zae) (zaa zae zac)))) (zbS (pv 1))) (zbW zcM (pv 0) (zbS (zaw zbe (pv 1) zae)) (zbS (zaw zbe (pv 1) zae)))))),?_⟩;refine ⟨_,rfl,_,rfl,_,_,rfl,rfl,_,_,rfl,_,rfl,_,rfl,_,rfl,_,_,rfl,SqL.of ha,fun b hb=>?_⟩;have kb:=zai hb (.lst (cutV xs (some (if 0 > (k:Int) - 1 then 0 else (k:Int) - 1)) (some (k:Int))))
 have hbb:upd H b (.lst (cutV xs (some (if 0 > (k:Int) - 1 then 0 else (k:Int) - 1)) (some (k:Int)))) b=some (.lst (if k=0 then none else xs[k - 1]?).toList):=by
  rw[zad,zm7 (k:=k) (by split <;> split <;> omega) rfl]
 generalize upd H b (.lst (cutV xs (some (if 0 > (k:Int) - 1 then 0 else (k:Int) - 1)) (some (k:Int))))=H3 at kb hbb ⊢
 refine ⟨_,rfl,_,rfl,_,_,rfl,rfl,_,rfl,_,rfl,_,_,rfl,rfl,_,rfl,_,_,rfl,SqL.of (kb _ _ ha),fun c hc=>?_⟩;have kc:=zai hc (.lst (cutV xs (some ((k:Int)+1)) (some ((k:Int)+2))));have hcb:=kc _ _ hbb;have hcc:upd H3 c (.lst (cutV xs (some ((k:Int)+1)) (some ((k:Int)+2)))) c=some (.lst xs[k+1]?.toList):=by
  rw[zad,zld (k:=k) rfl rfl]
 generalize upd H3 c (.lst (cutV xs (some ((k:Int)+1)) (some ((k:Int)+2))))=H4 at kc hcb hcc ⊢;refine ⟨b,c,_,_,rfl,rfl,hcb,hcc,?_,fun g hg=>?_⟩
 ·rw[← yaf];exact yaB (zjm xs k) (by decide)
 exact q g _ (kb.free (kc.free hg)) (kb.trans (kc.trans (zai hg _))) zad
def zoP (K:Frag):Sp:=fun vs H Q _=>∃(a:Addr) (xs:List Nat) (k:Nat),vs=[.ref a]∧H a=some (.lst ((zaW xs k).map nV))∧
 ∀ H':Hp,Same H H'→Q (.int (zd9 xs k:Nat)) H'
theorem zhl (T:Txt K mg)(qa5:DF K mg "least_free" zcE zca):FC P w K mg base 1 "least_free" zca (zoP K):=by
 refine qa5.ok qch (fun vs H Q E h=>?_) (fun f cdv A outer s H vs Q E hr h=>?_)
 ·obtain ⟨a,xs,k,rfl,_⟩:=h;rfl
 obtain ⟨a,xs,k,rfl,ha,q⟩:=h;refine ⟨_,(zaf (zao (zal (znd rfl) rfl T.qdM boot_min (zaa (zbr (N:=["colour","taken"]) (own:=1) (cap:=[0]) rfl (zgw (zbB (zaa zae (zaa zae (zaa zae zac))))) ⟨rfl,rfl,rfl,rfl,rfl,rfl⟩ (fun _ _ _ _ _=>(zan (i:=0) (show List.Nodup (["colour","taken"]:List Str) by decide +kernel) rfl (Or.inl rfl))) (fun _ _ _ _ _=>(zfV (zav (zhi (K:=K)) (pv 0) (pv 1) (by with_unfolding_all rfl)))) (fun _ _ _ _ _=>(pv 0))) zac)))),?_⟩
 refine ⟨(by show 3≤sizeLine;decide),fun t ht=>?_⟩;have st:=zai ht (.tup [V.int 0,V.int 1,V.int 2]);have ht1:upd H t (.tup [V.int 0,V.int 1,V.int 2]) t=some (.tup [V.int 0,V.int 1,V.int 2]):=zad;generalize upd H t (.tup [V.int 0,V.int 1,V.int 2])=H1 at st ht1 ⊢;have h1a:=st _ _ ha;refine ⟨t,rfl,⟨_,SqT.of ht1⟩,fun D hD=>?_⟩;refine zhA (xs:=[V.int 0,V.int 1,V.int 2]) (fun c σ H6=>∃ x0:Option V,σ=[x0,some (.ref a)]∧H6 D=some (.lst (((List.range c).filter fun c=>!decide (c∈zaW xs k)).map nV))∧But D H1 H6) ?_ ?_ ?_ ?_
 ·exact ⟨_,rfl,zad,fun b o n e=>by rw[zah n];exact e⟩
 ·rintro i σ H6 _ ⟨x0,rfl,_,k6⟩;exact SqT.of (k6 _ _ (zab ht1 hD) ht1)
 ·rintro c m x σ H6 hx hm ⟨x0,rfl,h6,k6⟩;obtain ⟨hi,rfl⟩:c < 3∧x=V.int (c:Int):=by
   rcases c with _ | _ | _ | c
   ·exact ⟨by decide,(yag hx).symm⟩
   ·exact ⟨by decide,(yag hx).symm⟩
   ·exact ⟨by decide,(yag hx).symm⟩
   ·cases hx
  have h6g:=k6 _ _ (zab h1a hD) h1a;have hlen:=yb6 (fun c=>!decide (c∈zaW xs k)) (List.range c);rw[ya5]at hlen;refine ⟨_,rfl,_,rfl,_,_,rfl,.inl (SqL.of h6g),rfl,zmV _,_,rfl,?_⟩;show if (!inV (.int (c:Int)) ((zaW xs k).map nV))=true then _ else _
  rw[zo3];have hm3:c+m=3:=hm;refine ite2 (fun e=>?_) (fun e=>?_)
  ·have e':c∉zaW xs k:=fun z=>by
    rw[yam z]at e;cases e
   refine ⟨_,rfl,_,h6,zap (by rw[yab];omega),m - 1,by omega,(by show c+1+(m - 1)=3;omega),_,rfl,?_,fun b o n e=>by rw[zah n];exact k6 b o n e⟩;rw[zad,zea,if_neg e',yan];rfl
  ·have e':c∈zaW xs k:=Decidable.byContradiction fun z=>e (by rw[yaq z];rfl);refine ⟨m - 1,by omega,(by show c+1+(m - 1)=3;omega),_,rfl,?_,k6⟩;rw[h6,zea,if_pos e',yaI]
 ·rintro σ H6 ⟨x0,rfl,h6,k6⟩;have h6:H6 D=some (.lst (((List.range 3).filter fun c=>!decide (c∈zaW xs k)).map nV)):=h6;have s6:Same H1 H6:=fun b o e=>k6 b o (zab e hD) e;have mem:∀ c,c∈((List.range 3).filter fun c=>!decide (c∈zaW xs k))↔c < 3∧c∉zaW xs k:=fun c=>by
   rw[ya7,yaX];constructor
   ·rintro ⟨h1,h2⟩;refine ⟨h1,fun z=>?_⟩;rw[yam z]at h2;cases h2
   ·rintro ⟨h1,h2⟩;exact ⟨h1,by rw[yaq h2];rfl⟩
  have hf:zd9 xs k∈((List.range 3).filter fun c=>!decide (c∈zaW xs k)):=(mem _).mpr ⟨Nat.lt_succ_of_le (zmU xs k),zk8⟩;refine ⟨D,((List.range 3).filter fun c=>!decide (c∈zaW xs k)).map fun n:Nat=>(n:Int),rfl,?_,?_,fun M hM hL=>?_⟩
  ·rw[ybc];exact SqL.of h6
  ·rw[yab];exact List.length_pos_of_mem hf
  have eM:M=(zd9 xs k:Int):=by
   have h1:=hL _ (yaA.mpr ⟨_,hf,rfl⟩);obtain ⟨c,hc,rfl⟩:=yaA.mp hM;have h2:¬ c < zd9 xs k:=fun z=>((mem c).mp hc).2 (zil z);omega
  rw[eM];exact q _ (st.trans s6)
theorem zqi (xs:List Nat)(k:Nat):besV (xs.map nV) k=(zaW xs k).map nV:=zng xs k
theorem zkU (T:Txt K mg)(qbQ:DF K mg "colours" zex zdT)(qa6:FC P w K mg base 1 "neighbours" zbH (spNb K))(qcC:FC P w K mg base 1 "least_free" zca (zoP K)):FC P w K mg base 3 "colours" zdT (zhR K):=by
 refine qbQ.ok qba (fun vs H Q E h=>?_) (fun f cdv A outer s H vs Q E hr h=>?_)
 ·obtain ⟨a,xs,rfl,_⟩:=h;rfl
 obtain ⟨a,xs,rfl,hS,hu,hb,hz,q⟩:=h;refine ⟨_,(zag (zas (i:=1) qba.nd rfl (Or.inl rfl) (zbJ zft rfl T.qbI boot_list (zaa (pv 0) zac)))
   (zag (za2 PassesOwn.never rfl (zgw (zbB (zaa zae (zaa zae (zaa zae zac))))) (zan (i:=2) qba.nd rfl (Or.inl rfl)) (zaf (za2 PassesOwn.never rfl (zbI rfl T.qap (zaa (zal zam rfl T.qaz boot_len (zaa (pv 0) zac)) zac)) (zan (i:=3) qba.nd rfl (Or.inl rfl)) (zaf (za6 (zav zdx (zau zay (pv 1) (pv 3) (fun _ _=>rfl)) (pv 2) (zaB _)) (zaf (zlZ (zaz qcC hr (zaa (zaz qa6 hr (zaa (pv 1) (zaa (pv 3) zac))) zac)) (zoV (pv 1) (pv 3) zjT))) zaA)))))
   (zaf (zao (pv 1))))),?_⟩
 refine ⟨_,rfl,a,_,rfl,.inl hS,fun p hp=>?_⟩;have k0:But p H (upd H p (.lst (xs.map nV))):=fun b o n e=>by rw[zah n];exact e
 refine ⟨(by show 3≤sizeLine;decide),fun t ht=>?_⟩;have npt:p≠t:=zab zad ht;refine ⟨t,rfl,⟨_,SqT.of zad⟩,?_⟩;refine zjc (xs:=[V.int 3,V.int 4,V.int 5]) (fun i σ H2=>∃ x2 x3:Option V,σ=[some (.ref a),some (.ref p),x2,x3]∧H2 p=some (.lst ((colN xs i).map nV))∧H2 t=some (.tup [V.int 3,V.int 4,V.int 5])∧But p H H2) ?_ ?_ ?_ ?_
 ·exact ⟨_,_,rfl,by rw[zah npt];exact zad,zad,k0.new ht _⟩
 ·rintro i σ H2 _ ⟨x2,x3,rfl,_,h2t,_⟩;exact SqT.of h2t
 ·rintro i x σ H2 hx ⟨x2,x3,rfl,h2,h2t,k2⟩;obtain ⟨hi,rfl⟩:i < 3∧x=V.int ((3+i:Nat):Int):=by
   rcases i with _ | _ | _ | i
   ·exact ⟨by decide,(yag hx).symm⟩
   ·exact ⟨by decide,(yag hx).symm⟩
   ·exact ⟨by decide,(yag hx).symm⟩
   ·cases hx
  have hyl:=zjk xs i;have hyu:=zor hu i;have hnx:colN xs (i+1)=recL (3+i) (colN xs i):=rfl;rw[hnx];generalize colN xs i=ys at h2 hyl hyu ⊢;generalize 3+i=v;have hSa:SqL K H2 a (xs.map nV):=k2.sq hS hp;refine ⟨_,rfl,_,_,rfl,.inl hSa,_,rfl,by rw[yab];omega,by rw[yab];omega,?_⟩;have el:((((xs.map nV).length:Nat):Int)).toNat=ys.length:=by rw[yab,ya9,hyl]
  rw[el];refine zbh (n:=ys.length) (fun k σ H3=>∃ x3:Option V,σ=[some (.ref a),some (.ref p),some (.int v),x3]∧H3 p=some (.lst ((mixL v ys k).map nV))∧H3 t=some (.tup [V.int 3,V.int 4,V.int 5])∧But p H H3) ?_ ?_ ?_
  ·exact ⟨_,rfl,h2,h2t,k2⟩
  ·rintro k σ H3 hk ⟨x3,rfl,h3,h3t,k3⟩;rw[ybT];have ml:=zf1 v ys k;have eg:(mixL v ys k).getD k 0=ys.getD k 0:=by
    rw[yad,zmv (yaa k),← yad]
   have hat:atI ((mixL v ys k).map nV) (k:Int)=some (nV (ys.getD k 0)):=by
    rw[← eg];exact zgL (by omega)
   refine ⟨_,rfl,_,rfl,_,_,_,_,rfl,rfl,SqL.of h3,hat,_,rfl,rfl,_,rfl,?_⟩;refine ite2 (fun c=>?_) (fun c=>?_)
   ·have c':ys.getD k 0=v:=by
     have:=V.int.inj (yaD c);omega
    refine ⟨_,rfl,_,rfl,p,_,k,rfl,h3,fun g H4 hg s4 h4=>?_⟩;rw[zqi,ziU hyu hk c']at h4;refine ⟨g,ys,k,rfl,h4,fun H5 s5=>?_⟩;have s35:=s4.trans s5;have same:∀ b o,b≠p→H3 b=some o→upd H5 p (.lst (((mixL v ys k).map nV).set k (nV (zd9 ys k)))) b=some o:=fun b o n e=>by
     rw[zah n];exact s35 _ _ e
    refine ⟨_,rfl,_,rfl,_,_,_,k,rfl,rfl,s35 _ _ h3,zmL (by rw[yab,ml];exact hk),?_⟩;refine ⟨_,rfl,?_,same _ _ (Ne.symm (zd6 h3 h3t)) h3t,fun b o n e=>same _ _ n (k3 b o n e)⟩;rw[zad,zn8 hk c',List.map_set]
   ·have c':ys.getD k 0≠v:=fun z=>c (by rw[z];exact yam rfl);exact ⟨_,rfl,by rw[zmt hk c'];exact h3,h3t,k3⟩
  ·rintro σ H3 ⟨x3,rfl,h3,h3t,k3⟩;rw[zn9 (yaa _)]at h3;exact ⟨_,_,rfl,h3,h3t,k3⟩
 ·rintro σ H2 ⟨x2,x3,rfl,h2,_,k2⟩;refine ⟨_,rfl,?_⟩;exact q p H2 hp (fun b o e=>k2 b o (zab e hp) e) h2
def zdE (ms:List Bool)(k:Nat):Bool:=!ms.getD (k - 1) false && !ms.getD (k+1) false
def besB (ms:List Bool)(k:Nat):List Bool:=(if k=0 then none else ms[k - 1]?).toList++ms[k+1]?.toList
theorem zqj (ms:List Bool)(k:Nat):besV (ms.map V.bl) k=(besB ms k).map V.bl:=by
 unfold besV besB;rw[yan,yaj,yaj];congr 1
 ·split
  ·rfl
  ·cases ms[k - 1]? <;> rfl
 ·cases ms[k+1]? <;> rfl
theorem zou {ms:List Bool}{k:Nat}(h:1≤k):(besB ms k).any id=!zdE ms k:=by
 unfold besB zdE;rw[if_neg (by omega),List.any_append,zgp,zgp,yad,yad];generalize ms[k - 1]?.getD false=x;generalize ms[k+1]?.getD false=z;cases x <;> cases z <;> rfl
theorem ziT {sh:Nat}{cs:List Nat}{ms:List Bool}(hu:Unl cs)(hl:cs.length=ms.length){k:Nat}(h:k < cs.length)(h1:1≤k)(hs:cs.getD k 0=sh):zdE (mixM sh cs ms k) k=zdE ms k:=by
 unfold zdE;have e:∀ j,k≤j→(mixM sh cs ms k).getD j false=ms.getD j false:=fun j hj=>by
  rw[yad,yad,zcK hl,if_neg (by omega)]
 rw[e (k+1) (by omega)];have e2:(mixM sh cs ms k).getD (k - 1) false=ms.getD (k - 1) false:=by
  rw[yad,zcK hl,if_pos (by omega),zdW hl (by omega)];have:=hu (k - 1) (by omega);rw[show k - 1+1=k by omega,hs]at this;rw[yaq this];simp
 rw[e2]
theorem zgy {sh:Nat}{cs:List Nat}{ms:List Bool}(hl:cs.length=ms.length){k:Nat}(h:k < cs.length)(hn:¬ (cs.getD k 0=sh∧zdE ms k=true)):mixM sh cs ms (k+1)=mixM sh cs ms k:=by
 apply ybf;intro j;rw[zcK hl,zcK hl];by_cases c:j < k
 ·rw[if_pos c,if_pos (by omega)]
 ·rw[if_neg c];split
  ·have:j=k:=by omega
   subst this;rw[zdW hl h];unfold zdE at hn;rw[yac (by omega)];have e:ms.getD j false=ms[j]'(by omega):=by
    rw[yad,yac (by omega)];rfl
   rw[e];congr 1;generalize ms[j]=a;generalize ms.getD (j - 1) false=b at hn ⊢;generalize ms.getD (j+1) false=d at hn ⊢;by_cases z:cs.getD j 0=sh
   ·have hn':¬ ((!b && !d)=true):=fun y=>hn ⟨z,y⟩;cases b with
    | true=>simp
    | false=>
     cases d with
     | true=>simp
     | false=>exact absurd rfl hn'
   ·rw[yaq z];simp
  ·rfl
theorem zms {sh:Nat}{cs:List Nat}{ms:List Bool}(hl:cs.length=ms.length){k:Nat}(h:k < cs.length)(hp:1≤k∧cs.getD k 0=sh∧zdE ms k=true):mixM sh cs ms (k+1)=(mixM sh cs ms k).set k true:=by
 apply ybf;intro j;rw[List.getElem?_set,zf0 hl,zcK hl,zcK hl];by_cases c:k=j
 ·subst c;rw[if_pos rfl,if_pos h,if_pos (by omega),zdW hl h];obtain ⟨p1,p2,p3⟩:=hp;unfold zdE at p3;simp only[ybh,ybj]at p3;rw[p2,p3.1,p3.2,yam p1];simp
 ·rw[if_neg c];by_cases c2:j < k
  ·rw[if_pos c2,if_pos (by omega)]
  ·rw[if_neg c2,if_neg (by omega)]
theorem znS (T:Txt K mg)(qcN:DF K mg "marks" zg1 zfG)(qdz:FC P w K mg base 3 "labels" zeD (zjJ K))(qdb:FC P w K mg base 3 "colours" zdT (zhR K))(qa6:FC P w K mg base 1 "neighbours" zbH (spNb K)):FC P w K mg base 5 "marks" zfG (zlL K):=by
 refine qcN.ok qbp (fun vs H Q E h=>?_) (fun f cdv A outer s H vs Q E hr h=>?_)
 ·obtain ⟨a,ws,es,rfl,_⟩:=h;rfl
 obtain ⟨a,ws,es,rfl,ha,hw,hz,he,hri,q⟩:=h;refine ⟨_,(zag (zas (i:=1) qbp.nd rfl (Or.inl rfl) (zaz qdb hr (zaa (zaz qdz hr (zaa (pv 0) zac)) zac)))
   (zag (zfW (i:=2) (N:=["tint"]) (own:=1) (cap:=[]) qbp.nd rfl rfl rfl (zbq (pv 1)) ⟨rfl,rfl,rfl,rfl,rfl,rfl⟩ (fun _ _ _ _ _=>(zan (i:=0) (show List.Nodup (["tint"]:List Str) by decide +kernel) rfl (Or.inl rfl))) (fun _ _ _ _ _=>zbp) (fun _ _ _ _ _=>zb2))
   (zag (za2 PassesOwn.never rfl (zgw (zbB (zaa zae (zaa zae (zaa zae zac))))) (zan (i:=3) qbp.nd rfl (Or.inl rfl)) (zaf (za2 PassesOwn.never rfl (zc0 rfl T.qap (zaa zae (zaa (zal zam rfl T.qaz boot_len (zaa (pv 1) zac)) zac))) (zan (i:=4) qbp.nd rfl (Or.inl rfl)) (zaf (za6 (PW.pt (zhV (zav zdx (zau zay (pv 1) (pv 4) (fun _ _=>rfl)) (pv 3) (zaB _)) (zfU (zav zfk zb2 (zaz qa6 hr (zaa (pv 2) (zaa (pv 4) zac))) (by with_unfolding_all rfl))))) (zaf (zlZ zb2 (zoV (pv 2) (pv 4) zjT))) zaA)))))
   (zaf (zao (pv 2)))))),?_⟩
 refine ⟨_,rfl,a,ws,es,rfl,SqL.of ha,hw,hz,he,hri,fun p H3 hp s3 h3=>?_⟩;refine ⟨p,_,rfl,SqL.of h3,zi0 he hri,zie he hri,by rw[zcB,zaU];exact hz,fun c H4 hc s4 h4=>?_⟩;have cu:Unl (colL (zdm 5 (zc5 es))):=zoC (zks (unlZ (zi0 he hri)));have cl:(colL (zdm 5 (zc5 es))).length=es.length:=by rw[zf8,zcB,zaU]
 have fin:zcq es=mkN (colL (zdm 5 (zc5 es))) 3:=(zmq _).symm;generalize colL (zdm 5 (zc5 es))=cs at h4 cu cl fin;have s04:=s3.trans s4;refine ⟨_,rfl,c,rfl,⟨_,SqL.of h4⟩,fun F hF=>?_⟩;refine zcw (xs:=cs.map nV) (fun i σ H5=>∃ x0:Option V,σ=[x0]∧H5 F=some (.lst ((List.replicate i false).map V.bl))∧But F H4 H5) ?_ ?_ ?_ ?_
 ·exact ⟨_,rfl,zad,fun b o n e=>by rw[zah n];exact e⟩
 ·rintro i σ H5 _ ⟨x0,rfl,_,k5⟩;exact k5.sq (SqL.of h4) hF
 ·rintro i m x σ H5 hx hm ⟨x0,rfl,h5,k5⟩;have hi:=(yao.mp hx).1;rw[yab]at hi hm;refine zd8 ?_;refine ⟨_,h5,zap (by rw[yab,ybo];omega),m - 1,by omega,by rw[yab];omega,_,rfl,?_,fun b o n e=>by rw[zah n];exact k5 b o n e⟩;rw[zad,List.replicate_succ',yan];rfl
 rintro σ H5 ⟨x0,rfl,h5,k5⟩;have s45:Same H4 H5:=fun b o e=>k5 b o (zab e hF) e;have h5c:=s45 _ _ h4;have nFc:c≠F:=zab h4 hF;have hF0:H F=none:=s04.free hF;have k05:But F H H5:=fun b o _ e=>s45 _ _ (s04 _ _ e);have e5:H5 F=some (.lst ((mkN cs 0).map V.bl)):=by
  rw[h5,mkN,yab,show List.replicate cs.length false=cs.map (fun _=>false) from by rw[List.map_const']]
 refine ⟨(by show 3≤sizeLine;decide),fun t ht=>?_⟩;have st:=zai ht (.tup [V.int 2,V.int 1,V.int 0]);refine ⟨t,rfl,⟨_,SqT.of zad⟩,?_⟩;refine zjc (xs:=[V.int 2,V.int 1,V.int 0]) (fun i σ H6=>∃(x3 x4:Option V),σ=[some (.ref a),some (.ref c),some (.ref F),x3,x4]∧H6 F=some (.lst ((mkN cs i).map V.bl))∧H6 c=some (.lst (cs.map nV))∧H6 t=some (.tup [V.int 2,V.int 1,V.int 0])∧But F H H6) ?_ ?_ ?_ ?_
 ·exact ⟨_,_,rfl,st _ _ e5,st _ _ h5c,zad,k05.new ht _⟩
 ·rintro i σ H6 _ ⟨x3,x4,rfl,_,_,h6t,_⟩;exact SqT.of h6t
 ·rintro i x σ H6 hx ⟨x3,x4,rfl,h6,h6c,h6t,k6⟩;obtain ⟨hi,rfl⟩:i < 3∧x=V.int ((2 - i:Nat):Int):=by
   rcases i with _ | _ | _ | i
   ·exact ⟨by decide,(yag hx).symm⟩
   ·exact ⟨by decide,(yag hx).symm⟩
   ·exact ⟨by decide,(yag hx).symm⟩
   ·cases hx
  have hml:=zkX cs i;have hnx:mkN cs (i+1)=zcp (2 - i) cs (mkN cs i):=rfl;rw[hnx];generalize mkN cs i=ms at h6 hml ⊢;generalize 2 - i=sh;refine ⟨_,rfl,_,_,rfl,.inl (SqL.of h6c),1,_,rfl,⟨by omega,by omega,by rw[yab];omega,by rw[yab];omega⟩,?_⟩;have en:((((cs.map nV).length:Nat):Int) - 1).toNat=cs.length - 1:=by rw[yab];omega
  rw[en];have km:∀ k,(mixM sh cs ms k).length=cs.length:=zf0 hml;refine zbh (n:=cs.length - 1) (fun j σ H7=>∃(x4:Option V),σ=[some (.ref a),some (.ref c),some (.ref F),some (.int sh),x4]∧H7 F=some (.lst ((mixM sh cs ms (1+j)).map V.bl))∧H7 c=some (.lst (cs.map nV))∧H7 t=some (.tup [V.int 2,V.int 1,V.int 0])∧But F H H7) ?_ ?_ ?_
  ·exact ⟨_,rfl,by rw[zn6 hml];exact h6,h6c,h6t,k6⟩
  ·rintro j σ H7 hj ⟨x4,rfl,h7,h7c,h7t,k7⟩;have ek:(1:Int)+(j:Int)=((1+j:Nat):Int):=by omega
   have hk1:1≤1+j:=by omega
   have hkl:1+j < cs.length:=by omega
   rw[ek];have es1:1+(j+1)=1+j+1:=by omega
   rw[es1];generalize 1+j=k at h7 hk1 hkl ⊢;have hat:=zgL (xs:=cs) hkl;have mc:cs.getD k 0=sh→zdE (mixM sh cs ms k) k=zdE ms k:=fun z=>ziT cu hml hkl hk1 z;refine ⟨_,rfl,_,rfl,_,_,_,_,rfl,rfl,SqL.of h7c,hat,_,rfl,rfl,_,rfl,?_⟩;refine ite2 (fun e=>?_) (fun e=>?_)
   ·have e':cs.getD k 0=sh:=by
     have:=V.int.inj (yaD e);omega
    refine ⟨_,rfl,_,rfl,F,_,k,rfl,h7,fun b H8 hb sb hbb=>?_⟩;rw[zqj]at hbb;have kb:But F H H8:=fun x o n e=>sb _ _ (k7 x o n e);refine ⟨_,_,rfl,.inl (SqL.of hbb),rfl,zp9 _,_,rfl,?_⟩;show if (!inV (.bl true) ((besB (mixM sh cs ms k) k).map V.bl))=true then _ else _
    rw[zog,zou hk1,mc e',Bool.not_not];refine ite2 (fun y=>?_) (fun y=>?_)
    ·refine ⟨_,rfl,_,rfl,_,_,_,k,rfl,rfl,sb _ _ h7,zmL (by rw[yab,km];exact hkl),?_⟩;have same:∀ b o,b≠F→H8 b=some o→upd H8 F (.lst (((mixM sh cs ms k).map V.bl).set k (.bl true))) b=some o:=fun b o n e=>by
      rw[zah n];exact e
     refine ⟨_,rfl,?_,same _ _ (fun z=>?_) (sb _ _ h7c),same _ _ (Ne.symm (zd6 (sb _ _ h7) (sb _ _ h7t))) (sb _ _ h7t),fun b o n e=>same _ _ n (kb b o n e)⟩
     ·rw[zad,zms hml hkl ⟨hk1,e',y⟩,List.map_set]
     ·exact nFc z
    ·exact ⟨_,rfl,by rw[zgy hml hkl (fun z=>y z.2)];exact sb _ _ h7,sb _ _ h7c,sb _ _ h7t,kb⟩
   ·have e':cs.getD k 0≠sh:=fun z=>e (by rw[z];exact yam rfl);refine iteF ?_;exact ⟨_,rfl,by rw[zgy hml hkl (fun z=>e' z.1)];exact h7,h7c,h7t,k7⟩
  ·rintro σ H7 ⟨x4,rfl,h7,h7c,h7t,k7⟩;rw[zn7 hml (by omega)]at h7;exact ⟨_,_,rfl,h7,h7c,h7t,k7⟩
 ·rintro σ H6 ⟨x3,x4,rfl,h6,_,_,k6⟩;refine ⟨_,rfl,?_⟩;refine q F H6 hF0 (fun b o e=>k6 b o (zab e hF0) e) ?_;rw[fin];exact h6
theorem zok {α:Type}:zdg ([]:List α) []=[]:=rfl
theorem zrt {ms:List Bool}{i:Nat}{x:V}(h:(ms.map V.bl)[i]?=some x):∃ hi:i < ms.length,x=.bl ms[i]:=by
 rw[yaj]at h;cases e:ms[i]? with
 | none=>rw[e]at h;cases h
 | some y=>
  rw[e]at h;obtain ⟨hi,rfl⟩:=yao.mp e;exact ⟨hi,(yag h).symm⟩
theorem zej {α:Type}{l:List α}{i:Nat}(h:i < l.length):l.take (i+1)=l.take i++[l[i]]:=yaH h
theorem zmf (T:Txt K mg)(qcs:DF K mg "handed" zfE zeH)(qdU:FC P w K mg base 5 "marks" zfG (zlL K)):FC P w K mg base 6 "handed" zeH (zjO K):=by
 refine qcs.ok qc3 (fun vs H Q E h=>?_) (fun f cdv A outer s H vs Q E hr h=>?_)
 ·obtain ⟨a,ws,es,rfl,_⟩:=h;rfl
 obtain ⟨a,ws,es,rfl,ha,hw,hz,he,hri,q⟩:=h;have hwl:=hw.length;have hml:=zbn es;refine ⟨_,(zaf (zao (zbr (N:=["entry","mark"]) (own:=2) (cap:=[]) rfl (zgv rfl T.qc0 (zaa (pv 0) (zaa (zaz qdU hr (zaa (pv 0) zac)) zac))) ⟨rfl,rfl,rfl,rfl,rfl,rfl⟩ (fun _ _ _ _ _=>(zfX (K:=K) (n:=2) rfl (zaM (zan (i:=0) (show List.Nodup (["entry","mark"]:List Str) by decide +kernel) rfl (Or.inl rfl)) (zaM (zan (i:=1) (show List.Nodup (["entry","mark"]:List Str) by decide +kernel) rfl (Or.inl rfl)) zcN)))) (fun _ _ _ _ _=>(zfV (zbN (pv 1)))) (fun _ _ _ _ _=>(pv 0))))),?_⟩;refine ⟨_,rfl,_,rfl,a,ws,es,rfl,ha,hw,hz,he,hri,fun u H6 hu g6 h6u=>?_⟩;have h6p:=g6 _ _ ha;generalize zcq es=ms at hml h6u q;refine ⟨a,u,rfl,⟨_,SqL.of h6p⟩,⟨_,SqL.of h6u⟩,fun D hD=>?_⟩;refine zkr (xs:=ws) (ys:=ms.map V.bl) (by rw[yab,hml];exact hwl.symm) (fun j σ H7=>∃ x0 x1:Option V,σ=[x0,x1]∧H7 D=some (.lst (zdg (ws.take j) (ms.take j)))∧But D H6 H7) ?_ ?_ ?_ ?_
 ·exact ⟨_,_,rfl,by rw[ybK,ybK,zok];exact zad,fun b o n e=>by rw[zah n];exact e⟩
 ·rintro j σ H7 _ ⟨x0,x1,rfl,_,k7⟩;exact ⟨k7.sq (SqL.of h6p) hD,k7.sq (SqL.of h6u) hD⟩
 ·rintro j m' x y σ H7 r' hx hy hm' ⟨x0,x1,rfl,h7,k7⟩ hr';obtain ⟨hj,rfl⟩:=zrt hy;obtain ⟨hjw,rfl⟩:=yao.mp hx;have hsn:=zii (a:=ws[j]) (b:=ms[j]) (show (ws.take j).length=(ms.take j).length by rw[yar,yar];omega);rw[← zej hjw,← zej hj]at hsn;refine ⟨r',_,rfl,SqT.of zad,rfl,_,_,rfl,_,_,rfl,rfl,?_⟩;have s7:=zai hr' (.tup [ws[j],.bl ms[j]]);have h8:=s7 _ _ h7;have k8:=k7.new hr' (.tup [ws[j],.bl ms[j]]);generalize upd H7 r' (.tup [ws[j],.bl ms[j]])=H8 at h8 k8 ⊢;refine ⟨_,rfl,_,rfl,?_⟩;have hl8:=zi7 (ws.take j) (ms.take j);rw[yar]at hl8;refine ite2 (fun e=>?_) (fun e=>?_)
  ·refine ⟨_,rfl,_,h8,zap (by omega),m' - 1,by omega,by omega,_,_,rfl,?_,fun b o n e=>by rw[zah n];exact k8 b o n e⟩;rw[zad,hsn,if_pos e]
  ·refine ⟨m' - 1,by omega,by omega,_,_,rfl,?_,k8⟩;rw[h8,hsn,if_neg e,yaI]
 ·rintro σ H7 ⟨x0,x1,rfl,h7,k7⟩;rw[yat (yaa _),yat (by omega)]at h7;have s7:Same H6 H7:=fun b o e=>k7 b o (zab e hD) e;exact q D H7 (g6.free hD) (g6.trans s7) h7
theorem zdV {K:Frag}{H:Hp}{q:Addr}{zs:List V}{o:HO}(hq:H q=some (.lst zs)){es:List (Int×Int)}{ws:List V}(h:zar K H es ws):zar K (upd H q o) es ws:=pImp (fun _ _ h=>by
  obtain ⟨a,x1,x2,rfl,hT,e1,e2⟩:=(show hasP K H _ _ from h);exact ⟨a,x1,x2,rfl,by rw[zah (zre hT hq (by intro z;cases z))];exact hT,e1,e2⟩) h
def Own (K:Frag)(H:Hp):List Addr→List (List (Int×Int))→Prop:=Paired fun q l=>∃ ws,H q=some (.lst ws)∧zar K H l ws
section
variable {K:Frag}{H H':Hp}
theorem Own.length {qs:List Addr}{ls:List (List (Int×Int))}(h:Own K H qs ls):qs.length=ls.length:=Paired.length h
theorem Own.ext (e:Ext H H'){qs:List Addr}{ls:List (List (Int×Int))}(h:Own K H qs ls):Own K H' qs ls:=pImp (fun _ _ h=>by
 obtain ⟨ws,h1,h2⟩:=h;exact ⟨ws,e _ _ h1 (fun _ z=>nomatch z),zar.mono e h2⟩) h
theorem Own.get:∀{qs:List Addr} {ls:List (List (Int×Int))} {i:Nat} {x:V},Own K H qs ls→(qs.map V.ref)[i]?=some x→∃ q l ws,qs[i]?=some q∧x=.ref q∧ls[i]?=some l∧H q=some (.lst ws)∧zar K H l ws
 | _,_,_,_,.nil,e=>by simp at e
 | _,_,0,_,.cons ⟨ws,h1,h2⟩ _,e=>by
  simp at e;exact ⟨_,_,ws,rfl,e.symm,rfl,h1,h2⟩
 | _,_,i+1,x,.cons _ t,e=>by
  obtain ⟨q,l,ws,h1,h2,h3,h4,h5⟩:=Own.get (i:=i) (x:=x) t (by simpa using e);exact ⟨q,l,ws,by simpa using h1,h2,by simpa using h3,h4,h5⟩
theorem Own.append {qs qs':List Addr}{ls ls':List (List (Int×Int))}(h:Own K H qs ls)(g:Own K H qs' ls'):Own K H (qs++qs') (ls++ls'):=pApp h g
theorem Own.other {q:Addr}{o:HO}{zs:List V}(hq:H q=some (.lst zs)){qs:List Addr}{ls:List (List (Int×Int))}(h:Own K H qs ls)(hn:q∉qs):Own K (upd H q o) qs ls:=by
 unfold Own at h
 induction h with
 | nil=>exact .nil
 | cons h _ ih=>
  obtain ⟨ws,h1,h2⟩:=h;rw[yal,not_or]at hn;exact .cons ⟨ws,by rw[zah (Ne.symm hn.1)];exact h1,zdV hq h2⟩ (ih hn.2)
end
theorem zim {ls:List (List (Int×Int))}{i:Nat}{l:List (Int×Int)}(h:ls[i]?=some l):(ls.take (i+1)).flatten=(ls.take i).flatten++l:=by
 have hi:=(yao.mp h).1;rw[yaH hi,ybU,(yao.mp h).2];simp
theorem zp8 {ls:List (List (Int×Int))}(i:Nat):(ls.take i).flatten.length≤ls.flatten.length:=by
 have e:ls.flatten=(ls.take i).flatten++(ls.drop i).flatten:=by rw[← ybU,yaZ]
 rw[e,yaf];omega
def zoN (K:Frag):Sp:=fun vs H Q _=>∃(a:Addr) (qs:List Addr) (ls:List (List (Int×Int))),vs=[.ref a]∧H a=some (.lst (qs.map V.ref))∧Own K H qs ls∧ls.flatten.length≤1000∧
 ∀(p:Addr) (ws:List V) (H':Hp),H p=none→Same H H'→H' p=some (.lst ws)→zar K H' (zen ls.flatten) ws→Q (.ref p) H'
theorem zmc (T:Txt K mg)(qbi:DF K mg "joined_up" zda zcJ):FC P w K mg base 1 "joined_up" zcJ (zoN K):=by
 refine qbi.ok qa2 (fun vs H Q E h=>?_) (fun f cdv A outer s H vs Q E hr h=>?_)
 ·obtain ⟨a,qs,ls,rfl,_⟩:=h;rfl
 obtain ⟨a,qs,ls,rfl,ha,ho,hz,q⟩:=h;have hll:=ho.length;refine ⟨_,(zag (zas (i:=1) qa2.nd rfl (Or.inl rfl) (zaI zac))
   (zag (za2 PassesOwn.never rfl (zbq (pv 0)) (zan (i:=2) qa2.nd rfl (Or.inl rfl)) (zaf (zbd (ze4 F.plainAttrs_list F.slot_list_extend F.type_list_extend zmp (pv 1) (zaa (pv 2) zac)))))
   (zaf (zao (zal (zgI (Int×Int)) rfl T.qcW boot_sorted (zaa (pv 1) zac)))))),?_⟩
 refine ⟨(by show 0≤sizeLine;decide),fun t ht=>?_⟩;have k0:But t H (upd H t (.lst [])):=fun b o n e=>by rw[zah n];exact e
 refine ⟨_,rfl,a,rfl,⟨_,SqL.of (k0 _ _ (zab ha ht) ha)⟩,?_⟩;refine zd0 (xs:=qs.map V.ref) (fun i σ H2=>∃(zs:List V) (x2:Option V),σ=[some (.ref a),some (.ref t),x2]∧H2 t=some (.lst zs)∧zar K H2 (ls.take i).flatten zs∧But t H H2∧Own K H2 qs ls) ?_ ?_ ?_ ?_
 ·exact ⟨[],_,rfl,zad,.nil,k0,ho.ext (zai ht _).ext⟩
 ·rintro i σ H2 _ ⟨zs,x2,rfl,h2,_,k2,_⟩;exact SqL.of (k2 _ _ (zab ha ht) ha)
 ·rintro i x σ H2 hx ⟨zs,x2,rfl,h2,hw,k2,o2⟩;obtain ⟨g,l,ws,e1,rfl,e3,e4,e5⟩:=o2.get hx;have hlen:zs.length+ws.length≤1000:=by
   have z1:=hw.length;have z2:=e5.length;have z3:=zp8 (ls:=ls) (i+1);rw[zim e3,yaf]at z3;omega
  have hgo:∀ b∈qs,b≠t:=fun b hb z=>by
   obtain ⟨j,hj,rfl⟩:=ybb hb;obtain ⟨_,_,ws0,f1,f2,_,f4,_⟩:=ho.get (i:=j) (x:=.ref qs[j]) (by rw[yaj,yac hj];rfl);cases f2
   rw[z,ht]at f4;cases f4
  refine ⟨_,rfl,.inl ⟨rfl,_,SqL.of h2⟩,_,rfl,t,g,zs,ws,rfl,rfl,h2,e4,ybd (zap hlen),?_⟩;refine ⟨_,_,rfl,zad,?_,fun b o n e=>by rw[zah n];exact k2 b o n e,o2.other h2 (fun z=>hgo t z rfl)⟩;rw[zim e3];exact (zdV h2 hw).append (zdV h2 e5)
 ·rintro σ H2 ⟨zs,x2,rfl,h2,hw,k2,o2⟩;rw[yat (by rw[yab];omega)]at hw;refine ⟨_,rfl,t,zs,_,rfl,SqL.of h2,hw,fun l ws hl hs=>?_⟩;have e2:=zai hl (.lst ws);have s2:Same H H2:=fun b o e=>k2 b o (zab e ht) e;exact q l ws _ (s2.free hl) (s2.trans e2) zad (zar.mono e2.ext hs)
def zbP (ps:List Nat):List V:=.non::ps.map nV
def parV (ps:List Nat)(k:Nat):V:=match par ps k with
 | none=>.non
 | some p=>nV p
theorem zax (ps:List Nat):(zbP ps).length=ps.length+1:=by
 unfold zbP;rw[yaK,yab]
theorem zfg {ps:List Nat}{k:Nat}(h:k < ps.length+1):atI (zbP ps) (k:Int)=some (parV ps k):=by
 refine zaQ ?_;unfold zbP parV;cases k with
 | zero=>rfl
 | succ k=>
  show (ps.map nV)[k]?=some (match ps[k]? with | none=>_ | some p=>nV p)
  rw[yaj,yac (show k < ps.length by omega)];rfl
theorem zeJ {ps:List Nat}{k p:Nat}(h:par ps k=some p):parV ps k=nV p:=by
 unfold parV;rw[h]
theorem zhZ {ps:List Nat}{k:Nat}(h:par ps k=none):parV ps k=.non:=by
 unfold parV;rw[h]
theorem ze5 {ps:List Nat}{k m:Nat}:parV ps k=.int (m:Int)↔par ps k=some m:=by
 cases e:par ps k with
 | none=>
  rw[zhZ e];exact ⟨(fun z=>nomatch z),(fun z=>nomatch z)⟩
 | some p=>
  rw[zeJ e];constructor
  ·intro z;have:=Int.ofNat.inj (V.int.inj z);rw[this]
  ·intro z;rw[yag z]
theorem zeo (ps:List Nat)(k:Nat)(i:Int):scal (parV ps k) (.int i)=true:=by
 cases e:par ps k with
 | none=>rw[zhZ e];rfl
 | some p=>rw[zeJ e];rfl
theorem But.new' {p b:Addr}{H H2:Hp}(k:But p H H2)(hb:H2 b=none)(o:HO):But p H (upd H2 b o):=fun x o' n e=>(zai hb o) x o' (k x o' n e)
def zoG (K:Frag):Sp:=fun vs H Q _=>∃(d L:Addr) (m:Int),vs=[.ref d,.int m]∧(0 < m∧m≤40)∧LS K L d H∧
 ∀(t:Addr) (ps:List Nat) (H':Hp),H t=none→zaC ps→(ps.length:Int) < m→H' t=some (.tup (zbP ps))→Keep d H H'→LS K L d H'→Q (.ref t) H'
theorem zly {ps:List Nat}{u:Nat}(T:zaC ps)(h:u≤ps.length):zaC (ps++[u]):=by
 intro i hi;rw[yaf,yaJ]at hi;by_cases c:i < ps.length
 ·rw[List.getElem_append_left c];exact T i c
 ·have:i=ps.length:=by omega
  subst this;rw[List.getElem_append_right (yaa _)];simp;exact h
theorem znT (T:Txt K mg)(qct:DF K mg "_law_tree" zfB zeE)(qac:FC P w K mg base 2 "_law_take" zbb (zem K)):FC P w K mg base 3 "_law_tree" zeE (zoG K):=by
 refine qct.ok qbq (fun vs H Q E h=>?_) (fun f cdv A outer s H vs Q E hr h=>?_)
 ·obtain ⟨d,L,m,rfl,_⟩:=h;rfl
 obtain ⟨d,L,m,rfl,⟨hm0,hm1⟩,hs,q⟩:=h;refine ⟨_,(zag (zas (i:=2) qbq.nd rfl (Or.inl rfl) (zaz qac hr (zaa (pv 0) (zaa zae zac))))
   (zag (zas (i:=3) qbq.nd rfl (Or.inl rfl) (zaI (zaa zhX zac)))
   (zag (za2 PassesOwn.never rfl (zc0 rfl T.qap (zaa zae (zaa (zaw zbe zae (zaz qac hr (zaa (pv 0) (zaa (pv 1) zac)))) zac))) (zan (i:=4) qbq.nd rfl (Or.inl rfl)) (zaf (zbd (ze4 F.plainAttrs_list F.slot_list_append F.type_list_append za0 (pv 3) (zaa (zau zay (zaI (zaa (zaw zbO (pv 4) zae) (zaa zae (zaa (zaz qac hr (zaa (pv 0) (zaa (pv 4) zac))) (zaa (zal (zgd rfl) rfl T.qdL boot_max (zaa zae (zaa (zaw zbO (zaw zbO (pv 4) zae) (zaz qac hr (zaa (pv 0) (zaa zae zac)))) zac))) zac))))) (pv 2) (fun _ _=>rfl)) zac)))))
   (zaf (zao (zbJ zcc rfl T.qbJ boot_tuple (zaa (pv 3) zac))))))),?_⟩
 refine ⟨_,rfl,d,L,4,rfl,by decide,hs,fun w1 H1 w0 w4 k1 s1=>?_⟩;refine ⟨(by show 1≤sizeLine;decide),fun p hp=>?_⟩;have g0:=zai hp (.lst [V.non]);have hpd:p≠d:=by
  obtain ⟨ns,a,l,e,_⟩:=s1.ex;exact Ne.symm (zab e hp)
 have hp0:H p=none:=by
  cases e:H p with
  | none=>rfl
  | some o=>
   have:=k1 p o hpd e;rw[hp]at this;cases this
 refine ⟨_,rfl,_,rfl,d,L,m,rfl,⟨hm0,by omega⟩,s1.same g0,fun n H2 n0 n1 k2 s2=>⟨_,_,rfl,rfl,1,_,rfl,⟨by omega,by omega,by omega,by omega⟩,?_⟩⟩;have en:((1:Int)+n - 1).toNat=n.toNat:=by omega
 rw[en];refine zbh (n:=n.toNat) (fun i σ H3=>∃(ps:List Nat) (x4:Option V),σ=[some (.ref d),some (.int m),some (.int w1),some (.ref p),x4]∧H3 p=some (.lst (zbP ps))∧ps.length=i∧zaC ps∧(∀ b o,b≠d→b≠p→H b=some o→H3 b=some o)∧LS K L d H3) ?_ ?_ ?_
 ·exact ⟨[],_,rfl,k2 p _ hpd zad,rfl,fun i hi=>absurd hi (by simp),fun b o n1 n2 e=>k2 b o n1 (g0 b o (k1 b o n1 e)),s2⟩
 ·rintro i σ H3 hi ⟨ps,x4,rfl,h3,rfl,hT,k3,s3⟩;have ek:(1:Int)+((ps.length:Nat):Int)=((ps.length+1:Nat):Int):=by omega
  rw[ek];refine ⟨_,rfl,.inl ⟨rfl,_,SqL.of h3⟩,?_⟩;refine ⟨_,rfl,_,_,rfl,rfl,_,rfl,_,rfl,d,L,_,rfl,⟨by omega,by omega⟩,s3,fun v1 H4 v10 v11 k4 s4=>?_⟩;refine ⟨_,rfl,_,_,rfl,rfl,_,rfl,d,L,2,rfl,by decide,s4,fun v2 H5 v20 v21 k5 s5=>⟨_,_,rfl,rfl,_,_,rfl,(by show 4≤sizeLine;decide),fun l hl=>?_⟩⟩;have h4:=k4 p _ hpd h3;have h5:=k5 p _ hpd h4;obtain ⟨u,hat,hu⟩:∃ u:Nat,atI [V.int (((ps.length+1:Nat):Int) - 1),V.int 0,V.int v1,V.int (if ((ps.length+1:Nat):Int) - 1 - v2 > 0 then ((ps.length+1:Nat):Int) - 1 - v2 else 0)] w1=some (nV u)∧u≤ps.length:=by
   have z:w1=0∨w1=1∨w1=2∨w1=3:=by omega
   rcases z with rfl | rfl | rfl | rfl
   ·refine ⟨ps.length,?_,yaa _⟩;rw[show ((ps.length+1:Nat):Int) - 1=((ps.length:Nat):Int) by omega];rfl
   ·exact ⟨0,rfl,yaE _⟩
   ·obtain ⟨u,rfl⟩:=zh6 v10;exact ⟨u,rfl,by omega⟩
   ·refine ⟨(if ((ps.length+1:Nat):Int) - 1 - v2 > 0 then ((ps.length+1:Nat):Int) - 1 - v2 else 0).toNat,?_,?_⟩
    ·show some (V.int _)=some (V.int _);rw[Int.toNat_of_nonneg (by split <;> omega)]
    ·split <;> omega
  refine ⟨_,rfl,_,_,_,_,rfl,rfl,SqL.of zad,hat,_,_,_,rfl,rfl,by rw[zah (zab h5 hl)];exact h5,zap (by rw[zax];omega),?_⟩;refine ⟨ps++[u],_,rfl,?_,by rw[yaf,yaJ],zly hT hu,fun b o n1 n2 e=>?_,?_⟩
  ·rw[zad];unfold zbP;rw[yan];rfl
  ·rw[zah n2];have e5:=k5 b o n1 (k4 b o n1 (k3 b o n1 n2 e));exact (zai hl _) _ _ e5
  ·exact LS.put hs hp0 (fun b o n1 n2 e=>(zai hl _) _ _ (k5 b o n1 (k4 b o n1 (k3 b o n1 n2 e)))) (s5.of_new hl _)
 ·rintro σ H3 ⟨ps,x4,rfl,h3,hl,hT,k3,s3⟩;refine ⟨_,rfl,p,_,rfl,.inl ⟨SqL.of h3,fun t ht=>?_⟩⟩;have sn:=zai ht (.tup (zbP ps));have htp:t≠p:=Ne.symm (zab h3 ht);have ht0:H t=none:=by
   cases e:H t with
   | none=>rfl
   | some o=>
    have htd:t≠d:=by
     obtain ⟨ns,a,l,e,_⟩:=s3.ex;exact Ne.symm (zab e ht)
    have:=k3 t o htd htp e;rw[ht]at this;cases this
  exact q t ps _ ht0 hT (by omega) zad (fun b o n e=>sn _ _ (k3 b o n (zab e hp0) e)) (s3.of_new ht _)
def zcW (K:Frag):Sp:=fun vs H Q _=>∃(t:Addr) (ps:List Nat) (k:Nat),vs=[.ref t,.int k]∧H t=some (.tup (zbP ps))∧ps.length≤900∧
 ∀(p:Addr) (H':Hp),H p=none→Same H H'→H' p=some (.lst ((zaN ps k (ps.length+1)).map nV))→Q (.ref p) H'
theorem ziS (T:Txt K mg)(qbx:DF K mg "children" zdL zcn):FC P w K mg base 1 "children" zcn (zcW K):=by
 refine qbx.ok qcI (fun vs H Q E h=>?_) (fun f cdv A outer s H vs Q E hr h=>?_)
 ·obtain ⟨t,ps,k,rfl,_⟩:=h;rfl
 obtain ⟨t,ps,k,rfl,ht,hz,q⟩:=h;refine ⟨_,(zaf (zao (zbr (N:=["other","tree","knot"]) (own:=1) (cap:=[0,1]) rfl (zbI rfl T.qap (zaa (zal zam rfl T.qaz boot_len (zaa (pv 0) zac)) zac)) ⟨rfl,rfl,rfl,rfl,rfl,rfl⟩ (fun _ _ _ _ _=>(zan (i:=0) (show List.Nodup (["other","tree","knot"]:List Str) by decide +kernel) rfl (Or.inl rfl))) (fun _ _ _ _ _=>(zfV (zav zdx (zau (zcP (K:=K)) (pv 1) (pv 0) (fun _ _=>rfl)) (pv 2) (zaB _)))) (fun _ _ _ _ _=>(pv 0))))),?_⟩;refine ⟨_,rfl,_,_,rfl,.inr (SqT.of ht),_,rfl,by omega,by rw[zax];omega,fun D hD=>?_⟩;have el:((((zbP ps).length:Nat):Int)).toNat=ps.length+1:=by rw[zax,ya9]
 rw[el];refine zd2 (n:=ps.length+1) (fun j σ H3=>∃ x0:Option V,σ=[x0,some (.ref t),some (.int k)]∧H3 D=some (.lst ((zaN ps k j).map nV))∧But D H H3) ?_ ?_ ?_
 ·exact ⟨_,rfl,zad,fun b o n e=>by rw[zah n];exact e⟩
 ·rintro j m σ H3 hm hj ⟨x0,rfl,h3,k3⟩;rw[ybT];have h3t:=k3 _ _ (zab ht hD) ht;have hlen:=zc6 ps k j;refine ⟨_,rfl,_,rfl,_,_,_,_,rfl,rfl,SqT.of h3t,zfg hj,_,rfl,zeo _ _ _,_,rfl,?_⟩;refine ite2 (fun c=>?_) (fun c=>?_)
  ·have c':par ps j=some k:=ze5.mp (yaD c);refine ⟨_,rfl,_,h3,zap (by rw[yab];omega),m - 1,by omega,by omega,_,rfl,?_,fun b o n e=>by rw[zah n];exact k3 b o n e⟩;rw[zad,zdh,if_pos c',yan];rfl
  ·have c':¬ par ps j=some k:=fun z=>c (yam (ze5.mpr z));refine ⟨m - 1,by omega,by omega,_,rfl,?_,k3⟩;rw[h3,zdh,if_neg c',yaI]
 ·rintro σ H3 ⟨x0,rfl,h3,k3⟩;exact q D H3 hD (fun b o e=>k3 b o (zab e hD) e) h3
def zhS (K:Frag):Sp:=fun vs H Q _=>∃(t:Addr) (ps:List Nat) (k:Nat),vs=[.ref t,.int k]∧H t=some (.tup (zbP ps))∧zaC ps∧k < ps.length+1∧ps.length≤900∧
 ∀(p:Addr) (H':Hp),H p=none→Same H H'→H' p=some (.lst ((benL ps k (ps.length+1)).map nV))→Q (.ref p) H'
theorem zkV (T:Txt K mg)(qbR:DF K mg "beneath" zey zdU):FC P w K mg base 1 "beneath" zdU (zhS K):=by
 refine qbR.ok qbs (fun vs H Q E h=>?_) (fun f cdv A outer s H vs Q E hr h=>?_)
 ·obtain ⟨t,ps,k,rfl,_⟩:=h;rfl
 obtain ⟨t,ps,k,rfl,ht,hT,hk,hz,q⟩:=h;refine ⟨_,(zag (zas (i:=2) qbs.nd rfl (Or.inl rfl) (zaI (zaa (pv 1) zac)))
   (zag (za2 PassesOwn.never rfl (zc0 rfl T.qap (zaa (zaw zbe (pv 1) zae) (zaa (zal zam rfl T.qaz boot_len (zaa (pv 0) zac)) zac))) (zan (i:=3) qbs.nd rfl (Or.inl rfl)) (zaf (za6 (zav zl5 (zau zaF (pv 0) (pv 3) (fun _ _=>rfl)) (pv 2) (by with_unfolding_all rfl)) (zaf (zbd (ze4 F.plainAttrs_list F.slot_list_append F.type_list_append za0 (pv 2) (zaa (pv 3) zac)))) zaA)))
   (zaf (zao (pv 2))))),?_⟩
 refine ⟨_,rfl,(by show 1≤sizeLine;decide),fun p hp=>?_⟩;have k0:But p H (upd H p (.lst [.int (k:Int)])):=fun b o n e=>by rw[zah n];exact e
 have ntp:t≠p:=zab ht hp;refine ⟨_,rfl,_,_,rfl,rfl,_,rfl,_,_,rfl,.inr (SqT.of (k0 _ _ ntp ht)),_,_,rfl,⟨by omega,by omega,by omega,by rw[zax];omega⟩,?_⟩;have en:((((zbP ps).length:Nat):Int) - ((k:Int)+1)).toNat=ps.length - k:=by rw[zax];omega
 rw[en];refine zbh (n:=ps.length - k) (fun i σ H3=>∃ x3:Option V,σ=[some (.ref t),some (.int k),some (.ref p),x3]∧H3 p=some (.lst ((benL ps k (k+1+i)).map nV))∧But p H H3) ?_ ?_ ?_
 ·refine ⟨_,rfl,?_,k0⟩;rw[zad,ybr,zov hT];rfl
 ·rintro i σ H3 hi ⟨x3,rfl,h3,k3⟩;have ek:(k:Int)+1+(i:Int)=((k+1+i:Nat):Int):=by omega
  rw[ek];have hj:k+1+i < ps.length+1:=by omega
  have hj1:1≤k+1+i:=by omega
  have hjk:k+1+i≠k:=by omega
  have ei:k+1+(i+1)=k+1+i+1:=by omega
  rw[ei];generalize k+1+i=j at h3 hj hj1 hjk ⊢;obtain ⟨u,hu⟩:=zj1 hj1 hj;have h3t:=k3 _ _ ntp ht;have hat:=zfg hj;rw[zeJ hu]at hat;have hlen:=zkv ps k j;refine ⟨_,rfl,_,rfl,_,_,_,_,rfl,rfl,SqT.of h3t,hat,_,rfl,_,_,rfl,.inl (SqL.of h3),rfl,zmV _,_,rfl,?_⟩;show if inV (.int (u:Int)) ((benL ps k j).map nV)=true then _ else _
  rw[zo3];have hB:isB ps k j=isB ps k u:=zbX hT hjk hu;have hult:=(zaP hT hu).1;refine ite2 (fun c=>?_) (fun c=>?_)
  ·have c':isB ps k u=true:=(zcd.mp (yaD c)).2;refine ⟨_,rfl,.inl ⟨rfl,_,SqL.of h3⟩,_,rfl,_,_,_,rfl,rfl,h3,zap (by rw[yab];omega),?_⟩;refine ⟨_,rfl,?_,fun b o n e=>by rw[zah n];exact k3 b o n e⟩;rw[zad,ziC,hB,if_pos c',yan];rfl
  ·have c':¬ isB ps k u=true:=fun z=>c (yam (zcd.mpr ⟨hult,z⟩));refine ⟨_,rfl,?_,k3⟩;rw[h3,ziC,hB,if_neg c',yaI]
 ·rintro σ H3 ⟨x3,rfl,h3,k3⟩;refine ⟨_,rfl,?_⟩;rw[show k+1+(ps.length - k)=ps.length+1 by omega]at h3;exact q p H3 hp (fun b o e=>k3 b o (zab e hp) e) h3
def zbZ (es:List (Int×Int)):List (Int×Int):=zdg es (zcq es)
def zcy (rows:List (List Int))(k:Nat):List Int:=rows.getD k []
def ownE (rows:List (List Int))(k:Nat):List (Int×Int):=(zcy rows k).map fun x=>(x,(k:Int))
def zk7 (ps:List Nat)(rows:List (List Int)):Nat→Nat→List (Int×Int)
 | 0,_=>[]
 | f+1,k=>zen (((zaN ps k (ps.length+1)).map fun c=>zbZ (zk7 ps rows f c)).flatten++ownE rows k)
theorem zgF {ps:List Nat}(T:zaC ps){rows:List (List Int)}:∀ f g k,k < ps.length+1→ps.length+1 - k≤f→ps.length+1 - k≤g→zk7 ps rows f k=zk7 ps rows g k
 | 0,_,k,hk,h,_=>by omega
 | _,0,k,hk,_,h=>by omega
 | f+1,g+1,k,hk,hf,hg=>by
  unfold zk7;congr 3;refine ycD fun c hc=>?_;have h:=zaD.mp hc;have:=zaP T h.2;show zbZ _=zbZ _;rw[zgF T f g c h.1 (by omega) (by omega)]
def zak (ps:List Nat)(rows:List (List Int))(k:Nat):List (Int×Int):=zk7 ps rows (ps.length+1 - k) k
def zd5 (ps:List Nat)(rows:List (List Int))(k:Nat):List (List (Int×Int)):=((zaN ps k (ps.length+1)).map fun c=>zbZ (zak ps rows c))++[ownE rows k]
theorem zcL {ps:List Nat}(T:zaC ps){rows:List (List Int)}{k:Nat}(hk:k < ps.length+1):zak ps rows k=zen (zd5 ps rows k).flatten:=by
 unfold zak zd5;obtain ⟨f,hf⟩:∃ f,ps.length+1 - k=f+1:=⟨ps.length - k,by omega⟩;rw[hf,zk7,ybU,List.flatten_singleton];congr 3;refine ycD fun c hc=>?_;have h:=zaD.mp hc;have:=zaP T h.2;show zbZ _=zbZ _;rw[zgF T f (ps.length+1 - c) c h.1 (by omega) (by omega)];rfl
structure za1 (rows:List (List Int)):Prop where
 up:∀ row∈rows,row.Pairwise (· < ·)
 key:∀ row∈rows,∀ x∈row,-(10 ^ 60) < x∧x < 10 ^ 60
theorem za1.at_up {rows:List (List Int)}(R:za1 rows)(k:Nat):(zcy rows k).Pairwise (· < ·):=by
 unfold zcy;rw[yad];cases e:rows[k]? with
 | none=>exact .nil
 | some row=>exact R.up row (yaQ e)
theorem za1.at_key {rows:List (List Int)}(R:za1 rows)(k:Nat):∀ x∈zcy rows k,-(10 ^ 60) < x∧x < 10 ^ 60:=by
 unfold zcy;rw[yad];cases e:rows[k]? with
 | none=>exact fun x hx=>nomatch hx
 | some row=>exact R.key row (yaQ e)
theorem zij {α:Type}:∀(es:List α) (ms:List Bool),(zdg es ms).Sublist es
 | [],_=>by
  unfold zdg;exact List.Sublist.refl _
 | e::es,[]=>by
  unfold zdg;exact List.nil_sublist _
 | e::es,m::ms=>by
  have ih:=zij es ms;unfold zdg at ih ⊢;cases m with
  | false=>exact List.Sublist.cons e ih
  | true=>exact List.Sublist.cons₂ e ih
theorem zbg (es:List (Int×Int)):(zbZ es).Sublist es:=zij _ _
def Of (ps:List Nat)(rows:List (List Int))(k:Nat)(e:Int×Int):Prop:=∃ j,j < ps.length+1∧isB ps k j=true∧e.2=(j:Int)∧e.1∈zcy rows j
theorem zj4 {ps:List Nat}{rows:List (List Int)}{k:Nat}(hk:k < ps.length+1){e:Int×Int}(h:e∈ownE rows k):Of ps rows k e∧e.2=(k:Int):=by
 obtain ⟨x,hx,rfl⟩:=yaA.mp h;exact ⟨⟨k,hk,zdf,rfl,hx⟩,rfl⟩
theorem zl3 {rows:List (List Int)}(R:za1 rows)(k:Nat):(ownE rows k).Nodup:=by
 unfold ownE;rw[List.nodup_iff_pairwise_ne,yb2];exact List.Pairwise.imp (fun {a b} (h:a < b) z=>by
  have:=congrArg Prod.fst z;have:a=b:=this;omega) (R.at_up k)
theorem zfM {ps:List Nat}(T:zaC ps){rows:List (List Int)}(R:za1 rows):∀(m k:Nat),ps.length+1 - k≤m→k < ps.length+1→(∀ e∈zak ps rows k,Of ps rows k e)∧(zd5 ps rows k).flatten.Nodup
 | 0,k,hm,hk=>by omega
 | m+1,k,hm,hk=>by
  have ih:∀ c,par ps c=some k→(∀ e∈zak ps rows c,Of ps rows c e)∧(zak ps rows c).Nodup:=fun c hc=>by
   have:=zaP T hc;have q:=zfM T R m c (by omega) this.2;refine ⟨q.1,?_⟩;rw[zcL T this.2];exact (zcf _).nodup_iff.mpr q.2
  have up:∀{c:Nat} {e:Int×Int},par ps c=some k→Of ps rows c e→Of ps rows k e:=fun {c e} hc h=>by
   obtain ⟨j,h1,h2,h3,h4⟩:=h;exact ⟨j,h1,(zeP T j j (yaa _) h1).mpr (.inr ⟨c,hc,h2⟩),h3,h4⟩
  refine ⟨fun e he=>?_,?_⟩
  ·rw[zcL T hk,zfR]at he;obtain ⟨l,hl,he⟩:=ycq.mp he;rcases yai.mp hl with q | q
   ·obtain ⟨c,hc,rfl⟩:=yaA.mp q;have hp:=(zaD.mp hc).2;exact up hp ((ih c hp).1 e ((zbg _).mem he))
   ·rw[yah.mp q]at he;exact (zj4 hk he).1
  ·show List.Pairwise _ _;unfold zd5;rw[List.pairwise_flatten];refine ⟨fun l hl=>?_,?_⟩
   ·rcases yai.mp hl with q | q
    ·obtain ⟨c,hc,rfl⟩:=yaA.mp q;exact (ih c (zaD.mp hc).2).2.sublist (zbg _)
    ·rw[yah.mp q];exact zl3 R k
   ·rw[yaN];refine ⟨?_,List.pairwise_singleton _ _,?_⟩
    ·rw[yb2];refine List.Pairwise.imp_of_mem (fun {c d} hc hd hcd=>?_) (ziu ps k _);intro x hx y hy z;subst z;have pc:=(zaD.mp hc).2;have pd:=(zaD.mp hd).2;obtain ⟨j,_,h2,h3,_⟩:=(ih c pc).1 x ((zbg _).mem hx);obtain ⟨i,_,g2,g3,_⟩:=(ih d pd).1 x ((zbg _).mem hy);have:j=i:=by omega
     subst this;exact zeQ T pc pd (yau hcd) j j (yaa _) h2 g2
    ·intro l hl l' hl' x hx y hy z;subst z;obtain ⟨c,hc,rfl⟩:=yaA.mp hl;rw[yah.mp hl']at hy;have pc:=(zaD.mp hc).2;obtain ⟨j,_,h2,h3,_⟩:=(ih c pc).1 x ((zbg _).mem hx);have h4:=(zj4 hk hy).2;have:j=k:=by omega
     subst this;rw[zfr T (zaP T pc).1]at h2;cases h2
theorem zfN {ps:List Nat}(T:zaC ps){rows:List (List Int)}(R:za1 rows){k:Nat}(hk:k < ps.length+1):∀ e∈zak ps rows k,Of ps rows k e:=(zfM T R _ k (yaa _) hk).1
theorem zf3 {ps:List Nat}(T:zaC ps){rows:List (List Int)}(R:za1 rows){k:Nat}(hk:k < ps.length+1):(zak ps rows k).Nodup:=by
 rw[zcL T hk];exact (zcf _).nodup_iff.mpr (zfM T R _ k (yaa _) hk).2
theorem zaS {ps:List Nat}(T:zaC ps){rows:List (List Int)}(R:za1 rows){k:Nat}(hk:k < ps.length+1):Rise (zak ps rows k):=by
 rw[zcL T hk];exact zgs (zfM T R _ k (yaa _) hk).2
theorem zf4 {ps:List Nat}(T:zaC ps){rows:List (List Int)}(R:za1 rows)(hz:ps.length≤40){k:Nat}(hk:k < ps.length+1):∀ e∈zak ps rows k,zeg 64 e:=fun e he=>by
 obtain ⟨j,h1,h2,h3,h4⟩:=zfN T R hk e he;have:=R.at_key j _ h4;exact ⟨this.1,this.2,by omega,by omega⟩
def wtR (ps:List Nat)(rows:List (List Int))(k:Nat):Nat:=((benL ps k (ps.length+1)).map fun j=>(zcy rows j).length).sum
theorem znw {l m:List Nat}(h:l.Perm m):l.sum=m.sum:=by
 induction h with
 | nil=>rfl
 | cons x _ ih=>rw[yaS,yaS,ih]
 | swap x y l=>rw[yaS,yaS,yaS,yaS];omega
 | trans _ _ h1 h2=>rw[h1,h2]
theorem zjC (f:Nat→Nat):∀(ls:List (List Nat)),(ls.flatten.map f).sum=(ls.map fun l=>(l.map f).sum).sum
 | []=>rfl
 | l::ls=>by
  rw[List.flatten_cons,yan,List.sum_append,zjC f ls,yaw,yaS]
theorem zlm {ps:List Nat}(T:zaC ps)(f:Nat→Nat){k:Nat}(hk:k < ps.length+1):((benL ps k (ps.length+1)).map f).sum=f k+((zaN ps k (ps.length+1)).map fun c=>((benL ps c (ps.length+1)).map f).sum).sum:=by
 have h:=znw ((zkM T hk).map f);rw[yaw,yaS,zjC,ybc]at h;exact h.symm
theorem zoF {f g:Nat→Nat}:∀{l:List Nat},(∀ x∈l,f x≤g x)→(l.map f).sum≤(l.map g).sum
 | [],_=>yaa _
 | x::l,h=>by
  rw[yaw,yaS,yaw,yaS];have h1:=h x yak;have h2:=zoF (f:=f) (g:=g) (l:=l) fun y hy=>h y (yas _ hy);omega
theorem zka {α:Type}:∀(ls:List (List α)),ls.flatten.length=(ls.map List.length).sum
 | []=>rfl
 | l::ls=>by
  rw[List.flatten_cons,yaf,zka ls,yaw,yaS]
theorem zmT {ps:List Nat}(T:zaC ps){rows:List (List Int)}{k:Nat}(hk:k < ps.length+1):(zak ps rows k).length=(zcy rows k).length+((zaN ps k (ps.length+1)).map fun c=>(zbZ (zak ps rows c)).length).sum:=by
 rw[zcL T hk,zdr];unfold zd5;rw[ybU,yaf,List.flatten_singleton,zka,ybc];unfold ownE;rw[yab,Nat.add_comm];rfl
theorem zgE {ps:List Nat}(T:zaC ps){rows:List (List Int)}:∀(m k:Nat),ps.length+1 - k≤m→k < ps.length+1→(zak ps rows k).length≤wtR ps rows k
 | 0,k,hm,hk=>by omega
 | m+1,k,hm,hk=>by
  unfold wtR;rw[zmT T hk,zlm T _ hk];refine yb8 (zoF fun c hc=>?_) _;have h:=zaD.mp hc;have:=zaP T h.2;exact yaB (zbg _).length_le (zgE T m c (by omega) h.1)
theorem zgr (f:Nat→Nat)(P:Nat→Bool):∀(l:List Nat),((l.filter P).map f).sum≤(l.map f).sum
 | []=>yaa _
 | x::l=>by
  have ih:=zgr f P l;rw[yaw,yaS];by_cases h:P x=true
  ·rw[ybg h,yaw,yaS];omega
  ·rw[ybS h];omega
def zfv (rows:List (List Int)):Nat:=(rows.map List.length).sum
theorem zlF (rows:List (List Int)):((List.range rows.length).map fun j=>(zcy rows j).length).sum=zfv rows:=by
 unfold zfv;congr 1;apply ybf;intro i;rw[yaj,yaj];by_cases h:i < rows.length
 ·rw[ybm h,yac h];show some (zcy rows i).length=some rows[i].length;unfold zcy;rw[yad,yac h];rfl
 ·rw[ya8 (by rw[ya5];omega),ya8 (by omega)];rfl
theorem zoz {ps:List Nat}{rows:List (List Int)}(hl:rows.length=ps.length+1)(k:Nat):wtR ps rows k≤zfv rows:=by
 unfold wtR benL;refine yaB (zgr _ _ _) ?_;rw[← hl,zlF];exact yaa _
theorem ze9 {ps:List Nat}(T:zaC ps){rows:List (List Int)}(hl:rows.length=ps.length+1){k:Nat}(hk:k < ps.length+1):(zak ps rows k).length≤zfv rows:=yaB (zgE T _ k (yaa _) hk) (zoz hl k)
def zbj (H:Hp)(as:List Addr)(rows:List (List Int)):Prop:=Paired (fun a row=>H a=some (.tup (row.map V.int))) as rows
theorem zbj.ext {H H':Hp}(e:∀ b o,H b=some o→H' b=some o){as:List Addr}{rows:List (List Int)}(h:zbj H as rows):zbj H' as rows:=pImp (fun _ _=>e _ _) h
theorem zbj.keep {d p:Addr}{H H':Hp}(hd:∀ a row,H a=some (.tup row)→a≠d)(e:∀ b o,b≠d→H b=some o→H' b=some o){as:List Addr}{rows:List (List Int)}(h:zbj H as rows):zbj H' as rows:=pImp (fun _ _ h=>e _ _ (hd _ _ h) h) h
theorem zbj.length {H:Hp}{as:List Addr}{rows:List (List Int)}(h:zbj H as rows):as.length=rows.length:=Paired.length h
theorem zbj.get {H:Hp}:∀{as:List Addr} {rows:List (List Int)} {k:Nat},zbj H as rows→k < rows.length→∃ a,as[k]?=some a∧H a=some (.tup ((zcy rows k).map V.int))
 | _,_,_,.nil,hk=>by simp at hk
 | a::as,row::rows,0,.cons h t,_=>⟨a,rfl,h⟩
 | a::as,row::rows,k+1,.cons h t,hk=>by
  obtain ⟨b,h1,h2⟩:=zbj.get (k:=k) t (by simpa using hk);refine ⟨b,by rw[yci];exact h1,?_⟩;have:zcy (row::rows) (k+1)=zcy rows k:=by
   unfold zcy;rw[yad,yad,yci]
  rw[this];exact h2
theorem zbj.snoc {H:Hp}{a:Addr}{row:List Int}{as:List Addr}{rows:List (List Int)}(h:zbj H as rows)(g:H a=some (.tup (row.map V.int))):zbj H (as++[a]) (rows++[row]):=pApp h (.cons g .nil)
structure zbi (H:Hp)(st:Addr)(ps:List Nat)(rows:List (List Int))(t rs:Addr)(as:List Addr):Prop where
 st:H st=some (.tup [.ref t,.ref rs])
 tr:H t=some (.tup (zbP ps))
 rs:H rs=some (.tup (as.map V.ref))
 at_:zbj H as rows
 len:rows.length=ps.length+1
 T:zaC ps
 R:za1 rows
 few:ps.length≤40
 keys:zfv rows≤400
theorem zbi.same {H H':Hp}{st t rs:Addr}{ps:List Nat}{rows:List (List Int)}{as:List Addr}(S:zbi H st ps rows t rs as)(e:Same H H'):zbi H' st ps rows t rs as:=
 ⟨e _ _ S.st,e _ _ S.tr,e _ _ S.rs,S.at_.ext e,S.len,S.T,S.R,S.few,S.keys⟩
theorem zkw {as:List Addr}{k:Nat}{a:Addr}(h:as[k]?=some a):atI (as.map V.ref) (k:Int)=some (.ref a):=zaQ (by rw[yaj,h];rfl)
theorem zh5 {α:Type}{l:List α}(h:l.Nodup):l.reverse.Nodup:=(List.reverse_perm l).nodup_iff.mpr h
def zgi (K:Frag)(H:Hp)(ps:List Nat)(rows:List (List Int))(j:Nat)(q:Addr):Prop:=∃ ws,H q=some (.lst ws)∧zar K H (zak ps rows j) ws
def zaE (K:Frag)(H:Hp)(ps:List Nat)(rows:List (List Int)):List Nat→List Addr→Prop:=Paired (zgi K H ps rows)
theorem zgi.same {K:Frag}{H H':Hp}{ps:List Nat}{rows:List (List Int)}{j:Nat}{q:Addr}(h:zgi K H ps rows j q)(e:Same H H'):zgi K H' ps rows j q:=by
 obtain ⟨ws,h1,h2⟩:=h;exact ⟨ws,e _ _ h1,h2.mono e.ext⟩
theorem zaE.same {K:Frag}{H H':Hp}{ps:List Nat}{rows:List (List Int)}(e:Same H H'){js:List Nat}{qs:List Addr}(h:zaE K H ps rows js qs):zaE K H' ps rows js qs:=pImp (fun _ _ h=>zgi.same h e) h
theorem zaE.ext {K:Frag}{H H':Hp}{ps:List Nat}{rows:List (List Int)}(e:Ext H H'){js:List Nat}{qs:List Addr}(h:zaE K H ps rows js qs):zaE K H' ps rows js qs:=pImp (fun _ _ h=>by
  obtain ⟨ws,a1,a2⟩:=h;exact ⟨ws,e _ _ a1 (fun _ z=>nomatch z),a2.mono e⟩) h
theorem zaE.length {K:Frag}{H:Hp}{ps:List Nat}{rows:List (List Int)}{js:List Nat}{qs:List Addr}(h:zaE K H ps rows js qs):js.length=qs.length:=Paired.length h
theorem zaE.snoc {K:Frag}{H:Hp}{ps:List Nat}{rows:List (List Int)}{j:Nat}{q:Addr}{js:List Nat}{qs:List Addr}(h:zaE K H ps rows js qs)(g:zgi K H ps rows j q):zaE K H ps rows (js++[j]) (qs++[q]):=pApp h (.cons g .nil)
theorem zaE.get {K:Frag}{H:Hp}{ps:List Nat}{rows:List (List Int)}:∀{js:List Nat} {qs:List Addr} {i j:Nat},zaE K H ps rows js qs→js[i]?=some j→∃ q,qs[i]?=some q∧zgi K H ps rows j q
 | _,_,i,j,.nil,h=>by simp at h
 | _::_,q::_,0,j,.cons h t,e=>by
  have:=yag (show some _=some j from e);subst this;exact ⟨q,rfl,h⟩
 | _::_,_::_,i+1,j,.cons h t,e=>by
  obtain ⟨q,h1,h2⟩:=zaE.get (i:=i) t (by simpa using e);exact ⟨q,by simpa using h1,h2⟩
theorem zaE.rev {K:Frag}{H:Hp}{ps:List Nat}{rows:List (List Int)}{js:List Nat}{qs:List Addr}(h:zaE K H ps rows js qs):zaE K H ps rows js.reverse qs.reverse:=by
 unfold zaE at h
 induction h with
 | nil=>exact .nil
 | cons h _ ih=>
  rw[ybN,ybN];exact zaE.snoc ih h
theorem zaE.alloc {K:Frag}{H:Hp}{ps:List Nat}{rows:List (List Int)}:∀{js:List Nat} {qs:List Addr},zaE K H ps rows js qs→∀ q∈qs,∃ ws,H q=some (.lst ws)
 | _,_,.nil=>fun q hq=>nomatch hq
 | _::_,_::_,.cons h t=>fun q hq=>by
  rcases yal.mp hq with e | e
  ·obtain ⟨ws,h1,_⟩:=h;exact ⟨ws,e ▸ h1⟩
  ·exact zaE.alloc t q e
abbrev kN (j:Nat):Key:=Sum.inl (j:Int)
def zdz:List Nat→List Addr→List (Key×V)
 | j::js,q::qs=>(kN j,.ref q)::zdz js qs
 | _,_=>[]
theorem zkd {j:Nat}:∀{js:List Nat} {qs:List Addr},j∉js→valV (zdz js qs) (kN j)=none
 | [],_,_=>rfl
 | _::_,[],_=>rfl
 | i::js,q::qs,h=>by
  have h1:¬ kN i=kN j:=fun z=>h (by
   have:=Int.ofNat.inj (Sum.inl.inj z);rw[this];exact yak)
  show valV ((kN i,V.ref q)::zdz js qs) (kN j)=none;rw[zbv h1];exact zkd fun z=>h (yas _ z)
theorem zi1 {j:Nat}{q:Addr}:∀{js:List Nat} {qs:List Addr} {i:Nat},js.Nodup→js[i]?=some j→qs[i]?=some q→valV (zdz js qs) (kN j)=some (.ref q)
 | [],_,_,_,h,_=>by simp at h
 | _::_,[],_,_,_,h=>by simp at h
 | a::js,b::qs,0,_,h1,h2=>by
  have:=yag (show some a=some j from h1);subst this;have:=yag (show some b=some q from h2);subst this;exact zcA (p:=(kN a,V.ref b)) rfl
 | a::js,b::qs,i+1,hn,h1,h2=>by
  have g1:js[i]?=some j:=by simpa using h1
  have hne:¬ kN a=kN j:=fun z=>by
   have e:=Int.ofNat.inj (Sum.inl.inj z);exact (yaW.mp hn).1 (e ▸ yaQ g1)
  show valV ((kN a,V.ref b)::zdz js qs) (kN j)=_;rw[zbv hne];exact zi1 (yaW.mp hn).2 g1 (by simpa using h2)
theorem zkc {j:Nat}{q:Addr}:∀{js:List Nat} {qs:List Addr},js.length=qs.length→zdz (js++[j]) (qs++[q])=zdz js qs++[(kN j,.ref q)]
 | [],[],_=>rfl
 | [],_::_,h=>by cases h
 | _::_,[],h=>by cases h
 | a::js,b::qs,h=>by
  show (kN a,V.ref b)::zdz (js++[j]) (qs++[q])=(kN a,V.ref b)::(zdz js qs++[(kN j,V.ref q)]);rw[zkc (Nat.succ.inj h)]
theorem zpT {j:Nat}{q:Addr}{js:List Nat}{qs:List Addr}(hl:js.length=qs.length)(h:j∉js):putK (zdz js qs) (kN j) (.ref q)=zdz (js++[j]) (qs++[q]):=by
 rw[zez _ (zkd h),zkc hl]
theorem zmB:∀{js:List Nat} {qs:List Addr},js.length=qs.length→(zdz js qs).length=js.length
 | [],[],_=>rfl
 | [],_::_,h=>by cases h
 | _::_,[],h=>by cases h
 | a::js,b::qs,h=>by
  show (zdz js qs).length+1=js.length+1;rw[zmB (Nat.succ.inj h)]
theorem zox {l:List Nat}(h:l.Pairwise (· > ·)){i j c:Nat}(hj:l[i]?=some j)(hc:c∈l)(hcj:j < c):c∈l.take i:=by
 obtain ⟨u,hu,rfl⟩:=ybb hc;obtain ⟨hi,rfl⟩:=yao.mp hj;have:u < i:=by
  refine ycs fun z=>?_;by_cases e:i=u
  ·subst e;omega
  ·have:=yba.mp h i u hi hu (by omega);omega
 rw[List.mem_iff_getElem?];exact ⟨u,by rw[ybL,if_pos this,yac hu]⟩
theorem zoe {ps:List Nat}(T:zaC ps){k j c:Nat}(h:isB ps k j=true)(hc:par ps c=some j):isB ps k c=true:=by
 by_cases e:c=k
 ·rw[e];exact zdf
 ·rw[zbX T e hc];exact h
def zqJ (K:Frag):Sp:=fun vs H Q _=>∃(st:Addr) (ps:List Nat) (rows:List (List Int)) (t rs:Addr) (as:List Addr) (j:Nat),vs=[.ref st,.int j]∧zbi H st ps rows t rs as∧j < ps.length+1∧
 ∀(D:Addr) (us:List V) (H':Hp),H D=none→Same H H'→H' D=some (.lst us)→zar K H' (ownE rows j) us→Q (.ref D) H'
theorem zq8 (T:Txt K mg)(qaW:DF K mg "own_entries" zb6 zbT):FC P w K mg base 1 "own_entries" zbT (zqJ K):=by
 refine qaW.ok qb3 (fun vs H Q E h=>?_) (fun f cdv A outer s H vs Q E hr h=>?_)
 ·obtain ⟨st,ps,rows,t,rs,as,k,rfl,_⟩:=h;rfl
 obtain ⟨st,ps,rows,t,rs,as,j,rfl,S4,hjn,q⟩:=h;refine ⟨_,(zaf (zao (zbr (N:=["key","knot"]) (own:=1) (cap:=[1]) rfl (zgw (zau zaF (zau zaF (pv 0) zae (fun _ _=>rfl)) (pv 1) (fun _ _=>rfl))) ⟨rfl,rfl,rfl,rfl,rfl,rfl⟩ (fun _ _ _ _ _=>(zan (i:=0) (show List.Nodup (["key","knot"]:List Str) by decide +kernel) rfl (Or.inl rfl))) (fun _ _ _ _ _=>zbp) (fun _ _ _ _ _=>(zbB (zaa (pv 0) (zaa (pv 1) zac))))))),?_⟩;obtain ⟨a,ha1,ha4⟩:=S4.at_.get (k:=j) (by rw[S4.len];exact hjn);have hkeys:=S4.keys;refine ⟨_,rfl,_,_,_,_,rfl,rfl,SqT.of S4.st,rfl,_,rfl,_,_,_,_,rfl,rfl,SqT.of S4.rs,zkw ha1,a,rfl,⟨_,SqT.of ha4⟩,fun D3 hD3=>?_⟩;refine zhA (xs:=(zcy rows j).map V.int) (fun m σ H5=>∃(us:List V) (x0:Option V),σ=[x0,some (.int j)]∧H5 D3=some (.lst us)∧zar K H5 ((ownE rows j).take m) us∧But D3 H H5) ?_ ?_ ?_ ?_
 ·exact ⟨[],_,rfl,zad,.nil,fun b o n e=>by rw[zah n];exact e⟩
 ·rintro m σ H5 _ ⟨us,x0,rfl,_,_,k5⟩;exact SqT.of (k5 _ _ (zab ha4 hD3) ha4)
 ·rintro m r x σ H5 hx hm ⟨us,x0,rfl,h5,hw5,k5⟩;rw[yaj]at hx;obtain ⟨y,hy,rfl⟩:=ybH.mp hx;have hlow:=(yao.mp hy).1;have htk3:(ownE rows j).take (m+1)=(ownE rows j).take m++[(y,(j:Int))]:=by
   unfold ownE;rw[← ycn,← ycn,yaH hlow,yan];rw[(yao.mp hy).2];rfl
  have hul:=hw5.length;rw[yar]at hul;rw[yab]at hm;have hrl:(zcy rows j).length≤zfv rows:=by
   have:=zoz S4.len (k:=j) (ps:=ps);have e2:wtR ps rows j=(zcy rows j).length+_:=zlm S4.T _ hjn;omega
  refine zd8 ?_;refine ⟨_,rfl,_,rfl,(by show 2≤sizeLine;decide),fun u hu=>?_⟩;have su:=zai hu (.tup [.int y,.int (j:Int)]);have h6:=su _ _ h5;have hut:upd H5 u (.tup [.int y,.int (j:Int)]) u=some (.tup [.int y,.int (j:Int)]):=zad;have k6:=k5.new' hu (.tup [.int y,.int (j:Int)]);have hw6:=hw5.mono su.ext;generalize upd H5 u (.tup [.int y,.int (j:Int)])=H6 at su h6 hut k6 hw6 ⊢;refine ⟨_,h6,zap (by omega),r - 1,by omega,by rw[yab];omega,us++[.ref u],_,rfl,zad,?_,fun b o n e=>by rw[zah n];exact k6 b o n e⟩;rw[htk3];exact (zdV h6 hw6).append (zdV h6 (.cons ⟨u,.int y,.int (j:Int),rfl,hut,rfl,rfl⟩ .nil))
 ·rintro σ H5 ⟨us,x0,rfl,h5,hw5,k5⟩;rw[yab,yat (by unfold ownE;rw[yab];exact yaa _)]at hw5;exact q D3 us H5 hD3 (fun x o e=>k5 x o (zab e hD3) e) h5 hw5
def zqL (K:Frag):Sp:=fun vs H Q _=>∃(st:Addr) (ps:List Nat) (rows:List (List Int)) (t rs:Addr) (as:List Addr) (k:Nat),vs=[.ref st,.int k]∧zbi H st ps rows t rs as∧k < ps.length+1∧
 ∀(D:Addr) (qs:List Addr) (H':Hp),H D=none→Same H H'→H' D=some (.dK (zdz (benL ps k (ps.length+1)).reverse qs))→qs.Nodup→(∀ q∈qs,H q=none)→zaE K H' ps rows (benL ps k (ps.length+1)).reverse qs→Q (.ref D) H'
theorem zrd (T:Txt K mg)(qat:DF K mg "full_rows_beneath" za3 zaX)(qdc:FC P w K mg base 1 "beneath" zdU (zhS K))(qby:FC P w K mg base 1 "children" zcn (zcW K))(qdA:FC P w K mg base 6 "handed" zeH (zjO K))(qcu:FC P w K mg base 1 "own_entries" zbT (zqJ K))(qcO:FC P w K mg base 1 "joined_up" zcJ (zoN K)):FC P w K mg base 7 "full_rows_beneath" zaX (zqL K):=by
 refine qat.ok qad (fun vs H Q E h=>?_) (fun f cdv A outer s H vs Q E hr h=>?_)
 ·obtain ⟨st,ps,rows,t,rs,as,k,rfl,_⟩:=h;rfl
 obtain ⟨st,ps,rows,t,rs,as,k,rfl,S,hk,q⟩:=h;refine ⟨_,(zag (zas (i:=2) qad.nd rfl (Or.inl rfl) (zau zaF (pv 0) zae (fun _ _=>rfl)))
   (zag (zas (i:=3) qad.nd rfl (Or.inr rfl) zhb)
   (zag (za2 PassesOwn.never rfl (ziO rfl T.qcZ (zaa (zaz qdc hr (zaa (pv 2) (zaa (pv 1) zac))) zac)) (zan (i:=4) qad.nd rfl (Or.inl rfl)) (zag (zfW (i:=5) (N:=["child","told"]) (own:=1) (cap:=[3]) qad.nd rfl rfl rfl (zbq (zaz qby hr (zaa (pv 2) (zaa (pv 4) zac)))) ⟨rfl,rfl,rfl,rfl,rfl,rfl⟩ (fun _ _ _ _ _=>(zan (i:=0) (show List.Nodup (["child","told"]:List Str) by decide +kernel) rfl (Or.inl rfl))) (fun _ _ _ _ _=>zbp) (fun _ _ _ _ _=>(zaz qdA hr (zaa (zdv (zee hr) (pv 1) (pv 0) (fun _ _=>rfl)) zac))))
   (zag (zbd (ze4 F.plainAttrs_list F.slot_list_append F.type_list_append za0 (pv 5) (zaa (zaz qcu hr (zaa (pv 0) (zaa (pv 4) zac))) zac)))
   (zaf (ze2 (zee hr) (pv 3) (pv 4) (zaz qcO hr (zaa (pv 5) zac)) rfl)))))
   (zaf (zao (pv 3)))))),?_⟩
 refine ⟨_,rfl,_,_,_,_,rfl,rfl,SqT.of S.st,rfl,fun D hD=>?_⟩;have s0:=zai hD (.dK []);have hD0:upd H D (.dK []) D=some (.dK []):=zad;generalize upd H D (.dK [])=H0 at s0 hD0 ⊢;refine ⟨_,rfl,_,rfl,t,ps,k,rfl,s0 _ _ S.tr,S.T,hk,by have:=S.few;omega,fun b H1 hb s1 h1=>?_⟩;refine ⟨b,_,rfl,SqL.of h1,?_⟩;have hup:=zjo ps k (ps.length+1);have hmem:=fun j=>zcd (ps:=ps) (k:=k) (n:=ps.length+1) (j:=j);have hbl:=zkv ps k (ps.length+1);generalize benL ps k (ps.length+1)=bs at h1 q hup hmem hbl ⊢;have hdn:bs.reverse.Pairwise (· > ·):=by
  rw[List.pairwise_reverse];exact hup
 have hnd:bs.reverse.Nodup:=List.Pairwise.imp (fun {a b} (q:a > b)=>ybB q) hdn;refine zp6 (xs:=bs.map nV) (fun i σ H2=>∃(qs:List Addr) (x5 x6:Option V),σ=[some (.ref st),some (.int k),some (.ref t),some (.ref D),x5,x6]∧H2 D=some (.dK (zdz (bs.reverse.take i) qs))∧qs.Nodup∧(∀ q∈qs,H q=none)∧zaE K H2 ps rows (bs.reverse.take i) qs∧H2 b=some (.lst (bs.map nV))∧But D H H2) ?_ ?_ ?_ ?_
 ·exact ⟨[],_,_,rfl,s1 _ _ hD0,ybI,(fun q hq=>nomatch hq),.nil,h1,fun x o _ e=>s1 _ _ (s0 _ _ e)⟩
 ·rintro i σ H2 _ ⟨qs,x5,x6,rfl,_,_,_,_,h2b,_⟩;exact SqL.of h2b
 ·rintro i x σ H2 hx ⟨qs,x5,x6,rfl,h2,hqn,hqf,hF,h2b,k2⟩;rw[← List.map_reverse]at hx;obtain ⟨hi,hxe⟩:=zgD hx;have hji:bs.reverse[i]?=some (bs.reverse.getD i 0):=by
   rw[yad,yac hi];rfl
  subst hxe;have htk:bs.reverse.take (i+1)=bs.reverse.take i++[bs.reverse.getD i 0]:=by
   rw[yaH hi,yad,yac hi];rfl
  rw[htk];generalize bs.reverse.getD i 0=j at hji htk ⊢;have hjm:j∈bs:=ybO.mp (yaQ hji);obtain ⟨hjn,hjB⟩:=(hmem j).mp hjm;have hjnot:j∉bs.reverse.take i:=fun z=>by
   have hnd':=hnd;rw[← yaZ (i+1) bs.reverse,htk]at hnd';have:=(ybx.mp hnd').1;exact (ybx.mp this).2.2 j z j (yah.mpr rfl) rfl
  have noD:∀{p:Addr} {o:HO},H p=some o→p≠D:=fun {p o} e=>zab e hD;have S2:zbi H2 st ps rows t rs as:=⟨k2 _ _ (noD S.st) S.st,k2 _ _ (noD S.tr) S.tr,k2 _ _ (noD S.rs) S.rs,zbj.keep (p:=D) (d:=D) (fun a row e=>noD e) k2 S.at_,S.len,S.T,S.R,S.few,S.keys⟩;have hkeys:=S.keys;have hfew:=S.few;refine ⟨_,rfl,_,rfl,t,ps,j,rfl,S2.tr,by omega,fun c H3 hc s3 h3=>?_⟩;refine ⟨c,rfl,⟨_,SqL.of h3⟩,fun D2 hD2=>?_⟩;have hcmem:=fun m=>zaD (ps:=ps) (k:=j) (n:=ps.length+1) (j:=m);have hcl:=zc6 ps j (ps.length+1);have hparts:zd5 ps rows j=((zaN ps j (ps.length+1)).map fun c=>zbZ (zak ps rows c))++[ownE rows j]:=rfl;generalize zaN ps j (ps.length+1)=cs at h3 hcmem hcl hparts ⊢;have h3D:=s3 _ _ h2;have nDD2:D≠D2:=zab h3D hD2;have F3:zaE K H3 ps rows (bs.reverse.take i) qs:=hF.same s3;refine zcw (xs:=cs.map nV) (fun m σ H4=>∃(gs:List Addr) (x0:Option V),σ=[x0,some (.ref D)]∧H4 D2=some (.lst (gs.map V.ref))∧Own K H4 gs ((cs.take m).map fun c=>zbZ (zak ps rows c))∧D2∉gs∧But D2 H3 H4) ?_ ?_ ?_ ?_
  ·exact ⟨[],_,rfl,zad,.nil,(fun z=>nomatch z),fun b o n e=>by rw[zah n];exact e⟩
  ·rintro m σ H4 _ ⟨gs,x0,rfl,_,_,_,k4⟩;exact k4.sq (SqL.of h3) hD2
  ·rintro m r x σ H4 hx hm ⟨gs,x0,rfl,h4,hO,hg,k4⟩;obtain ⟨hmi,rfl⟩:=zgD hx;have hcm:cs[m]?=some (cs.getD m 0):=by
    rw[yad,yac hmi];rfl
   have htk2:cs.take (m+1)=cs.take m++[cs.getD m 0]:=by
    rw[yaH hmi,yad,yac hmi];rfl
   rw[htk2];generalize cs.getD m 0=ch at hcm ⊢;obtain ⟨hchn,hchp⟩:=(hcmem ch).mp (yaQ hcm);have hlt:=(zaP S.T hchp).1;have hin:ch∈bs.reverse.take i:=zox hdn hji (ybO.mpr ((hmem ch).mpr ⟨hchn,zoe S.T hjB hchp⟩)) hlt;obtain ⟨u,hu,hue⟩:=ybb hin;have hu2:(bs.reverse.take i)[u]?=some ch:=by rw[yac hu,hue]
   obtain ⟨qq,hq1,ws,hq2,hq3⟩:=F3.get hu2;have hnd2:(bs.reverse.take i).Nodup:=hnd.sublist (List.take_sublist _ _);have hv:=zi1 hnd2 hu2 hq1;have k4D:=k4 _ _ nDD2 h3D;have hq4:=k4 _ _ (zab hq2 hD2) hq2;have hq5:zar K H4 (zak ps rows ch) ws:=by
    have key:∀{es:List (Int×Int)} {vs:List V},zar K H3 es vs→zar K H4 es vs:=by
     intro es vs hh
     induction hh with
     | nil=>exact .nil
     | cons a _ ih=>
      obtain ⟨b,x1,x2,rfl,q,e1,e2⟩:=(show hasP K H3 _ _ from a);exact .cons ⟨b,x1,x2,rfl,k4 _ _ (zab q hD2) q,e1,e2⟩ ih
    exact key hq3
   have hlen:=ze9 S.T S.len (rows:=rows) hchn;refine zd8 ?_;have hdg:DGet H4 D (.int (ch:Int)) (some (.ref qq)):=by
    rw[← hv];exact DGet.k (k:=kN ch) k4D
   refine ⟨_,rfl,_,rfl,D,_,rfl,hdg,?_⟩;refine ⟨qq,ws,zak ps rows ch,rfl,hq4,hq5,by omega,zf4 S.T S.R hfew hchn,zaS S.T S.R hchn,fun g H5 hg5 s5 h5=>?_⟩;have hgl:=hO.length;rw[yab,yar]at hgl;have h5D2:=s5 _ _ h4;have ngD2:D2≠g:=zab h4 hg5;rw[yab]at hm;refine ⟨_,h5D2,zap (by rw[yab];omega),r - 1,by omega,by rw[yab];omega,gs++[g],_,rfl,?_,?_,?_,fun x o n e=>by rw[zah n];exact s5 _ _ (k4 x o n e)⟩
   ·rw[zad,yan];rfl
   ·rw[yan];refine Own.other h5D2 (Own.append (hO.ext s5.ext) (.cons ⟨_,h5,?_⟩ .nil)) ?_
    ·exact zkl (hq5.mono s5.ext)
    ·intro z;rcases yai.mp z with z | z
     ·exact hg z
     ·exact ngD2 (yah.mp z)
   ·intro z;rcases yai.mp z with z | z
    ·exact hg z
    ·exact ngD2 (yah.mp z)
  ·rintro σ H4 ⟨gs,x0,rfl,h4,hO,hg,k4⟩;rw[yab,yat (yaa _)]at hO;have hgl:=hO.length;rw[yab]at hgl;have s34:Same H3 H4:=fun x o e=>k4 x o (zab e hD2) e;have s24:Same H2 H4:=s3.trans s34;have S4:=S2.same s24;refine ⟨_,rfl,.inl ⟨rfl,_,SqL.of h4⟩,_,rfl,_,rfl,st,ps,rows,t,rs,as,j,rfl,S4,hjn,fun D3 us H5 hD3 s45 h5 hw5=>?_⟩;have h5D2:=s45 _ _ h4;have n23:D2≠D3:=zab h4 hD3;refine ⟨_,_,_,rfl,rfl,h5D2,zap (by rw[yab];omega),?_⟩;have O5:Own K H5 (gs++[D3]) (zd5 ps rows j):=by
    rw[hparts];exact Own.append (hO.ext s45.ext) (.cons ⟨us,h5,hw5⟩ .nil)
   have nin:D2∉gs++[D3]:=fun z=>by
    rcases yai.mp z with z | z
    ·exact hg z
    ·exact n23 (yah.mp z)
   have O6:=O5.other (o:=.lst (gs.map V.ref++[.ref D3])) h5D2 nin;have h6:upd H5 D2 (.lst (gs.map V.ref++[.ref D3])) D2=some (.lst ((gs++[D3]).map V.ref)):=by
    rw[zad,yan];rfl
   have k26:∀ x o,H2 x=some o→upd H5 D2 (.lst (gs.map V.ref++[.ref D3])) x=some o:=fun x o e=>by
    rw[zah (zab (s3 _ _ e) hD2)];exact s45 _ _ (s24 _ _ e)
   generalize upd H5 D2 (.lst (gs.map V.ref++[.ref D3]))=H6 at O6 h6 k26 ⊢;have hfl:(zd5 ps rows j).flatten.length≤1000:=by
    have:=ze9 S.T S.len (rows:=rows) hjn;rw[zcL S.T hjn,zdr]at this;omega
   refine ⟨_,rfl,D2,gs++[D3],zd5 ps rows j,rfl,h6,O6,hfl,fun p ws H7 hp s7 h7 hw7=>?_⟩;rw[← zcL S.T hjn]at hw7;have s27:Same H2 H7:=fun x o e=>s7 _ _ (k26 x o e);have h7D:=s27 _ _ h2;have hql:=hF.length;have hpD:p≠D:=Ne.symm (zab (k26 _ _ h2) hp);refine ⟨_,rfl,_,rfl,D,_,rfl,DPut.k (k:=kN j) h7D (zap (by rw[zmB hql,yar,ybw];omega)),?_⟩;rw[zpT hql hjnot];have e78:Ext H7 (upd H7 D (.dK (zdz (bs.reverse.take i++[j]) (qs++[p])))):=fun x o e n=>by
    rw[zah (fun z=>by
     rw[z,h7D]at e;cases e
     exact n _ rfl)]
    exact e
   have F8:zaE K (upd H7 D (.dK (zdz (bs.reverse.take i++[j]) (qs++[p])))) ps rows (bs.reverse.take i++[j]) (qs++[p]):=by
    exact zaE.ext e78 (zaE.snoc (hF.same s27) ⟨ws,h7,hw7⟩)
   refine ⟨qs++[p],_,_,rfl,zad,?_,?_,F8,?_,fun x o n e=>?_⟩
   ·rw[ybx];refine ⟨hqn,yaW.mpr ⟨(fun z=>nomatch z),ybI⟩,fun a ha b hb z=>?_⟩;rw[yah.mp hb]at z;subst z;obtain ⟨ws',hws⟩:=hF.alloc a ha;have:=k26 _ _ hws;rw[hp]at this;cases this
   ·intro x hx;rcases yai.mp hx with z | z
    ·exact hqf x z
    ·rw[yah.mp z];cases e:H p with
     | none=>rfl
     | some o=>
      have:=k26 _ _ (k2 p o hpD e);rw[hp]at this;cases this
   ·rw[zah (fun z=>by rw[z,h2]at h2b;cases h2b)]
    exact s27 _ _ h2b
   ·rw[zah n];exact s27 _ _ (k2 x o n e)
 ·rintro σ H2 ⟨qs,x5,x6,rfl,h2,hqn,hqf,hF,h2b,k2⟩;refine ⟨_,rfl,?_⟩;rw[yab,yat (by rw[ybw];exact yaa _)]at h2 hF;exact q D qs H2 hD (fun x o e=>k2 x o (zab e hD) e) h2 hqn hqf hF
def ziN (K:Frag):Sp:=fun vs H Q _=>∃(st:Addr) (ps:List Nat) (rows:List (List Int)) (t rs:Addr) (as:List Addr),vs=[.ref st]∧zbi H st ps rows t rs as∧
 ∀(p:Addr) (qs:List Addr) (H':Hp),H p=none→Same H H'→H' p=some (.lst (qs.map V.ref))→qs.Nodup→(∀ q∈qs,H q=none)→p∉qs→zaE K H' ps rows (List.range (ps.length+1)) qs→Q (.ref p) H'
theorem zg7 {n i:Nat}(h:i < n):(List.range n).reverse[n - 1 - i]?=some i:=by
 rw[yb4 (by rw[ya5];omega),ya5,ybm (by omega)];congr 1;omega
theorem znY (T:Txt K mg)(qbj:DF K mg "full_rows" zdb zbc)(qbk:FC P w K mg base 7 "full_rows_beneath" zaX (zqL K)):FC P w K mg base 8 "full_rows" zbc (ziN K):=by
 refine qbj.ok qbA (fun vs H Q E h=>?_) (fun f cdv A outer s H vs Q E hr h=>?_)
 ·obtain ⟨st,ps,rows,t,rs,as,rfl,_⟩:=h;rfl
 obtain ⟨st,ps,rows,t,rs,as,rfl,S,q⟩:=h;refine ⟨_,(zag (zas (i:=1) qbA.nd rfl (Or.inr rfl) (zaz qbk hr (zaa (pv 0) (zaa zae zac))))
   (zaf (zao (zbr (N:=["knot","told"]) (own:=1) (cap:=[1]) rfl (zbI rfl T.qap (zaa (zal zam rfl T.qaz boot_len (zaa (zau zaF (pv 0) zae (fun _ _=>rfl)) zac)) zac)) ⟨rfl,rfl,rfl,rfl,rfl,rfl⟩ (fun _ _ _ _ _=>(zan (i:=0) (show List.Nodup (["knot","told"]:List Str) by decide +kernel) rfl (Or.inl rfl))) (fun _ _ _ _ _=>zbp) (fun _ _ _ _ _=>(zdv (zee hr) (pv 1) (pv 0) (fun _ _=>rfl))))))),?_⟩
 refine ⟨_,rfl,st,ps,rows,t,rs,as,0,rfl,S,by omega,fun D qs H1 hD s1 h1 hqn hqf hF=>?_⟩;rw[znh S.T]at h1 hF;have S1:=S.same s1;have hfew:=S.few;have hql:=hF.length;rw[ybw,ya5]at hql;refine ⟨_,rfl,_,_,_,_,rfl,rfl,SqT.of S1.st,rfl,_,_,rfl,.inr (SqT.of S1.tr),_,rfl,by omega,by rw[zax];omega,fun p hp=>?_⟩;have el:((((zbP ps).length:Nat):Int)).toNat=ps.length+1:=by rw[zax,ya9]
 rw[el];refine zd2 (n:=ps.length+1) (fun i σ H2=>∃ x0:Option V,σ=[x0,some (.ref D)]∧H2 p=some (.lst ((qs.reverse.take i).map V.ref))∧But p H1 H2) ?_ ?_ ?_
 ·exact ⟨_,rfl,zad,fun b o n e=>by rw[zah n];exact e⟩
 ·rintro i m σ H2 hm hi ⟨x0,rfl,h2,k2⟩;rw[ybT];have hi2:i < qs.reverse.length:=by rw[ybw];omega
  have hq1:qs[ps.length+1 - 1 - i]?=some qs.reverse[i]:=by
   have:=yb4 (l:=qs) (i:=i) (by omega);rw[yac hi2]at this;rw[this];congr 1;omega
  have hv:=zi1 (zh5 List.nodup_range) (zg7 hi) hq1;have h2D:=k2 _ _ (zab h1 hp) h1;have hdg:DGet H2 D (.int (i:Int)) (some (.ref qs.reverse[i])):=by
   rw[← hv];exact DGet.k (k:=kN i) h2D
  refine zd8 ?_;refine ⟨_,rfl,_,rfl,D,_,rfl,hdg,?_⟩;refine ⟨_,h2,zap (by rw[yab,yar];omega),m - 1,by omega,by omega,_,rfl,?_,fun b o n e=>by rw[zah n];exact k2 b o n e⟩;rw[zad,yaH hi2,yan];rfl
 ·rintro σ H2 ⟨x0,rfl,h2,k2⟩;rw[yat (by rw[ybw];omega)]at h2;have s2:Same H1 H2:=fun b o e=>k2 b o (zab e hp) e;have F2:=(hF.same s2).rev;rw[ycx]at F2;refine q p qs.reverse H2 ?_ (s1.trans s2) h2 (zh5 hqn) (fun x hx=>hqf x (ybO.mp hx)) (fun z=>?_) F2
  ·cases e:H p with
   | none=>rfl
   | some o=>
    have:=s1 _ _ e;rw[hp]at this;cases this
  ·obtain ⟨ws,hws⟩:=hF.alloc p (ybO.mp z);rw[hp]at hws;cases hws
def zgO (x:Key):Prop:=∃ a:Int,x=.inl a∧-(10 ^ 60) < a∧a < 10 ^ 60
def toI:Key→Int
 | .inl a=>a
 | _=>0
theorem zpu {kvs:List (Key×V)}{x:Key}{v:V}(h1:(kvs.map (·.1)).Nodup)(h2:∀ y∈kvs.map (·.1),zgO y)(hx:zgO x):((putK kvs x v).map (·.1)).Nodup∧∀ y∈(putK kvs x v).map (·.1),zgO y:=by
 rw[zlY];split
 ·exact ⟨h1,h2⟩
 ·rename_i c;refine ⟨?_,fun y hy=>?_⟩
  ·rw[ybx];refine ⟨h1,yaW.mpr ⟨(fun z=>nomatch z),ybI⟩,fun a ha b hb z=>?_⟩;rw[yah.mp hb]at z;subst z;obtain ⟨p,hp,e⟩:=yaA.mp ha;exact c (List.any_eq_true.mpr ⟨p,hp,yam e⟩)
  ·rcases yai.mp hy with z | z
   ·exact h2 y z
   ·rw[yah.mp z];exact hx
theorem zfs:∀{l:List Key},(∀ y∈l,zgO y)→l.map kV=(l.map toI).map V.int
 | [],_=>rfl
 | x::l,h=>by
  obtain ⟨a,rfl,_⟩:=h x yak;show V.int a::l.map kV=V.int a::(l.map toI).map V.int;rw[zfs fun y hy=>h y (yas _ hy)]
theorem zhN:∀{l:List Key},l.Nodup→(∀ y∈l,zgO y)→(l.map toI).Nodup
 | [],_,_=>ybI
 | x::l,hn,h=>by
  rw[yaw,yaW];have hc:=yaW.mp hn;refine ⟨fun z=>?_,zhN hc.2 fun y hy=>h y (yas _ hy)⟩;obtain ⟨y,hy,e⟩:=yaA.mp z;obtain ⟨a,rfl,_⟩:=h x yak;obtain ⟨b,rfl,_⟩:=h y (yas _ hy);have:b=a:=e;subst this;exact hc.1 hy
def zqI (K:Frag):Sp:=fun vs H Q _=>∃(d L:Addr) (m:Int),vs=[.ref d,.int m]∧(0≤m∧m≤40)∧LS K L d H∧
 ∀(a:Addr) (row:List Int) (H':Hp),H a=none→row.Pairwise (· < ·)→(∀ x∈row,-(10 ^ 60) < x∧x < 10 ^ 60)→(row.length:Int)≤m→H' a=some (.tup (row.map V.int))→Keep d H H'→LS K L d H'→Q (.ref a) H'
theorem zpG (T:Txt K mg)(qcP:DF K mg "_law_row" zg3 zfI)(qac:FC P w K mg base 2 "_law_take" zbb (zem K))(qcQ:FC P w K mg base 3 "_law_key" zeG (znz K)):FC P w K mg base 4 "_law_row" zfI (zqI K):=by
 refine qcP.ok qci (fun vs H Q E h=>?_) (fun f cdv A outer s H vs Q E hr h=>?_)
 ·obtain ⟨d,L,m,rfl,_⟩:=h;rfl
 obtain ⟨d,L,m,rfl,⟨hm0,hm1⟩,hs,q⟩:=h;refine ⟨_,(zag (zas (i:=2) qci.nd rfl (Or.inl rfl) zhb)
   (zag (za2 PassesOwn.never rfl (zbI rfl T.qap (zaa (zaz qac hr (zaa (pv 0) (zaa (zaw zbe (pv 1) zae) zac))) zac)) (zan (i:=3) qci.nd rfl (Or.inl rfl)) (zaf (ze2 (zee hr) (pv 2) (zaz qcQ hr (zaa (pv 0) zac)) zb2 rfl)))
   (zaf (zao (zbJ zcc rfl T.qbJ boot_tuple (zaa (zal (zgI Int) rfl T.qcW boot_sorted (zaa (zbJ (zli rfl) rfl T.qbI boot_list (zaa (pv 2) zac)) zac)) zac)))))),?_⟩
 intro g hg;have ngd:g≠d:=fun z=>by
  obtain ⟨_,_,_,e,_⟩:=hs.ex;rw[← z,hg]at e;cases e
 refine ⟨_,rfl,_,rfl,_,_,rfl,rfl,d,L,m+1,rfl,⟨by omega,by omega⟩,hs.of_new hg _,fun n H1 n0 n1 k1 s1=>⟨_,rfl,by omega,by omega,?_⟩⟩;refine zbh (n:=n.toNat) (fun i σ H2=>∃(kvs:List (Key×V)) (x3:Option V),σ=[some (.ref d),some (.int m),some (.ref g),x3]∧H2 g=some (.dK kvs)∧kvs.length≤i∧(kvs.map (·.1)).Nodup∧(∀ y∈kvs.map (·.1),zgO y)∧(∀ b o,b≠d→b≠g→H b=some o→H2 b=some o)∧LS K L d H2) ?_ ?_ ?_
 ·exact ⟨[],_,rfl,k1 g _ ngd zad,yaa _,ybI,fun y hy=>(by simp at hy),fun b o b1 b2 e=>k1 b o b1 (by rw[zah b2];exact e),s1⟩
 ·rintro i σ H2 hi ⟨kvs,x3,rfl,h2,hl,hn,hy,kk,s2⟩;refine ⟨_,rfl,_,rfl,d,L,rfl,s2,fun v H3 v0 v1 k3 s3=>?_⟩;have h3:H3 g=some (.dK kvs):=k3 g _ ngd h2;obtain ⟨p1,p2⟩:=zpu (v:=.bl true) hn hy (x:=.inl v) ⟨v,rfl,v0,v1⟩;refine ⟨g,_,rfl,DPut.k (k:=.inl v) (kvs:=kvs) h3 (zap (by omega)),?_⟩;refine ⟨putK kvs (.inl v) (.bl true),_,rfl,zad,?_,p1,p2,?_,?_⟩
  ·have:=zdc kvs (Sum.inl v:Key) (.bl true);omega
  ·intro b o b1 b2 e;rw[zah b2];exact k3 b o b1 (kk b o b1 b2 e)
  ·exact LS.put hs hg (fun b o b1 b2 e=>k3 b o b1 (kk b o b1 b2 e)) s3
 ·rintro σ H2 ⟨kvs,x3,rfl,h2,hl,hn,hy,kk,s2⟩;refine ⟨_,rfl,g,kvs,rfl,h2,fun l hl1=>?_⟩;have ei:kvs.map (fun kv=>kV kv.1)=((kvs.map (·.1)).map toI).map V.int:=by
   rw[← zfs hy,ybc];rfl
  rw[ei];have e1:=zai hl1 (.lst (((kvs.map (·.1)).map toI).map V.int));refine ⟨l,_,_,rfl,SqL.of zad,zar.ints,fun l2 ws hl2 hw=>?_⟩;rw[hw.toInts];have e2:=zai hl2 (.lst ((zen ((kvs.map (·.1)).map toI)).map V.int));refine ⟨l2,_,rfl,.inl ⟨SqL.of zad,fun a ha=>?_⟩⟩;have e3:=zai ha (.tup ((zen ((kvs.map (·.1)).map toI)).map V.int));have e13:=e1.trans (e2.trans e3);have free:H a=none:=by
   have z2:H2 a=none:=e1.free (e2.free ha);cases z:H a with
   | none=>rfl
   | some o=>
    by_cases c1:a=d
    ·obtain ⟨_,_,_,e,_⟩:=s2.ex;rw[← c1,z2]at e;cases e
    ·by_cases c2:a=g
     ·rw[c2,h2]at z2;cases z2
     ·rw[kk a o c1 c2 z]at z2;cases z2
  refine q a _ _ free ?_ (fun x hx=>?_) ?_ zad (fun b o b1 e=>e13 _ _ (kk b o b1 (zab e hg) e)) (s2.same e13)
  ·exact List.Pairwise.imp (fun {a b} (h:Srt.blt a b=true)=>yaD h) (zgs (zhN hn hy))
  ·rw[zfR]at hx;obtain ⟨y,hy2,rfl⟩:=yaA.mp hx;obtain ⟨a,rfl,h1,h2⟩:=hy y hy2;exact ⟨h1,h2⟩
  ·rw[zdr,yab,yab];omega
def zoH (K:Frag):Sp:=fun vs H Q _=>∃(d L:Addr) (n m:Nat),vs=[.ref d,.int n,.int m]∧n≤40∧m≤40∧LS K L d H∧
 ∀(r:Addr) (as:List Addr) (rows:List (List Int)) (H':Hp),H r=none→zbj H' as rows→rows.length=n→za1 rows→(∀ row∈rows,row.length≤m)→H' r=some (.tup (as.map V.ref))→Keep d H H'→LS K L d H'→Q (.ref r) H'
theorem za1.snoc {rows:List (List Int)}{row:List Int}(R:za1 rows)(h1:row.Pairwise (· < ·))(h2:∀ x∈row,-(10 ^ 60) < x∧x < 10 ^ 60):za1 (rows++[row]):=by
 refine ⟨fun r hr=>?_,fun r hr=>?_⟩
 ·rcases yai.mp hr with z | z
  ·exact R.up r z
  ·rw[yah.mp z];exact h1
 ·rcases yai.mp hr with z | z
  ·exact R.key r z
  ·rw[yah.mp z];exact h2
theorem znU (T:Txt K mg)(qcv:DF K mg "_law_rows" zfD zeF)(qac:FC P w K mg base 2 "_law_take" zbb (zem K))(qdV:FC P w K mg base 4 "_law_row" zfI (zqI K)):FC P w K mg base 5 "_law_rows" zeF (zoH K):=by
 refine qcv.ok qaS (fun vs H Q E h=>?_) (fun f cdv A outer s H vs Q E hr h=>?_)
 ·obtain ⟨d,L,n,m,rfl,_⟩:=h;rfl
 obtain ⟨d,L,n,m,rfl,hn,hm,hs,q⟩:=h;refine ⟨_,(zag (zas (i:=3) qaS.nd rfl (Or.inl rfl) (zaI zac))
   (zag (za2 PassesOwn.never rfl (zbI rfl T.qap (zaa (pv 1) zac)) (zan (i:=4) qaS.nd rfl (Or.inl rfl)) (zag (zas (i:=5) qaS.nd rfl (Or.inl rfl) (zaz qdV hr (zaa (pv 0) (zaa (pv 2) zac))))
   (zaJ (za6 (zav zdx (zaz qac hr (zaa (pv 0) (zaa zae zac))) zae (zaB _)) (zaf (zas (i:=5) qaS.nd rfl (Or.inl rfl) (zbB zac))) zaA)
   (zaJ (za6 (PW.pt (zhV (zav zkR (pv 4) zae (zaB _)) (zfU (zav zdx (zaz qac hr (zaa (pv 0) (zaa zae zac))) zae (zaB _))))) (zaf (zas (i:=5) qaS.nd rfl (Or.inl rfl) (zau zay (pv 3) (zaw zbO (pv 4) zae) (fun _ _=>rfl)))) zaA)
   (zaf (zbd (ze4 F.plainAttrs_list F.slot_list_append F.type_list_append za0 (pv 3) (zaa (pv 5) zac))))))))
   (zaf (zao (zbJ zcc rfl T.qbJ boot_tuple (zaa (pv 3) zac)))))),?_⟩
 refine ⟨(by show 0≤sizeLine;decide),fun p hp=>?_⟩;have g0:=zai hp (.lst []);have ndT:∀{H':Hp} {a:Addr} {o:List V},LS K L d H'→H' a=some (.tup o)→a≠d:=fun {H' a o} s e z=>by
  obtain ⟨_,_,_,e2,_⟩:=s.ex;rw[← z,e]at e2;cases e2
 have nd:∀{H':Hp} {a:Addr},LS K L d H'→H' a=none→a≠d:=fun {H' a} s e z=>by
  obtain ⟨_,_,_,e2,_⟩:=s.ex;rw[← z,e]at e2;cases e2
 have hpd:p≠d:=nd hs hp;refine ⟨_,rfl,_,rfl,by omega,by omega,?_⟩;rw[ya9];refine zbh (n:=n) (fun i σ H2=>∃(as:List Addr) (rows:List (List Int)) (x4 x5:Option V),σ=[some (.ref d),some (.int n),some (.int m),some (.ref p),x4,x5]∧H2 p=some (.lst (as.map V.ref))∧zbj H2 as rows∧rows.length=i∧za1 rows∧(∀ row∈rows,row.length≤m)∧(∀ b o,b≠d→b≠p→H b=some o→H2 b=some o)∧LS K L d H2) ?_ ?_ ?_
 ·exact ⟨[],[],_,_,rfl,zad,.nil,rfl,⟨(fun r hr=>nomatch hr),(fun r hr=>nomatch hr)⟩,(fun r hr=>nomatch hr),fun b o _ n e=>g0 b o e,hs.same g0⟩
 ·rintro i σ H2 hi ⟨as,rows,x4,x5,rfl,h2,hA,hl,hR,hlen,k2,s2⟩;rw[ybT];have hal:=hA.length;have old:∀{H3:Hp} {b:Addr} {o:HO},(∀ b o,b≠d→H2 b=some o→H3 b=some o)→b≠d→b≠p→H b=some o→H3 b=some o:=fun k n1 n2 e=>k _ _ n1 (k2 _ _ n1 n2 e);refine ⟨_,rfl,_,rfl,d,L,m,rfl,⟨by omega,by omega⟩,s2,fun a row H3 ha hup hky hlr h3 k3 s3=>?_⟩;refine ⟨fun σ' H'=>∃(a:Addr) (row:List Int),σ'=[some (.ref d),some (.int n),some (.int m),some (.ref p),some (.int i),some (.ref a)]∧H' a=some (.tup (row.map V.int))∧row.Pairwise (· < ·)∧(∀ x∈row,-(10 ^ 60) < x∧x < 10 ^ 60)∧row.length≤m∧(∀ b o,b≠d→H2 b=some o→H' b=some o)∧LS K L d H',?_,?_⟩
  ·refine ⟨_,rfl,d,L,4,rfl,by decide,s3,fun v H4 _ _ k4 s4=>⟨rfl,_,rfl,?_⟩⟩;have h4:=k4 _ _ (ndT s3 h3) h3;refine ite2 (fun _=>?_) (fun _=>?_)
   ·refine ⟨(by show 0≤sizeLine;decide),fun u hu=>?_⟩;have su:=zai hu (.tup []);exact ⟨u,[],rfl,zad,.nil,(fun x hx=>nomatch hx),yaE _,fun b o n1 e=>su _ _ (k4 _ _ n1 (k3 _ _ n1 e)),s4.same su⟩
   ·exact ⟨a,row,rfl,h4,hup,hky,by omega,fun b o n1 e=>k4 _ _ n1 (k3 _ _ n1 e),s4⟩
  rintro σ' H4 ⟨a,row,rfl,h4,hup,hky,hlr,k4,s4⟩;refine ⟨fun σ' H'=>∃(a:Addr) (row:List Int),σ'=[some (.ref d),some (.int n),some (.int m),some (.ref p),some (.int i),some (.ref a)]∧H' a=some (.tup (row.map V.int))∧row.Pairwise (· < ·)∧(∀ x∈row,-(10 ^ 60) < x∧x < 10 ^ 60)∧row.length≤m∧(∀ b o,b≠d→H2 b=some o→H' b=some o)∧LS K L d H',?_,?_⟩
  ·refine ⟨_,rfl,_,_,rfl,rfl,_,rfl,?_⟩;refine ite2 (fun c=>?_) (fun c=>?_)
   ·have c':(0:Int) < (i:Int):=yaD c;refine ⟨_,rfl,d,L,4,rfl,by decide,s4,fun v H5 _ _ k5 s5=>⟨rfl,_,rfl,?_⟩⟩;have h5:=k5 _ _ (ndT s4 h4) h4;refine ite2 (fun _=>?_) (fun _=>?_)
    ·have h5p:H5 p=some (.lst (as.map V.ref)):=k5 _ _ hpd (k4 _ _ hpd h2);obtain ⟨b,hb1,hb2⟩:=hA.get (k:=i - 1) (by omega);have hb5:=k5 _ _ (ndT s4 (k4 _ _ (ndT s2 hb2) hb2)) (k4 _ _ (ndT s2 hb2) hb2);have hat:atI (as.map V.ref) ((i:Int) - 1)=some (.ref b):=by
      rw[show (i:Int) - 1=((i - 1:Nat):Int) by omega];exact zkw hb1
     refine ⟨_,rfl,_,rfl,_,_,rfl,rfl,_,_,_,_,rfl,rfl,SqL.of h5p,hat,?_⟩;have hmem:zcy rows (i - 1)∈rows:=by
      unfold zcy;rw[yad,yac (show i - 1 < rows.length by omega)];exact yaG _
     exact ⟨b,zcy rows (i - 1),rfl,hb5,hR.up _ hmem,hR.key _ hmem,hlen _ hmem,fun b o n1 e=>k5 _ _ n1 (k4 _ _ n1 e),s5⟩
    ·exact ⟨a,row,rfl,h5,hup,hky,hlr,fun b o n1 e=>k5 _ _ n1 (k4 _ _ n1 e),s5⟩
   ·refine iteF ?_;exact ⟨a,row,rfl,h4,hup,hky,hlr,k4,s4⟩
  rintro σ' H5 ⟨a,row,rfl,h5,hup,hky,hlr,k5,s5⟩;have h5p:H5 p=some (.lst (as.map V.ref)):=k5 _ _ hpd h2;have keep:∀ b o,b≠p→H5 b=some o→upd H5 p (.lst (as.map V.ref++[.ref a])) b=some o:=fun b o n e=>by rw[zah n];exact e
  have ntp:∀{b:Addr} {o:List V},H5 b=some (.tup o)→b≠p:=fun {b o} e z=>by
   rw[z,h5p]at e;cases e
  refine ⟨_,rfl,.inl ⟨rfl,_,SqL.of h5p⟩,_,rfl,_,_,_,rfl,rfl,h5p,zap (by rw[yab];omega),?_⟩;refine ⟨as++[a],rows++[row],_,_,rfl,?_,?_,by rw[yaf,yaJ,hl],hR.snoc hup hky,fun r hr=>?_,fun b o n1 n2 e=>keep _ _ n2 (k5 _ _ n1 (k2 _ _ n1 n2 e)),?_⟩
  ·rw[zad,yan];rfl
  ·refine zbj.snoc ?_ (keep _ _ (ntp h5) h5);have hA5:zbj H5 as rows:=zbj.keep (p:=d) (fun a row e=>ndT s2 e) k5 hA;exact zbj.keep (p:=p) (d:=p) (fun a row e=>ntp e) keep hA5
  ·rcases yai.mp hr with z | z
   ·exact hlen r z
   ·rw[yah.mp z];exact hlr
  ·exact LS.put hs hp (fun b o n1 n2 e=>k5 _ _ n1 (k2 _ _ n1 n2 e)) s5
 ·rintro σ H2 ⟨as,rows,x4,x5,rfl,h2,hA,hl,hR,hlen,k2,s2⟩;refine ⟨_,rfl,p,_,rfl,.inl ⟨SqL.of h2,fun t ht=>?_⟩⟩;have sn:=zai ht (.tup (as.map V.ref));have ht0:H t=none:=by
   cases e:H t with
   | none=>rfl
   | some o=>
    have:=k2 t o (nd s2 ht) (Ne.symm (zab h2 ht)) e;rw[ht]at this;cases this
  exact q t as rows _ ht0 (hA.ext sn) hl hR hlen zad (fun b o n e=>sn _ _ (k2 b o n (zab e hp) e)) (s2.same sn)
abbrev En:=Int×Int
def zec (k:Nat)(es:List En):Nat:=(es.filter fun e=>decide (e.2=(k:Int))).length
def znL (k:Nat)(es:List En):List Nat:=(List.range (es.length+1)).map fun p=>zec k (es.take p)
def zqH (cs:List En)(s:Nat)(e:En):Nat:=if e∈cs then cs.idxOf e+1 else s
def stN (cs es:List En):Nat:=es.foldl (zqH cs) 0
def zgV (es cs:List En):List Nat:=(List.range (es.length+1)).map fun p=>stN cs (es.take p)
def inN (cs es:List En):Nat:=(es.filter fun e=>decide (e∈cs)).length
theorem zgt {l:List En}(h:Rise l):l.Nodup:=List.Pairwise.imp (fun {a b} (q:pLt a b=true) z=>by
 subst z;have:=zcO.mp q;omega) h
theorem zlV {l m:List En}(h1:Rise l)(h2:Rise m)(h:∀ e,e∈l↔e∈m):l=m:=by
 refine List.Perm.eq_of_pairwise (le:=fun a b=>pLt a b=true) (fun a b _ _ q1 q2=>?_) h1 h2 ((List.perm_ext_iff_of_nodup (zgt h1) (zgt h2)).mpr h);have:=zcO.mp q1;have:=zcO.mp q2;omega
theorem zfL {ps:List Nat}(T:zaC ps){rows:List (List Int)}{k:Nat}(hk:k < ps.length+1){e:En}:e∈zak ps rows k↔e∈ownE rows k∨∃ c,par ps c=some k∧e∈zbZ (zak ps rows c):=by
 rw[zcL T hk,zfR,ycq];unfold zd5;constructor
 ·rintro ⟨l,hl,he⟩;rcases yai.mp hl with q | q
  ·obtain ⟨c,hc,rfl⟩:=yaA.mp q;exact .inr ⟨c,(zaD.mp hc).2,he⟩
  ·rw[yah.mp q]at he;exact .inl he
 ·rintro (h | ⟨c,hc,h⟩)
  ·exact ⟨_,yai.mpr (.inr (yah.mpr rfl)),h⟩
  ·exact ⟨_,yai.mpr (.inl (yaA.mpr ⟨c,zaD.mpr ⟨(zaP T hc).2,hc⟩,rfl⟩)),h⟩
theorem zoq {ps:List Nat}(T:zaC ps){rows:List (List Int)}(R:za1 rows){k c:Nat}(hk:k < ps.length+1)(hc:par ps c=some k){e:En}:(e∈zak ps rows k∧e∈zak ps rows c)↔e∈zbZ (zak ps rows c):=by
 have hcn:=(zaP T hc).2;constructor
 ·rintro ⟨h1,h2⟩;obtain ⟨j,g1,g2,g3,_⟩:=zfN T R hcn e h2;rcases (zfL T hk).mp h1 with h | ⟨d,hd,h⟩
  ·have h4:=(zj4 hk h).2;have:j=k:=by omega
   subst this;rw[zfr T (zaP T hc).1]at g2;cases g2
  ·by_cases z:d=c
   ·rw[z]at h;exact h
   ·obtain ⟨i,_,f2,f3,_⟩:=zfN T R (zaP T hd).2 e ((zbg _).mem h);have:i=j:=by omega
    subst this;exact (zeQ T hd hc z i i (yaa _) f2 g2).elim
 ·intro h;exact ⟨(zfL T hk).mpr (.inr ⟨c,hc,h⟩),(zbg _).mem h⟩
theorem zm9 {ps:List Nat}(T:zaC ps){rows:List (List Int)}(R:za1 rows){k c:Nat}(hk:k < ps.length+1)(hc:par ps c=some k):((zak ps rows k).filter fun e=>decide (e∈zak ps rows c))=zbZ (zak ps rows c):=by
 refine zlV (List.Pairwise.filter _ (zaS T R hk)) ((zaS T R (zaP T hc).2).sublist (zbg _)) fun e=>?_;rw[ya7,decide_eq_true_eq];exact zoq T R hk hc
theorem zkG {l:List En}{p:Nat}(h:p < l.length):l.take (p+1)=l.take p++[l[p]]:=yaH h
theorem zkO (k:Nat)(es:List En)(e:En):zec k (es++[e])=zec k es+if e.2=(k:Int) then 1 else 0:=by
 unfold zec;rw[ya6,yaf];congr 1;by_cases h:e.2=(k:Int)
 ·rw[if_pos h,ybg (by exact yam h)];rfl
 ·rw[if_neg h,ybS (by rw[yaq h];decide)];rfl
theorem zoh (cs es:List En)(e:En):inN cs (es++[e])=inN cs es+if e∈cs then 1 else 0:=by
 unfold inN;rw[ya6,yaf];congr 1;by_cases h:e∈cs
 ·rw[if_pos h,ybg (by exact yam h)];rfl
 ·rw[if_neg h,ybS (by rw[yaq h];decide)];rfl
theorem zjE (cs es:List En)(e:En):stN cs (es++[e])=if e∈cs then cs.idxOf e+1 else stN cs es:=by
 unfold stN;rw[List.foldl_append];rfl
def spL (es:List En):List Nat:=(List.range es.length).filter fun j=>(zcq es).getD j false
theorem zjK (es:List En):zdG (zcq es) (spL es):=by
 have:=znx (zcq es);rw[zbn]at this;exact this
theorem zgB {es:List En}{ms:List Bool}(hl:es.length=ms.length):∀ i,i≤ms.length→zdg (es.take i) (ms.take i)=((List.range i).filter fun j=>ms.getD j false).map fun j=>es.getD j (0,0)
 | 0,_=>rfl
 | i+1,h=>by
  have ft:((List.range (i+1)).filter fun j=>ms.getD j false)=((List.range i).filter fun j=>ms.getD j false)++(if ms.getD i false=true then [i] else []):=by
   rw[ybz,ya6];congr 1;by_cases h:ms.getD i false=true
   ·rw[if_pos h,ybg (p:=fun j=>ms.getD j false) (a:=i) h];rfl
   ·rw[if_neg h,ybS (p:=fun j=>ms.getD j false) (a:=i) h];rfl
  rw[zej (show i < es.length by omega),zej (show i < ms.length by omega),zii (by rw[yar,yar];omega),zgB hl i (by omega),ft,yan];congr 1;have e:ms.getD i false=ms[i]'(by omega):=by
   rw[yad,yac (show i < ms.length by omega)];rfl
  rw[e];split
  ·rw[List.map_singleton,yad,yac (show i < es.length by omega)];rfl
  ·rfl
theorem zgC (es:List En):zbZ es=(spL es).map fun j=>es.getD j (0,0):=by
 have hl:=zbn es;have:=zgB (es:=es) (ms:=zcq es) hl.symm (zcq es).length (yaa _);rw[yat (yaa _),yat (by omega),hl]at this;exact this
def stAt (sp:List Nat)(t:Nat):Nat:=if t=0 then 0 else sp.getD (t - 1) 0+1
theorem zmO {l:List En}(h:l.Nodup){j:Nat}(hj:j < l.length):l.idxOf (l.getD j (0,0))=j:=by
 rw[yad,yac hj];exact List.Nodup.idxOf_getElem h j hj
theorem zjd {P:En→Bool}:∀(l:List En) (p:Nat),(l.take p).filter P=(l.filter P).take ((l.take p).filter P).length:=by
 intro l p;have e:l.filter P=(l.take p).filter P++(l.drop p).filter P:=by rw[← ya6,yaZ]
 rw[e,List.take_append_of_le_length (yaa _),yat (yaa _)]
theorem zqG {ps:List Nat}(T:zaC ps){rows:List (List Int)}(R:za1 rows){k c:Nat}(hk:k < ps.length+1)(hc:par ps c=some k):∀ p,p≤(zak ps rows k).length→stN (zak ps rows c) ((zak ps rows k).take p)=stAt (spL (zak ps rows c)) (inN (zak ps rows c) ((zak ps rows k).take p))
 | 0,_=>rfl
 | p+1,h=>by
  have ih:=zqG T R hk hc p (by omega);have hp:p < (zak ps rows k).length:=by omega
  have hft:=zjd (P:=fun e=>decide (e∈zak ps rows c)) (zak ps rows k) (p+1);rw[zm9 T R hk hc]at hft;rw[zkG hp]at hft ⊢;rw[zjE,zoh];by_cases z:(zak ps rows k)[p]∈zak ps rows c
  ·rw[if_pos z,if_pos z];unfold stAt;rw[if_neg (by omega),ybQ];congr 1;rw[ya6,ybg (by exact yam z),List.filter_nil,yaf,yaJ]at hft;have hin:((zak ps rows k).take p |>.filter fun e=>decide (e∈zak ps rows c)).length=inN (zak ps rows c) ((zak ps rows k).take p):=rfl;generalize inN (zak ps rows c) ((zak ps rows k).take p)=t at hin ⊢;have hg:(zbZ (zak ps rows c))[t]?=some (zak ps rows k)[p]:=by
    have h2:(((zak ps rows k).take p |>.filter fun e=>decide (e∈zak ps rows c))++[(zak ps rows k)[p]])[t]?=some (zak ps rows k)[p]:=by
     rw[yaP (by omega),hin,yby];rfl
    rw[hft,ybL]at h2;split at h2
    ·exact h2
    ·cases h2
   rw[zgC,yaj]at hg;obtain ⟨j,hj,he⟩:=ybH.mp hg;have hjl:j < (zak ps rows c).length:=by
    have:=(zjK (zak ps rows c)).lt (yaQ hj);rw[zbn]at this;exact this
   rw[← he,zmO (zf3 T R (zaP T hc).2) hjl,yad,hj];rfl
  ·rw[if_neg z,if_neg z,ybr];exact ih
theorem zpq {es:List En}(he:∀ e∈es,zeg 64 e)(hri:Rise es){t:Nat}(ht:t < (spL es).length):stAt (spL es) (t+1)=stAt (spL es) t+2∨stAt (spL es) (t+1)=stAt (spL es) t+3:=by
 have M:=zh7 he hri;have S:=zjK es;have g:∀ i (h:i < (spL es).length),(spL es).getD i 0=(spL es)[i]:=fun i h=>by
  rw[yad,yac h];rfl
 unfold stAt;rw[if_neg (by omega),ybQ];by_cases z:t=0
 ·subst z;rw[if_pos rfl,g 0 ht];have hlen:2≤(zcq es).length:=by
   refine ybq fun y=>?_;have:=S.none M (by omega);rw[this]at ht;simp at ht
  obtain ⟨_,h1,h2⟩:=S.first M hlen;omega
 ·rw[if_neg z,g t ht,g (t - 1) (by omega)];have:=S.step M (t:=t - 1) (by omega);have e:t - 1+1=t:=by omega
  have e2:(spL es)[t - 1+1]'(by omega)=(spL es)[t]:=by congr 1
  rw[e2]at this;omega
theorem zpp {es:List En}(he:∀ e∈es,zeg 64 e)(hri:Rise es):stAt (spL es) (spL es).length≤es.length∧es.length≤stAt (spL es) (spL es).length+1:=by
 have M:=zh7 he hri;have S:=zjK es;have hl:=zbn es;unfold stAt;by_cases z:(spL es).length=0
 ·rw[if_pos z];refine ⟨yaE _,?_⟩;refine ybq fun y=>?_;obtain ⟨h,_⟩:=S.first M (by omega);omega
 ·have g:(spL es).getD ((spL es).length - 1) 0=(spL es)[(spL es).length - 1]'(by omega):=by
   rw[yad,yac (by omega)];rfl
  rw[if_neg z,g];have h1:=S.lt (yaG (show (spL es).length - 1 < (spL es).length by omega));refine ⟨by omega,?_⟩;have hlen:2≤(zcq es).length:=ybq fun y=>z (by rw[S.none M y];rfl);have h2:=S.last M hlen (by omega);omega
theorem zdZ {f:Nat→Nat}{i:Nat}:((List.range (i+1)).map f).map nV=(((List.range i).map f)++[f i]).map nV:=by
 rw[ybz,yan];rfl
theorem zjr {us:List Nat}{c:Nat}:atI ((us++[c]).map nV) (-1)=some (nV c):=by
 unfold atI ixN;rw[yan];simp;rw[if_pos (by omega)];show (List.map nV us++[nV c])[(-1+((us.length:Int)+1)).toNat]?=_;rw[show (-1+((us.length:Int)+1)).toNat=us.length by omega,yaP (by rw[yab];exact yaa _),yab,yby];rfl
def zoI (K:Frag):Sp:=fun vs H Q _=>∃(a:Addr) (ws:List V) (es:List En) (k:Nat),vs=[.ref a,.int k]∧H a=some (.lst ws)∧zar K H es ws∧es.length≤900∧
 ∀(p:Addr) (H':Hp),H p=none→Same H H'→H' p=some (.lst ((znL k es).map nV))→Q (.ref p) H'
theorem zpB (T:Txt K mg)(qbS:DF K mg "owns_of" zep zdN):FC P w K mg base 1 "owns_of" zdN (zoI K):=by
 refine qbS.ok qbt (fun vs H Q E h=>?_) (fun f cdv A outer s H vs Q E hr h=>?_)
 ·obtain ⟨a,ws,es,k,rfl,_⟩:=h;rfl
 obtain ⟨a,ws,es,k,rfl,ha,hw,hz,q⟩:=h;have hwl:=hw.length;refine ⟨_,(zag (zas (i:=2) qbt.nd rfl (Or.inl rfl) (zaI (zaa zae zac)))
   (zag (za2 PassesOwn.never rfl (zbq (pv 0)) (zan (i:=3) qbt.nd rfl (Or.inl rfl)) (zaf (zbd (ze4 F.plainAttrs_list F.slot_list_append F.type_list_append za0 (pv 2) (zaa (zj0 (zav zdx (zau zaF (pv 3) zae (fun _ _=>rfl)) (pv 1) (zaB _)) (zaw zbe (zau zay (pv 2) (ze3 zcT zae) (fun _ _=>rfl)) zae) (zau zay (pv 2) (ze3 zcT zae) (fun _ _=>rfl))) zac)))))
   (zaf (zao (pv 2))))),?_⟩
 refine ⟨(by show 1≤sizeLine;decide),fun p hp=>?_⟩;have k0:But p H (upd H p (.lst [V.int 0])):=fun b o n e=>by rw[zah n];exact e
 have nap:a≠p:=zab ha hp;refine ⟨_,rfl,a,rfl,⟨_,SqL.of (k0 _ _ nap ha)⟩,?_⟩;refine zd0 (xs:=ws) (fun i σ H2=>∃ x3:Option V,σ=[some (.ref a),some (.int k),some (.ref p),x3]∧H2 p=some (.lst (((List.range (i+1)).map fun p=>zec k (es.take p)).map nV))∧But p H H2) ?_ ?_ ?_ ?_
 ·exact ⟨_,rfl,zad,k0⟩
 ·rintro i σ H2 _ ⟨x3,rfl,_,k2⟩;exact SqL.of (k2 _ _ nap ha)
 ·rintro i x σ H2 hx ⟨x3,rfl,h2,k2⟩;obtain ⟨e,he,hhas⟩:=hw.get hx;obtain ⟨b,y1,y2,rfl,hb,hy1,hy2⟩:=(show hasP K H e x from hhas);have hy1:y1=.int e.1:=hy1;have hy2:y2=.int e.2:=hy2;subst hy1 hy2;have h2b:=k2 _ _ (zab hb hp) hb;have hi:=(yao.mp he).1;have htk:es.take (i+1)=es.take i++[e]:=by
   rw[yaH hi,(yao.mp he).2]
  have hon:=zkO k (es.take i) e;rw[← htk]at hon;rw[zdZ]at h2;have hlen:((((List.range i).map fun p=>zec k (es.take p))++[zec k (es.take i)]).map nV).length < sizeLine:=zap (by
   rw[yab,yaf,yab,ya5,yaJ];omega)
  have fin:∀ v:Nat,v=zec k (es.take (i+1))→upd H2 p (.lst ((((List.range i).map fun p=>zec k (es.take p))++[zec k (es.take i)]).map nV++[nV v])) p=some (.lst (((List.range (i+1+1)).map fun p=>zec k (es.take p)).map nV)):=fun v hv=>by
   rw[zad,zdZ,yan (l₂:=[zec k (es.take (i+1))]),zdZ,hv];rfl
  refine ⟨_,rfl,.inl ⟨rfl,_,SqL.of h2⟩,?_⟩;refine ⟨_,rfl,_,_,_,_,rfl,rfl,SqT.of h2b,rfl,_,rfl,rfl,_,rfl,?_⟩;refine ite2 (fun c=>?_) (fun c=>?_)
  ·have c':e.2=(k:Int):=V.int.inj (yaD c);rw[if_pos c']at hon;refine ⟨_,rfl,_,rfl,_,_,_,_,rfl,rfl,SqL.of h2,zjr,_,_,rfl,rfl,_,_,_,rfl,rfl,h2,hlen,?_⟩;refine ⟨_,rfl,?_,fun b o n e=>by rw[zah n];exact k2 b o n e⟩;have:=fin (zec k (es.take i)+1) hon.symm;rw[← this];rfl
  ·have c':¬ e.2=(k:Int):=fun z=>c (by rw[z];exact yam rfl);rw[if_neg c',ybr]at hon;refine ⟨_,rfl,_,rfl,_,_,_,_,rfl,rfl,SqL.of h2,zjr,_,_,_,rfl,rfl,h2,hlen,?_⟩;exact ⟨_,rfl,fin _ hon.symm,fun b o n e=>by rw[zah n];exact k2 b o n e⟩
 ·rintro σ H2 ⟨x3,rfl,h2,k2⟩;refine ⟨_,rfl,?_⟩;rw[← hwl]at h2;exact q p H2 hp (fun b o e=>k2 b o (zab e hp) e) h2
def kvT:Nat→List En→List (List Key×V)
 | _,[]=>[]
 | o,e::es=>([.inl e.1,.inl e.2],nV (o+1))::kvT (o+1) es
abbrev kE (e:En):List Key:=[.inl e.1,.inl e.2]
theorem zrr {e f:En}(h:kE e=kE f):e=f:=by
 obtain ⟨a,b⟩:=e;obtain ⟨c,d⟩:=f;injection h with h1 h2;injection h2 with h2 _;have h1:a=c:=Sum.inl.inj h1;have h2:b=d:=Sum.inl.inj h2;rw[h1,h2]
theorem zi2 (e:En):∀(o:Nat) (es:List En),valV (kvT o es) (kE e)=if e∈es then some (nV (o+es.idxOf e+1)) else none
 | _,[]=>rfl
 | o,f::es=>by
  show valV ((kE f,nV (o+1))::kvT (o+1) es) (kE e)=_;by_cases z:f=e
  ·subst z;rw[zcA rfl,if_pos yak,List.idxOf_cons_self]
  ·rw[zbv (fun y=>z (zrr y)),zi2 e (o+1) es];have hm:(e∈f::es)=(e∈es):=propext ⟨fun h=>(yal.mp h).resolve_left fun y=>z y.symm,fun h=>yas _ h⟩;by_cases y:e∈es
   ·have ei:(f::es).idxOf e=es.idxOf e+1:=by
     rw[List.idxOf_cons,beq_false_of_ne z];rfl
    rw[if_pos y,if_pos (by rw[hm];exact y),ei];congr 2;have:o+1+es.idxOf e+1=o+(es.idxOf e+1)+1:=by omega
    rw[this]
   ·rw[if_neg y,if_neg (by rw[hm];exact y)]
theorem zke (e:En):∀(o:Nat) (es:List En),kvT o (es++[e])=kvT o es++[(kE e,nV (o+es.length+1))]
 | _,[]=>rfl
 | o,f::es=>by
  show (kE f,nV (o+1))::kvT (o+1) (es++[e])=(kE f,nV (o+1))::(kvT (o+1) es++_);rw[zke e (o+1) es,yaK,show o+1+es.length+1=o+(es.length+1)+1 by omega]
theorem zmD:∀(o:Nat) (es:List En),(kvT o es).length=es.length
 | _,[]=>rfl
 | o,e::es=>by
  show (kvT (o+1) es).length+1=es.length+1;rw[zmD (o+1) es]
def zjG (K:Frag):Sp:=fun vs H Q _=>∃(a c:Addr) (ws vs':List V) (es cs:List En),vs=[.ref a,.ref c]∧H a=some (.lst ws)∧zar K H es ws∧es.length≤900∧H c=some (.lst vs')∧zar K H cs vs'∧cs.length≤900∧cs.Nodup∧
 ∀(p:Addr) (H':Hp),H p=none→Same H H'→H' p=some (.lst ((zgV es cs).map nV))→Q (.ref p) H'
theorem zl7 (T:Txt K mg)(qbl:DF K mg "starts_of" zc8 zcH):FC P w K mg base 1 "starts_of" zcH (zjG K):=by
 refine qbl.ok qav (fun vs H Q E h=>?_) (fun f cdv A outer s H vs Q E hr h=>?_)
 ·obtain ⟨a,c,ws,us,es,cs,rfl,_⟩:=h;rfl
 obtain ⟨a,c,ws,us,es,cs,rfl,ha,hw,hz,hc,hu,hzc,hnd,q⟩:=h;have hwl:=hw.length;have hul:=hu.length;refine ⟨_,(zag (zas (i:=2) qav.nd rfl (Or.inl rfl) znG)
   (zag (za2 PassesOwn.never rfl (zdu rfl T.qbh (zaa (pv 1) zac)) (zgx rfl (zaM (zan (i:=3) qav.nd rfl (Or.inl rfl)) (zaM (zan (i:=4) qav.nd rfl (Or.inl rfl)) zcN))) (zaf (ze2 (zee hr) (pv 2) (pv 4) (zaw zbe (pv 3) zae) rfl)))
   (zag (zas (i:=5) qav.nd rfl (Or.inl rfl) (zaI (zaa zae zac)))
   (zag (za2 PassesOwn.never rfl (zbq (pv 0)) (zan (i:=4) qav.nd rfl (Or.inl rfl)) (zaf (zbd (ze4 F.plainAttrs_list F.slot_list_append F.type_list_append za0 (pv 5) (zaa (znH (zee hr) (pv 2) (pv 4) (zau zay (pv 5) (ze3 zcT zae) (fun _ _=>rfl)) ⟨rfl,rfl,rfl,rfl⟩) zac)))))
   (zaf (zao (pv 5))))))),?_⟩
 intro D hD;have k0:But D H (upd H D (.dT [])):=fun b o n e=>by rw[zah n];exact e
 have naD:a≠D:=zab ha hD;have ncD:c≠D:=zab hc hD;refine ⟨_,rfl,c,rfl,⟨_,SqL.of (k0 _ _ ncD hc)⟩,?_⟩;refine zhx (xs:=us) (fun i σ H2=>∃ x3 x4:Option V,σ=[some (.ref a),some (.ref c),some (.ref D),x3,x4,none]∧H2 D=some (.dT (kvT 0 (cs.take i)))∧But D H H2) ?_ ?_ ?_ ?_
 ·exact ⟨_,_,rfl,zad,k0⟩
 ·rintro i σ H2 _ ⟨x3,x4,rfl,_,k2⟩;exact SqL.of (k2 _ _ ncD hc)
 ·rintro i x σ H2 r hx ⟨x3,x4,rfl,h2,k2⟩ hr;obtain ⟨e,he,hhas⟩:=hu.get hx;obtain ⟨b,y1,y2,rfl,hb,hy1,hy2⟩:=(show hasP K H e x from hhas);have hy1:y1=.int e.1:=hy1;have hy2:y2=.int e.2:=hy2;subst hy1 hy2;have hi:=(yao.mp he).1;have htk:cs.take (i+1)=cs.take i++[e]:=by
   rw[yaH hi,(yao.mp he).2]
  refine ⟨r,_,rfl,SqT.of zad,rfl,_,_,rfl,_,_,rfl,rfl,?_⟩;have sr:=zai hr (.tup [.int (i:Int),.ref b]);have h3:=sr _ _ h2;have k3:But D H (upd H2 r (.tup [.int (i:Int),.ref b])):=fun b o n e=>sr b o (k2 b o n e);clear sr;generalize upd H2 r (.tup [.int (i:Int),.ref b])=H3 at h3 k3 ⊢;have h3b:=k3 _ _ (zab hb hD) hb;have hnot:e∉cs.take i:=fun z=>by
   have hn2:=hnd;rw[← yaZ (i+1) cs,htk]at hn2;have:=(ybx.mp (ybx.mp hn2).1).2.2 e z e (yah.mpr rfl);exact this rfl
  refine ⟨_,rfl,_,_,rfl,rfl,_,rfl,_,rfl,D,_,rfl,DPut.t (k:=kE e) h3 h3b (zap (by rw[zmD,yar];omega)),?_⟩;refine ⟨_,_,rfl,?_,fun b o n e=>by rw[zah n];exact k3 b o n e⟩;rw[zad,zez _ (by rw[zi2,if_neg hnot]),htk,zke,yar,ybk (by omega),ybt];rfl
 ·rintro σ H2 ⟨x3,x4,rfl,h2,k2⟩;rw[yat (by omega)]at h2;refine ⟨(by show 1≤sizeLine;decide),fun p hp=>?_⟩;have nDp:D≠p:=zab h2 hp;have s2:Same H H2:=fun b o e=>k2 b o (zab e hD) e;have k3:But p H2 (upd H2 p (.lst [V.int 0])):=fun b o n e=>by rw[zah n];exact e
  have h2a:=s2 _ _ ha;refine ⟨_,rfl,a,rfl,⟨_,SqL.of (k3 _ _ (zab h2a hp) h2a)⟩,?_⟩;refine zd0 (xs:=ws) (fun i σ H4=>∃ x4:Option V,σ=[some (.ref a),some (.ref c),some (.ref D),x3,x4,some (.ref p)]∧H4 p=some (.lst (((List.range (i+1)).map fun p=>stN cs (es.take p)).map nV))∧But p H2 H4) ?_ ?_ ?_ ?_
  ·exact ⟨_,rfl,zad,k3⟩
  ·rintro i σ H4 _ ⟨x4,rfl,_,k4⟩;exact SqL.of (k4 _ _ (zab h2a hp) h2a)
  ·rintro i x σ H4 hx ⟨x4,rfl,h4,k4⟩;obtain ⟨e,he,hhas⟩:=hw.get hx;obtain ⟨b,y1,y2,rfl,hb,hy1,hy2⟩:=(show hasP K H e x from hhas);have hy1:y1=.int e.1:=hy1;have hy2:y2=.int e.2:=hy2;subst hy1 hy2;have h2b:=s2 _ _ hb;have h4b:=k4 _ _ (zab h2b hp) h2b;have h4D:=k4 _ _ nDp h2;have hi:=(yao.mp he).1;have htk:es.take (i+1)=es.take i++[e]:=by
    rw[yaH hi,(yao.mp he).2]
   have hon:=zjE cs (es.take i) e;rw[← htk]at hon;rw[zdZ]at h4;have hlen:((((List.range i).map fun p=>stN cs (es.take p))++[stN cs (es.take i)]).map nV).length < sizeLine:=zap (by
    rw[yab,yaf,yab,ya5,yaJ];omega)
   refine ⟨_,rfl,.inl ⟨rfl,_,SqL.of h4⟩,?_⟩;refine ⟨_,rfl,D,rfl,.inr ⟨_,.inl h4D⟩,_,rfl,_,rfl,_,rfl,_,_,_,_,rfl,rfl,SqL.of h4,zjr,_,DGet.t (k:=kE e) h4D h4b,?_⟩;have ev:(valV (kvT 0 cs) (kE e)).getD (nV (stN cs (es.take i)))=nV (stN cs (es.take (i+1))):=by
    rw[zi2,hon];by_cases z:e∈cs
    ·rw[if_pos z,if_pos z,ybt];rfl
    ·rw[if_neg z,if_neg z];rfl
   rw[ev];refine ⟨_,_,_,rfl,rfl,h4,hlen,?_⟩;refine ⟨_,rfl,?_,fun b o n e=>by rw[zah n];exact k4 b o n e⟩;rw[zad,zdZ,yan (l₂:=[stN cs (es.take (i+1))]),zdZ];rfl
  ·rintro σ H4 ⟨x4,rfl,h4,k4⟩;refine ⟨_,rfl,?_⟩;rw[← hwl]at h4;refine q p H4 (s2.free hp) (s2.trans fun b o e=>k4 b o (zab e hp) e) h4
theorem zaL {α β:Type}{F G:α→β→Prop}(h:∀ a b,F a b→G a b):∀{l:List α} {m:List β},Paired F l m→Paired G l m
 | _,_,.nil=>.nil
 | _,_,.cons a t=>.cons (h _ _ a) (zaL h t)
theorem zco {α β:Type}{F:α→β→Prop}{a:α}{b:β}:∀{l:List α} {m:List β},Paired F l m→F a b→Paired F (l++[a]) (m++[b])
 | _,_,.nil,h=>.cons h .nil
 | _,_,.cons a t,h=>.cons a (zco t h)
theorem zci {α β:Type}{F:α→β→Prop}:∀{l:List α} {m:List β} {i:Nat} {a:α},Paired F l m→l[i]?=some a→∃ b,m[i]?=some b∧F a b
 | _,_,i,a,.nil,h=>by simp at h
 | _::_,b::_,0,a,.cons h t,e=>by
  have:=yag (show some _=some a from e);subst this;exact ⟨b,rfl,h⟩
 | _::_,_::_,i+1,a,.cons h t,e=>by
  obtain ⟨q,h1,h2⟩:=zci (i:=i) t (by simpa using e);exact ⟨q,by simpa using h1,h2⟩
theorem zfY {α β:Type}{F:α→β→Prop}:∀{l:List α} {m:List β} {i:Nat} {b:β},Paired F l m→m[i]?=some b→∃ a,l[i]?=some a∧F a b
 | _,_,i,a,.nil,h=>by simp at h
 | a::_,_::_,0,b,.cons h t,e=>by
  have:=yag (show some _=some b from e);subst this;exact ⟨a,rfl,h⟩
 | _::_,_::_,i+1,a,.cons h t,e=>by
  obtain ⟨q,h1,h2⟩:=zfY (i:=i) t (by simpa using e);exact ⟨q,by simpa using h1,h2⟩
def zbC (Av:List Addr)(H:Hp)(es:List En)(ps:List Nat)(rows:List (List Int))(c:Nat)(x:V):Prop:=∃ j s,x=.ref j∧s∉Av∧H j=some (.tup [.int (c:Int),.ref s])∧H s=some (.lst ((zgV es (zak ps rows c)).map nV))
def BrAt (Av:List Addr)(H:Hp)(ps:List Nat)(rows:List (List Int))(k:Nat)(x:V):Prop:=∃ b o j xs,x=.ref b∧o∉Av∧j∉Av∧H b=some (.tup [.int ((zak ps rows k).length:Nat),.ref o,.ref j])∧H o=some (.lst ((znL k (zak ps rows k)).map nV))∧H j=some (.lst xs)∧Paired (zbC Av H (zak ps rows k) ps rows) (zaN ps k (ps.length+1)) xs
theorem zbC.same {Av:List Addr}{H H':Hp}{es:List En}{ps:List Nat}{rows:List (List Int)}{c:Nat}{x:V}(e:Same H H')(h:zbC Av H es ps rows c x):zbC Av H' es ps rows c x:=by
 obtain ⟨j,s,h1,h2,h3,h4⟩:=h;exact ⟨j,s,h1,h2,e _ _ h3,e _ _ h4⟩
theorem zbC.but {p:Addr}{Av:List Addr}{H H':Hp}{es:List En}{ps:List Nat}{rows:List (List Int)}{c:Nat}{x:V}{zs:List V}(k:But p H H')(hp:p∈Av)(hz:H p=some (.lst zs))(h:zbC Av H es ps rows c x):zbC Av H' es ps rows c x:=by
 obtain ⟨j,s,h1,h2,h3,h4⟩:=h;exact ⟨j,s,h1,h2,k _ _ (fun z=>by rw[z,hz]at h3;cases h3) h3,k _ _ (fun z=>h2 (z ▸ hp)) h4⟩
theorem zbC.less {Av Av':List Addr}{H:Hp}{es:List En}{ps:List Nat}{rows:List (List Int)}{c:Nat}{x:V}(s:∀ a∈Av',a∈Av)(h:zbC Av H es ps rows c x):zbC Av' H es ps rows c x:=by
 obtain ⟨j,q,h1,h2,h3,h4⟩:=h;exact ⟨j,q,h1,fun z=>h2 (s _ z),h3,h4⟩
theorem BrAt.same {Av:List Addr}{H H':Hp}{ps:List Nat}{rows:List (List Int)}{k:Nat}{x:V}(e:Same H H')(h:BrAt Av H ps rows k x):BrAt Av H' ps rows k x:=by
 obtain ⟨b,o,j,xs,h1,h2,h3,h4,h5,h6,h7⟩:=h;exact ⟨b,o,j,xs,h1,h2,h3,e _ _ h4,e _ _ h5,e _ _ h6,zaL (fun a b=>zbC.same e) h7⟩
theorem BrAt.but {p:Addr}{Av:List Addr}{H H':Hp}{ps:List Nat}{rows:List (List Int)}{k:Nat}{x:V}{zs:List V}(kk:But p H H')(hp:p∈Av)(hz:H p=some (.lst zs))(h:BrAt Av H ps rows k x):BrAt Av H' ps rows k x:=by
 obtain ⟨b,o,j,xs,h1,h2,h3,h4,h5,h6,h7⟩:=h;exact ⟨b,o,j,xs,h1,h2,h3,kk _ _ (fun z=>by rw[z,hz]at h4;cases h4) h4,kk _ _ (fun z=>h2 (z ▸ hp)) h5,kk _ _ (fun z=>h3 (z ▸ hp)) h6,zaL (fun a b=>zbC.but kk hp hz) h7⟩
theorem BrAt.less {Av:List Addr}{H:Hp}{ps:List Nat}{rows:List (List Int)}{k:Nat}{x:V}(h:BrAt Av H ps rows k x):BrAt [] H ps rows k x:=by
 obtain ⟨b,o,j,xs,h1,h2,h3,h4,h5,h6,h7⟩:=h;exact ⟨b,o,j,xs,h1,(fun z=>nomatch z),(fun z=>nomatch z),h4,h5,h6,zaL (fun a b=>zbC.less (fun a z=>absurd z yaF)) h7⟩
def zlQ (K:Frag):Sp:=fun vs H Q _=>∃(st:Addr) (ps:List Nat) (rows:List (List Int)) (t rs:Addr) (as:List Addr) (pf:Addr) (qs:List Addr),vs=[.ref t,.ref pf]∧zbi H st ps rows t rs as∧H pf=some (.lst (qs.map V.ref))∧zaE K H ps rows (List.range (ps.length+1)) qs∧
 ∀(p:Addr) (xs:List V) (H':Hp),H p=none→Same H H'→H' p=some (.lst xs)→Paired (BrAt [] H' ps rows) (List.range (ps.length+1)) xs→Q (.ref p) H'
theorem zpJ (T:Txt K mg)(qa7:DF K mg "bridges_of" zcG zbm)(qby:FC P w K mg base 1 "children" zcn (zcW K))(qcR:FC P w K mg base 1 "starts_of" zcH (zjG K))(qdd:FC P w K mg base 1 "owns_of" zdN (zoI K)):FC P w K mg base 2 "bridges_of" zbm (zlQ K):=by
 refine qa7.ok qay (fun vs H Q E h=>?_) (fun f cdv A outer s H vs Q E hr h=>?_)
 ·obtain ⟨st,ps,rows,t,rs,as,pf,qs,rfl,_⟩:=h;rfl
 obtain ⟨st,ps,rows,t,rs,as,pf,qs,rfl,S,h1,hF,q⟩:=h;refine ⟨_,(zag (zas (i:=2) qay.nd rfl (Or.inl rfl) (zaI zac))
   (zag (za2 PassesOwn.never rfl (zdu rfl T.qbh (zaa (pv 1) zac)) (zgx rfl (zaM (zan (i:=3) qay.nd rfl (Or.inl rfl)) (zaM (zan (i:=4) qay.nd rfl (Or.inr rfl)) zcN))) (zag (zfW (i:=5) (N:=["child","full","fulls"]) (own:=1) (cap:=[4,1]) qay.nd rfl rfl rfl (zbq (zaz qby hr (zaa (pv 0) (zaa (pv 3) zac)))) ⟨rfl,rfl,rfl,rfl,rfl,rfl⟩ (fun _ _ _ _ _=>(zan (i:=0) (show List.Nodup (["child","full","fulls"]:List Str) by decide +kernel) rfl (Or.inl rfl))) (fun _ _ _ _ _=>zbp) (fun _ _ _ _ _=>(zbB (zaa (pv 0) (zaa (zaz qcR hr (zaa (pv 1) (zaa (zau (zfK (K:=K)) (pv 2) (pv 0) (fun _ _=>rfl)) zac))) zac)))))
   (zaf (zbd (ze4 F.plainAttrs_list F.slot_list_append F.type_list_append za0 (pv 2) (zaa (zbB (zaa (zal zam rfl T.qaz boot_len (zaa (pv 4) zac)) (zaa (zaz qdd hr (zaa (pv 4) (zaa (pv 3) zac))) (zaa (pv 5) zac)))) zac))))))
   (zaf (zao (pv 2))))),?_⟩
 have hfew:=S.few;have hkeys:=S.keys;have hql:=hF.length;rw[ya5]at hql;refine ⟨(by show 0≤sizeLine;decide),fun p hp=>?_⟩;have k0:But p H (upd H p (.lst [])):=fun b o n e=>by rw[zah n];exact e
 have npf:pf≠p:=zab h1 hp;refine ⟨_,rfl,pf,rfl,⟨_,SqL.of (k0 _ _ npf h1)⟩,?_⟩;refine zhx (xs:=qs.map V.ref) (fun i σ H2=>∃(xs:List V) (x4 x5 x6:Option V),σ=[some (.ref t),some (.ref pf),some (.ref p),x4,x5,x6]∧H2 p=some (.lst xs)∧Paired (BrAt [p] H2 ps rows) (List.range i) xs∧But p H H2) ?_ ?_ ?_ ?_
 ·exact ⟨[],_,_,_,rfl,zad,.nil,k0⟩
 ·rintro i σ H2 _ ⟨xs,x4,x5,x6,rfl,_,_,k2⟩;exact SqL.of (k2 _ _ npf h1)
 ·rintro i x σ H2 r hx ⟨xs,x4,x5,x6,rfl,h2,hB,k2⟩ hr;rw[yaj]at hx;obtain ⟨qq,hqi,rfl⟩:=ybH.mp hx;have hi:i < ps.length+1:=by
   have:=(yao.mp hqi).1;omega
  have hxl:xs.length=i:=by
   have:=Paired.length hB;rw[ya5]at this;exact this.symm
  have noP:∀{b:Addr} {o:HO},H b=some o→b≠p:=fun e=>zab e hp;have s12:Same H H2:=fun b o e=>k2 b o (noP e) e;have S2:=S.same s12;have F2:=hF.same s12;have h2f:=s12 _ _ h1;obtain ⟨q2,hq2,ws,hq3,hw3⟩:=F2.get (i:=i) (j:=i) (ybm hi);rw[hqi]at hq2;have:=yag hq2;subst this;refine ⟨r,_,rfl,SqT.of zad,rfl,_,_,rfl,_,_,rfl,rfl,?_⟩;have sr:=zai hr (.tup [.int (i:Int),.ref qq]);generalize upd H2 r (.tup [.int (i:Int),.ref qq])=H3 at sr ⊢;refine ⟨_,rfl,_,rfl,t,ps,i,rfl,sr _ _ S2.tr,by omega,fun c H4 hc s4 h4=>?_⟩;have s24:Same H2 H4:=sr.trans s4;refine ⟨c,rfl,⟨_,SqL.of h4⟩,fun D hD=>?_⟩;have hpD:p≠D:=zab (s24 _ _ h2) hD;have F4:=F2.same s24;have h4q:=s24 _ _ hq3;have h4w:=hw3.mono s24.ext;have hfl:=ze9 S.T S.len (rows:=rows) hi;refine zcw (xs:=(zaN ps i (ps.length+1)).map nV) (fun m σ H5=>∃(ys:List V) (x0:Option V),σ=[x0,some (.ref qq),some (.ref pf)]∧H5 D=some (.lst ys)∧Paired (zbC [p,D] H5 (zak ps rows i) ps rows) ((zaN ps i (ps.length+1)).take m) ys∧But D H4 H5) ?_ ?_ ?_ ?_
  ·exact ⟨[],_,rfl,zad,.nil,fun b o n e=>by rw[zah n];exact e⟩
  ·rintro m σ H5 _ ⟨ys,x0,rfl,_,_,k5⟩;exact k5.sq (SqL.of h4) hD
  ·rintro m u x σ H5 hx hm ⟨ys,x0,rfl,h5,hJ,k5⟩;obtain ⟨hmi,rfl⟩:=zgD hx;have hcl:=zc6 ps i (ps.length+1);have hyl:=Paired.length hJ;rw[yar]at hyl;rw[yab]at hm;have hcm:(zaN ps i (ps.length+1))[m]?=some ((zaN ps i (ps.length+1)).getD m 0):=by
    rw[yad,yac hmi];rfl
   have htk2:(zaN ps i (ps.length+1)).take (m+1)=(zaN ps i (ps.length+1)).take m++[(zaN ps i (ps.length+1)).getD m 0]:=by
    rw[yaH hmi,yad,yac hmi];rfl
   rw[htk2];generalize (zaN ps i (ps.length+1)).getD m 0=ch at hcm ⊢;obtain ⟨hchn,hchp⟩:=zaD.mp (yaQ hcm);have s45:Same H4 H5:=fun b o e=>k5 b o (zab e hD) e;have F5:=F4.same s45;obtain ⟨qc,hqc,wc,hqc3,hwc⟩:=F5.get (i:=ch) (j:=ch) (ybm hchn);have hfc:=ze9 S.T S.len (rows:=rows) hchn;refine zd8 ?_;refine ⟨_,rfl,_,rfl,_,rfl,_,rfl,_,_,_,_,rfl,rfl,SqL.of (s45 _ _ (s24 _ _ h2f)),zkw hqc,?_⟩;refine ⟨qq,qc,ws,wc,zak ps rows i,zak ps rows ch,rfl,s45 _ _ h4q,h4w.mono s45.ext,by omega,hqc3,hwc,by omega,zf3 S.T S.R hchn,fun sa H6 hsa s6 h6=>?_⟩;refine ⟨(by show 2≤sizeLine;decide),fun j hj=>?_⟩;have sj:=zai hj (.tup [.int (ch:Int),.ref sa]);have hjj:upd H6 j (.tup [.int (ch:Int),.ref sa]) j=some (.tup [.int (ch:Int),.ref sa]):=zad;generalize upd H6 j (.tup [.int (ch:Int),.ref sa])=H7 at sj hjj ⊢;have s57:=s6.trans sj;have h7D:=s57 _ _ h5;have nsaD:sa≠D:=Ne.symm (zab h5 hsa);have nsap:sa≠p:=Ne.symm (zab (s45 _ _ (s24 _ _ h2)) hsa);have kD:But D H7 (upd H7 D (.lst (ys++[.ref j]))):=fun b o n e=>by rw[zah n];exact e
   refine ⟨_,h7D,zap (by omega),u - 1,by omega,by rw[yab];omega,ys++[.ref j],_,rfl,zad,?_,fun b o n e=>by rw[zah n];exact s57 _ _ (k5 b o n e)⟩;refine zco (zaL (fun a b h=>zbC.but kD (yas _ yak) h7D (zbC.same s57 h)) hJ) ?_;refine zbC.but kD (yas _ yak) h7D ⟨j,sa,rfl,?_,hjj,sj _ _ h6⟩;intro z;rcases yal.mp z with z | z
   ·exact nsap z
   ·exact nsaD (yah.mp z)
  ·rintro σ H5 ⟨ys,x0,rfl,h5,hJ,k5⟩;rw[yab,yat (yaa _)]at hJ;have s45:Same H4 H5:=fun b o e=>k5 b o (zab e hD) e;have s25:=s24.trans s45;refine ⟨_,rfl,.inl ⟨rfl,_,SqL.of (s25 _ _ h2)⟩,_,rfl,_,_,rfl,.inl (SqL.of (s45 _ _ h4q)),?_⟩;have hwl:=h4w.length;refine ⟨_,rfl,_,rfl,qq,ws,zak ps rows i,i,rfl,s45 _ _ h4q,h4w.mono s45.ext,by omega,fun o H6 ho s6 h6=>?_⟩;refine ⟨_,rfl,(by show 3≤sizeLine;decide),fun b hb=>?_⟩;have sb:=zai hb (.tup [.int ((ws.length:Nat):Int),.ref o,.ref D]);have hbb:upd H6 b (.tup [.int ((ws.length:Nat):Int),.ref o,.ref D]) b=some (.tup [.int ((ws.length:Nat):Int),.ref o,.ref D]):=zad;generalize upd H6 b (.tup [.int ((ws.length:Nat):Int),.ref o,.ref D])=H7 at sb hbb ⊢;have s57:=s6.trans sb;have s27:=s25.trans s57;have h7p:=s27 _ _ h2;have kp:But p H7 (upd H7 p (.lst (xs++[.ref b]))):=fun b o n e=>by rw[zah n];exact e
   have nop:o≠p:=Ne.symm (zab (s25 _ _ h2) ho);refine ⟨_,_,_,rfl,rfl,h7p,zap (by omega),?_⟩;refine ⟨xs++[.ref b],_,_,_,rfl,zad,?_,fun b o n e=>by rw[zah n];exact s27 _ _ (k2 b o n e)⟩;rw[ybz];refine zco (zaL (fun a b h=>BrAt.but kp yak h7p (BrAt.same s27 h)) hB) ?_;refine BrAt.but kp yak h7p ⟨b,o,D,ys,rfl,fun z=>nop (yah.mp z),fun z=>hpD (yah.mp z).symm,?_,sb _ _ h6,s57 _ _ h5,?_⟩
   ·rw[hbb,hwl]
   ·exact zaL (fun a b h=>zbC.same s57 (zbC.less (fun a z=>by rw[yah.mp z];exact yak) h)) hJ
 ·rintro σ H2 ⟨xs,x4,x5,x6,rfl,h2,hB,k2⟩;refine ⟨_,rfl,?_⟩;rw[yab,← hql]at hB;refine q p xs H2 hp (fun b o e=>k2 b o (zab e hp) e) h2 (zaL (fun a b=>BrAt.less) hB)
theorem zmG {m:Nat}:∀{rows:List (List Int)},(∀ row∈rows,row.length≤m)→zfv rows≤rows.length * m
 | [],_=>yaE _
 | r::rows,h=>by
  have h1:=h r yak;have h2:=zmG (m:=m) (rows:=rows) fun x hx=>h x (yas _ hx);unfold zfv at h2 ⊢;rw[yaw,yaS,yaK,Nat.succ_mul];omega
def zat (es:List (Int×Int))(key:Int):Nat:=(es.filter fun e=>decide (e.1 < key)).length
theorem znj {es:List (Int×Int)}{key:Int}{m:Nat}(hm:m≤es.length)(h1:∀ i,i < m→decide ((es.getD i (0,0)).1 < key)=true)(h2:∀ i,m≤i→i < es.length→decide ((es.getD i (0,0)).1 < key)=false):zat es key=m:=by
 unfold zat
 conv=>lhs;rw[← yaZ m es]
 rw[ya6,yaf];have e1:(es.take m).filter (fun e=>decide (e.1 < key))=es.take m:=by
  rw[ycC];intro x hx;obtain ⟨i,hi,rfl⟩:=ybb hx;rw[yar]at hi;have:=h1 i (by omega);rw[yad,yac (by omega)]at this;rw[List.getElem_take];exact this
 have e2:(es.drop m).filter (fun e=>decide (e.1 < key))=[]:=by
  rw[ycp];intro x hx;obtain ⟨i,hi,rfl⟩:=ybb hx;rw[yaL]at hi;have:=h2 (m+i) (by omega) (by omega);rw[yad,yac (by omega)]at this;rw[List.getElem_drop];intro z;rw[show decide (es[m+i].1 < key)=false from this]at z;cases z
 rw[e1,e2,yar,ybF];omega
theorem zdM {es:List (Int×Int)}(h:Rise es):es.Pairwise (fun a b=>a.1≤b.1):=h.imp fun {a b} h=>by
 have:=zcO.mp h;omega
theorem zb0 (es:List (Int×Int))(key:Int):zat es key≤es.length:=yb6 _ _
theorem zcx {key:Int}:∀{es:List (Int×Int)},es.Pairwise (fun a b=>a.1≤b.1)→(∀ e∈es.take (zat es key),e.1 < key)∧∀ e∈es.drop (zat es key),¬ e.1 < key
 | [],_=>⟨fun e he=>(by simp at he),fun e he=>(by simp at he)⟩
 | a::es,h=>by
  rw[List.pairwise_cons]at h;obtain ⟨h1,h2⟩:=zcx (key:=key) h.2;by_cases c:a.1 < key
  ·have e:zat (a::es) key=zat es key+1:=by
    unfold zat;rw[ybg (by simpa using c),yaK]
   rw[e,List.take_succ_cons,List.drop_succ_cons];refine ⟨fun x hx=>?_,h2⟩;rcases yal.mp hx with z | z
   ·rw[z];exact c
   ·exact h1 x z
  ·have all:∀ x∈a::es,¬ x.1 < key:=fun x hx=>by
    rcases yal.mp hx with z | z
    ·rw[z];exact c
    ·have:=h.1 x z;omega
   have e:zat (a::es) key=0:=by
    unfold zat;rw[ycp.mpr fun x hx=>by simpa using all x hx];rfl
   rw[e];exact ⟨fun x hx=>(by simp at hx),fun x hx=>all x (by simpa using hx)⟩
theorem zfu {es:List (Int×Int)}{key:Int}(h:es.Pairwise (fun a b=>a.1≤b.1)):es.take (zat es key)=es.filter fun e=>decide (e.1 < key):=by
 obtain ⟨h1,h2⟩:=zcx (key:=key) h
 conv=>rhs;rw[← yaZ (zat es key) es]
 rw[ya6,ycC.mpr fun e he=>yam (h1 e he),ycp.mpr fun e he z=>h2 e he (yaD z),yaI]
theorem zhC {es:List (Int×Int)}{key:Int}(h:es.Pairwise (fun a b=>a.1≤b.1)){i:Nat}(hi:i < es.length):(i < zat es key→es[i].1 < key)∧(zat es key≤i→¬ es[i].1 < key):=by
 obtain ⟨h1,h2⟩:=zcx (key:=key) h;refine ⟨fun z=>h1 _ ?_,fun z=>h2 _ ?_⟩
 ·exact ycz.mpr ⟨i,by omega,rfl⟩
 ·refine List.mem_drop_iff_getElem.mpr ⟨i - zat es key,by omega,?_⟩;congr 1;omega
structure zrF (C F hd:List (Int×Int))(key:Int)(st:Nat):Prop where
 lo:st≤zat C key
 hi:zat C key≤st+2
 none:st=0→∀ e∈hd,¬ e.1 < key
 some:st≠0→∃ h:st - 1 < C.length,C[st - 1]∈hd∧C[st - 1].1 < key∧C[st - 1]∈F
theorem zmo {ps:List Nat}(T:zaC ps){rows:List (List Int)}(R:za1 rows)(few:ps.length≤40){k c:Nat}(hk:k < ps.length+1)(hc:par ps c=some k)(key:Int) :
  zrF (zak ps rows c) (zak ps rows k) (zbZ (zak ps rows c)) key (stN (zak ps rows c) ((zak ps rows k).take (zat (zak ps rows k) key))):=by
 have hcn:=(zaP T hc).2;have hst:=zqG T R hk hc (rows:=rows) (zat (zak ps rows k) key) (zb0 _ _);have hF:=zdM (zaS T R hk);have hC:=zdM (zaS T R hcn);have hcome:=zm9 T R hk hc (rows:=rows);have hgr:=fun t=>zpq (zf4 T R few hcn) (zaS T R hcn) (t:=t);have hla:=zpp (zf4 T R few hcn) (zaS T R hcn);have hsub:=zbg (zak ps rows c);have hpick:=zgC (zak ps rows c);have hspl:∀ j∈spL (zak ps rows c),j < (zak ps rows c).length:=fun j hj=>by
  have:=(zjK (zak ps rows c)).lt hj;rw[zbn]at this;exact this
 have ht:inN (zak ps rows c) ((zak ps rows k).take (zat (zak ps rows k) key))=zat (zbZ (zak ps rows c)) key:=by
  unfold inN;rw[zfu hF,← hcome];unfold zat;rw[yct,yct];congr 2
  funext e
  rw[Bool.and_comm]
 rw[hst,ht];have hmem:∀ e∈zbZ (zak ps rows c),e∈zak ps rows k:=fun e he=>by
  rw[← hcome]at he;exact (ya7.mp he).1
 clear hst ht hcome hF;generalize zak ps rows k=F at hmem ⊢;generalize zak ps rows c=C at *;have hhd:(zbZ C).Pairwise (fun a b=>a.1≤b.1):=hC.sublist hsub;have hlen:(zbZ C).length=(spL C).length:=by rw[hpick,yab]
 have hti:=zb0 (zbZ C) key;have hat:∀ i (h:i < (spL C).length),∃(h1:(spL C)[i] < C.length) (h2:i < (zbZ C).length),(zbZ C)[i]=C[(spL C)[i]]:=fun i h=>by
  have h1:=hspl _ (yaG h);refine ⟨h1,by omega,?_⟩;have e:(zbZ C)[i]?=some C[(spL C)[i]]:=by
   rw[hpick,yaj,yac h];show some (C.getD (spL C)[i] (0,0))=_;rw[yad,yac h1];rfl
  exact (yao.mp e).2
 have bat:=fun i h=>zhC (key:=key) hhd (i:=i) h;have cat:=fun i h=>zhC (key:=key) hC (i:=i) h;have hall:=zcx (key:=key) hhd;generalize zat (zbZ C) key=t at *;have hsp:∀ i (h:i < (spL C).length),stAt (spL C) (i+1)=(spL C)[i]+1:=fun i h=>by
  unfold stAt;rw[if_neg (by omega),ybQ,yad,yac h];rfl
 have before:∀ t',t=t'+1→∃(h:t' < (spL C).length) (h1:(spL C)[t'] < C.length),stAt (spL C) t=(spL C)[t']+1∧C[(spL C)[t']]∈zbZ C∧C[(spL C)[t']].1 < key:=fun t' e=>by
  have h:t' < (spL C).length:=by omega
  obtain ⟨h1,h2,h3⟩:=hat t' h;refine ⟨h,h1,by rw[e];exact hsp t' h,?_,?_⟩
  ·rw[← h3];exact yaG h2
  ·rw[← h3];exact (bat t' h2).1 (by omega)
 refine ⟨?_,?_,?_,?_⟩
 ·cases t with
  | zero=>exact yaE _
  | succ t'=>
   obtain ⟨h,h1,e,_,hlt⟩:=before t' rfl;rw[e];refine Nat.succ_le_of_lt (ycs fun z=>(cat _ h1).2 z hlt)
 ·rcases ybs t (spL C).length with z | z
  ·obtain ⟨h1,h2,h3⟩:=hat t z;have hge:¬ C[(spL C)[t]].1 < key:=by
    rw[← h3];exact (bat t h2).2 (yaa _)
   have hle:zat C key≤(spL C)[t]:=ybq fun y=>hge ((cat _ h1).1 y);have:=hgr t z;rw[hsp t z]at this;omega
  ·have e:t=(spL C).length:=by omega
   rw[e];have:=zb0 C key;omega
 ·intro z;cases t with
  | zero=>exact fun e he=>hall.2 e (by simpa using he)
  | succ t'=>
   obtain ⟨_,_,e,_⟩:=before t' rfl;omega
 ·intro z;cases t with
  | zero=>exact absurd rfl z
  | succ t'=>
   obtain ⟨h,h1,e,hm,hlt⟩:=before t' rfl;have e2:stAt (spL C) (t'+1) - 1=(spL C)[t']:=by omega
   refine ⟨by omega,?_⟩;have e3:C[stAt (spL C) (t'+1) - 1]'(by omega)=C[(spL C)[t']]:=by
    congr 1
   rw[e3];exact ⟨hm,hlt,hmem _ hm⟩
theorem zbA {β:Type}{F:Nat→β→Prop}{n:Nat}{l:List β}{k:Nat}(h:Paired F (List.range n) l)(hk:k < n):∃ b,l[k]?=some b∧F k b:=zci h (ybm hk)
theorem zkh {Av:List Addr}{H:Hp}{es:List En}{ps:List Nat}{rows:List (List Int)}:∀{cs:List Nat} {xs:List V},Paired (zbC Av H es ps rows) cs xs→∃ kvs:List (Key×V),Paired (fun (z:V) (kv:Key×V)=>∃ b,z=.ref b∧H b=some (.tup [kV kv.1,kv.2])) xs kvs∧kvs.map (·.1)=cs.map (fun c:Nat=>(Sum.inl (c:Int):Key))∧
  ∀ c∈cs,cs.Nodup→∃ s,valV kvs (.inl (c:Int))=some (.ref s)∧H s=some (.lst ((zgV es (zak ps rows c)).map nV))
 | _,_,.nil=>⟨[],.nil,rfl,fun c hc=>nomatch hc⟩
 | c0::cs,_,.cons ⟨j,s,e1,_,e3,e4⟩ t=>by
  obtain ⟨kvs,h1,h2,h3⟩:=zkh t;refine ⟨(.inl (c0:Int),.ref s)::kvs,.cons ⟨j,e1,e3⟩ h1,by rw[yaw,h2];rfl,fun c hc hn=>?_⟩;rw[yaW]at hn;unfold valV;by_cases z:c=c0
  ·subst z;exact ⟨s,by rw[List.find?_cons_of_pos (by simp)];rfl,e4⟩
  ·rw[List.find?_cons_of_neg (by simp;omega)];rcases yal.mp hc with y | y
   ·exact absurd y z
   ·exact h3 c y hn.2
theorem zgc (ps:List Nat)(k n:Nat):(zaN ps k n).Nodup:=by
 unfold zaN;exact List.Pairwise.filter _ List.nodup_range
def figN (n:Nat):Nat:=if h:n=0 then 0 else figN (n / 2)+1
termination_by n
decreasing_by exact Nat.div_lt_self (ycB h) (by decide)
theorem zf5:figN 0=0:=by
 unfold figN;rfl
theorem zfO {n:Nat}(h:n≠0):figN n=figN (n / 2)+1:=by
 rw[figN,dif_neg h]
theorem zio:∀(n a b:Nat),b≤n→a≤b→figN a≤figN b
 | 0,a,b,hb,ha=>by
  have e1:a=0:=by omega
  have e2:b=0:=by omega
  rw[e1,e2];exact yaa _
 | n+1,a,b,hb,ha=>by
  by_cases z:a=0
  ·rw[z,zf5];exact yaE _
  ·rw[zfO z,zfO (show b≠0 by omega)];exact Nat.succ_le_succ (zio n _ _ (by omega) (by omega))
theorem zjf:∀(n m:Nat),m≤n→figN m≤m
 | 0,m,h=>by
  rw[show m=0 by omega,zf5];exact yaa _
 | n+1,m,h=>by
  by_cases z:m=0
  ·rw[z,zf5];exact yaa _
  ·rw[zfO z];have:=zjf n (m / 2) (by omega);omega
def zoO (P:Program)(w:World)(K:Frag)(mg:Str→Option Value)(base:Heap):Sp:=fun vs H Q _=>∃(n:Nat) (f:Addr) (ps:List Str) (sp:Sp) (b:Nat→Bool) (R:List Nat→Hp→Prop),vs=[.int n,.ref f]∧FV P w K mg base 3 f ps sp∧R [] H∧
 (∀(i:Nat) (L:List Nat) (H1:Hp) (Q1:VK),i < n→L.length≤figN n→R L H1→(∀ H2,R (L++[i]) H2→Q1 (.bl (b i)) H2)→sp [.int i] H1 Q1 E0)∧(∀ i j,i≤j→j < n→b j=true→b i=true)∧
 ∀(m:Nat) (L:List Nat) (H':Hp),m≤n→(∀ i,i < m→b i=true)→(∀ i,m≤i→i < n→b i=false)→L.length≤figN n→R L H'→Q (.int m) H'
def zqr:L2.St→Hp→Nat:=fun σ _=>match σ with
 | [_,_,some (.int lo),some (.int hi),_]=>(hi - lo).toNat
 | _=>0
theorem zrc (T:Txt K mg)(qaD:DF K mg "how_many_below" zbw zbl):FC P w K mg base 4 "how_many_below" zbl (zoO P w K mg base):=by
 refine qaD.ok qaf (fun vs H Q E h=>?_) (fun f cdv A outer s H vs Q E hr h=>?_)
 ·obtain ⟨n,f,ps,sp,b,R,rfl,_⟩:=h;rfl
 obtain ⟨n,f,ps,sp,b,R,rfl,hF,hR,hask,hmono,q⟩:=h;refine ⟨_,(zag (zas (i:=2) qaf.nd rfl (Or.inl rfl) zae)
   (zag (zas (i:=3) qaf.nd rfl (Or.inl rfl) (pv 0))
   (zag (zg8 PassesOwn.never (zav zh1 (pv 2) (pv 3) (zaB _)) (zag (zas (i:=4) qaf.nd rfl (Or.inl rfl) (zaw ziR (zaw zbe (pv 2) (pv 3)) zae))
   (zaf (za6 (zbN (zhe (kr:=3) hr (pv 1) (zaa (pv 4) zac))) (zaf (zas (i:=2) qaf.nd rfl (Or.inl rfl) (zaw zbe (pv 4) zae))) (zaf (zas (i:=3) qaf.nd rfl (Or.inl rfl) (pv 4)))))))
   (zaf (zao (pv 2)))))),?_⟩
 refine ⟨_,rfl,?_⟩;refine zhI (fun σ H2=>∃(lo hi:Nat) (x4:Option V) (L:List Nat),σ=[some (.int n),some (.ref f),some (.int lo),some (.int hi),x4]∧lo≤hi∧hi≤n∧(∀ i,i < lo→b i=true)∧(∀ i,hi≤i→i < n→b i=false)∧L.length+figN (hi - lo)≤figN n∧R L H2) (fun σ H2=>∃(lo:Nat) (x4:Option V) (L:List Nat),σ=[some (.int n),some (.ref f),some (.int lo),some (.int lo),x4]∧lo≤n∧(∀ i,i < lo→b i=true)∧(∀ i,lo≤i→i < n→b i=false)∧L.length≤figN n∧R L H2) zqr ?_ ?_ ?_ ?_
 ·exact ⟨0,n,_,[],rfl,yaE _,yaa _,fun i h=>absurd h (ybR _),fun i h1 h2=>absurd h2 (Nat.not_lt.mpr h1),by rw[ybF,Nat.sub_zero,ybt];exact yaa _,hR⟩
 ·rintro σ H2 ⟨lo,hi,x4,L,rfl,h1,h2,hb1,hb2,hL,hR2⟩;refine ⟨_,rfl,_,rfl,_,_,rfl,rfl,_,rfl,?_⟩;refine ite2 (fun c=>?_) (fun c=>?_)
  ·have c1:(lo:Int) < (hi:Int):=yaD c;have em:((lo:Int)+(hi:Int)) / 2=(((lo+hi) / 2:Nat):Int):=by omega
   have m1:lo≤(lo+hi) / 2:=by omega
   have m2:(lo+hi) / 2 < hi:=by omega
   have fst:figN (hi - lo)=figN ((hi - lo) / 2)+1:=zfO (by omega);have fle:∀ d,d≤(hi - lo) / 2→(L++[(lo+hi) / 2]).length+figN d≤figN n:=fun d hd=>by
    have:=zio _ d _ (yaa _) hd;rw[yaf,yaJ];omega
   refine ⟨_,rfl,_,rfl,_,_,rfl,rfl,_,_,rfl,rfl,⟨by decide,by decide⟩,?_⟩;refine ⟨_,rfl,f,3,ps,sp,rfl,hF,yaa _,_,rfl,?_⟩;show sp [V.int (((lo:Int)+(hi:Int)) / 2)] H2 _ E0;rw[em];refine hask ((lo+hi) / 2) L H2 _ (by omega) (by omega) hR2 fun H3 hR3=>⟨_,rfl,?_⟩;cases hbm:b ((lo+hi) / 2) with
   | true=>
    refine iteT ?_;refine ⟨_,rfl,_,_,rfl,rfl,⟨(lo+hi) / 2+1,hi,some (V.int (((lo:Int)+(hi:Int)) / 2)),_,?_,by omega,h2,fun i hi'=>hmono i ((lo+hi) / 2) (by omega) (by omega) hbm,hb2,fle _ (by omega),hR3⟩,?_⟩
    ·show [some (V.int n),some (V.ref f),some (V.int (((lo:Int)+(hi:Int)) / 2+1)),some (V.int hi),some (V.int (((lo:Int)+(hi:Int)) / 2))]=_;rw[em,Int.natCast_add];rfl
    ·show ((hi:Int) - (((lo:Int)+(hi:Int)) / 2+1)).toNat < ((hi:Int) - (lo:Int)).toNat;omega
   | false=>
    refine iteF ?_;refine ⟨_,rfl,⟨lo,(lo+hi) / 2,some (V.int (((lo:Int)+(hi:Int)) / 2)),_,?_,m1,by omega,hb1,fun i hi' hin=>?_,fle _ (by omega),hR3⟩,?_⟩
    ·show [some (V.int n),some (V.ref f),some (V.int lo),some (V.int (((lo:Int)+(hi:Int)) / 2)),some (V.int (((lo:Int)+(hi:Int)) / 2))]=_;rw[em]
    ·cases hbi:b i with
     | false=>rfl
     | true=>
      have:=hmono ((lo+hi) / 2) i hi' hin hbi;rw[hbm]at this;cases this
    ·show ((((lo:Int)+(hi:Int)) / 2) - (lo:Int)).toNat < ((hi:Int) - (lo:Int)).toNat;omega
  ·have c1:¬ (lo:Int) < (hi:Int):=ycE (ybl.mpr c);have e:hi=lo:=by omega
   subst e;exact ⟨hi,_,L,rfl,h2,hb1,hb2,by omega,hR2⟩
 ·intro σ H Q Q' m h;obtain ⟨y1,e3,y2,e4,i2,j2,f2,g2,b2,e5,q⟩:=h;exact ⟨y1,e3,y2,e4,i2,j2,f2,g2,b2,e5,m _ _ q⟩
 rintro σ H2 ⟨lo,x4,L,rfl,h2,hb1,hb2,hL,hR2⟩;refine ⟨_,rfl,?_⟩;exact q lo L H2 h2 hb1 hb2 hL hR2
abbrev zk3:Str:=(envOfC ("first_place" : Str) (zaj zbk) 0 0 .none).qual ++ "<lambda>"
abbrev ze7:Pos:=⟨154,44,154,73⟩
structure zdo (H:Hp)(wa:Addr)(ps w:List Nat):Prop where
 at_:H wa=some (.lst (w.map nV))
 len:w.length≤900
 ne:w≠[]
 ch:zhH ps w
 kn:∀ x∈w,x < ps.length+1
def zlI (K:Frag):Sp:=fun vs H Q _=>∃(m x:Int),vs=[.int m,.int x]∧0≤x∧x < m∧Q (.bl true) H
theorem znP (T:Txt K mg)(qag:DF K mg "is_one_of_first" zaY zaH)(qaT:FC P w K mg base 1 "is_whole" zbR (zgW K)):FC P w K mg base 2 "is_one_of_first" zaH (zlI K):=by
 refine qag.ok qaN (fun vs H Q E h=>?_) (fun f cdv A outer s H vs Q E hr h=>?_)
 ·obtain ⟨m,x,rfl,_⟩:=h;rfl
 obtain ⟨m,x,rfl,h0,h1,q⟩:=h;refine ⟨_,(zaf (zao (zl1 (zaz qaT hr (zaa (pv 1) zac)) (zjZ (zhd zkQ zh1 zae (pv 1) (pv 0)))))),?_⟩;refine ⟨_,rfl,_,true,rfl,.int x,_,rfl,?_⟩;refine iteT ?_;refine ⟨_,rfl,_,_,rfl,rfl,_,rfl,?_⟩;refine zpW h0 ?_;refine ⟨_,rfl,_,_,rfl,rfl,?_⟩;show Q (.bl (decide (x < m))) H;rw[yam h1];exact q
theorem zjs {α:Type}{f:α→V}{us:List α}{c:α}:atI ((us++[c]).map f) (-1)=some (f c):=by
 unfold atI ixN;rw[yan];simp;rw[if_pos (by omega)];show (List.map f us++[f c])[(-1+((us.length:Int)+1)).toNat]?=_;rw[show (-1+((us.length:Int)+1)).toNat=us.length by omega,yaP (by rw[yab];exact yaa _),yab,yby];rfl
def zlM (K:Frag):Sp:=fun vs H Q _=>∃(t a:Addr) (ps w:List Nat),vs=[.ref t,.ref a]∧H t=some (.tup (zbP ps))∧ps.length≤900∧H a=some (.lst (w.map nV))∧w.length≤1000∧w≠[]∧zhH ps w∧(∀ x∈w,x < ps.length+1)∧Q (.bl true) H
theorem znW (T:Txt K mg)(qbe:DF K mg "is_way" zev zcm)(qaA:FC P w K mg base 2 "is_one_of_first" zaH (zlI K)):FC P w K mg base 3 "is_way" zcm (zlM K):=by
 refine qbe.ok qaP (fun vs H Q E h=>?_) (fun f cdv A outer s H vs Q E hr h=>?_)
 ·obtain ⟨t,a,ps,w,rfl,_⟩:=h;rfl
 obtain ⟨t,a,ps,w,rfl,ht,hz,ha,hwl,hne,hC,hlt,q⟩:=h;have hpos:0 < w.length:=ybV.mpr hne;refine ⟨_,(zaJ (za6 (PW.pt (zgk (zck (zbN (zal zdi rfl T.qae boot_isinstance (zaa (pv 1) (zaa (zdw (v:=.ty "list") rfl T.qbI boot_list rfl) zac))))) (zd4 (zav zdx (zal zam rfl T.qaz boot_len (zaa (pv 1) zac)) zae (zaB _))))) (zaf (zao zb2)) zaA)
   (zag (za2 PassesOwn.never rfl (zbq (pv 1)) (zan (i:=2) qaP.nd rfl (Or.inl rfl)) (zaf (za6 (zck (zbN (zaz qaA hr (zaa (zal zam rfl T.qaz boot_len (zaa (pv 0) zac)) (zaa (pv 2) zac))))) (zaf (zao zb2)) zaA)))
   (zag (za2 PassesOwn.never rfl (zc0 rfl T.qap (zaa zae (zaa (zal zam rfl T.qaz boot_len (zaa (pv 1) zac)) zac))) (zan (i:=3) qaP.nd rfl (Or.inl rfl)) (zaf (za6 (zav zhj (zau zaF (pv 0) (zau zay (pv 1) (pv 3) (fun _ _=>rfl)) (fun _ _=>rfl)) (zau zay (pv 1) (zaw zbO (pv 3) zae) (fun _ _=>rfl)) (zaB _)) (zaf (zao zb2)) zaA)))
   (zaf (zao zb2))))),?_⟩
 refine ⟨fun σ' H'=>σ'=[some (.ref t),some (.ref a),none,none]∧H=H',?_,?_⟩
 ·refine ⟨_,rfl,_,_,_,_,rfl,.lst ha,zkf,_,rfl,?_⟩;refine iteF ?_;refine ⟨_,rfl,_,_,rfl,.inl (SqL.of ha),rfl,_,rfl,?_⟩;refine zpX (fun z=>?_) ?_
  ·have:=V.int.inj z;rw[yab]at this;omega
  exact ⟨rfl,rfl⟩
 rintro σ' H' ⟨rfl,rfl⟩;refine ⟨_,rfl,a,rfl,⟨_,SqL.of ha⟩,?_⟩;refine zd0 (xs:=w.map nV) (fun i σ H2=>∃ x2:Option V,σ=[some (.ref t),some (.ref a),x2,none]∧H2=H) ?_ ?_ ?_ ?_
 ·exact ⟨_,rfl,rfl⟩
 ·rintro i σ H2 _ ⟨x2,rfl,rfl⟩;exact SqL.of ha
 ·rintro i x σ H2 hx ⟨x2,rfl,rfl⟩;obtain ⟨hi,rfl⟩:=zgD hx;have hm:=hlt (w.getD i 0) (by rw[yad,yac hi];exact yaG hi);refine ⟨_,rfl,_,_,rfl,.inr (SqT.of ht),_,rfl,_,_,rfl,by omega,by rw[zax];omega,_,rfl,?_⟩;refine iteF ?_;exact ⟨_,rfl,rfl⟩
 ·rintro σ H2 ⟨x2,rfl,rfl⟩;refine ⟨_,rfl,_,_,rfl,.inl (SqL.of ha),1,_,rfl,⟨by omega,by omega,by rw[yab];omega,by rw[yab];omega⟩,?_⟩;have en:((((w.map nV).length:Nat):Int) - 1).toNat=w.length - 1:=by rw[yab];omega
  rw[en];refine zbh (n:=w.length - 1) (fun i σ H3=>∃ x2 x3:Option V,σ=[some (.ref t),some (.ref a),x2,x3]∧H3=H2) ?_ ?_ ?_
  ·exact ⟨_,_,rfl,rfl⟩
  ·rintro i σ H3 hi ⟨x2,x3,rfl,rfl⟩;have ek:(1:Int)+(i:Int)=((i+1:Nat):Int):=by omega
   rw[ek];have h1:=hC i (by omega);have hm:=hlt (w.getD (i+1) 0) (by rw[yad,yac (show i+1 < w.length by omega)];exact yaG _);have hat1:atI (w.map nV) ((i+1:Nat):Int)=some (nV (w.getD (i+1) 0)):=zgL (by omega);have hat0:atI (w.map nV) (((i+1:Nat):Int) - 1)=some (nV (w.getD i 0)):=by
    rw[show ((i+1:Nat):Int) - 1=((i:Nat):Int) by omega];exact zgL (by omega)
   have hatT:=zfg hm;rw[zeJ h1]at hatT;refine ⟨_,rfl,_,rfl,_,rfl,_,_,_,_,rfl,rfl,SqL.of ha,hat1,_,_,_,_,rfl,rfl,SqT.of ht,hatT,_,rfl,_,rfl,_,_,rfl,rfl,_,_,_,_,rfl,rfl,SqL.of ha,hat0,rfl,_,rfl,?_⟩;refine zi6 rfl ?_;exact ⟨_,_,rfl,rfl⟩
  ·rintro σ H3 ⟨x2,x3,rfl,rfl⟩;exact q
theorem zdo.same {H H':Hp}{wa:Addr}{ps w:List Nat}(h:zdo H wa ps w)(e:Same H H'):zdo H' wa ps w:=⟨e _ _ h.at_,h.len,h.ne,h.ch,h.kn⟩
def zlJ (K:Frag):Sp:=fun vs H Q _=>∃(t a:Addr) (ps w:List Nat),vs=[.ref t,.ref a]∧H t=some (.tup (zbP ps))∧ps.length≤900∧zdo H a ps w∧Q .non H
theorem zpD (T:Txt K mg)(qaH:DF K mg "need_way" zcY za5)(qcw:FC P w K mg base 3 "is_way" zcm (zlM K)):FC P w K mg base 4 "need_way" za5 (zlJ K):=by
 refine qaH.ok qbH (fun vs H Q E h=>?_) (fun f cdv A outer s H vs Q E hr h=>?_)
 ·obtain ⟨t,a,ps,w,rfl,_⟩:=h;rfl
 obtain ⟨t,a,ps,w,rfl,ht,hl,W,q⟩:=h;refine ⟨_,(zaf (za6 (zck (zbN (zaz qcw hr (zaa (pv 0) (zaa (pv 1) zac))))) (zaf znF) zaA)),?_⟩;refine ⟨_,rfl,_,rfl,t,a,ps,w,rfl,ht,hl,W.at_,by have:=W.len;omega,W.ne,W.ch,W.kn,_,rfl,?_⟩;refine iteF ?_;exact q
theorem zjz {w:List Nat}{i:Nat}(h:i < w.length):w.take (i+1)=w.take i++[w.getD i 0]:=by
 rw[yaH h,yad,yac h];rfl
theorem zlq {w:List Nat}{i:Nat}(h:i < w.length):w.getD i 0∈w:=by
 rw[yad,yac h];exact yaG h
theorem zqg (xs:List V)(a:Nat):cutV xs none (some (a:Int))=xs.take a:=by
 unfold cutV;rw[zfT,show HT.sIx xs.length 0 none=0 from rfl,ych,Nat.sub_zero];by_cases h:a≤xs.length
 ·rw[ybk h]
 ·rw[ycr (by omega),yat (yaa _),yat (by omega)]
theorem zf7 (xs:List V)(a:Nat):cutV xs (some (a:Int)) none=xs.drop a:=by
 unfold cutV;rw[zfT,show HT.sIx xs.length xs.length none=xs.length from rfl];by_cases h:a≤xs.length
 ·rw[ybk h,yat (by rw[yaL];exact yaa _)]
 ·rw[ycr (by omega),ya2 (yaa _),ya2 (show xs.length≤a by omega),List.take_nil]
def ownB (rows:List (List Int))(k:Nat)(key:Int):Nat:=((zcy rows k).filter fun x=>decide (x < key)).length
theorem zkP {ps:List Nat}(T:zaC ps){rows:List (List Int)}(R:za1 rows){k:Nat}(hk:k < ps.length+1):((zak ps rows k).filter fun e=>decide (e.2=(k:Int)))=ownE rows k:=by
 have hup:=R.at_up k;refine zlV ((zaS T R hk).filter _) ?_ fun e=>?_
 ·unfold ownE;refine List.Pairwise.map _ (R:=fun a b:Int=>a < b) (fun a b (h:a < b)=>zcO.mpr (.inl h)) hup
 ·rw[ya7];refine ⟨fun zq0=>?_,fun h=>⟨(zfL T hk).mpr (.inl h),yam (zj4 hk h).2⟩⟩;obtain ⟨h1,h2⟩:=zq0;rcases (zfL T hk).mp h1 with h | ⟨c,hc,h⟩
  ·exact h
  ·exfalso;have h2:=yaD h2;have hcn:=(zaP T hc);obtain ⟨j,hj,hb,e2,_⟩:=zfN T R hcn.2 e ((zbg _).subset h);have ej:j=k:=by omega
   subst ej;have:=zfr T hcn.1;rw[hb]at this;cases this
theorem zqZ {ps:List Nat}(T:zaC ps){rows:List (List Int)}(R:za1 rows){k:Nat}(hk:k < ps.length+1)(key:Int):zec k ((zak ps rows k).take (zat (zak ps rows k) key))=ownB rows k key:=by
 rw[zfu (zdM (zaS T R hk))];unfold zec;have e:((zak ps rows k).filter fun e=>decide (e.1 < key)).filter (fun e=>decide (e.2=(k:Int)))=(ownE rows k).filter fun e=>decide (e.1 < key):=by
  rw[← zkP T R hk,yct,yct];congr 1
  funext e
  rw[Bool.and_comm]
 rw[e];unfold ownE ownB;rw[List.filter_map,yab];rfl
def KpV (Av:List Addr)(H H':Hp):Prop:=∀ b o,b∉Av→H b=some o→H' b=some o
def KpA (Av:List Addr)(mp:Addr)(H H':Hp):Prop:=∀ b o,b∉Av→b≠mp→H b=some o→H' b=some o
theorem KpA.trans {Av:List Addr}{mp:Addr}{H H1 H2:Hp}(a:KpA Av mp H H1)(b:KpA Av mp H1 H2):KpA Av mp H H2:=fun c o n1 n2 h=>b c o n1 n2 (a c o n1 n2 h)
theorem KpV.a {Av:List Addr}{mp:Addr}{H H1:Hp}(a:KpV Av H H1):KpA Av mp H H1:=fun c o n1 _ h=>a c o n1 h
theorem KpA.of {Av:List Addr}{mp:Addr}{H H1:Hp}(a:Same H H1):KpA Av mp H H1:=fun c o _ _ h=>a c o h
theorem KpA.gro {Av:List Addr}{mp:Addr}{H H1:Hp}(a:Gro mp H H1):KpA Av mp H H1:=fun c o _ n h=>a c o n h
structure AskF (P:Program)(w:World)(K:Frag)(mg:Str→Option Value)(base:Heap)(f:Addr)(Av:List Addr)(mp:Addr)(fp:Addr→Prop)(R:List (Nat×Nat)→Hp→Prop)(ps:List Nat)(rows:List (List Int))(key:Int):Prop where
 keep:∀ L H H',R L H→(∀ b o,fp b→H b=some o→H' b=some o)→R L H'
 alloc:∀ L H b,R L H→fp b→H b≠none
 avl:∀ L H,R L H→∀ a∈Av,∃ zs,H a=some (.lst zs)
 nmp:¬ fp mp
 ask:∃(pn:List Str) (sp:Sp),FV P w K mg base 2 f pn sp∧∀(kn i:Nat) (L:List (Nat×Nat)) (H:Hp) (Q:VK),kn < ps.length+1→i < (zak ps rows kn).length→L.length≤9000→R L H→
  (∀ H',R (L++[(kn,i)]) H'→KpV Av H H'→Q (.bl (decide (((zak ps rows kn).getD i (0,0)).1 < key))) H')→sp [.int kn,.int i] H Q E0
theorem AskF.lift {P:Program}{w:World}{K:Frag}{mg:Str→Option Value}{b1 b2:Heap}{f:Addr}{Av:List Addr}{mp:Addr}{fp:Addr→Prop}{R:List (Nat×Nat)→Hp→Prop}{ps:List Nat}{rows:List (List Int)}{key:Int}(A:AskF P w K mg b1 f Av mp fp R ps rows key)(S:Sub K mg b1 b2):AskF P w K mg b2 f Av mp fp R ps rows key:=by
 obtain ⟨a,b,c,d,pn,sp,hF,r⟩:=A;exact ⟨a,b,c,d,pn,sp,hF.lift S,r⟩
structure zb3 (Av:List Addr)(mp:Addr)(R:List (Nat×Nat)→Hp→Prop)(ps:List Nat)(rows:List (List Int))(br:Addr)(xs:List V)(L:List (Nat×Nat))(H:Hp):Prop where
 r:R L H
 avs:∀ a∈Av,∃ zs,H a=some (.lst zs)
 at_:H br=some (.lst xs)
 nb:br∉Av
 ba:Paired (BrAt Av H ps rows) (List.range (ps.length+1)) xs
 tb:zbu H mp ze7 zk3
section
variable {Av:List Addr}{mp:Addr}{R:List (Nat×Nat)→Hp→Prop}{ps:List Nat}{rows:List (List Int)}{br:Addr}{xs:List V}{L L':List (Nat×Nat)}{H H':Hp}
theorem zb3.nm (S:zb3 Av mp R ps rows br xs L H){b:Addr}{o:HO}(h:H b=some o)(n:∀ tab,o≠.tbl tab):b≠mp:=fun z=>by
 obtain ⟨tab,e,_⟩:=S.tb.ex;rw[← z,h]at e;exact n _ (yag e)
theorem zb3.na (S:zb3 Av mp R ps rows br xs L H){b:Addr}{o:HO}(h:H b=some o)(n:∀ zs,o≠.lst zs):b∉Av:=fun z=>by
 obtain ⟨zs,e⟩:=S.avs b z;rw[h]at e;exact n _ (yag e)
theorem zb3.tup (S:zb3 Av mp R ps rows br xs L H)(k:KpA Av mp H H'){b:Addr}{us:List V}(h:H b=some (.tup us)):H' b=some (.tup us):=k _ _ (S.na h (fun _ z=>nomatch z)) (S.nm h (fun _ z=>nomatch z)) h
theorem zb3.lst (S:zb3 Av mp R ps rows br xs L H)(k:KpA Av mp H H'){b:Addr}{us:List V}(h:H b=some (.lst us))(n:b∉Av):H' b=some (.lst us):=k _ _ n (S.nm h (fun _ z=>nomatch z)) h
theorem zb3.kp (S:zb3 Av mp R ps rows br xs L H)(k:KpA Av mp H H')(hT:zbu H' mp ze7 zk3)(hR:R L' H')(ha:∀ a∈Av,∃ zs,H' a=some (.lst zs)):zb3 Av mp R ps rows br xs L' H':=
 ⟨hR,ha,S.lst k S.at_ S.nb,S.nb,zaL (fun j x ⟨b,o,j',ys,h1,h2,h3,h4,h5,h6,h7⟩=>⟨b,o,j',ys,h1,h2,h3,S.tup k h4,S.lst k h5 h2,S.lst k h6 h3,zaL (fun c y ⟨a,s,g1,g2,g3,g4⟩=>⟨a,s,g1,g2,S.tup k g3,S.lst k g4 g2⟩) h7⟩) S.ba,hT⟩
theorem zb3.tbv (S:zb3 Av mp R ps rows br xs L H)(k:KpV Av H H'):zbu H' mp ze7 zk3:=by
 obtain ⟨tab,h1,h2,h3⟩:=S.tb.ex;refine ⟨tab,k _ _ (S.na h1 (fun _ z=>nomatch z)) h1,h2,?_⟩;rcases h3 with h3 | ⟨c,h3,h4⟩
 ·exact .inl h3
 ·exact .inr ⟨c,h3,k _ _ (S.na h4 (fun _ z=>nomatch z)) h4⟩
end
theorem zh0 {K:Frag}{H H':Hp}(k:∀ b us,H b=some (.tup us)→H' b=some (.tup us)):∀{es:List (Int×Int)} {ws:List V},zar K H es ws→zar K H' es ws
 | _,_,.nil=>.nil
 | _,_,.cons h t=>by
  refine .cons ?_ (zh0 k t);obtain ⟨a,x1,x2,rfl,hT,e1,e2⟩:=(show hasP K H _ _ from h);exact ⟨a,x1,x2,rfl,k _ _ hT,e1,e2⟩
theorem zpm {H:Hp}{Pt D:Addr}{pos:Pos}{q:Str}{xs:List V}{o:HO}(x:zbu H Pt pos q)(hD:H D=some (.lst xs)):zbu (upd H D o) Pt pos q:=by
 obtain ⟨tab,h1,h2,h3⟩:=x.ex;have n1:Pt≠D:=fun z=>by
  rw[z,hD]at h1;cases h1
 refine ⟨tab,by rw[zah n1];exact h1,h2,?_⟩;rcases h3 with h3 | ⟨c,h3,h4⟩
 ·exact .inl h3
 ·refine .inr ⟨c,h3,?_⟩;have n2:c≠D:=fun z=>by
   rw[z]at h4;rw[show H D=_ from h4]at hD;cases hD
  show upd H D o c=_;rw[zah n2];exact h4
theorem zb3.free {Av:List Addr}{mp:Addr}{R:List (Nat×Nat)→Hp→Prop}{ps:List Nat}{rows:List (List Int)}{br:Addr}{xs:List V}{L:List (Nat×Nat)}{H H1:Hp}(S:zb3 Av mp R ps rows br xs L H1)(k:KpA Av mp H H1){D:Addr}(h:H1 D=none):H D=none∧D∉Av∧D≠mp:=by
 have n1:D∉Av:=fun z=>by
  obtain ⟨zs,e⟩:=S.avs D z;rw[h]at e;cases e
 have n2:D≠mp:=fun z=>by
  obtain ⟨tab,e,_⟩:=S.tb.ex;rw[← z,h]at e;cases e
 refine ⟨?_,n1,n2⟩;cases e:H D with
 | none=>rfl
 | some o=>
  have:=k _ _ n1 n2 e;rw[h]at this;cases this
theorem zhh {ps:List Nat}(T:zaC ps){rows:List (List Int)}(R:za1 rows){k:Nat}(hk:k < ps.length+1)(key:Int):atI ((znL k (zak ps rows k)).map nV) ((zat (zak ps rows k) key:Nat):Int)=some (.int ((ownB rows k key:Nat):Int)):=by
 have hle:=zb0 (zak ps rows k) key;refine zaQ ?_;rw[yaj];unfold znL;rw[yaj,ybm (by omega),← zqZ T R hk key];rfl
theorem zjA {wy:List Nat}{i:Nat}(h:i < wy.length):(wy.map nV)[i]?=some (nV (wy.getD i 0)):=by
 rw[yaj,yad,yac h];rfl
theorem zhJ {wy:List Nat}{i:Nat}(h:i < wy.length):wy.getD i 0∈wy:=by
 rw[yad,yac h];exact yaG h
theorem zlp {α:Type}(f:Nat→α){wy:List Nat}{i:Nat}(h:i < wy.length):(wy.take (i+1)).map f=(wy.take i).map f++[f (wy.getD i 0)]:=by
 rw[yaH h,yan,yad,yac h];rfl
theorem zqf (l:List Nat):cutV (l.map nV) (some 1) none=(l.drop 1).map nV:=by
 rw[show (1:Int)=((1:Nat):Int) from rfl,zf7,← List.map_drop]
def zlO (P:Program)(w:World)(K:Frag)(mg:Str→Option Value)(base:Heap)(mp:Addr):Sp:=fun vs H Q _=>∃(br f:Addr) (xs:List V) (ps:List Nat) (rows:List (List Int)) (k:Nat) (key:Int) (Av:List Addr) (fp:Addr→Prop) (R:List (Nat×Nat)→Hp→Prop) (L:List (Nat×Nat)),vs=[.ref br,.int k,.ref f]∧
 AskF P w K mg base f Av mp fp R ps rows key∧zb3 Av mp R ps rows br xs L H∧zaC ps∧za1 rows∧k < ps.length+1∧L.length≤3000∧(zak ps rows k).length≤1000∧
 ∀(H':Hp) (L':List (Nat×Nat)),zb3 Av mp R ps rows br xs (L++L') H'→KpA Av mp H H'→L'.length≤figN (zak ps rows k).length→Q (.int (zat (zak ps rows k) key:Nat)) H'
theorem znZ (T:Txt K mg){mc mp:Addr}(qaG:DFT K mg "first_place" zbk zbV mc mp)(hBM:BMAt mg base)(qbC:∀ b,Sub K mg base b→FC P w K mg b 4 "how_many_below" zbl (zoO P w K mg b)):FC P w K mg base 5 "first_place" zbV (zlO P w K mg base mp):=by
 refine qaG.ok qb4 (fun vs H Q E h=>?_) (fun f A outer s H vs Q E hr h=>?_)
 ·obtain ⟨br,f,xs,ps,rows,k,key,Av,fp,R,L,rfl,_⟩:=h;rfl
 obtain ⟨br,f,xs,ps,rows,k,key,Av,fp,R,L,rfl,AF,S,hT,hR,hk,hLn,hFn,q⟩:=h;refine ⟨_,(zaf (zao (ziP (kf:=2) qbC hr (zau zaF (zau zay (pv 0) (pv 1) (fun _ _=>rfl)) zae (fun _ _=>rfl)) (zo1 (osc:=zaj zbk) (N:=["bridges","knot","is_below"]) (ps:=["at"]) (caps:=["is_below","knot"]) (cap:=[2,1]) ⟨rfl,rfl,rfl,by decide +kernel,by decide +kernel,by decide +kernel,by decide +kernel⟩ (by decide +kernel) (by decide +kernel) rfl rfl rfl rfl (fun _ _ _ _ us hl=>match us,hl with | [_],_=>rfl) (fun _=>rfl)) rfl qaG.hd hBM (fun b _ _ _ _ _ _ _ S hr=>(znI P w K mg b (kr:=2) hr (pv 1) (zaa (pv 2) (zaa (pv 0) zac))))))),?_⟩
 obtain ⟨x,hx,b,o,j,ys,rfl,_,_,hb,ho,hj,hJ⟩:=zbA S.ba hk;have hF:=zdM (zaS hT hR hk (rows:=rows));refine ⟨_,rfl,_,rfl,_,_,_,_,rfl,rfl,SqL.of S.at_,zaQ hx,_,_,_,_,rfl,rfl,SqT.of hb,rfl,S.tb,[.ref f,.int k],rfl,?_,fun bs g c' H2 hg hT2 hC SB hV=>?_⟩
 ·intro j i v h1 h2;rcases j with _ | _ | j
  ·cases h1;cases h2;rfl
  ·cases h1;cases h2;rfl
  ·cases h1
 obtain ⟨pn,sp,hFV,hask⟩:=(AF.lift SB).ask;have hR2:R L H2:=AF.keep _ _ _ S.r fun b o hb e=>hg _ _ (fun z=>AF.nmp (z ▸ hb)) e;have S2:zb3 Av mp R ps rows br xs L H2:=S.kp (.gro hg) hT2 hR2 (AF.avl _ _ hR2);refine ⟨(zak ps rows k).length,g,_,_,fun i=>decide (((zak ps rows k).getD i (0,0)).1 < key),fun L1 H1=>R (L++L1.map fun i=>(k,i)) H1∧KpV Av H2 H1,rfl,hV,⟨by rw[ybG,yaI];exact hR2,fun _ _ _ h=>h⟩,fun i L1 H1 Q1 hi hLi hR1 hQ=>?_,fun i j hij hj hb=>?_,fun m L1 H' hm hb1 hb2 hL hR1=>?_⟩
 ·refine ⟨rfl,hR1.2 _ _ (S2.na hC (fun _ z=>nomatch z)) hC,?_⟩;refine ⟨_,rfl,f,2,pn,sp,rfl,hFV,yaa _,_,rfl,_,rfl,?_⟩;refine hask k i _ H1 _ hk hi (by have:=zjf _ _ (yaa (zak ps rows k).length);rw[yaf,yab];omega) hR1.1 fun H3 hR3 k3=>hQ _ ⟨?_,fun b o n h=>k3 _ _ n (hR1.2 _ _ n h)⟩;rw[yan,← yaT];exact hR3
 ·refine yam ?_;have hb:=yaD hb;by_cases e:i=j
  ·subst e;exact hb
  ·have:=yba.mp hF i j (by omega) hj (by omega);rw[yad,yac (by omega)]at hb ⊢;exact Int.lt_of_le_of_lt this hb
 ·have e:=znj hm hb1 hb2;have q2:=q H' _ (S2.kp hR1.2.a (S2.tbv hR1.2) hR1.1 (AF.avl _ _ hR1.1)) (KpA.trans (.gro hg) hR1.2.a) (by rw[yab];exact hL);rw[e]at q2;exact q2
def ziL (K:Frag):Sp:=fun vs H Q _=>∃(Av:List Addr) (br:Addr) (ps:List Nat) (rows:List (List Int)) (xs:List V) (k c m:Nat),vs=[.ref br,.int k,.int m,.int c]∧H br=some (.lst xs)∧Paired (BrAt Av H ps rows) (List.range (ps.length+1)) xs∧zaC ps∧k < ps.length+1∧par ps c=some k∧m≤(zak ps rows k).length∧
 ∀ H',Same H H'→Q (.int (stN (zak ps rows c) ((zak ps rows k).take m):Nat)) H'
theorem zj5 (T:Txt K mg)(qbf:DF K mg "start_in" zdJ zcl):FC P w K mg base 1 "start_in" zcl (ziL K):=by
 refine qbf.ok qcJ (fun vs H Q E h=>?_) (fun f cdv A outer s H vs Q E hr h=>?_)
 ·obtain ⟨Av,br,ps,rows,xs,k,c,m,rfl,_⟩:=h;rfl
 obtain ⟨Av,br,ps,rows,xs,k,c,m,rfl,hbr,hB,hT,hk,hc,hm,q⟩:=h;obtain ⟨x,hx,b,o,j,ys,rfl,_,_,hb,ho,hj,hJ⟩:=zbA hB hk;obtain ⟨kvs,h1,h2,h3⟩:=zkh hJ;have hcm:c∈zaN ps k (ps.length+1):=zaD.mpr ⟨(zaP hT hc).2,hc⟩;obtain ⟨sa,hv,hsa⟩:=h3 c hcm (zgc _ _ _);refine ⟨_,(zaf (zao (zau zay (zdv (zee hr) (zbJ (zlj rfl) rfl T.qd6 boot_dict (zaa (zau zaF (zau zay (pv 0) (pv 1) (fun _ _=>rfl)) zae (fun _ _=>rfl)) zac)) (pv 3) (fun _ _=>rfl)) (pv 2) (fun _ _=>rfl)))),?_⟩;refine ⟨_,rfl,_,rfl,_,_,_,_,rfl,rfl,SqL.of hbr,zaQ hx,_,_,_,_,rfl,rfl,SqT.of hb,rfl,?_⟩;refine ⟨j,ys,kvs,rfl,SqL.of hj,h1,?_,fun d hd=>?_⟩
 ·rw[h2];exact List.Pairwise.map (R:=fun a b:Nat=>a≠b) _ (fun a b (n:a≠b) z=>n (by have:=Sum.inl.inj z;omega)) (zgc ps k _)
 have sd:=zai hd (.dK kvs);refine ⟨_,rfl,d,.ref sa,rfl,?_,?_⟩
 ·have:=DGet.k (k:=(.inl (c:Int))) (zad (H:=H) (a:=d) (o:=.dK kvs));rw[hv]at this;exact this
 refine ⟨_,rfl,_,_,_,_,rfl,rfl,SqL.of (sd _ _ hsa),zaQ (v:=nV (stN (zak ps rows c) ((zak ps rows k).take m))) ?_,q _ sd⟩;rw[yaj];unfold zgV;rw[yaj,ybm (by omega)];rfl
def zoJ (P:Program)(w:World)(K:Frag)(mg:Str→Option Value)(base:Heap)(mp:Addr):Sp:=fun vs H Q _=>∃(br f:Addr) (xs:List V) (ps:List Nat) (rows:List (List Int)) (k st:Nat) (key:Int) (Av:List Addr) (fp:Addr→Prop) (R:List (Nat×Nat)→Hp→Prop) (L:List (Nat×Nat)),vs=[.ref br,.int k,.int st,.ref f]∧
 AskF P w K mg base f Av mp fp R ps rows key∧zb3 Av mp R ps rows br xs L H∧zaC ps∧za1 rows∧k < ps.length+1∧L.length≤8000∧st≤zat (zak ps rows k) key∧zat (zak ps rows k) key≤st+2∧
 ∀(H':Hp) (L':List (Nat×Nat)),zb3 Av mp R ps rows br xs (L++L') H'→KpA Av mp H H'→L'.length≤2→Q (.int (zat (zak ps rows k) key:Nat)) H'
theorem zpC (T:Txt K mg){mp:Addr}(qa8:DF K mg "next_place" zcC zb9):FC P w K mg base 3 "next_place" zb9 (zoJ P w K mg base mp):=by
 refine qa8.ok qaF (fun vs H Q E h=>?_) (fun f cdv A outer s H vs Q E hr h=>?_)
 ·obtain ⟨br,f,xs,ps,rows,k,st,key,Av,fp,R,L,rfl,_⟩:=h;rfl
 obtain ⟨br,f,xs,ps,rows,k,st,key,Av,fp,R,L,rfl,AF,S,hT,hR,hk,hLn,hlo,hhi,q⟩:=h;refine ⟨_,(zag (zas (i:=4) qaF.nd rfl (Or.inl rfl) (zal (ziw rfl) rfl T.qdM boot_min (zaa (zaw zbe (pv 2) (zfJ rfl T.qaJ)) (zaa (zau zaF (zau zay (pv 0) (pv 1) (fun _ _=>rfl)) zae (fun _ _=>rfl)) zac))))
   (zag (zas (i:=5) qaF.nd rfl (Or.inl rfl) (pv 2))
   (zag (zg8 PassesOwn.never (PW.pt (zhV (zav zh1 (pv 5) (pv 4) (zaB _)) (zfU (zbN (zhe (kr:=2) hr (pv 3) (zaa (pv 1) (zaa (pv 5) zac))))))) (zaf (zas (i:=5) qaF.nd rfl (Or.inl rfl) (zaw zbe (pv 5) zae))))
   (zaf (zao (pv 5)))))),?_⟩
 obtain ⟨x,hx,b,o,j,ys,rfl,_,_,hb,ho,hj,hJ⟩:=zbA S.ba hk;have hF:=zdM (zaS hT hR hk (rows:=rows));have hle:=zb0 (zak ps rows k) key;have hat:=fun i h=>zhC (key:=key) hF (i:=i) h;obtain ⟨pn,sp,hFV,hask⟩:=AF.ask;refine ⟨_,rfl,_,_,rfl,rfl,_,rfl,_,rfl,_,_,_,_,rfl,rfl,SqL.of S.at_,zaQ hx,_,_,_,_,rfl,rfl,SqT.of hb,rfl,_,_,rfl,?_⟩;have eb:∃ m:Nat,(if (((zak ps rows k).length:Nat):Int) < (st:Int)+2 then (((zak ps rows k).length:Nat):Int) else (st:Int)+2)=(m:Int)∧m≤(zak ps rows k).length∧m≤st+2∧zat (zak ps rows k) key≤m:=by
  by_cases c:(((zak ps rows k).length:Nat):Int) < (st:Int)+2
  ·exact ⟨_,if_pos c,yaa _,by omega,hle⟩
  ·exact ⟨st+2,by rw[if_neg c];rfl,by omega,yaa _,hhi⟩
 obtain ⟨m,em,hm1,hm2,hm3⟩:=eb;rw[em];refine ⟨_,rfl,?_⟩;refine ⟨fun n σ H1=>∃(at_:Nat) (L1:List (Nat×Nat)),σ=[some (.ref br),some (.int k),some (.int st),some (.ref f),some (.int m),some (.int at_)]∧st≤at_∧at_≤zat (zak ps rows k) key∧at_+n=m∧L1.length+st=at_∧zb3 Av mp R ps rows br xs (L++L1) H1∧KpA Av mp H H1,⟨m - st,st,[],rfl,yaa _,hlo,by omega,by rw[ybF,ybt],by rw[yaI];exact S,fun _ _ _ _ h=>h⟩,?_⟩;rintro n σ H1 ⟨at_,L1,rfl,h1,h2,h3,h4,S1,k1⟩;refine ⟨_,rfl,_,rfl,_,_,rfl,rfl,_,rfl,?_⟩;refine ite2 (fun c=>?_) (fun c=>?_)
 ·have c1:(at_:Int) < (m:Int):=yaD c;refine ⟨_,rfl,f,2,pn,sp,rfl,hFV,yaa _,_,rfl,_,rfl,?_⟩;refine hask k at_ _ H1 _ hk (by omega) (by rw[yaf];omega) S1.r fun H2 hR2 k2=>?_;have S2:=S1.kp k2.a (S1.tbv k2) hR2 (AF.avl _ _ hR2);rw[yaT]at S2;have k02:KpA Av mp H H2:=k1.trans k2.a;have hL2:(L1++[(k,at_)]).length=L1.length+1:=by rw[yaf,yaJ]
  have hge:(zak ps rows k).getD at_ (0,0)=(zak ps rows k)[at_]'(by omega):=by
   rw[yad,yac (by omega)];rfl
  refine ⟨_,rfl,?_⟩;refine ite2 (fun c2=>?_) (fun c2=>?_)
  ·have c3:=yaD c2;rw[hge]at c3;have hlt:at_ < zat (zak ps rows k) key:=ycs fun z=>(hat at_ (by omega)).2 z c3;refine ⟨fun σ' H'=>σ'=[some (.ref br),some (.int k),some (.int st),some (.ref f),some (.int m),some (.int ((at_:Int)+1))]∧H'=H2,?_,?_⟩
   ·rintro σ' H' ⟨rfl,rfl⟩;exact ⟨n - 1,by omega,at_+1,_,rfl,by omega,by omega,by omega,by omega,S2,k02⟩
   ·exact ⟨_,rfl,_,_,rfl,rfl,rfl,rfl⟩
  ·have hge2:zat (zak ps rows k) key≤at_:=ybq fun z=>c2 (yam (by rw[hge];exact (hat at_ (by omega)).1 z));have e:at_=zat (zak ps rows k) key:=by omega
   refine ⟨_,rfl,?_⟩;rw[e];exact q _ _ S2 k02 (by omega)
 ·have c1:¬ (at_:Int) < (m:Int):=ycE (ybl.mpr c);have e:at_=zat (zak ps rows k) key:=by omega
  refine iteF ?_;refine ⟨_,rfl,?_⟩;rw[e];exact q _ _ S1 k1 (by omega)
def zjH (P:Program)(w:World)(K:Frag)(mg:Str→Option Value)(base:Heap)(mp:Addr):Sp:=fun vs H Q _=>∃(br wa f:Addr) (xs:List V) (ps:List Nat) (rows:List (List Int)) (wy:List Nat) (key:Int) (Av:List Addr) (fp:Addr→Prop) (R:List (Nat×Nat)→Hp→Prop) (L:List (Nat×Nat)),vs=[.ref br,.ref wa,.ref f]∧
 AskF P w K mg base f Av mp fp R ps rows key∧zb3 Av mp R ps rows br xs L H∧zaC ps∧za1 rows∧ps.length≤40∧zdo H wa ps wy∧wa∉Av∧L.length≤1000∧(∀ k,k < ps.length+1→(zak ps rows k).length≤1000)∧
 ∀(D:Addr) (zs:List V) (H':Hp) (L':List (Nat×Nat)),zb3 Av mp R ps rows br xs (L++L') H'→KpA Av mp H H'→H D=none→H' D=some (.lst zs)→zar K H' (wy.map fun k=>(((zat (zak ps rows k) key:Nat):Int),((ownB rows k key:Nat):Int))) zs→L'.length≤figN (zak ps rows (wy.getD 0 0)).length+2 * (wy.length - 1)→Q (.ref D) H'
theorem zl8 (T:Txt K mg){mp:Addr}(qcx:DF K mg "search" zfz zeC)(qcy:FC P w K mg base 5 "first_place" zbV (zlO P w K mg base mp))(qbz:FC P w K mg base 1 "start_in" zcl (ziL K))(qcD:FC P w K mg base 3 "next_place" zb9 (zoJ P w K mg base mp)):FC P w K mg base 6 "search" zeC (zjH P w K mg base mp):=by
 refine qcx.ok qaQ (fun vs H Q E h=>?_) (fun f cdv A outer s H vs Q E hr h=>?_)
 ·obtain ⟨br,wa,f,xs,ps,rows,wy,key,Av,fp,R,L,rfl,_⟩:=h;rfl
 obtain ⟨br,wa,f,xs,ps,rows,wy,key,Av,fp,R,L,rfl,AF,S,hT,hR,few,W,nwa,hLn,hFn,q⟩:=h;have hwl:=W.len;have hpos:0 < wy.length:=ybV.mpr W.ne;refine ⟨_,(zag (zas (i:=3) qaQ.nd rfl (Or.inl rfl) (zaz qcy hr (zaa (pv 0) (zaa (zau zay (pv 1) zae (fun _ _=>rfl)) (zaa (pv 2) zac)))))
   (zag (zas (i:=4) qaQ.nd rfl (Or.inl rfl) (zaI (zaa (zbB (zaa (pv 3) (zaa (zau zay (zau zaF (zau zay (pv 0) (zau zay (pv 1) zae (fun _ _=>rfl)) (fun _ _=>rfl)) zae (fun _ _=>rfl)) (pv 3) (fun _ _=>rfl)) zac))) zac)))
   (zag (za2 PassesOwn.never rfl (zgv rfl T.qc0 (zaa (pv 1) (zaa (zbW zcM (pv 1) (zbS zae) zdt) zac))) (zgx rfl (zaM (zan (i:=5) qaQ.nd rfl (Or.inl rfl)) (zaM (zan (i:=6) qaQ.nd rfl (Or.inl rfl)) zcN))) (zag (zas (i:=3) qaQ.nd rfl (Or.inl rfl) (zaz qcD hr (zaa (pv 0) (zaa (pv 6) (zaa (zaz qbz hr (zaa (pv 0) (zaa (pv 5) (zaa (pv 3) (zaa (pv 6) zac))))) (zaa (pv 2) zac))))))
   (zaf (zbd (ze4 F.plainAttrs_list F.slot_list_append F.type_list_append za0 (pv 4) (zaa (zbB (zaa (pv 3) (zaa (zau zay (zau zaF (zau zay (pv 0) (pv 6) (fun _ _=>rfl)) zae (fun _ _=>rfl)) (pv 3) (fun _ _=>rfl)) zac))) zac))))))
   (zaf (zao (pv 4)))))),?_⟩
 have hk0:wy.getD 0 0 < ps.length+1:=W.kn _ (zhJ hpos);have hw0:atI (wy.map nV) 0=some (nV (wy.getD 0 0)):=zaQ (j:=0) (zjA hpos);refine ⟨_,rfl,_,rfl,_,_,_,_,rfl,rfl,SqL.of W.at_,hw0,_,rfl,br,f,xs,ps,rows,wy.getD 0 0,key,Av,fp,R,L,rfl,AF,S,hT,hR,hk0,by omega,hFn _ hk0,fun H1 L1 S1 k1 hL1=>?_⟩;have W1:=S.lst k1 W.at_ nwa;obtain ⟨x0,hx0,b0,o0,j0,ys0,rfl,_,_,hb0,ho0,_,_⟩:=zbA S1.ba hk0;refine ⟨_,rfl,_,rfl,_,rfl,_,_,_,_,rfl,rfl,SqL.of W1,hw0,_,_,_,_,rfl,rfl,SqL.of S1.at_,zaQ hx0,_,_,_,_,rfl,rfl,SqT.of hb0,rfl,_,rfl,_,_,_,_,rfl,rfl,SqL.of ho0,zhh hT hR hk0 key,(by show 2≤sizeLine;decide),fun t ht=>⟨(by show 1≤sizeLine;decide),fun D hD=>?_⟩⟩;have st:=zai ht (.tup [.int ((zat (zak ps rows (wy.getD 0 0)) key:Nat):Int),.int ((ownB rows (wy.getD 0 0) key:Nat):Int)]);have sD:=zai hD (.lst [.ref t]);have hD1:H1 D=none:=st.free hD;obtain ⟨hDn,nDA,nDm⟩:=S1.free k1 hD1;have nfD:¬ fp D:=fun z=>AF.alloc _ _ _ S1.r z hD1;have s13:=st.trans sD;have tb3:=S1.tb.ext s13.ext;have hR3:=AF.keep _ _ _ S1.r fun b o _ e=>s13 b o e;have S3:=S1.kp (.of s13) tb3 hR3 (AF.avl _ _ hR3);have k03:KpA Av mp H _:=k1.trans (.of s13);have h3D:upd (upd H1 t (.tup [.int ((zat (zak ps rows (wy.getD 0 0)) key:Nat):Int),.int ((ownB rows (wy.getD 0 0) key:Nat):Int)])) D (.lst [.ref t]) D=some (.lst [.ref t]):=zad;have h3t:=sD _ _ (zad (H:=H1) (a:=t) (o:=.tup [.int ((zat (zak ps rows (wy.getD 0 0)) key:Nat):Int),.int ((ownB rows (wy.getD 0 0) key:Nat):Int)]));generalize upd (upd H1 t (.tup [.int ((zat (zak ps rows (wy.getD 0 0)) key:Nat):Int),.int ((ownB rows (wy.getD 0 0) key:Nat):Int)])) D (.lst [.ref t])=H3 at S3 k03 h3D h3t ⊢;clear tb3 hR3 s13 sD hD st ht hb0 ho0 hx0;have W3:=S.lst k03 W.at_ nwa;refine ⟨_,rfl,_,rfl,1,rfl,wa,_,rfl,SqL.of W3,fun y hy=>?_⟩;rw[zqf];have sy:=zai hy (.lst ((wy.drop 1).map nV));obtain ⟨hyn,nyA,nym⟩:=S3.free k03 hy;have nDy:D≠y:=zab h3D hy;have tb4:=S3.tb.ext sy.ext;have hR4:=AF.keep _ _ _ S3.r fun b o _ e=>sy b o e;have S4:=S3.kp (.of sy) tb4 hR4 (AF.avl _ _ hR4);have k04:KpA Av mp H _:=k03.trans (.of sy);have h4y:upd H3 y (.lst ((wy.drop 1).map nV)) y=some (.lst ((wy.drop 1).map nV)):=zad;have h4D:=sy _ _ h3D;have h4t:=sy _ _ h3t;generalize upd H3 y (.lst ((wy.drop 1).map nV))=H4 at S4 k04 h4D h4t h4y ⊢;clear tb4 hR4 sy hy h3D h3t S3 k03 W3;refine ⟨wa,y,rfl,⟨_,SqL.of (S.lst k04 W.at_ nwa)⟩,⟨_,SqL.of h4y⟩,?_⟩;have hdl:((wy.drop 1).map nV).length=wy.length - 1:=by rw[yab,yaL]
 refine zon (xs:=wy.map nV) (ys:=(wy.drop 1).map nV) (by rw[hdl,yab];omega) (fun i σ H5=>∃(x5 x6:Option V) (zs:List V) (L2:List (Nat×Nat)),σ=[some (.ref br),some (.ref wa),some (.ref f),some (.int ((zat (zak ps rows (wy.getD i 0)) key:Nat):Int)),some (.ref D),x5,x6]∧H5 D=some (.lst zs)∧zar K H5 ((wy.take (i+1)).map fun k=>(((zat (zak ps rows k) key:Nat):Int),((ownB rows k key:Nat):Int))) zs∧zb3 Av mp R ps rows br xs (L++L2) H5∧KpA Av mp H H5∧L2.length≤figN (zak ps rows (wy.getD 0 0)).length+2 * i∧H5 y=some (.lst ((wy.drop 1).map nV))) ?_ ?_ ?_ ?_
 ·refine ⟨_,_,[.ref t],L1,rfl,h4D,?_,S4,k04,by omega,h4y⟩;rw[zlp _ hpos,ybK];exact .cons ⟨t,_,_,rfl,h4t,rfl,rfl⟩ .nil
 ·rintro i σ H5 _ ⟨x5,x6,zs,L2,rfl,h5,hA,S5,k05,hL2,h5y⟩;exact ⟨SqL.of (S.lst k05 W.at_ nwa),SqL.of h5y⟩
 ·rintro i x x' σ H5 p hx hx' ⟨x5,x6,zs,L2,rfl,h5,hA,S5,k05,hL2,h5y⟩ hp;have hi:i+1 < wy.length:=by
   have:=(yao.mp hx').1;omega
  rw[zjA (by omega)]at hx;cases hx
  rw[List.map_drop,ybu,Nat.add_comm 1 i,zjA hi]at hx';cases hx'
  have hpar:=W.ch i hi;have hki:wy.getD i 0 < ps.length+1:=W.kn _ (zhJ (by omega));have hkj:wy.getD (i+1) 0 < ps.length+1:=W.kn _ (zhJ hi);have NO:=zmo hT hR few hki hpar (rows:=rows) key;refine ⟨p,_,rfl,SqT.of zad,rfl,_,_,rfl,_,_,rfl,rfl,?_⟩;have s6:=zai hp (.tup [nV (wy.getD i 0),nV (wy.getD (i+1) 0)]);have hR6:=AF.keep _ _ _ S5.r fun b o _ e=>s6 b o e;have S6:=S5.kp (.of s6) (S5.tb.ext s6.ext) hR6 (AF.avl _ _ hR6);refine ⟨_,rfl,_,rfl,_,rfl,_,rfl,_,rfl,_,rfl,Av,br,ps,rows,xs,wy.getD i 0,wy.getD (i+1) 0,_,rfl,S6.at_,S6.ba,hT,hki,hpar,zb0 _ _,fun H7 s7=>?_⟩;have s57:=s6.trans s7;have hR7:=AF.keep _ _ _ S5.r fun b o _ e=>s57 b o e;have S7:=S5.kp (.of s57) (S5.tb.ext s57.ext) hR7 (AF.avl _ _ hR7);refine ⟨_,rfl,br,f,xs,ps,rows,wy.getD (i+1) 0,_,key,Av,fp,R,_,rfl,AF,S7,hT,hR,hkj,(by have:=zjf _ _ (yaa (zak ps rows (wy.getD 0 0)).length);have:=hFn _ hk0;rw[yaf];omega),NO.lo,NO.hi,fun H8 L3 S8 k8 hL3=>?_⟩;have k58:KpA Av mp H5 H8:=(KpA.of s57).trans k8;have k08:=k05.trans k58;have h8:=k58 _ _ nDA nDm h5;have h8y:=k58 _ _ nyA nym h5y;obtain ⟨x1,hx1,b1,o1,j1,ys1,rfl,_,_,hb1,ho1,_,_⟩:=zbA S8.ba hkj;have hzl:=hA.length;rw[yab,yar]at hzl;refine ⟨_,rfl,.inl ⟨rfl,_,SqL.of h8⟩,_,rfl,_,rfl,_,rfl,_,_,_,_,rfl,rfl,SqL.of S8.at_,zaQ hx1,_,_,_,_,rfl,rfl,SqT.of hb1,rfl,_,rfl,_,_,_,_,rfl,rfl,SqL.of ho1,zhh hT hR hkj key,(by show 2≤sizeLine;decide),fun t2 ht2=>?_⟩;have s9:=zai ht2 (.tup [.int ((zat (zak ps rows (wy.getD (i+1) 0)) key:Nat):Int),.int ((ownB rows (wy.getD (i+1) 0) key:Nat):Int)]);have h9t:upd H8 t2 (.tup [.int ((zat (zak ps rows (wy.getD (i+1) 0)) key:Nat):Int),.int ((ownB rows (wy.getD (i+1) 0) key:Nat):Int)]) t2=_:=zad;have h9:=s9 _ _ h8;have h9y:=s9 _ _ h8y;have k09:=k08.trans (.of s9);have hR9:=AF.keep _ _ _ S8.r fun b o _ e=>s9 b o e;have tb9:=S8.tb.ext s9.ext;have hA9:=zh0 (H':=upd H8 t2 (.tup [.int ((zat (zak ps rows (wy.getD (i+1) 0)) key:Nat):Int),.int ((ownB rows (wy.getD (i+1) 0) key:Nat):Int)])) (fun b us e=>s9 _ _ (S5.tup k58 e)) hA;generalize upd H8 t2 (.tup [.int ((zat (zak ps rows (wy.getD (i+1) 0)) key:Nat):Int),.int ((ownB rows (wy.getD (i+1) 0) key:Nat):Int)])=H9 at h9t h9 h9y k09 hR9 tb9 hA9 ⊢;have k0D:KpA Av mp H (upd H9 D (.lst (zs++[.ref t2]))):=fun b o n1 n2 e=>by
   rw[zah (zab e hDn)];exact k09 _ _ n1 n2 e
  have hRD:R (L++L2++L3) (upd H9 D (.lst (zs++[.ref t2]))):=AF.keep _ _ _ hR9 fun b o hb e=>by
   have n:b≠D:=fun z=>by
    rw[z]at hb;exact nfD hb
   rw[zah n];exact e
  refine ⟨_,_,_,rfl,rfl,h9,zap (by omega),_,_,_,L2++L3,rfl,zad,?_,?_,k0D,?_,?_⟩
  ·rw[zlp _ hi];exact zar.append (zdV h9 hA9) (.cons ⟨t2,_,_,rfl,by rw[zah (fun z=>by rw[z,h9]at h9t;cases h9t)];exact h9t,rfl,rfl⟩ .nil)
  ·rw[← yaT];exact S.kp k0D (zpm tb9 h9) hRD (AF.avl _ _ hRD)
  ·rw[yaf];omega
  ·rw[zah (Ne.symm nDy)];exact h9y
 ·rintro σ H5 ⟨x5,x6,zs,L2,rfl,h5,hA,S5,k05,hL2,h5y⟩;rw[hdl]at hA hL2;rw[yat (by omega)]at hA;refine ⟨_,rfl,?_⟩;exact q D zs H5 L2 S5 k05 hDn h5 hA hL2
def Kp0 (H H':Hp):Prop:=∀ b o,(∀ tab,o≠.tbl tab)→H b=some o→H' b=some o
theorem zj3 {K:Frag}{H H':Hp}(k:Kp0 H H'):∀{es:List (Int×Int)} {ws:List V},zar K H es ws→zar K H' es ws
 | _,_,.nil=>.nil
 | _,_,.cons h t=>by
  refine .cons ?_ (zj3 k t);obtain ⟨a,x1,x2,rfl,hT,e1,e2⟩:=(show hasP K H _ _ from h);exact ⟨a,x1,x2,rfl,k _ _ (fun _ z=>nomatch z) hT,e1,e2⟩
theorem zkm {K:Frag}{H H':Hp}{ps:List Nat}{rows:List (List Int)}{js:List Nat}{qs:List Addr}(k:Kp0 H H')(h:zaE K H ps rows js qs):zaE K H' ps rows js qs:=zaL (fun j q ⟨ws,h1,h2⟩=>⟨ws,k _ _ (fun _ z=>by cases z) h1,zj3 k h2⟩) h
theorem zrC {H H':Hp}{ps:List Nat}{rows:List (List Int)}{js:List Nat}{xs:List V}(k:Kp0 H H')(h:Paired (BrAt [] H ps rows) js xs):Paired (BrAt [] H' ps rows) js xs:=zaL (fun j x ⟨b,o,j',ys,h1,h2,h3,h4,h5,h6,h7⟩=>
 ⟨b,o,j',ys,h1,h2,h3,k _ _ (fun _ z=>by cases z) h4,k _ _ (fun _ z=>by cases z) h5,k _ _ (fun _ z=>by cases z) h6,zaL (fun c y ⟨a,s,g1,g2,g3,g4⟩=>⟨a,s,g1,g2,k _ _ (fun _ z=>by cases z) g3,k _ _ (fun _ z=>by cases z) g4⟩) h7⟩) h
theorem zlz {σ:L2.St}{H:Hp}{Q:Bool→Hp→Prop}(h:Q true H):tYes σ H Q:=h
theorem Kp0.trans {H H1 H2:Hp}(a:Kp0 H H1)(b:Kp0 H1 H2):Kp0 H H2:=fun c o n h=>b c o n (a c o n h)
theorem Kp0.of {H H1:Hp}(a:Same H H1):Kp0 H H1:=fun c o _ h=>a c o h
theorem Kp0.lst {H H1:Hp}(a:Kp0 H H1){b:Addr}{us:List V}(h:H b=some (.lst us)):H1 b=some (.lst us):=a _ _ (fun _ z=>nomatch z) h
theorem zoB {H H':Hp}{wa:Addr}{ps w:List Nat}(e:Kp0 H H')(h:zdo H wa ps w):zdo H' wa ps w:=⟨e.lst h.at_,h.len,h.ne,h.ch,h.kn⟩
theorem zrf {L d:Addr}{H H':Hp}(s:LS K L d H)(g:Kp0 H H'):LS K L d H':=by
 obtain ⟨ns,a,l,e,q⟩:=s.ex;refine ⟨ns,a,l,g _ _ (fun _ z=>nomatch z) e,?_⟩;rcases q with (q | ⟨o,q⟩) | q
 ·exact .inl (.inl (g _ _ (fun _ z=>nomatch z) q))
 ·exact .inl (.inr ⟨o,g _ _ (fun _ z=>nomatch z) q⟩)
 ·exact .inr q
theorem zbE {H:Hp}{Pt:Addr}{pos:Pos}{q:Str}(x:zbu H Pt pos q):∃ tab,H Pt=some (.tbl tab):=by
 obtain ⟨tab,e,_⟩:=x.ex;exact ⟨tab,e⟩
theorem zh2 (T:Txt K mg)(qa9:DF K mg "_law_children" zcF zcb):FC P w K mg base 1 "_law_children" zcb (zcW K):=by
 refine qa9.ok qcj (fun vs H Q E h=>?_) (fun f cdv A outer s H vs Q E hr h=>?_)
 ·obtain ⟨t,ps,k,rfl,_⟩:=h;rfl
 obtain ⟨t,ps,k,rfl,ht,hz,q⟩:=h;refine ⟨_,(zaf (zao (zbr (N:=["_law_k","_law_tree_here","_law_knot"]) (own:=1) (cap:=[0,1]) rfl (zbI rfl T.qap (zaa (zal zam rfl T.qaz boot_len (zaa (pv 0) zac)) zac)) ⟨rfl,rfl,rfl,rfl,rfl,rfl⟩ (fun _ _ _ _ _=>(zan (i:=0) (show List.Nodup (["_law_k","_law_tree_here","_law_knot"]:List Str) by decide +kernel) rfl (Or.inl rfl))) (fun _ _ _ _ _=>(zfV (zav zdx (zau (zcP (K:=K)) (pv 1) (pv 0) (fun _ _=>rfl)) (pv 2) (zaB _)))) (fun _ _ _ _ _=>(pv 0))))),?_⟩;refine ⟨_,rfl,_,_,rfl,.inr (SqT.of ht),_,rfl,by omega,by rw[zax];omega,fun D hD=>?_⟩;have el:((((zbP ps).length:Nat):Int)).toNat=ps.length+1:=by rw[zax,ya9]
 rw[el];refine zd2 (n:=ps.length+1) (fun j σ H3=>∃ x0:Option V,σ=[x0,some (.ref t),some (.int k)]∧H3 D=some (.lst ((zaN ps k j).map nV))∧But D H H3) ?_ ?_ ?_
 ·exact ⟨_,rfl,zad,fun b o n e=>by rw[zah n];exact e⟩
 ·rintro j m σ H3 hm hj ⟨x0,rfl,h3,k3⟩;rw[ybT];have h3t:=k3 _ _ (zab ht hD) ht;have hlen:=zc6 ps k j;refine ⟨_,rfl,_,rfl,_,_,_,_,rfl,rfl,SqT.of h3t,zfg hj,_,rfl,zeo _ _ _,_,rfl,?_⟩;refine ite2 (fun c=>?_) (fun c=>?_)
  ·have c':par ps j=some k:=ze5.mp (yaD c);refine ⟨_,rfl,_,h3,zap (by rw[yab];omega),m - 1,by omega,by omega,_,rfl,?_,fun b o n e=>by rw[zah n];exact k3 b o n e⟩;rw[zad,zdh,if_pos c',yan];rfl
  ·have c':¬ par ps j=some k:=fun z=>c (yam (ze5.mpr z));refine ⟨m - 1,by omega,by omega,_,rfl,?_,k3⟩;rw[h3,zdh,if_neg c',yaI]
 ·rintro σ H3 ⟨x0,rfl,h3,k3⟩;exact q D H3 hD (fun b o e=>k3 b o (zab e hD) e) h3
def zlP (K:Frag):Sp:=fun vs H Q _=>∃(r:Addr) (as:List Addr) (rows:List (List Int)),vs=[.ref r]∧H r=some (.tup (as.map V.ref))∧zbj H as rows∧zfv rows≤900∧
 ∀(p:Addr) (H':Hp),Same H H'→H' p=some (.lst (rows.flatten.map V.int))→H p=none→Q (.ref p) H'
theorem zig (rows:List (List Int)):rows.flatten.length=zfv rows:=by
 unfold zfv;rw[List.length_flatten]
theorem zla {rows:List (List Int)}{i:Nat}{row:List Int}(h:rows[i]?=some row):(rows.take (i+1)).flatten=(rows.take i).flatten++row:=by
 obtain ⟨hi,rfl⟩:=yao.mp h;rw[yaH hi,ybU];simp
theorem zif (rows:List (List Int))(i:Nat):(rows.take i).flatten.length≤zfv rows:=by
 rw[← zig]
 conv=>rhs;rw[← yaZ i rows]
 rw[ybU,yaf];omega
theorem zn0 (T:Txt K mg)(qbT:DF K mg "_law_every" zet zdR):FC P w K mg base 1 "_law_every" zdR (zlP K):=by
 refine qbT.ok qbb (fun vs H Q E h=>?_) (fun f cdv A outer s H vs Q E hr h=>?_)
 ·obtain ⟨r,as,rows,rfl,_⟩:=h;rfl
 obtain ⟨r,as,rows,rfl,hr0,hA,hz,q⟩:=h;have hal:=hA.length;refine ⟨_,(zag (zas (i:=1) qbb.nd rfl (Or.inl rfl) (zaI zac))
   (zag (za2 PassesOwn.never rfl (zgw (pv 0)) (zan (i:=2) qbb.nd rfl (Or.inl rfl)) (zaf (zas (i:=1) qbb.nd rfl (Or.inl rfl) (zaw zb4 (pv 1) (zbJ zft rfl T.qbI boot_list (zaa (pv 2) zac))))))
   (zaf (zao (pv 1))))),?_⟩
 refine ⟨(by show 0≤sizeLine;decide),fun p hp=>?_⟩;have sp:=zai hp (.lst []);refine ⟨_,rfl,r,rfl,⟨_,SqT.of (sp _ _ hr0)⟩,?_⟩;refine zjc (xs:=as.map V.ref) (fun i σ H2=>∃(c:Addr) (x2:Option V),σ=[some (.ref r),some (.ref c),x2]∧H2 c=some (.lst (((rows.take i).flatten).map V.int))∧Same H H2∧H c=none) ?_ ?_ ?_ ?_
 ·exact ⟨p,_,rfl,zad,sp,hp⟩
 ·rintro i σ H2 _ ⟨c,x2,rfl,_,s2,_⟩;exact SqT.of (s2 _ _ hr0)
 ·rintro i x σ H2 hx ⟨c,x2,rfl,h2,s2,hc⟩;rw[yaj]at hx;obtain ⟨b,hb,rfl⟩:=ybH.mp hx;obtain ⟨row,hrow,h1b⟩:=zci hA hb;have h2b:=s2 _ _ h1b;have e:=zla hrow;have hz2:=zif rows (i+1);rw[e,yaf]at hz2;refine ⟨_,rfl,_,rfl,b,_,rfl,.inr (SqT.of h2b),fun l hl=>?_⟩;have sl:=zai hl (.lst (row.map V.int));refine ⟨c,l,_,_,rfl,rfl,sl _ _ h2,zad,ybd (zap (by rw[yab,yab];omega)),fun u hu=>?_⟩;have su:=zai hu (.lst ((rows.take i).flatten.map V.int++row.map V.int));refine ⟨u,_,rfl,?_,s2.trans (Same.trans sl su),s2.free (sl.free hu)⟩;rw[zad,e,yan]
 ·rintro σ H2 ⟨c,x2,rfl,h2,s2,hc⟩;rw[yab,hal,yat (yaa _)]at h2;refine ⟨_,rfl,?_⟩;exact q c H2 s2 h2 hc
def zjL (K:Frag):Sp:=fun vs H Q _=>∃(d L:Addr),vs=[.ref d]∧LS K L d H∧
 ∀(st:Addr) (ps:List Nat) (rows:List (List Int)) (t rs:Addr) (as:List Addr) (H':Hp),zbi H' st ps rows t rs as→Keep d H H'→LS K L d H'→Q (.ref st) H'
theorem zkT (T:Txt K mg)(qbU:DF K mg "_law_stand" zeq zdO)(qac:FC P w K mg base 2 "_law_take" zbb (zem K))(qdB:FC P w K mg base 3 "_law_tree" zeE (zoG K))(qdC:FC P w K mg base 5 "_law_rows" zeF (zoH K)):FC P w K mg base 6 "_law_stand" zdO (zjL K):=by
 refine qbU.ok qbc (fun vs H Q E h=>?_) (fun f cdv A outer s H vs Q E hr h=>?_)
 ·obtain ⟨d,L,rfl,_⟩:=h;rfl
 obtain ⟨d,L,rfl,hs,q⟩:=h;have ndT:∀{H':Hp} {a:Addr} {o:List V},LS K L d H'→H' a=some (.tup o)→a≠d:=fun {H' a o} s e z=>by
  obtain ⟨_,_,_,e2,_⟩:=s.ex;rw[← z,e]at e2;cases e2
 have ndL:∀{H':Hp} {a:Addr} {o:List V},LS K L d H'→H' a=some (.lst o)→a≠d:=fun {H' a o} s e z=>by
  obtain ⟨_,_,_,e2,_⟩:=s.ex;rw[← z,e]at e2;cases e2
 refine ⟨_,(zag (zlZ (zau zay (zaI (zaa (zbB (zaa zae (zaa zae zac))) (zaa (zbB (zaa zae (zaa zae zac))) (zaa (zbB (zaa zae (zaa zae zac))) (zaa (zbB (zaa zae (zaa zae zac))) zac))))) (zaz qac hr (zaa (pv 0) (zaa zae zac))) (fun _ _=>rfl)) (zgx rfl (zaM (zan (i:=1) qbc.nd rfl (Or.inl rfl)) (zaM (zan (i:=2) qbc.nd rfl (Or.inl rfl)) zcN))))
   (zag (zas (i:=3) qbc.nd rfl (Or.inl rfl) (zaz qdB hr (zaa (pv 0) (zaa (pv 1) zac))))
   (zaf (zao (zbB (zaa (pv 3) (zaa (zaz qdC hr (zaa (pv 0) (zaa (zal zam rfl T.qaz boot_len (zaa (pv 3) zac)) (zaa (pv 2) zac)))) zac))))))),?_⟩
 refine ⟨(by show 2≤sizeLine;decide),fun a1 ha1=>?_⟩;have e1:=zai ha1 (.tup [.int 8,.int 9]);have f1:upd H a1 (.tup [.int 8,.int 9]) a1=some (.tup [.int 8,.int 9]):=zad;generalize upd H a1 (.tup [.int 8,.int 9])=G1 at e1 f1 ⊢;refine ⟨(by show 2≤sizeLine;decide),fun a2 ha2=>?_⟩;have e2:=zai ha2 (.tup [.int 8,.int 9]);have f2:upd G1 a2 (.tup [.int 8,.int 9]) a2=some (.tup [.int 8,.int 9]):=zad;generalize upd G1 a2 (.tup [.int 8,.int 9])=G2 at e2 f2 ⊢;refine ⟨(by show 2≤sizeLine;decide),fun a3 ha3=>?_⟩;have e3:=zai ha3 (.tup [.int 4,.int 30]);have f3:upd G2 a3 (.tup [.int 4,.int 30]) a3=some (.tup [.int 4,.int 30]):=zad;generalize upd G2 a3 (.tup [.int 4,.int 30])=G3 at e3 f3 ⊢;refine ⟨(by show 2≤sizeLine;decide),fun a4 ha4=>?_⟩;have e4:=zai ha4 (.tup [.int 24,.int 4]);have f4:upd G3 a4 (.tup [.int 24,.int 4]) a4=some (.tup [.int 24,.int 4]):=zad;generalize upd G3 a4 (.tup [.int 24,.int 4])=G4 at e4 f4 ⊢;refine ⟨(by show 4≤sizeLine;decide),fun l hl=>?_⟩;have e5:=zai hl (.lst [.ref a1,.ref a2,.ref a3,.ref a4]);have f5:upd G4 l (.lst [.ref a1,.ref a2,.ref a3,.ref a4]) l=some (.lst [.ref a1,.ref a2,.ref a3,.ref a4]):=zad;generalize upd G4 l (.lst [.ref a1,.ref a2,.ref a3,.ref a4])=G5 at e5 f5 ⊢;have s0:Same H G5:=e1.trans (Same.trans e2 (Same.trans e3 (Same.trans e4 e5)));have hs5:=hs.same s0;refine ⟨_,rfl,d,L,4,rfl,by decide,hs5,fun v H1 v0 v4 k1 s1=>?_⟩;obtain ⟨x,m,n,hat,htup,hm0,hm1,hn1,hmn⟩:∃(x:Addr) (m n:Nat),atI [V.ref a1,V.ref a2,V.ref a3,V.ref a4] v=some (.ref x)∧H1 x=some (.tup [.int (m:Int),.int (n:Int)])∧0 < m∧m≤24∧n≤30∧m * n≤120:=by
  have z:v=0∨v=1∨v=2∨v=3:=by omega
  have g1:=Same.trans e2 (Same.trans e3 (Same.trans e4 e5)) _ _ f1;have g2:=Same.trans e3 (Same.trans e4 e5) _ _ f2;have g3:=Same.trans e4 e5 _ _ f3;have g4:=e5 _ _ f4;rcases z with rfl | rfl | rfl | rfl
  ·exact ⟨a1,8,9,rfl,k1 _ _ (ndT hs5 g1) g1,by decide,by decide,by decide,by decide⟩
  ·exact ⟨a2,8,9,rfl,k1 _ _ (ndT hs5 g2) g2,by decide,by decide,by decide,by decide⟩
  ·exact ⟨a3,4,30,rfl,k1 _ _ (ndT hs5 g3) g3,by decide,by decide,by decide,by decide⟩
  ·exact ⟨a4,24,4,rfl,k1 _ _ (ndT hs5 g4) g4,by decide,by decide,by decide,by decide⟩
 have k01:Keep d H H1:=fun b o nb e=>k1 _ _ nb (s0 _ _ e);refine ⟨_,_,_,_,rfl,rfl,SqL.of (k1 _ _ (ndL hs5 f5) f5),hat,?_⟩;refine ⟨x,_,rfl,SqT.of htup,rfl,_,_,rfl,_,_,rfl,rfl,?_⟩;clear hat htup f5 f4 f3 f2 f1 e1 e2 e3 e4 e5 k1 hs5 s0;refine ⟨_,rfl,_,rfl,d,L,m,rfl,by omega,s1,fun t ps H2 ht hT hpl h2 k2 s2=>?_⟩;refine ⟨_,rfl,_,rfl,_,rfl,_,_,rfl,.inr (SqT.of h2),_,rfl,d,L,(zbP ps).length,n,rfl,by rw[zax];omega,by omega,s2,fun r as rows H3 hr3 hA hrl hR hf h3 k3 s3=>?_⟩;rw[zax]at hrl;refine ⟨(by show 2≤sizeLine;decide),fun st hst=>?_⟩;have ss:=zai hst (.tup [.ref t,.ref r]);have hk:=zmG hf;have hkk:rows.length * n≤m * n:=Nat.mul_le_mul_right n (by omega);exact q st ps rows t r as _ ⟨zad,ss _ _ (k3 _ _ (ndT s2 h2) h2),ss _ _ h3,hA.ext ss,hrl,hT,hR,by omega,by omega⟩ (fun b o nb e=>ss _ _ (k3 _ _ nb (k2 _ _ nb (k01 _ _ nb e)))) (s3.same ss)
theorem znc {ps us:List Nat}{c ch:Nat}(h:zhH ps (us++[c]))(hp:par ps ch=some c):zhH ps ((us++[c])++[ch]):=zlh h fun _=>by
 rw[hp,yaf,yaJ,ybQ,yad,yaP (yaa _),yby];rfl
def zoM (K:Frag):Sp:=fun vs H Q _=>∃(d L t:Addr) (ps:List Nat),vs=[.ref d,.ref t]∧H t=some (.tup (zbP ps))∧zaC ps∧ps.length≤40∧LS K L d H∧
 ∀(wa:Addr) (w:List Nat) (H':Hp),H wa=none→zdo H' wa ps w→Keep d H H'→LS K L d H'→Q (.ref wa) H'
theorem zpF (T:Txt K mg)(qcS:DF K mg "_law_way" zg2 zfH)(qac:FC P w K mg base 2 "_law_take" zbb (zem K))(qbB:FC P w K mg base 1 "_law_children" zcb (zcW K)):FC P w K mg base 3 "_law_way" zfH (zoM K):=by
 refine qcS.ok qbG (fun vs H Q E h=>?_) (fun f cdv A outer s H vs Q E hr h=>?_)
 ·obtain ⟨d,L,t,ps,rfl,_⟩:=h;rfl
 obtain ⟨d,L,t,ps,rfl,ht,hT,hl,hs,q⟩:=h;have ndT:∀{H':Hp} {a:Addr} {o:List V},LS K L d H'→H' a=some (.tup o)→a≠d:=fun {H' a o} s e z=>by
  obtain ⟨_,_,_,e2,_⟩:=s.ex;rw[← z,e]at e2;cases e2
 have nd:∀{H':Hp} {a:Addr},LS K L d H'→H' a=none→a≠d:=fun {H' a} s e z=>by
  obtain ⟨_,_,_,e2,_⟩:=s.ex;rw[← z,e]at e2;cases e2
 have free:∀{H':Hp} {a:Addr},Keep d H H'→LS K L d H'→H' a=none→H a=none:=fun {H' a} k s e=>by
  cases e2:H a with
  | none=>rfl
  | some o=>
   have:=k _ _ (nd s e) e2;rw[e]at this;cases this
 refine ⟨_,(zag (zas (i:=2) qbG.nd rfl (Or.inl rfl) (zaI (zaa (zaz qac hr (zaa (pv 0) (zaa (zal zam rfl T.qaz boot_len (zaa (pv 1) zac)) zac))) zac)))
   (zaJ (za6 (zav zdx (zaz qac hr (zaa (pv 0) (zaa zae zac))) zae (zaB _)) (zaf (zas (i:=2) qbG.nd rfl (Or.inl rfl) (zaI (zaa zae zac)))) zaA)
   (zag (zg8 PassesOwn.never (PW.pt (zhV (zav (zl4 (List Int) (huD hr)) (zaz qbB hr (zaa (pv 1) (zaa (zau zay (pv 2) (ze3 zcT zae) (fun _ _=>rfl)) zac))) (zaI zac) (zaB _)) (zfU (zav zkR (zaz qac hr (zaa (pv 0) (zaa zae zac))) zae (zaB _))))) (zag (zas (i:=3) qbG.nd rfl (Or.inl rfl) (zaz qbB hr (zaa (pv 1) (zaa (zau zay (pv 2) (ze3 zcT zae) (fun _ _=>rfl)) zac))))
   (zaf (zbd (ze4 F.plainAttrs_list F.slot_list_append F.type_list_append za0 (pv 2) (zaa (zau zay (pv 3) (zaz qac hr (zaa (pv 0) (zaa (zal zam rfl T.qaz boot_len (zaa (pv 3) zac)) zac))) (fun _ _=>rfl)) zac))))))
   (zaf (zao (pv 2)))))),?_⟩
 refine ⟨_,rfl,_,rfl,_,_,rfl,.inr (SqT.of ht),d,L,_,rfl,by rw[zax];omega,hs,fun v H1 v0 v1 k1 s1=>?_⟩;rw[zax]at v1;obtain ⟨k0,rfl⟩:=zh6 v0;refine ⟨(by show 1≤sizeLine;decide),fun p hp=>?_⟩;have sp:=zai hp (.lst [nV k0]);have hpp:upd H1 p (.lst [nV k0]) p=some (.lst [nV k0]):=zad;have s1p:=s1.same sp;have k1p:Keep d H (upd H1 p (.lst [nV k0])):=fun b o nb e=>sp _ _ (k1 _ _ nb e);have hp0:=free k1 s1 hp;generalize upd H1 p (.lst [nV k0])=H2 at hpp s1p k1p ⊢;refine ⟨fun σ' H'=>∃(p:Addr) (k0:Nat),σ'=[some (.ref d),some (.ref t),some (.ref p),none]∧H' p=some (.lst [nV k0])∧k0 < ps.length+1∧H p=none∧Keep d H H'∧LS K L d H',?_,?_⟩
 ·refine ⟨_,rfl,d,L,2,rfl,by decide,s1p,fun v H3 _ _ k3 s3=>⟨rfl,_,rfl,?_⟩⟩;have hpd:p≠d:=nd s1 hp;have k03:Keep d H H3:=fun b o nb e=>k3 _ _ nb (k1p _ _ nb e);refine ite2 (fun _=>?_) (fun _=>?_)
  ·refine ⟨(by show 1≤sizeLine;decide),fun u hu=>?_⟩;have su:=zai hu (.lst [nV 0]);exact ⟨u,0,rfl,zad,by omega,free k03 s3 hu,fun b o nb e=>su _ _ (k03 _ _ nb e),s3.same su⟩
  ·exact ⟨p,k0,rfl,k3 _ _ hpd hpp,by omega,hp0,k03,s3⟩
 clear hpp s1p k1p hp0 sp hp k1 s1;rintro σ' H3 ⟨p,k0,rfl,h3,hk0,hp,k3,s3⟩;have hpd:p≠d:=nd hs hp;have htp:t≠p:=zab ht hp;have htd:=ndT hs ht;refine zhI (fun σ HW=>∃(us:List Nat) (c:Nat) (x3:Option V),σ=[some (.ref d),some (.ref t),some (.ref p),x3]∧HW p=some (.lst ((us++[c]).map nV))∧us.length≤c∧c < ps.length+1∧zhH ps (us++[c])∧(∀ x∈us++[c],x < ps.length+1)∧(∀ b o,b≠d→b≠p→H b=some o→HW b=some o)∧LS K L d HW)
  (fun σ HW=>∃(w:List Nat) (x3:Option V),σ=[some (.ref d),some (.ref t),some (.ref p),x3]∧zdo HW p ps w∧(∀ b o,b≠d→b≠p→H b=some o→HW b=some o)∧LS K L d HW)
  (fun _ H2=>match H2 p with | some (.lst xs)=>1000 - xs.length | _=>0) ?_ ?_ ?_ ?_
 ·refine ⟨[],k0,_,rfl,h3,yaE _,hk0,fun t ht=>?_,fun x hx=>?_,fun b o nb _ e=>k3 _ _ nb e,s3⟩
  ·rw[yce,yaJ]at ht;omega
  ·rw[yah.mp hx];exact hk0
 ·rintro σ HW ⟨us,c,x3,rfl,hw,hul,hc,hch,hkn,kw,sw⟩;have hwt:=kw _ _ htd htp ht;have done:∀{HX:Hp} {x3:Option V},(∀ b o,b≠d→HW b=some o→HX b=some o)→LS K L d HX→∃(w:List Nat) (x3':Option V),[some (V.ref d),some (.ref t),some (.ref p),x3]=[some (.ref d),some (.ref t),some (.ref p),x3']∧zdo HX p ps w∧(∀ b o,b≠d→b≠p→H b=some o→HX b=some o)∧LS K L d HX:=fun {HX x3} k s=>
   ⟨us++[c],x3,rfl,⟨k _ _ hpd hw,by rw[yaf,yaJ];omega,by simp,hch,hkn⟩,fun b o n1 n2 e=>k _ _ n1 (kw _ _ n1 n2 e),s⟩
  refine ⟨_,rfl,_,rfl,_,rfl,_,_,_,_,rfl,rfl,SqL.of hw,zjs,t,ps,c,rfl,hwt,by omega,fun cl HX hcl sx hx=>?_⟩;refine ⟨(by show 0≤sizeLine;decide),fun e he=>?_⟩;have se:=zai he (.lst []);have sxe:=sx.trans se;have swe:=sw.same sxe;refine ⟨(zaN ps c (ps.length+1)).map (fun n:Nat=>(n:Int)),[],⟨_,_,rfl,SqL.of (se _ _ hx),zj6⟩,⟨_,_,rfl,SqL.of zad,.nil⟩,_,rfl,?_⟩;generalize upd HX e (.lst [])=HE at sxe swe ⊢;refine ite2 (fun cne=>?_) (fun _=>?_)
  ·refine ⟨_,rfl,d,L,6,rfl,by decide,swe,fun v H4 _ _ k4 s4=>?_⟩;have k04:∀ b o,b≠d→HW b=some o→H4 b=some o:=fun b o nb e=>k4 _ _ nb (sxe _ _ e);refine ⟨_,_,rfl,rfl,_,rfl,?_⟩;refine ite2 (fun _=>?_) (fun _=>?_)
   ·have h4:=k04 _ _ hpd hw;have h4t:=k04 _ _ htd hwt;refine ⟨_,rfl,_,rfl,_,rfl,_,_,_,_,rfl,rfl,SqL.of h4,zjs,t,ps,c,rfl,h4t,by omega,fun c2 H5 hc2 s5 h5=>?_⟩;have hcne:zaN ps c (ps.length+1)≠[]:=fun z=>by
     rw[z]at cne;cases cne
    have hcmem:=fun m=>zaD (ps:=ps) (k:=c) (n:=ps.length+1) (j:=m);have hcl:=zc6 ps c (ps.length+1);generalize zaN ps c (ps.length+1)=cs at hcne h5 hcmem hcl;have hpos:0 < cs.length:=ybV.mpr hcne;have h5p:=s5 _ _ h4;have s45:=s4.same s5;refine ⟨_,rfl,.inl ⟨rfl,_,SqL.of h5p⟩,_,rfl,_,rfl,_,rfl,_,_,rfl,.inl (SqL.of h5),d,L,_,rfl,by rw[yab];omega,s45,fun v2 H6 v20 v21 k6 s6=>?_⟩;rw[yab]at v21;obtain ⟨j,rfl⟩:=zh6 v20;have hj:j < cs.length:=by omega
    have h6:=k6 _ _ hpd h5p;have hc2d:c2≠d:=nd s4 hc2;refine ⟨_,_,_,_,rfl,rfl,SqL.of (k6 _ _ hc2d h5),zgL hj,?_⟩;have hm:cs.getD j 0∈cs:=by
     rw[yad,yac hj];exact yaG hj
    generalize cs.getD j 0=ch at hm ⊢;obtain ⟨hchn,hchp⟩:=(hcmem ch).mp hm;have hlt:=(zaP hT hchp).1;refine ⟨_,_,_,rfl,rfl,h6,zap (by rw[yab,yaf,yaJ];omega),?_⟩;have k06:∀ b o,b≠d→HW b=some o→H6 b=some o:=fun b o nb e=>k6 _ _ nb (s5 _ _ (k04 _ _ nb e));refine ⟨⟨us++[c],ch,_,rfl,?_,?_,hchn,?_,?_,fun b o n1 n2 e=>?_,?_⟩,?_⟩
    ·rw[zad,yan (l₂:=[ch])];rfl
    ·rw[yaf,yaJ];omega
    ·exact znc hch hchp
    ·intro x hx;rcases yai.mp hx with z | z
     ·exact hkn x z
     ·rw[yah.mp z];exact hchn
    ·rw[zah n2];exact k06 _ _ n1 (kw _ _ n1 n2 e)
    ·exact LS.put hs hp (fun b o n1 n2 e=>k06 _ _ n1 (kw _ _ n1 n2 e)) s6
    ·show (match upd H6 p _ p with | some (.lst xs)=>1000 - xs.length | _=>0) < (match HW p with | some (.lst xs)=>1000 - xs.length | _=>0)
     rw[zad,hw];show 1000 - (((us++[c]).map nV)++[nV ch]).length < 1000 - ((us++[c]).map nV).length;rw[yaf,yab,yaf,yaJ,yaJ];omega
   ·exact done k04 s4
  ·refine iteF ?_;exact done (fun b o _ e=>sxe _ _ e) swe
 ·refine zlE (fun σ H Q Q' m h=>?_) (fun σ H Q Q' m h=>?_)
  ·obtain ⟨y1,e1,y2,e2,y3,e3,y4,y5,y6,y7,e4,e5,e6,e7,t,ps,k,e8,e9,e10,q⟩:=h;refine ⟨y1,e1,y2,e2,y3,e3,y4,y5,y6,y7,e4,e5,e6,e7,t,ps,k,e8,e9,e10,fun p H' a1 a2 a3=>?_⟩;obtain ⟨z1,z2⟩:=q p H' a1 a2 a3;refine ⟨z1,fun e he=>?_⟩;obtain ⟨as,bs,g1,g2,b,g3,q⟩:=z2 e he;exact ⟨as,bs,g1,g2,b,g3,m _ _ q⟩
  ·obtain ⟨y1,e1,d,L,z,e2,e3,e4,q⟩:=h;refine ⟨y1,e1,d,L,z,e2,e3,e4,fun v H' a1 a2 a3 a4=>?_⟩;obtain ⟨i,j,g1,g2,b,g3,q⟩:=q v H' a1 a2 a3 a4;exact ⟨i,j,g1,g2,b,g3,m _ _ q⟩
 rintro σ HW ⟨w,x3,rfl,W,kw,sw⟩;refine ⟨_,rfl,?_⟩;exact q p w HW hp W (fun b o nb e=>kw _ _ nb (zab e hp) e) sw
def zlS (K:Frag):Sp:=fun vs H Q _=>∃(d L st:Addr) (ps:List Nat) (rows:List (List Int)) (t rs:Addr) (as:List Addr),vs=[.ref d,.ref st]∧zbi H st ps rows t rs as∧LS K L d H∧
 ∀(key:Int) (H':Hp),Keep d H H'→LS K L d H'→Q (.int key) H'
theorem zn2 (T:Txt K mg)(qaX:DF K mg "_law_asked_key" zb7 zbU)(qde:FC P w K mg base 1 "_law_every" zdR (zlP K))(qac:FC P w K mg base 2 "_law_take" zbb (zem K))(qcQ:FC P w K mg base 3 "_law_key" zeG (znz K)):FC P w K mg base 4 "_law_asked_key" zbU (zlS K):=by
 refine qaX.ok qaO (fun vs H Q E h=>?_) (fun f cdv A outer s H vs Q E hr h=>?_)
 ·obtain ⟨d,L,st,ps,rows,t,rs,as,rfl,_⟩:=h;rfl
 obtain ⟨d,L,st,ps,rows,t,rs,as,rfl,S,hs,q⟩:=h;have ndT:∀{H':Hp} {a:Addr} {o:List V},LS K L d H'→H' a=some (.tup o)→a≠d:=fun {H' a o} s e z=>by
  obtain ⟨_,_,_,e2,_⟩:=s.ex;rw[← z,e]at e2;cases e2
 refine ⟨_,(zag (zas (i:=2) qaO.nd rfl (Or.inl rfl) (zaz qde hr (zaa (zau zaF (pv 1) zae (fun _ _=>rfl)) zac)))
   (zaJ (za6 (PW.pt (zgk (zav (zq7 (List Int) (huD hr)) (pv 2) (zaI zac) (zaB _)) (zd4 (zav zdx (zaz qac hr (zaa (pv 0) (zaa zae zac))) zae (zaB _))))) (zaf (zao (zaz qcQ hr (zaa (pv 0) zac)))) zaA)
   (zag (zas (i:=3) qaO.nd rfl (Or.inl rfl) (zaw zbO (zaw zbe (zau zay (pv 2) (zaz qac hr (zaa (pv 0) (zaa (zal zam rfl T.qaz boot_len (zaa (pv 2) zac)) zac))) (fun _ _=>rfl)) (zaz qac hr (zaa (pv 0) (zaa zae zac)))) zae))
   (zaf (zao (zal (zgd rfl) rfl T.qdL boot_max (zaa (zaw zbO zae (zaw zfj zae zae)) (zaa (zal (ziw rfl) rfl T.qdM boot_min (zaa (zaw zbO (zaw zfj zae zae) zae) (zaa (pv 3) zac))) zac)))))))),?_⟩
 refine ⟨_,rfl,_,_,_,_,rfl,rfl,SqT.of S.st,rfl,rs,as,rows,rfl,S.rs,S.at_,by have:=S.keys;omega,fun p H1 s1 h1 hp=>?_⟩;have hs1:=hs.same s1;have hpd:p≠d:=fun z=>by
  obtain ⟨_,_,_,e2,_⟩:=hs.ex;rw[← z,hp]at e2;cases e2
 have hfl:=zig rows;have hkeys:=S.keys;generalize rows.flatten=fl at h1 hfl;refine ⟨fun σ' H'=>σ'=[some (.ref d),some (.ref st),some (.ref p),none]∧H' p=some (.lst (fl.map V.int))∧fl≠[]∧Keep d H H'∧LS K L d H',?_,?_⟩
 ·refine ⟨_,rfl,(by show 0≤sizeLine;decide),fun e he=>?_⟩;have se:=zai he (.lst []);refine ⟨fl,[],⟨_,_,rfl,SqL.of (se _ _ h1),zar.ints⟩,⟨_,_,rfl,SqL.of zad,.nil⟩,_,rfl,?_⟩;have h2:=se _ _ h1;have s2:=hs1.same se;have k2:Keep d H (upd H1 e (.lst [])):=fun b o _ z=>se _ _ (s1 _ _ z);generalize upd H1 e (.lst [])=H2 at h2 s2 k2 ⊢;have ret:∀{H3:Hp},Keep d H H3→LS K L d H3→znz K [.ref d] H3 Q E0:=fun {H3} k s=>⟨d,L,rfl,s,fun v H' _ _ k' s'=>q v H' (fun b o nb z=>k' _ _ nb (k _ _ nb z)) s'⟩;refine ite2 (fun _=>?_) (fun c=>?_)
  ·refine iteT ?_;exact ⟨_,rfl,ret k2 s2⟩
  ·have hne:fl≠[]:=fun z=>c (yam z);refine ⟨_,rfl,d,L,4,rfl,by decide,s2,fun v H3 _ _ k3 s3=>⟨rfl,_,rfl,?_⟩⟩;have k03:Keep d H H3:=fun b o nb z=>k3 _ _ nb (k2 _ _ nb z);refine ite2 (fun _=>?_) (fun _=>?_)
   ·exact ⟨_,rfl,ret k03 s3⟩
   ·exact ⟨rfl,k3 _ _ hpd h2,hne,k03,s3⟩
 rintro σ' H2 ⟨rfl,h2,hne,k2,s2⟩;have hpos:0 < fl.length:=ybV.mpr hne;refine ⟨_,rfl,_,rfl,_,rfl,_,_,rfl,.inl (SqL.of h2),d,L,_,rfl,by rw[yab];omega,s2,fun v H3 v0 v1 k3 s3=>?_⟩;rw[yab]at v1;obtain ⟨j,rfl⟩:=zh6 v0;have hat:atI (fl.map V.int) (j:Int)=some (.int (fl.getD j 0)):=zaQ (by rw[yaj,yac (show j < fl.length by omega),yad,yac (show j < fl.length by omega)];rfl);refine ⟨_,_,_,_,rfl,rfl,SqL.of (k3 _ _ hpd h2),hat,_,rfl,d,L,3,rfl,by decide,s3,fun v2 H4 _ _ k4 s4=>?_⟩;refine ⟨_,_,rfl,rfl,_,_,rfl,rfl,?_⟩;refine ⟨_,_,rfl,rfl,⟨by decide,by decide,by decide⟩,_,_,rfl,rfl,_,_,rfl,rfl,⟨by decide,by decide,by decide⟩,_,_,rfl,rfl,_,rfl,_,_,rfl,_,_,rfl,?_⟩;exact q _ _ (fun b o nb e=>k4 _ _ nb (k3 _ _ nb (k2 _ _ nb e))) s4
abbrev zrX:Str:=(envOfC ("search_for_key" : Str) (zaj zaR) 0 0 .none).qual ++ "<lambda>"
abbrev zpS:Pos:=⟨171,48,171,89⟩
structure TabS (mF mS:Addr)(H:Hp):Prop where
 f:zbu H mF ze7 zk3
 s:zbu H mS zpS zrX
 n:mF≠mS
theorem TabS.ext {mF mS:Addr}{H H':Hp}(x:TabS mF mS H)(e:Ext H H'):TabS mF mS H':=⟨x.f.ext e,x.s.ext e,x.n⟩
theorem znm {bs:Heap}{g c' mF pf:Addr}{H4:Hp}{ps:List Nat}{rows:List (List Int)}{key:Int}{qs:List Addr}{nm:List Str}{qn:Str}(hV:FV P w K mg bs 2 g nm (zny 2 (tOp (rI0 fun i j=>.bl (decide (i < j))) (tOp (rIxT K) (tOp (rIxL K) (tOp (rIxL K) (tVar 3) (tVar 0)) (tVar 1)) (tC (.int 0))) (tVar 2)) [.int key,.ref pf] c' qn))(hC:zgj H4 c' qn)(t4:zbu H4 mF ze7 zk3)(h4:H4 pf=some (.lst (qs.map V.ref)))(hF4:zaE K H4 ps rows (List.range (ps.length+1)) qs):AskF P w K mg bs g [] mF (fun b=>b≠mF∧H4 b≠none) (fun _ H'=>Gro mF H4 H') ps rows key:=by
 have nm1:∀{x:Addr} {o:HO},H4 x=some o→(∀ tab,o≠.tbl tab)→x≠mF:=fun {x o} e n z=>by
  obtain ⟨tab,e2⟩:=zbE t4;rw[← z,e]at e2;exact n _ (yag e2)
 refine ⟨fun L Ha Hb hR hk b o n e=>hk b o ⟨n,by rw[e];exact fun z=>nomatch z⟩ (hR b o n e),fun L Ha b hR hb=>?_,fun L Ha hR a ha=>absurd ha yaF,fun z=>z.1 rfl,_,_,hV,fun kn i L Ha Q hkn hi _ hR hQ=>⟨rfl,hR _ _ (nm1 hC (fun _ z=>nomatch z)) hC,?_⟩⟩
 ·cases e:H4 b with
  | none=>exact absurd e hb.2
  | some o=>
   rw[hR b o hb.1 e];exact fun z=>nomatch z
 ·obtain ⟨qk,hqk,wk,hwk,hak⟩:=zbA hF4 hkn;have hge:(zak ps rows kn)[i]?=some ((zak ps rows kn).getD i (0,0)):=by
   rw[yad,yac hi];rfl
  obtain ⟨v,hv,bb,x1,x2,rfl,hb,e1,e2⟩:∃ v,wk[i]?=some v∧hasP K H4 ((zak ps rows kn).getD i (0,0)) v:=zci hak hge;have e1':x1=.int ((zak ps rows kn).getD i (0,0)).1:=e1;subst e1';have ha:=hR _ _ (nm1 h4 (fun _ z=>nomatch z)) h4;have hwa:=hR _ _ (nm1 hwk (fun _ z=>nomatch z)) hwk;have hba:=hR _ _ (nm1 hb (fun _ z=>nomatch z)) hb;refine ⟨_,rfl,_,rfl,_,_,_,_,rfl,rfl,SqL.of ha,zaQ (v:=.ref qk) (by rw[yaj,hqk];rfl),_,rfl,_,_,_,_,rfl,rfl,SqL.of hwa,zaQ hv,_,_,_,_,rfl,rfl,SqT.of hba,rfl,_,rfl,_,_,rfl,rfl,?_⟩;exact hQ _ hR fun _ _ _ h=>h
def Kp2 (mF mS:Addr)(H H':Hp):Prop:=∀ b o,b≠mF→b≠mS→H b=some o→H' b=some o
theorem Kp2.kp0 {mF mS:Addr}{H H':Hp}(k:Kp2 mF mS H H')(x:TabS mF mS H):Kp0 H H':=fun b o n e=>k b o (fun z=>by
 obtain ⟨tab,e2⟩:=zbE x.f;rw[← z,e]at e2;exact n _ (yag e2)) (fun z=>by
 obtain ⟨tab,e2⟩:=zbE x.s;rw[← z,e]at e2;exact n _ (yag e2)) e
def zjP (K:Frag)(mF mS:Addr):Sp:=fun vs H Q _=>∃(st t rs pf wa:Addr) (key:Int) (ps:List Nat) (rows:List (List Int)) (as qs:List Addr) (wy:List Nat),vs=[.ref t,.ref pf,.ref wa,.int key]∧zbi H st ps rows t rs as∧H pf=some (.lst (qs.map V.ref))∧zaE K H ps rows (List.range (ps.length+1)) qs∧zdo H wa ps wy∧TabS mF mS H∧
 ∀(D:Addr) (zs:List V) (H':Hp),H D=none→Kp2 mF mS H H'→TabS mF mS H'→H' D=some (.lst zs)→zar K H' (wy.map fun k=>(((zat (zak ps rows k) key:Nat):Int),((ownB rows k key:Nat):Int))) zs→Q (.ref D) H'
theorem zmg (T:Txt K mg){mc mp mF:Addr}(qao:DFT K mg "search_for_key" zaR zaZ mc mp)(hBM:BMAt mg base)(qaC:FC P w K mg base 2 "bridges_of" zbm (zlQ K))(qdD:∀ b,Sub K mg base b→FC P w K mg b 6 "search" zeC (zjH P w K mg b mF)):FC P w K mg base 7 "search_for_key" zaZ (zjP K mF mp):=by
 refine qao.ok qbu (fun vs H Q E h=>?_) (fun f A outer s H vs Q E hr h=>?_)
 ·obtain ⟨st,t,rs,pf,wa,key,ps,rows,as,qs,wy,rfl,_⟩:=h;rfl
 obtain ⟨st,t,rs,pf,wa,key,ps,rows,as,qs,wy,rfl,S,hpf,hF,W,TT,q⟩:=h;refine ⟨_,(zaf (zao (zhY (kf:=1) qdD hr (zaz qaC hr (zaa (pv 0) (zaa (pv 1) zac))) (pv 2) (zo1 (osc:=zaj zaR) (N:=["tree","fulls","way","key"]) (ps:=["knot","at"]) (caps:=["key","fulls"]) (cap:=[3,1]) ⟨rfl,rfl,rfl,by decide +kernel,by decide +kernel,by decide +kernel,by decide +kernel⟩ (by decide +kernel) (by decide +kernel) rfl rfl rfl rfl (fun _ _ _ _ us hl=>match us,hl with | [_,_],_=>rfl) (fun _=>rfl)) rfl qao.hd hBM (fun b _ _ _ _ _ _ _ S hr=>(zhc zh1 (zau (zcP (K:=K)) (zau (zfK (K:=K)) (zau (zfK (K:=K)) (pv 3) (pv 0) (fun _ _=>rfl)) (pv 1) (fun _ _=>rfl)) zae (fun _ _=>rfl)) (pv 2) (zaB _)))))),?_⟩
 refine ⟨_,rfl,_,rfl,st,ps,rows,t,rs,as,pf,qs,rfl,S,hpf,hF,fun br xs H3 hbr s3 h3 hB=>?_⟩;have T3:=TT.ext s3.ext;refine ⟨_,rfl,T3.s,[.int key,.ref pf],rfl,?_,fun bs g c' H4 hg hT4 hC SB hV=>?_⟩
 ·intro j i v h1 h2;rcases j with _ | _ | j
  ·cases h1;cases h2;rfl
  ·cases h1;cases h2;rfl
  ·cases h1
 have nmS:∀{x:Addr} {o:HO},H3 x=some o→(∀ tab,o≠.tbl tab)→x≠mp:=fun {x o} e n z=>by
  obtain ⟨tab,e2⟩:=zbE T3.s;rw[← z,e]at e2;exact n _ (yag e2)
 have k34:Kp0 H3 H4:=fun b o n e=>hg _ _ (nmS e n) e;have t4:zbu H4 mF ze7 zk3:=T3.f.gro hg T3.n (zbE T3.s);have nm1:∀{x:Addr} {o:HO},H4 x=some o→(∀ tab,o≠.tbl tab)→x≠mF:=fun {x o} e n z=>by
  obtain ⟨tab,e2⟩:=zbE t4;rw[← z,e]at e2;exact n _ (yag e2)
 have kp04:Kp0 H H4:=Kp0.trans (.of s3) k34;have h4:=kp04.lst hpf;have hF4:=zkm kp04 hF;have AF:=znm hV hC t4 h4 hF4;have SE:zb3 [] mF (fun _ H'=>Gro mF H4 H') ps rows br xs [] H4:=⟨Gro.refl _ _,fun a ha=>absurd ha yaF,k34.lst h3,yaF,zrC k34 hB,t4⟩;refine ⟨br,wa,g,xs,ps,rows,wy,key,[],_,_,[],rfl,AF,SE,S.T,S.R,S.few,zoB kp04 W,yaF,yaE _,(fun k hk=>by have:=ze9 S.T S.len (rows:=rows) hk;have:=S.keys;omega),fun D zs H5 L' S5 k5 hDn h5 hA _=>?_⟩;have k45:Gro mF H4 H5:=fun b o n e=>k5 b o yaF n e;have kp45:Kp0 H4 H5:=fun b o n e=>k45 _ _ (nm1 e n) e;refine q D zs H5 ?_ (fun b o n1 n2 e=>k45 _ _ n1 (hg _ _ n2 (s3 _ _ e))) ⟨S5.tb,hT4.gro k45 (Ne.symm TT.n) (zbE t4),TT.n⟩ h5 hA;cases e:H D with
 | none=>rfl
 | some o=>
  by_cases z:D=mp
  ·obtain ⟨tab,e2⟩:=zbE hT4;rw[z,e2]at hDn;cases hDn
  ·have:=hg _ _ z (s3 _ _ e);rw[hDn]at this;cases this
def zgN (H:Hp)(ps:List Nat)(rows:List (List Int))(key:Int)(k:Nat)(z:V):Prop:=∃ t,z=.ref t∧H t=some (.tup [.int (k:Nat),.int ((zat (zak ps rows k) key:Nat):Int),.int ((ownB rows k key:Nat):Int)])
def zlH (K:Frag)(mF mS:Addr):Sp:=fun vs H Q _=>∃(st wa:Addr) (key:Int) (ps:List Nat) (rows:List (List Int)) (t rs:Addr) (as:List Addr) (wy:List Nat),vs=[.ref st,.ref wa,.int key]∧zbi H st ps rows t rs as∧zdo H wa ps wy∧TabS mF mS H∧
 ∀(D:Addr) (zs:List V) (H':Hp),H D=none→Kp2 mF mS H H'→TabS mF mS H'→H' D=some (.lst zs)→Paired (zgN H' ps rows key) wy zs→Q (.ref D) H'
theorem zpb {K:Frag}{wa D D2:Addr}{H2:Hp}{ps:List Nat}{rows:List (List Int)}{key:Int}{wy:List Nat}{zs:List V}{y0 y1:Option V}{Q:Hp→Prop}(W2:zdo H2 wa ps wy)(h2:H2 D=some (.lst zs))(hA:zar K H2 (wy.map fun k=>(((zat (zak ps rows k) key:Nat):Int),((ownB rows k key:Nat):Int))) zs)(hD2:H2 D2=none)(q:∀ us H3,Same H2 H3→H3 D2=some (.lst us)→Paired (zgN H3 ps rows key) wy us→Q H3) :
  ∃ W:Nat→Nat→L2.St→Hp→Prop,(∃ m,W 0 m [y0,y1] (upd H2 D2 (.lst [])))∧∀ i m σ H,W i m σ H→((Itz K wa D).stop i H∧Q H)∨((Itz K wa D).go i H∧∀ x H',(Itz K wa D).yld i H x H'→gTup K 2 (zp5 (zhw 0) (zp5 (zhw 1) gNil)) x σ H' fun σ2 H2=>tYes σ2 H2 fun b H3=>if b=true then tTup (zkH (tVar 0) (zkH (tOp (rIxT K) (tVar 1) (tC (.int 0))) (zkH (tOp (rIxT K) (tVar 1) (tC (.int 1))) tNil))) σ2 H3 fun y H4=>∃ xs,H4 D2=some (.lst xs)∧xs.length < sizeLine∧∃ m',m' < m∧W (i+1) m' σ2 (upd H4 D2 (.lst (xs++[y]))) else ∃ m',m' < m∧W (i+1) m' σ2 H3):=by
 have hwl:=W2.len;have hzl:=hA.length;rw[yab]at hzl;refine zkr (xs:=wy.map nV) (ys:=zs) (by rw[yab];exact hzl) (fun i σ H3=>∃(x0 x1:Option V) (us:List V),σ=[x0,x1]∧H3 D2=some (.lst us)∧Paired (zgN H3 ps rows key) (wy.take i) us∧But D2 H2 H3) ?_ ?_ ?_ ?_
 ·exact ⟨_,_,[],rfl,zad,.nil,fun b o n e=>by rw[zah n];exact e⟩
 ·rintro i σ H3 _ ⟨x0,x1,us,rfl,_,_,k3⟩;exact ⟨k3.sq (SqL.of W2.at_) hD2,k3.sq (SqL.of h2) hD2⟩
 ·rintro i m x y σ H3 r hx hy hm ⟨x0,x1,us,rfl,h3,hP,k3⟩ hr;have hi:=(yao.mp hx).1;rw[yab]at hi hm;rw[zjA hi]at hx;obtain rfl:=yag hx;have s23:Same H2 H3:=fun b o e=>k3 b o (zab e hD2) e;obtain ⟨e,he,hh⟩:=hA.get hy;rw[yaj,yac hi]at he;obtain rfl:=yag he;obtain ⟨a,y1,y2,rfl,ha,e1,e2⟩:=(show hasP K H2 _ y from hh);have e1':y1=.int ((zat (zak ps rows wy[i]) key:Nat):Int):=e1;have e2':y2=.int ((ownB rows wy[i] key:Nat):Int):=e2;subst e1' e2';have hul:=Paired.length hP;rw[yar]at hul;have sr:=zai hr (.tup [nV (wy.getD i 0),.ref a]);refine ⟨r,_,rfl,SqT.of zad,rfl,_,_,rfl,_,_,rfl,rfl,?_⟩;have h4a:=sr _ _ (s23 _ _ ha);refine zlz (iteT ?_);refine ⟨_,rfl,_,rfl,_,_,_,_,rfl,rfl,SqT.of h4a,rfl,_,rfl,_,_,_,_,rfl,rfl,SqT.of h4a,rfl,(by show 3≤sizeLine;decide),fun p hp=>?_⟩;have eg:wy.getD i 0=wy[i]:=by rw[yad,yac hi];rfl
  have hpp:upd (upd H3 r (.tup [nV (wy.getD i 0),.ref a])) p (.tup [nV (wy.getD i 0),.int ((zat (zak ps rows wy[i]) key:Nat):Int),.int ((ownB rows wy[i] key:Nat):Int)]) p=some (.tup [nV (wy.getD i 0),.int ((zat (zak ps rows wy[i]) key:Nat):Int),.int ((ownB rows wy[i] key:Nat):Int)]):=zad;have s35:=sr.trans (zai hp (.tup [nV (wy.getD i 0),.int ((zat (zak ps rows wy[i]) key:Nat):Int),.int ((ownB rows wy[i] key:Nat):Int)]));generalize upd (upd H3 r (.tup [nV (wy.getD i 0),.ref a])) p (.tup [nV (wy.getD i 0),.int ((zat (zak ps rows wy[i]) key:Nat):Int),.int ((ownB rows wy[i] key:Nat):Int)])=H5 at hpp s35 ⊢;have h5D:=s35 _ _ h3;have nD:∀{x:Addr} {us:List V},H5 x=some (.tup us)→x≠D2:=fun {x us} h z=>by
   rw[z,h5D]at h;cases h
  refine ⟨_,h5D,zap (by omega),m - 1,by omega,by rw[yab];omega,_,_,us++[.ref p],rfl,zad,?_,fun b o n e=>by rw[zah n];exact s35 _ _ (k3 b o n e)⟩;rw[yaH hi];refine zco (zaL (fun _ _ zq0=>(by obtain ⟨t,e1,e2⟩:=zq0;exact ⟨t,e1,by rw[zah (nD (s35 _ _ e2))];exact s35 _ _ e2⟩)) hP) ⟨p,rfl,?_⟩;rw[zah (nD hpp),hpp,eg]
 rintro σ H3 ⟨x0,x1,us,rfl,h3,hP,k3⟩;rw[yab,yat (yaa _)]at hP;exact q us H3 (fun b o e=>k3 b o (zab e hD2) e) h3 hP
theorem znO (T:Txt K mg){mF mS:Addr}(qaI:DF K mg "paper_of" zcX zbQ)(qaB:FC P w K mg base 4 "need_way" za5 (zlJ K))(qau:FC P w K mg base 8 "full_rows" zbc (ziN K))(qaE:FC P w K mg base 7 "search_for_key" zaZ (zjP K mF mS)):FC P w K mg base 9 "paper_of" zbQ (zlH K mF mS):=by
 refine qaI.ok qaV (fun vs H Q E h=>?_) (fun f cdv A outer s H vs Q E hr h=>?_)
 ·obtain ⟨st,wa,key,ps,rows,t,rs,as,wy,rfl,_⟩:=h;rfl
 obtain ⟨st,wa,key,ps,rows,t,rs,as,wy,rfl,S,W,TT,q⟩:=h;refine ⟨_,(zag (zbd (zaz qaB hr (zaa (zau zaF (pv 0) zae (fun _ _=>rfl)) (zaa (pv 1) zac))))
   (zag (zas (i:=3) qaV.nd rfl (Or.inl rfl) (zaz qaE hr (zaa (zau zaF (pv 0) zae (fun _ _=>rfl)) (zaa (zaz qau hr (zaa (pv 0) zac)) (zaa (pv 1) (zaa (pv 2) zac))))))
   (zaf (zao (zbr (N:=["knot","each"]) (own:=2) (cap:=[]) rfl (zgv rfl T.qc0 (zaa (pv 1) (zaa (pv 3) zac))) ⟨rfl,rfl,rfl,rfl,rfl,rfl⟩ (fun _ _ _ _ _=>(zfX (K:=K) (n:=2) rfl (zaM (zan (i:=0) (show List.Nodup (["knot","each"]:List Str) by decide +kernel) rfl (Or.inl rfl)) (zaM (zan (i:=1) (show List.Nodup (["knot","each"]:List Str) by decide +kernel) rfl (Or.inl rfl)) zcN)))) (fun _ _ _ _ _=>zbp) (fun _ _ _ _ _=>(zbB (zaa (pv 0) (zaa (zau (zcP (K:=K)) (pv 1) zae (fun _ _=>rfl)) (zaa (zau (zcP (K:=K)) (pv 1) zae (fun _ _=>rfl)) zac)))))))))),?_⟩
 have hwl:=W.len;refine ⟨_,rfl,_,_,_,_,rfl,rfl,SqT.of S.st,rfl,_,rfl,t,wa,ps,wy,rfl,S.tr,by have:=S.few;omega,W,?_⟩;refine ⟨_,rfl,_,_,_,_,rfl,rfl,SqT.of S.st,rfl,_,rfl,st,ps,rows,t,rs,as,rfl,S,fun pf qs H1 hpf s1 h1 _ _ _ hF=>?_⟩;refine ⟨_,rfl,_,rfl,st,t,rs,pf,wa,key,ps,rows,as,qs,wy,rfl,S.same s1,h1,hF,W.same s1,TT.ext s1.ext,fun D zs H2 hDn k2 T2 h2 hA=>?_⟩;have kp2':Kp2 mF mS H H2:=fun b o n1 n2 e=>k2 b o n1 n2 (s1 _ _ e);have kp2:Kp0 H H2:=kp2'.kp0 TT;have W2:=zoB kp2 W;have hzl:=hA.length;rw[yab]at hzl;refine ⟨_,rfl,_,rfl,wa,D,rfl,⟨_,SqL.of W2.at_⟩,⟨_,SqL.of h2⟩,fun D2 hD2=>?_⟩;refine zpb W2 h2 hA hD2 fun us H3 s23 h3 hP=>?_;refine q D2 us H3 ?_ (fun b o n1 n2 e=>s23 _ _ (kp2' b o n1 n2 e)) (T2.ext s23.ext) h3 hP;cases e:H D2 with
 | none=>rfl
 | some o=>
  have h:D2≠mF∧D2≠mS:=by
   constructor
   ·intro z;obtain ⟨tab,e2⟩:=zbE T2.f;rw[← z,hD2]at e2;cases e2
   ·intro z;obtain ⟨tab,e2⟩:=zbE T2.s;rw[← z,hD2]at e2;cases e2
  have:=kp2' _ _ h.1 h.2 e;rw[hD2]at this;cases this
abbrev Tr3:=Int×Int×Int
inductive zdI (K:Frag)(H:Hp):V→Option Tr3→Prop where
 | good (u:Addr) (a b c:Int) (h:H u=some (.tup [.int a,.int b,.int c])):zdI K H (.ref u) (some (a,b,c))
 | kind (x:V) (t:String) (ty:TyOf K H x (.type t)) (h:kitO t "tuple" = some false):zdI K H x none
 | long (u:Addr) (zs:List V) (h:H u=some (.tup zs)) (hz:zs.length≠3):zdI K H (.ref u) none
 | part (u:Addr) (x y z:V) (b1 b2 b3:Bool) (h:H u=some (.tup [x,y,z])) (h1:zby K H x b1) (h2:zby K H y b2) (h3:zby K H z b3) (hf:(b1 && b2 && b3)=false):zdI K H (.ref u) none
def zjN (K:Frag):Sp:=fun vs H Q _=>∃(x:V) (o:Option Tr3),vs=[x]∧zdI K H x o∧∀ H',Same H H'→Q (.bl o.isSome) H'
theorem _root_.L2.TyOf.same {K:Frag}{H H':Hp}{x:V}{n:String}(s:Same H H')(h:TyOf K H x (.type n)):TyOf K H' x (.type n):=by
 cases h with
 | non=>exact .non
 | bl b=>exact .bl b
 | int i=>exact .int i
 | str y=>exact .str y
 | flt y=>exact .flt y
 | lst e=>exact .lst (s _ _ e)
 | frz e=>exact .frz (s _ _ e)
 | tup e=>exact .tup (s _ _ e)
 | dK e=>exact .dK (s _ _ e)
 | dT e=>exact .dT (s _ _ e)
theorem zby.same {K:Frag}{H H':Hp}{x:V}{b:Bool}(s:Same H H')(h:zby K H x b):zby K H' x b:=by
 cases h with
 | int i=>exact .int i
 | bl b=>exact .bl b
 | oth x t ty h2=>exact .oth x t (ty.same s) h2
theorem zdI.same {K:Frag}{H H':Hp}{x:V}{o:Option Tr3}(s:Same H H')(h:zdI K H x o):zdI K H' x o:=by
 cases h with
 | good u a b c h=>exact .good u a b c (s _ _ h)
 | kind x t ty h=>exact .kind x t (ty.same s) h
 | long u zs h hz=>exact .long u zs (s _ _ h) hz
 | part u x y z b1 b2 b3 h h1 h2 h3 hf=>exact .part u x y z b1 b2 b3 (s _ _ h) (h1.same s) (h2.same s) (h3.same s) hf
theorem zpV {c A B:Prop}[Decidable c](hc:¬ c)(h:A):if (!decide c)=true then A else B:=by
 rw[yaq hc];exact h
theorem zme (T:Txt K mg)(qbV:DF K mg "is_line" zew zcZ)(qaT:FC P w K mg base 1 "is_whole" zbR (zgW K)):FC P w K mg base 2 "is_line" zcZ (zjN K):=by
 refine qbV.ok qcX (fun vs H Q E h=>?_) (fun f cdv A outer s H vs Q E hr h=>?_)
 ·obtain ⟨x,o,rfl,_⟩:=h;rfl
 obtain ⟨x,o,rfl,hL,q⟩:=h;refine ⟨_,(zaJ (za6 (PW.pt (zgk (zck (zbN (zal zdi rfl T.qae boot_isinstance (zaa (pv 0) (zaa (zdw (v:=.ty "tuple") rfl T.qbJ boot_tuple rfl) zac))))) (zd4 (zav zhj (zal zam rfl T.qaz boot_len (zaa (pv 0) zac)) zae (zaB _))))) (zaf (zao zb2)) zaA)
   (zaf (zao (zal (zdF rfl) rfl T.qc4 boot_all (zaa (zbr (N:=["part"]) (own:=1) (cap:=[]) rfl (zgw (pv 0)) ⟨rfl,rfl,rfl,rfl,rfl,rfl⟩ (fun _ _ _ _ _=>(zan (i:=0) (show List.Nodup (["part"]:List Str) by decide +kernel) rfl (Or.inl rfl))) (fun _ _ _ _ _=>zbp) (fun _ _ _ _ _=>(zaz qaT hr (zaa (pv 0) zac)))) zac))))),?_⟩
 have key:(∃ t,TyOf K H x (.type t)∧kitO t "tuple" = some false∧o.isSome=false)∨(∃ u zs,x=.ref u∧H u=some (.tup zs)∧zs.length≠3∧o.isSome=false)∨∃ u x1 x2 x3 b1 b2 b3,x=.ref u∧H u=some (.tup [x1,x2,x3])∧zby K H x1 b1∧zby K H x2 b2∧zby K H x3 b3∧o.isSome=(b1 && b2 && b3):=by
  cases hL with
  | good u a b c h=>exact .inr (.inr ⟨u,_,_,_,true,true,true,rfl,h,.int a,.int b,.int c,rfl⟩)
  | kind x t ty h=>exact .inl ⟨t,ty,h,rfl⟩
  | long u zs h hz=>exact .inr (.inl ⟨u,zs,rfl,h,hz,rfl⟩)
  | part u x y z b1 b2 b3 h h1 h2 h3 hf=>exact .inr (.inr ⟨u,x,y,z,b1,b2,b3,rfl,h,h1,h2,h3,hf.symm⟩)
 clear hL;rcases key with ⟨t,ty,hk,e⟩ | ⟨u,zs,rfl,hu,hz,e⟩ | ⟨u,x1,x2,x3,b1,b2,b3,rfl,hu,h1,h2,h3,e⟩
 ·rw[e]at q;refine ⟨fun _ _=>False,?_,fun _ _ z=>z.elim⟩;refine ⟨_,rfl,_,_,_,_,rfl,ty,hk,_,rfl,?_⟩;exact iteT (q H fun _ _ e=>e)
 ·rw[e]at q;refine ⟨fun _ _=>False,?_,fun _ _ z=>z.elim⟩;refine ⟨_,rfl,_,_,_,_,rfl,.tup hu,zo2,_,rfl,?_⟩;refine iteF ?_;refine ⟨_,rfl,_,_,rfl,.inr (SqT.of hu),rfl,_,rfl,?_⟩;refine zpV (fun z=>hz (by have:=V.int.inj z;omega)) (q H fun _ _ e=>e)
 ·rw[e]at q;refine ⟨fun σ' H'=>σ'=[some (.ref u)]∧H=H',?_,?_⟩
  ·refine ⟨_,rfl,_,_,_,_,rfl,.tup hu,zo2,_,rfl,?_⟩;refine iteF ?_;refine ⟨_,rfl,_,_,rfl,.inr (SqT.of hu),rfl,_,rfl,?_⟩;exact zi6 rfl ⟨rfl,rfl⟩
  rintro _ _ ⟨rfl,rfl⟩;refine ⟨_,rfl,u,rfl,⟨_,SqT.of hu⟩,fun D hD=>?_⟩;have hget:∀(i:Nat) (v:V),[x1,x2,x3][i]?=some v→∃ b,[b1,b2,b3][i]?=some b∧zby K H v b:=fun i v hv=>by
   rcases i with _ | _ | _ | i
   ·cases hv;exact ⟨_,rfl,h1⟩
   ·cases hv;exact ⟨_,rfl,h2⟩
   ·cases hv;exact ⟨_,rfl,h3⟩
   ·cases hv
  refine zhA (xs:=[x1,x2,x3]) (fun i σ H2=>∃ x0:Option V,σ=[x0]∧H2 D=some (.lst (([b1,b2,b3].take i).map V.bl))∧But D H H2) ?_ ?_ ?_ ?_
  ·exact ⟨_,rfl,zad,fun b o n e=>by rw[zah n];exact e⟩
  ·rintro i σ H2 _ ⟨x0,rfl,_,k2⟩;exact SqT.of (k2 _ _ (zab hu hD) hu)
  ·rintro i m v σ H2 hv hm ⟨x0,rfl,h2',k2⟩;have hi:=(yao.mp hv).1;obtain ⟨b,hb,hw⟩:=hget i v hv;have s2:Same H H2:=fun b o e=>k2 b o (zab e hD) e;have hm3:i+m=3:=hm;have hi3:i < 3:=hi;refine zd8 ?_;refine ⟨_,rfl,_,b,rfl,hw.same s2,_,h2',zap (by rw[yab,yar];omega),m - 1,by omega,(by show i+1+(m - 1)=3;omega),_,rfl,?_,fun b o n e=>by rw[zah n];exact k2 b o n e⟩;obtain ⟨hj,rfl⟩:=yao.mp hb;rw[zad,yaH hj,yan];rfl
  ·rintro σ H2 ⟨x0,rfl,h2',k2⟩;refine ⟨D,[b1,b2,b3],rfl,SqL.of h2',?_⟩;have:=q H2 fun b o e=>k2 b o (zab e hD) e;have e3:[b1,b2,b3].all id=(b1 && b2 && b3):=by cases b1 <;> cases b2 <;> cases b3 <;> rfl
   rw[e3];exact this
def zhP (K:Frag):Sp:=fun vs H Q _=>∃(q:Addr) (at_ key:Int) (ws:List V) (es:List En),vs=[.ref q,.int at_,.int key]∧H q=some (.lst ws)∧zar K H es ws∧Rise es∧es.length≤2000∧Q (.bl (decide (at_=((zat es key:Nat):Int)))) H
theorem zkS (T:Txt K mg)(qaY:DF K mg "is_place_in" zb8 zbs):FC P w K mg base 1 "is_place_in" zbs (zhP K):=by
 refine qaY.ok qb5 (fun vs H Q E h=>?_) (fun f cdv A outer s H vs Q E hr h=>?_)
 ·obtain ⟨q,a,key,ws,es,rfl,_⟩:=h;rfl
 obtain ⟨q,a,key,ws,es,rfl,hq,hw,hr',hz,Q0⟩:=h;refine ⟨_,(zaJ (za6 (zck (znD zkQ zkQ zae (pv 1) (zal zam rfl T.qaz boot_len (zaa (pv 0) zac)))) (zaf (zao zb2)) zaA)
   (zaJ (za6 (PW.pt (zhV (zav zkR (pv 1) zae (zaB _)) (zfU (zav znM (zau zaF (zau zay (pv 0) (zaw zbO (pv 1) zae) (fun _ _=>rfl)) zae (fun _ _=>rfl)) (pv 2) (zaB _))))) (zaf (zao zb2)) zaA)
   (zaf (zao (zrV (zhc zdx (pv 1) (zal zam rfl T.qaz boot_len (zaa (pv 0) zac)) (zaB _)) (zjZ (zhc znM (zau zaF (zau zay (pv 0) (pv 1) (fun _ _=>rfl)) zae (fun _ _=>rfl)) (pv 2) (zaB _)))))))),?_⟩
 have wl:=hw.length;have hF:=zdM hr';have hle:=zb0 es key;have hget:∀ i,i < es.length→∃ b e y,ws[i]?=some (.ref b)∧es[i]?=some e∧H b=some (.tup [.int e.1,y])∧(e.1 < key↔i < zat es key):=fun i hi=>by
  obtain ⟨v,hv⟩:∃ v,ws[i]?=some v:=⟨_,yac (by omega)⟩;obtain ⟨e,he,b,y1,y2,rfl,hb,f1,f2⟩:=hw.get hv;have e1:y1=.int e.1:=f1;subst e1;refine ⟨b,e,y2,hv,he,hb,?_⟩;obtain ⟨hi',rfl⟩:=yao.mp he;obtain ⟨z1,z2⟩:=zcx (key:=key) hF;constructor
  ·intro h;refine ycs fun c=>?_;refine z2 es[i] ?_ h;rw[List.mem_drop_iff_getElem];exact ⟨i - zat es key,by omega,by congr 1;omega⟩
  ·intro h;refine z1 es[i] ?_;rw[ycz];exact ⟨i,by omega,rfl⟩
 have no:a≠((zat es key:Nat):Int)→Q (.bl false) H:=fun z=>by
  rw[yaq z]at Q0;exact Q0
 refine ⟨fun σ' H'=>σ'=[some (.ref q),some (.int a),some (.int key)]∧H=H'∧0≤a∧a≤(es.length:Int),?_,?_⟩
 ·refine ⟨_,rfl,_,_,rfl,rfl,_,rfl,?_⟩;refine ite2 (fun c=>?_) (fun c=>?_)
  ·have c':(0:Int)≤a:=yaD c;refine ⟨_,rfl,_,_,rfl,.inl (SqL.of hq),_,_,rfl,rfl,_,rfl,?_⟩;rw[← wl];by_cases c2:a≤(es.length:Int)
   ·rw[yam c2];exact iteF ⟨rfl,rfl,c',c2⟩
   ·rw[yaq c2];exact iteT (no (by omega))
  ·have c':¬ (0:Int)≤a:=fun z=>c (yam z);exact ⟨_,rfl,iteT (no (by omega))⟩
 rintro _ _ ⟨rfl,rfl,h0,h1⟩;obtain ⟨n,rfl⟩:∃ n:Nat,a=n:=⟨a.toNat,by omega⟩;refine ⟨fun σ' H'=>σ'=[some (.ref q),some (.int n),some (.int key)]∧H=H'∧n≤zat es key,?_,?_⟩
 ·refine ⟨_,rfl,_,_,rfl,rfl,_,rfl,?_⟩;refine ite2 (fun c=>?_) (fun c=>?_)
  ·have c':(0:Int) < (n:Int):=yaD c;obtain ⟨b,e,y,hb1,hb2,hb3,hb4⟩:=hget (n - 1) (by omega);have hat:atI ws ((n:Int) - 1)=some (.ref b):=by
    rw[show (n:Int) - 1=((n - 1:Nat):Int) by omega];exact zaQ hb1
   refine ⟨_,rfl,_,rfl,_,_,rfl,rfl,_,_,_,_,rfl,rfl,SqL.of hq,hat,_,_,_,_,rfl,rfl,SqT.of hb3,rfl,_,rfl,_,_,rfl,rfl,_,rfl,?_⟩;by_cases c2:key≤e.1
   ·rw[yam c2];exact iteT (no (by omega))
   ·rw[yaq c2];exact iteF ⟨rfl,rfl,by omega⟩
  ·have c':¬ (0:Int) < (n:Int):=fun z=>c (yam z);exact iteF ⟨rfl,rfl,by omega⟩
 rintro _ _ ⟨rfl,rfl,hn⟩;refine ⟨_,rfl,_,rfl,_,_,rfl,.inl (SqL.of hq),rfl,_,rfl,?_⟩;rw[← wl];by_cases c:n=es.length
 ·rw[yam (show V.int (n:Int)=V.int (es.length:Int) by rw[c])];refine iteT ?_;rw[yam (show (n:Int)=((zat es key:Nat):Int) by omega)]at Q0;exact Q0
 ·rw[yaq (fun z=>c (by have:=V.int.inj z;omega))];refine iteF ?_;obtain ⟨b,e,y,hb1,hb2,hb3,hb4⟩:=hget n (by omega);refine ⟨_,rfl,_,rfl,_,_,_,_,rfl,rfl,SqL.of hq,zaQ hb1,_,_,_,_,rfl,rfl,SqT.of hb3,rfl,_,rfl,_,_,rfl,rfl,?_⟩;have e1:decide (key≤e.1)=decide ((n:Int)=((zat es key:Nat):Int)):=by
   rw[ybX,decide_eq_true_iff,decide_eq_true_iff];omega
  show Q (.bl (decide (key≤e.1))) H;rw[e1];exact Q0
def zoK (K:Frag):Sp:=fun vs H Q _=>∃(br u v:Addr) (ps:List Nat) (rows:List (List Int)) (xs:List V) (k c:Nat) (key:Int),vs=[.ref br,.ref u,.ref v]∧H br=some (.lst xs)∧Paired (BrAt [] H ps rows) (List.range (ps.length+1)) xs∧zaC ps∧za1 rows∧ps.length≤40∧k < ps.length+1∧par ps c=some k∧zgN H ps rows key k (.ref u)∧zgN H ps rows key c (.ref v)∧∀ H',Same H H'→Q (.bl true) H'
theorem zpE (T:Txt K mg)(qaL:DF K mg "is_near_start" zbG za8)(qbz:FC P w K mg base 1 "start_in" zcl (ziL K)):FC P w K mg base 2 "is_near_start" za8 (zoK K):=by
 refine qaL.ok qa1 (fun vs H Q E h=>?_) (fun f cdv A outer s H vs Q E hr h=>?_)
 ·obtain ⟨br,u,v,ps,rows,xs,k,c,key,rfl,_⟩:=h;rfl
 obtain ⟨br,u,v,ps,rows,xs,k,c,key,rfl,hbr,hB,hT,hR,few,hk,hc,⟨u',e1,hu⟩,⟨v',e2,hv⟩,q⟩:=h;cases e1
 cases e2
 refine ⟨_,(zag (zas (i:=3) qa1.nd rfl (Or.inl rfl) (zaz qbz hr (zaa (pv 0) (zaa (zau zaF (pv 1) zae (fun _ _=>rfl)) (zaa (zau zaF (pv 1) zae (fun _ _=>rfl)) (zaa (zau zaF (pv 2) zae (fun _ _=>rfl)) zac))))))
   (zaf (zao (zhd zkQ zkQ (pv 3) (zau zaF (pv 2) zae (fun _ _=>rfl)) (zaw zbe (pv 3) (zfJ rfl T.qaJ)))))),?_⟩
 refine ⟨_,rfl,_,rfl,_,_,_,_,rfl,rfl,SqT.of hu,rfl,_,rfl,_,_,_,_,rfl,rfl,SqT.of hu,rfl,_,rfl,_,_,_,_,rfl,rfl,SqT.of hv,rfl,[],br,ps,rows,xs,k,c,zat (zak ps rows k) key,rfl,hbr,hB,hT,hk,hc,zb0 _ _,fun H1 s1=>?_⟩;refine ⟨_,rfl,_,rfl,_,_,_,_,rfl,rfl,SqT.of (s1 _ _ hv),rfl,_,_,rfl,rfl,_,rfl,?_⟩;have NO:=zmo hT hR few hk hc (rows:=rows) key;have n1:=NO.lo;have n2:=NO.hi;rw[yam (show ((stN (zak ps rows c) ((zak ps rows k).take (zat (zak ps rows k) key)):Nat):Int)≤((zat (zak ps rows c) key:Nat):Int) by omega)];refine iteT ?_;refine ⟨_,rfl,_,_,rfl,rfl,_,_,rfl,rfl,?_⟩;show Q (.bl (decide _)) H1;rw[yam (show ((zat (zak ps rows c) key:Nat):Int)≤((stN (zak ps rows c) ((zak ps rows k).take (zat (zak ps rows k) key)):Nat):Int)+2 by omega)];exact q _ s1
theorem zow {os:List (Option Tr3)}(h:∀ o∈os,o.isSome=true):∃ ts:List Tr3,os=ts.map some:=by
 induction os with
 | nil=>exact ⟨[],rfl⟩
 | cons o os ih=>
  obtain ⟨ts,e⟩:=ih fun x hx=>h x (yas _ hx);obtain ⟨t,et⟩:=ybC.mp (h o yak);exact ⟨t::ts,by rw[e,et];rfl⟩
theorem zdI.some_at {K:Frag}{H:Hp}{x:V}{t:Tr3}(h:zdI K H x (some t)):∃ u,x=.ref u∧H u=some (.tup [.int t.1,.int t.2.1,.int t.2.2]):=by
 cases h with
 | good u a b c h=>exact ⟨u,rfl,h⟩
def zkF (ps:List Nat)(rows:List (List Int))(key:Int)(k:Nat):Tr3:=((k:Int),((zat (zak ps rows k) key:Nat):Int),((ownB rows k key:Nat):Int))
def dueO (ps:List Nat)(rows:List (List Int))(key:Int)(wy:List Nat):List (Option Tr3):=wy.map fun k=>some (zkF ps rows key k)
def zoL (K:Frag):Sp:=fun vs H Q _=>∃(st wa pp:Addr) (key:Int) (ps:List Nat) (rows:List (List Int)) (t rs:Addr) (as:List Addr) (wy:List Nat) (zs:List V) (os:List (Option Tr3)),vs=[.ref st,.ref wa,.int key,.ref pp]∧zbi H st ps rows t rs as∧zdo H wa ps wy∧H pp=some (.lst zs)∧Paired (zdI K H) zs os∧zs.length≤200∧∀ H',Same H H'→Q (.bl (decide (os=dueO ps rows key wy))) H'
theorem zpH (T:Txt K mg)(qaU:DF K mg "lets_by" zds zch)(qaB:FC P w K mg base 4 "need_way" za5 (zlJ K))(qbW:FC P w K mg base 2 "is_line" zcZ (zjN K))(qau:FC P w K mg base 8 "full_rows" zbc (ziN K))(qaC:FC P w K mg base 2 "bridges_of" zbm (zlQ K))(qaZ:FC P w K mg base 1 "is_place_in" zbs (zhP K))(qaM:FC P w K mg base 2 "is_near_start" za8 (zoK K)):FC P w K mg base 9 "lets_by" zch (zoL K):=by
 refine qaU.ok qaw (fun vs H Q E h=>?_) (fun f cdv A outer s H vs Q E hr h=>?_)
 ·obtain ⟨st,wa,pp,key,ps,rows,t,rs,as,wy,zs,os,rfl,_⟩:=h;rfl
 obtain ⟨st,wa,pp,key,ps,rows,t,rs,as,wy,zs,os,rfl,S,W,hpp,hP,hz,q⟩:=h;refine ⟨_,(zbY (zbd (zaz qaB hr (zaa (zau zaF (pv 0) zae (fun _ _=>rfl)) (zaa (pv 1) zac))))
   (zeA (za6 (PW.pt (zgk (zck (zbN (zal zdi rfl T.qae boot_isinstance (zaa (pv 3) (zaa (zdw (v:=.ty "list") rfl T.qbI boot_list rfl) zac))))) (zd4 (zck (zbN (zal (zdF rfl) rfl T.qc4 boot_all (zaa (zbr (N:=["thing"]) (own:=1) (cap:=[]) rfl (zbq (pv 3)) ⟨rfl,rfl,rfl,rfl,rfl,rfl⟩ (fun _ _ _ _ _=>(zan (i:=0) (show List.Nodup (["thing"]:List Str) by decide +kernel) rfl (Or.inl rfl))) (fun _ _ _ _ _=>zbp) (fun _ _ _ _ _=>(zaz qbW hr (zaa (pv 0) zac)))) zac))))))) (zaf (zao zb2)) zaA)
   (zeA (za6 (zav (zl4 (List Int) (huD hr)) (zbr (N:=["line"]) (own:=1) (cap:=[]) rfl (zbq (pv 3)) ⟨rfl,rfl,rfl,rfl,rfl,rfl⟩ (fun _ _ _ _ _=>(zan (i:=0) (show List.Nodup (["line"]:List Str) by decide +kernel) rfl (Or.inl rfl))) (fun _ _ _ _ _=>zbp) (fun _ _ _ _ _=>(zau (zcP (K:=K)) (pv 0) zae (fun _ _=>rfl)))) (pv 1) (zaB _)) (zaf (zao zb2)) zaA)
   (zbY (zas (i:=4) qaw.nd rfl (Or.inl rfl) (zaz qau hr (zaa (pv 0) zac)))
   (zbY (zas (i:=5) qaw.nd rfl (Or.inr rfl) (zaz qaC hr (zaa (zau zaF (pv 0) zae (fun _ _=>rfl)) (zaa (pv 4) zac))))
   (zbY (za2 PassesOwn.never rfl (zbq (pv 3)) (zan (i:=6) qaw.nd rfl (Or.inl rfl)) (zaf (za6 (PW.pt (zgk (zck (zbN (zaz qaZ hr (zaa (zau zay (pv 4) (zau zaF (pv 6) zae (fun _ _=>rfl)) (fun _ _=>rfl)) (zaa (zau zaF (pv 6) zae (fun _ _=>rfl)) (zaa (pv 2) zac)))))) (zd4 (zav zhj (zau zaF (pv 6) zae (fun _ _=>rfl)) (zau zay (zau zaF (zau zay (pv 5) (zau zaF (pv 6) zae (fun _ _=>rfl)) (fun _ _=>rfl)) zae (fun _ _=>rfl)) (zau zaF (pv 6) zae (fun _ _=>rfl)) (fun _ _=>rfl)) (zaB _))))) (zaf (zao zb2)) zaA)))
   (zaf (zao (zal (zdF rfl) rfl T.qc4 boot_all (zaa (zbr (N:=["line","below","bridges"]) (own:=2) (cap:=[5]) rfl (zgv rfl T.qc0 (zaa (pv 3) (zaa (zbW zcM (pv 3) (zbS zae) zdt) zac))) ⟨rfl,rfl,rfl,rfl,rfl,rfl⟩ (fun _ _ _ _ _=>(zfX (K:=K) (n:=2) rfl (zaM (zan (i:=0) (show List.Nodup (["line","below","bridges"]:List Str) by decide +kernel) rfl (Or.inl rfl)) (zaM (zan (i:=1) (show List.Nodup (["line","below","bridges"]:List Str) by decide +kernel) rfl (Or.inl rfl)) zcN)))) (fun _ _ _ _ _=>zbp) (fun _ _ _ _ _=>(zaz qaM hr (zaa (pv 2) (zaa (pv 0) (zaa (pv 1) zac)))))) zac)))))))))),?_⟩
 intro N1 n1;have few:=S.few;have hlen:=S.len;have hkeys:=S.keys;have wl:=W.len;have zl:=hP.length;refine ⟨_,rfl,_,_,_,_,rfl,rfl,SqT.of S.st,rfl,_,rfl,t,wa,ps,wy,rfl,S.tr,by omega,W,n1 _ _ ?_⟩;have no:∀ H',Same H H'→os≠dueO ps rows key wy→Q (.bl false) H':=fun H' s' z=>by
  have:=q H' s';rw[yaq z]at this;exact this
 refine ⟨fun σ' H'=>σ'=[some (.ref st),some (.ref wa),some (.int key),some (.ref pp),none,none,none]∧Same H H'∧∀ o∈os,o.isSome=true,?_,?_⟩
 ·intro N2 n2;refine ⟨_,rfl,_,_,_,_,rfl,.lst hpp,zkf,_,rfl,iteF ?_⟩;refine ⟨_,rfl,pp,rfl,⟨_,SqL.of hpp⟩,fun D hD=>?_⟩;refine zcw (xs:=zs) (fun i σ H2=>∃ x0:Option V,σ=[x0]∧H2 D=some (.lst (((os.take i).map Option.isSome).map V.bl))∧But D H H2) ?_ ?_ ?_ ?_
  ·exact ⟨_,rfl,zad,fun b o n e=>by rw[zah n];exact e⟩
  ·rintro i σ H2 _ ⟨x0,rfl,_,k2⟩;exact SqL.of (k2 _ _ (zab hpp hD) hpp)
  ·rintro i m v σ H2 hv hm ⟨x0,rfl,h2,k2⟩;have hi:=(yao.mp hv).1;obtain ⟨o,ho,hL⟩:=zci hP hv;have s2:Same H H2:=fun b o e=>k2 b o (zab e hD) e;refine zd8 ?_;refine ⟨_,rfl,v,o,rfl,hL.same s2,fun H3 s3=>?_⟩;refine ⟨_,s3 _ _ h2,zap (by rw[yab,yab,yar];omega),m - 1,by omega,by omega,_,rfl,?_,fun b o n e=>by rw[zah n];exact s3 _ _ (k2 b o n e)⟩;obtain ⟨hj,rfl⟩:=yao.mp ho;rw[zad,yaH hj,yan,yan];rfl
  ·rintro σ H2 ⟨x0,rfl,h2,k2⟩;have s2:Same H H2:=fun b o e=>k2 b o (zab e hD) e;rw[zl,yat (yaa _)]at h2;refine ⟨D,os.map Option.isSome,rfl,SqL.of h2,_,rfl,?_⟩;by_cases c:∀ o∈os,o.isSome=true
   ·have e1:(os.map Option.isSome).all id=true:=yaU.mpr fun b hb=>by
     obtain ⟨o,ho,rfl⟩:=yaA.mp hb;exact c o ho
    rw[e1];exact iteF (n2 _ _ ⟨rfl,s2,c⟩)
   ·have e1:(os.map Option.isSome).all id=false:=by
     refine ybl.mpr fun z=>c fun o ho=>?_;exact yaU.mp z _ (List.mem_map_of_mem ho)
    rw[e1];refine iteT (no H2 s2 fun z=>c fun o ho=>?_);rw[z]at ho;obtain ⟨k,_,rfl⟩:=yaA.mp ho;rfl
 rintro _ H1 ⟨rfl,s1,hsome⟩;obtain ⟨ts,rfl⟩:=zow hsome;clear hsome;rw[yab]at zl;have tl:ts.length=zs.length:=zl.symm;have hG:∀(i:Nat) (v:V),zs[i]?=some v→∃(u:Addr) (h:i < ts.length),v=.ref u∧H u=some (.tup [.int ts[i].1,.int ts[i].2.1,.int ts[i].2.2]):=fun i v hv=>by
  obtain ⟨o,ho,hL⟩:=zci hP hv;rw[yaj]at ho;obtain ⟨t,ht,rfl⟩:=ybH.mp ho;obtain ⟨hi,rfl⟩:=yao.mp ht;obtain ⟨u,e,hu⟩:=hL.some_at;exact ⟨u,hi,e,hu⟩
 clear hP;have hpp1:=s1 _ _ hpp;refine ⟨fun σ' H'=>σ'=[some (.ref st),some (.ref wa),some (.int key),some (.ref pp),none,none,none]∧Same H H'∧ts.map (·.1)=wy.map (fun n:Nat=>(n:Int)),?_,?_⟩
 ·intro N2 n2;refine ⟨_,rfl,pp,rfl,⟨_,SqL.of hpp1⟩,fun D hD=>?_⟩;refine zcw (xs:=zs) (fun i σ H2=>∃ x0:Option V,σ=[x0]∧H2 D=some (.lst (((ts.take i).map (·.1)).map V.int))∧But D H1 H2) ?_ ?_ ?_ ?_
  ·exact ⟨_,rfl,zad,fun b o n e=>by rw[zah n];exact e⟩
  ·rintro i σ H2 _ ⟨x0,rfl,_,k2⟩;exact SqL.of (k2 _ _ (zab hpp1 hD) hpp1)
  ·rintro i m v σ H2 hv hm ⟨x0,rfl,h2,k2⟩;obtain ⟨u,hi,rfl,hu⟩:=hG i v hv;have hu1:=s1 _ _ hu;refine zd8 ?_;refine ⟨_,rfl,_,_,_,_,rfl,rfl,SqT.of (k2 _ _ (zab hu1 hD) hu1),rfl,?_⟩;refine ⟨_,h2,zap (by rw[yab,yab,yar];omega),m - 1,by omega,by omega,_,rfl,?_,fun b o n e=>by rw[zah n];exact k2 b o n e⟩;rw[zad,yaH hi,yan,yan];rfl
  ·rintro σ H2 ⟨x0,rfl,h2,k2⟩;have s2:Same H1 H2:=fun b o e=>k2 b o (zab e hD) e;have s02:=s1.trans s2;rw[← tl,yat (yaa _)]at h2;refine ⟨_,rfl,ts.map (·.1),wy.map (fun n:Nat=>(n:Int)),⟨D,_,rfl,SqL.of h2,zar.ints⟩,⟨_,_,rfl,SqL.of (s02 _ _ W.at_),zj6⟩,_,rfl,?_⟩;by_cases c:ts.map (·.1)=wy.map (fun n:Nat=>(n:Int))
   ·exact zi6 c (n2 _ _ ⟨rfl,s02,c⟩)
   ·refine zpV c (no H2 s02 fun z=>c ?_);have z2:ts=wy.map (zkF ps rows key):=by
     have e0:dueO ps rows key wy=(wy.map (zkF ps rows key)).map some:=by unfold dueO;rw[ybc];rfl
     rw[e0]at z;exact List.map_inj_right (fun a b h=>yag h) |>.mp z
    rw[z2,ybc];rfl
 clear hpp1 s1;rintro _ H1 ⟨rfl,s1,hfst⟩;have el:ts.length=wy.length:=by have:=congrArg List.length hfst;rwa[yab,yab]at this
 have hk:∀ i (h:i < ts.length),ts[i].1=((wy.getD i 0:Nat):Int)∧wy.getD i 0 < ps.length+1:=fun i h=>by
  have h2:i < wy.length:=by omega
  have:=congrArg (fun l=>l[i]?) hfst;simp only[yaj,yac h,yac h2,Option.map_some]at this;refine ⟨?_,W.kn _ (zhJ h2)⟩;rw[yad,yac h2];exact yag this
 intro N3 n3;refine ⟨_,rfl,st,ps,rows,t,rs,as,rfl,S.same s1,fun pf qf H2 hpf s2 h2f nd hqf np F=>n3 _ _ ?_⟩;have s02:=s1.trans s2;intro N4 n4;refine ⟨_,rfl,_,_,_,_,rfl,rfl,SqT.of (s02 _ _ S.st),rfl,_,rfl,st,ps,rows,t,rs,as,pf,qf,rfl,S.same s02,h2f,F,fun br xs H3 hbr s3 h3b hB=>n4 _ _ ?_⟩;have s03:=s02.trans s3;have F3:=zkm (.of s3) F;have h3f:=s3 _ _ h2f;have hpp3:=s03 _ _ hpp;intro N5 n5;refine ⟨_,rfl,pp,rfl,⟨_,SqL.of hpp3⟩,?_⟩;refine zd0 (xs:=zs) (fun i σ H'=>∃ x6:Option V,σ=[some (.ref st),some (.ref wa),some (.int key),some (.ref pp),some (.ref pf),some (.ref br),x6]∧H3=H'∧∀ j (h:j < ts.length),j < i→ts[j]=zkF ps rows key (wy.getD j 0)) ?_ ?_ ?_ ?_
 ·exact ⟨_,rfl,rfl,fun j _ hj=>absurd hj (ybR _)⟩
 ·rintro i σ H' _ ⟨x6,rfl,rfl,_⟩;exact SqL.of hpp3
 ·rintro i v σ H' hv ⟨x6,rfl,rfl,old⟩;refine zr2 fun N B R hN hB' hR=>?_;obtain ⟨u,hi,rfl,hu⟩:=hG i v hv;have hu3:=s03 _ _ hu;obtain ⟨ek,hkn⟩:=hk i hi;rw[ek]at hu3;obtain ⟨qk,hqk,wk,hwk,hak⟩:=zbA F3 hkn;obtain ⟨xb,hxb,bb,ob,jb,yb,rfl,_,_,hbb,hob,_,_⟩:=zbA hB hkn;have hfl:=ze9 S.T S.len (rows:=rows) hkn;have hri:=zaS S.T S.R hkn (rows:=rows);have bad:ts[i]≠zkF ps rows key (wy.getD i 0)→Q (.bl false) H3:=fun z=>no H3 s03 fun w=>z (by
   have:=congrArg (fun l=>l[i]?) w;unfold dueO at this;have h2:i < wy.length:=by omega
   simp only[yaj,yac hi,yac h2,Option.map_some]at this;rw[yad,yac h2];exact yag (yag this))
  obtain ⟨k,ek0⟩:∃ k,wy.getD i 0=k:=⟨_,rfl⟩;rw[ek0]at ek hkn hu3 hqk hak hxb hbb hob hfl hri bad;refine ⟨_,rfl,_,rfl,_,_,_,_,rfl,rfl,SqT.of hu3,rfl,_,_,_,_,rfl,rfl,SqL.of h3f,zkw hqk,_,rfl,_,_,_,_,rfl,rfl,SqT.of hu3,rfl,_,rfl,qk,ts[i].2.1,key,wk,_,rfl,hwk,hak,hri,by omega,_,rfl,?_⟩;by_cases c:ts[i].2.1=((zat (zak ps rows k) key:Nat):Int)
  ·rw[yam c];rw[c]at hu3;refine iteF ?_;refine ⟨_,rfl,_,_,_,_,rfl,rfl,SqT.of hu3,rfl,_,rfl,_,rfl,_,_,_,_,rfl,rfl,SqT.of hu3,rfl,_,_,_,_,rfl,rfl,SqL.of h3b,zaQ hxb,_,_,_,_,rfl,rfl,SqT.of hbb,rfl,_,rfl,_,_,_,_,rfl,rfl,SqT.of hu3,rfl,_,_,_,_,rfl,rfl,SqL.of hob,zhh S.T S.R hkn key,rfl,_,rfl,?_⟩;by_cases c2:ts[i].2.2=((ownB rows k key:Nat):Int)
   ·refine zi6 (show V.int _=V.int _ by rw[c2]) (hN _ _ ⟨_,rfl,rfl,fun j hj hji=>?_⟩);rcases ybs j i with z | z
    ·exact old j hj z
    ·have:j=i:=by omega
     subst this;rw[ek0];exact Prod.ext ek (Prod.ext c c2)
   ·refine zpV (fun z=>c2 (V.int.inj z)) (hR _ _ (bad fun z=>c2 ?_));rw[z];rfl
  ·rw[yaq c];refine iteT (hR _ _ (bad fun z=>c ?_));rw[z];rfl
 ·rintro σ H' ⟨x6,rfl,rfl,old⟩;refine n5 _ _ ?_;have ets:ts=wy.map (zkF ps rows key):=by
   refine List.ext_getElem (by rw[yab];exact el) fun i h1 h2=>?_;rw[old i h1 (by omega),List.getElem_map,yad,yac (by omega)];rfl
  have yes:∀ H',Same H H'→Q (.bl true) H':=fun H' s'=>by
   have:=q H' s';rw[yam (show ts.map some=dueO ps rows key wy by rw[ets];unfold dueO;rw[ybc];rfl)]at this;exact this
  have trip:∀(i:Nat) (v:V),zs[i]?=some v→zgN H3 ps rows key (wy.getD i 0) v:=fun i v hv=>by
   obtain ⟨u,hi,rfl,hu⟩:=hG i v hv;refine ⟨u,rfl,?_⟩;have:=s03 _ _ hu;rw[old i hi (by omega)]at this;exact this
  refine ⟨_,rfl,_,rfl,1,rfl,pp,_,rfl,SqL.of hpp3,fun p hp=>?_⟩;rw[show (1:Int)=((1:Nat):Int) from rfl,zf7];have g4:=zai hp (.lst (zs.drop 1));have w4:upd H3 p (.lst (zs.drop 1)) p=some (.lst (zs.drop 1)):=zad;generalize upd H3 p (.lst (zs.drop 1))=H4 at g4 w4 ⊢;have hpp4:=g4 _ _ hpp3;refine ⟨pp,p,rfl,⟨_,SqL.of hpp4⟩,⟨_,SqL.of w4⟩,fun D hD=>?_⟩;have hdl:(zs.drop 1).length=zs.length - 1:=yaL;refine zm8 (xs:=zs) (ys:=zs.drop 1) (by omega) (fun i σ H5=>∃ x0 x1:Option V,σ=[x0,x1,some (.ref br)]∧H5 D=some (.lst ((List.replicate i true).map V.bl))∧But D H4 H5) ?_ ?_ ?_ ?_
  ·exact ⟨_,_,rfl,zad,fun b o n e=>by rw[zah n];exact e⟩
  ·rintro i σ H5 _ ⟨x0,x1,rfl,_,k5⟩;exact ⟨SqL.of (k5 _ _ (zab hpp4 hD) hpp4),SqL.of (k5 _ _ (zab w4 hD) w4)⟩
  ·rintro i m x y σ H5 r hx hy hm ⟨x0,x1,rfl,h5,k5⟩ hr0;rw[ybu]at hy;obtain ⟨u,eu,hu⟩:=trip i x hx;obtain ⟨v,ev,hv⟩:=trip (1+i) y hy;subst eu ev;have hi1:1+i < zs.length:=(yao.mp hy).1;have gr:=zai hr0 (.tup [V.ref u,V.ref v]);have wr:upd H5 r (.tup [V.ref u,V.ref v]) r=some (.tup [V.ref u,V.ref v]):=zad;generalize upd H5 r (.tup [V.ref u,V.ref v])=H6 at gr wr ⊢;have s36:Same H3 H6:=g4.trans (Same.trans (fun b o e=>k5 b o (zab e hD) e) gr);refine ⟨r,_,rfl,SqT.of wr,rfl,_,_,rfl,_,_,rfl,rfl,?_⟩;refine zlz (iteT ?_);have hpar:par ps (wy.getD (1+i) 0)=some (wy.getD i 0):=by rw[Nat.add_comm];exact W.ch i (by omega)
   refine ⟨_,rfl,_,rfl,_,rfl,br,u,v,ps,rows,xs,wy.getD i 0,wy.getD (1+i) 0,key,rfl,s36 _ _ h3b,zrC (.of s36) hB,S.T,S.R,few,W.kn _ (zhJ (by omega)),hpar,⟨u,rfl,s36 _ _ hu⟩,⟨v,rfl,s36 _ _ hv⟩,fun H7 s7=>?_⟩;refine ⟨_,s7 _ _ (gr _ _ h5),zap (by rw[yab,ybo];omega),m - 1,by omega,by omega,_,_,rfl,?_,fun b o n e=>by rw[zah n];exact s7 _ _ (gr _ _ (k5 b o n e))⟩;rw[zad,List.replicate_succ',yan];rfl
  ·rintro σ H5 ⟨x0,x1,rfl,h5,k5⟩;refine ⟨D,List.replicate (zs.drop 1).length true,rfl,SqL.of h5,?_⟩;have e1:(List.replicate (zs.drop 1).length true).all id=true:=yaU.mpr fun b hb=>List.eq_of_mem_replicate hb;rw[e1];exact yes H5 (s03.trans (g4.trans fun b o e=>k5 b o (zab e hD) e))
inductive AnyV (K:Frag)(H:Hp):V→Prop where
 | int (i:Int):AnyV K H (.int i)
 | oth (x:V) (h:∀ i,x≠.int i) (w:zby K H x false):AnyV K H x
def zc4 (n:Nat)(x:V):Bool:=match x with
 | .int i=>decide (0≤i) && decide (i < n)
 | _=>false
theorem zlb {n:Nat}{x:V}(h:∀ i,x≠.int i):zc4 n x=false:=by
 cases x with
 | int i=>exact absurd rfl (h i)
 | _=>rfl
def zjQ (K:Frag):Sp:=fun vs H Q _=>∃(n:Nat) (x:V),vs=[.int n,x]∧AnyV K H x∧Q (.bl (zc4 n x)) H
theorem zmh (T:Txt K mg)(qag:DF K mg "is_one_of_first" zaY zaH)(qaT:FC P w K mg base 1 "is_whole" zbR (zgW K)):FC P w K mg base 2 "is_one_of_first" zaH (zjQ K):=by
 refine qag.ok qaN (fun vs H Q E h=>?_) (fun f cdv A outer s H vs Q E hr h=>?_)
 ·obtain ⟨n,x,rfl,_⟩:=h;rfl
 obtain ⟨n,x,rfl,hx,q⟩:=h;refine ⟨_,(zaf (zao (zl1 (zaz qaT hr (zaa (pv 1) zac)) (zjZ (zhd zkQ zh1 zae (pv 1) (pv 0)))))),?_⟩;cases hx with
 | oth x h w=>
  refine ⟨_,rfl,_,false,rfl,w,_,rfl,?_⟩;refine iteF ?_;rw[zlb h]at q;exact q
 | int i=>
  refine ⟨_,rfl,_,true,rfl,.int i,_,rfl,?_⟩;refine iteT ?_;refine ⟨_,rfl,_,_,rfl,rfl,_,rfl,?_⟩;refine ite2 (fun c=>?_) (fun c=>?_)
  ·refine ⟨_,rfl,_,_,rfl,rfl,?_⟩;have e:zc4 n (.int i)=decide (i < (n:Int)):=by
    show (decide (0≤i) && decide (i < (n:Int)))=_;rw[show decide (0≤i)=true from c,Bool.true_and]
   rw[e]at q;exact q
  ·have e:zc4 n (.int i)=false:=by
    show (decide (0≤i) && decide (i < (n:Int)))=_;rw[show decide (0≤i)=false from ybl.mpr c,ybW]
   rw[e]at q;exact q
def zmm (ps:List Nat)(zs:List V)(i:Nat):Bool:=match zs[i+1]?,zs[i]? with
 | some (.int a),some y=>decide (parV ps a.toNat=y)
 | _,_=>true
def wayB (ps:List Nat)(zs:List V):Bool:=!zs.isEmpty && zs.all (zc4 (ps.length+1)) && (List.range (zs.length - 1)).all (zmm ps zs)
def zjM (K:Frag):Sp:=fun vs H Q _=>∃(t:Addr) (ps:List Nat) (x:V),vs=[.ref t,x]∧H t=some (.tup (zbP ps))∧ps.length≤900∧
 ((∃ ty,TyOf K H x (.type ty)∧kitO ty "list" = some false∧Q (.bl false) H)∨∃(a:Addr) (zs:List V),x=.ref a∧H a=some (.lst zs)∧zs.length≤2800∧(∀ z∈zs,AnyV K H z)∧Q (.bl (wayB ps zs)) H)
theorem zmd (T:Txt K mg)(qbe:DF K mg "is_way" zev zcm)(qaA:FC P w K mg base 2 "is_one_of_first" zaH (zjQ K)):FC P w K mg base 3 "is_way" zcm (zjM K):=by
 refine qbe.ok qaP (fun vs H Q E h=>?_) (fun f cdv A outer s H vs Q E hr h=>?_)
 ·obtain ⟨t,ps,x,rfl,_⟩:=h;rfl
 obtain ⟨t,ps,x,rfl,ht,hz,h⟩:=h;refine ⟨_,(zaJ (za6 (PW.pt (zgk (zck (zbN (zal zdi rfl T.qae boot_isinstance (zaa (pv 1) (zaa (zdw (v:=.ty "list") rfl T.qbI boot_list rfl) zac))))) (zd4 (zav zdx (zal zam rfl T.qaz boot_len (zaa (pv 1) zac)) zae (zaB _))))) (zaf (zao zb2)) zaA)
   (zag (za2 PassesOwn.never rfl (zbq (pv 1)) (zan (i:=2) qaP.nd rfl (Or.inl rfl)) (zaf (za6 (zck (zbN (zaz qaA hr (zaa (zal zam rfl T.qaz boot_len (zaa (pv 0) zac)) (zaa (pv 2) zac))))) (zaf (zao zb2)) zaA)))
   (zag (za2 PassesOwn.never rfl (zc0 rfl T.qap (zaa zae (zaa (zal zam rfl T.qaz boot_len (zaa (pv 1) zac)) zac))) (zan (i:=3) qaP.nd rfl (Or.inl rfl)) (zaf (za6 (zav zhj (zau zaF (pv 0) (zau zay (pv 1) (pv 3) (fun _ _=>rfl)) (fun _ _=>rfl)) (zau zay (pv 1) (zaw zbO (pv 3) zae) (fun _ _=>rfl)) (zaB _)) (zaf (zao zb2)) zaA)))
   (zaf (zao zb2))))),?_⟩
 rcases h with ⟨ty,hty,hk,q⟩ | ⟨a,zs,rfl,ha,hl,hA,q⟩
 ·refine ⟨fun _ _=>False,?_,fun _ _ z=>z.elim⟩;refine ⟨_,rfl,_,_,_,_,rfl,hty,hk,_,rfl,?_⟩;exact iteT q
 ·cases zs with
  | nil=>
   refine ⟨fun _ _=>False,?_,fun _ _ z=>z.elim⟩;refine ⟨_,rfl,_,_,_,_,rfl,.lst ha,zkf,_,rfl,?_⟩;refine iteF ?_;refine ⟨_,rfl,_,_,rfl,.inl (SqL.of ha),rfl,_,rfl,?_⟩;exact zpW rfl q
  | cons z0 zs0=>
   have hne:(z0::zs0)≠[]:=List.cons_ne_nil _ _;generalize z0::zs0=zs at ha hl hA q hne;have hpos:0 < zs.length:=ybV.mpr hne;refine ⟨fun σ' H'=>σ'=[some (.ref t),some (.ref a),none,none]∧H=H',?_,?_⟩
   ·refine ⟨_,rfl,_,_,_,_,rfl,.lst ha,zkf,_,rfl,?_⟩;refine iteF ?_;refine ⟨_,rfl,_,_,rfl,.inl (SqL.of ha),rfl,_,rfl,?_⟩;refine zpX (fun z=>?_) ?_
    ·have:=V.int.inj z;omega
    exact ⟨rfl,rfl⟩
   rintro σ' H' ⟨rfl,rfl⟩;refine ⟨_,rfl,a,rfl,⟨_,SqL.of ha⟩,?_⟩;refine zd0 (xs:=zs) (fun i σ H2=>∃ x2:Option V,σ=[some (.ref t),some (.ref a),x2,none]∧H=H2∧∀ j x,j < i→zs[j]?=some x→zc4 (ps.length+1) x=true) ?_ ?_ ?_ ?_
   ·exact ⟨_,rfl,rfl,fun j x hj=>absurd hj (ybR _)⟩
   ·rintro i σ H2 _ ⟨x2,rfl,rfl,_⟩;exact SqL.of ha
   ·rintro i x σ H2 hx ⟨x2,rfl,rfl,hb⟩;have hxm:=yaQ hx;refine ⟨_,rfl,_,_,rfl,.inr (SqT.of ht),_,rfl,(zbP ps).length,x,rfl,hA x hxm,_,rfl,?_⟩;rw[zax];cases hf:zc4 (ps.length+1) x with
    | true=>
     refine iteF ⟨_,rfl,rfl,fun j y hj hy=>?_⟩;rcases ybs j i with z | z
     ·exact hb j y z hy
     ·have:j=i:=by omega
      subst this;rw[hx]at hy;cases hy
      exact hf
    | false=>
     refine iteT ?_;have e:wayB ps zs=false:=by
      unfold wayB;rw[yb3.mpr ⟨x,hxm,by rw[hf];decide⟩,ybD,ybW]
     rw[e]at q;exact q
   rintro σ H2 ⟨x2,rfl,rfl,hb⟩;have hall:zs.all (zc4 (ps.length+1))=true:=yaU.mpr fun x hx=>by
    obtain ⟨j,hj,rfl⟩:=ybb hx;exact hb j _ hj (yac hj)
   have hint:∀ j (hj:j < zs.length),∃ b:Nat,zs[j]=.int (b:Int)∧b < ps.length+1:=fun j hj=>by
    have:=hb j _ hj (yac hj);generalize zs[j]=y at this;cases y with
    | int v=>
     have:=(ybh _ _).mp (show (decide (0≤v) && decide (v < ((ps.length+1:Nat):Int)))=true from this);have h1:=yaD this.1;have h2:=yaD this.2;exact ⟨v.toNat,by rw[Int.toNat_of_nonneg h1],by omega⟩
    | _=>cases this
   refine ⟨_,rfl,_,_,rfl,.inl (SqL.of ha),1,_,rfl,⟨by omega,by omega,by omega,by omega⟩,?_⟩;have en:(((zs.length:Nat):Int) - 1).toNat=zs.length - 1:=by omega
   rw[en];refine zbh (n:=zs.length - 1) (fun i σ H2=>∃ x3:Option V,σ=[some (.ref t),some (.ref a),x2,x3]∧H=H2∧∀ j,j < i→zmm ps zs j=true) ?_ ?_ ?_
   ·exact ⟨_,rfl,rfl,fun j hj=>absurd hj (ybR _)⟩
   ·rintro i σ H2 hi ⟨x3,rfl,rfl,hn⟩;have e1:(1:Int)+(i:Int)=((i+1:Nat):Int):=by omega
    rw[e1];obtain ⟨b,hb1,hb2⟩:=hint (i+1) (by omega);obtain ⟨c,hc1,hc2⟩:=hint i (by omega);have g1:zs[i+1]?=some (.int (b:Int)):=by rw[yac (by omega),hb1]
    have g0:zs[i]?=some (.int (c:Int)):=by rw[yac (by omega),hc1]
    have e0:((i+1:Nat):Int) - 1=(i:Int):=by omega
    have hnx:zmm ps zs i=decide (parV ps b=.int (c:Int)):=by
     unfold zmm;rw[g1,g0];rfl
    refine ⟨_,rfl,_,rfl,_,rfl,_,_,_,_,rfl,rfl,SqL.of ha,zaQ g1,_,_,_,_,rfl,rfl,SqT.of ht,zfg hb2,_,rfl,_,rfl,_,_,rfl,rfl,_,_,_,_,rfl,rfl,SqL.of ha,(by rw[e0];exact zaQ g0),zeo _ _ _,_,rfl,?_⟩;by_cases hq:parV ps b=.int (c:Int)
    ·refine zi6 hq ⟨_,rfl,rfl,fun j hj=>?_⟩;rcases ybs j i with z | z
     ·exact hn j z
     ·have:j=i:=by omega
      subst this;rw[hnx];exact yam hq
    ·rw[yaq hq];refine iteT ?_;have e:wayB ps zs=false:=by
      unfold wayB;rw[yb3.mpr ⟨i,yaX.mpr hi,by rw[hnx,yaq hq];decide⟩,ybD]
     rw[e]at q;exact q
   rintro σ H2 ⟨x3,rfl,rfl,hn⟩;have e:wayB ps zs=true:=by
    unfold wayB;rw[hall,yaU.mpr fun j hj=>hn j (yaX.mp hj)];cases zs with
    | nil=>exact absurd rfl hne
    | cons _ _=>rfl
   rw[e]at q;exact q
theorem AnyV.same {K:Frag}{H H':Hp}{x:V}(s:Same H H')(h:AnyV K H x):AnyV K H' x:=by
 cases h with
 | int i=>exact .int i
 | oth x h w=>
  refine .oth x h ?_;cases w with
  | bl b=>exact .bl b
  | oth x t ty h2=>
   exact .oth x t (ty.same s) h2
def NoW (K:Frag)(ps:List Nat)(x:V)(H:Hp):Prop:=(∃ ty,TyOf K H x (.type ty)∧kitO ty "list" = some false)∨∃(a:Addr) (zs:List V),x=.ref a∧H a=some (.lst zs)∧zs.length≤2800∧(∀ z∈zs,AnyV K H z)∧wayB ps zs=false
def ziM (K:Frag)(C:Addr):Sp:=fun vs H Q E=>∃(t:Addr) (ps:List Nat) (x:V),vs=[.ref t,x]∧H t=some (.tup (zbP ps))∧ps.length≤900∧NoW K ps x H∧∀ H',Same H H'→E (.ref C) none H'
theorem znQ (T:Txt K mg){qab qak qaa qah qaq qai qal qam qar qaj qas qan:Addr}(CL:Cls K mg qab qak qaa qah qaq qai qal qam qar qaj qas qan)(qaH:DF K mg "need_way" zcY za5)(qcw:FC P w K mg base 3 "is_way" zcm (zjM K)):FX P w K mg base 4 "need_way" za5 (ziM K qaa):=by
 refine qaH.okx qbH (fun vs H Q E h=>?_) (fun f cdv A outer s H vs Q E hr h=>?_)
 ·obtain ⟨t,ps,x,rfl,_⟩:=h;rfl
 obtain ⟨t,ps,x,rfl,ht,hp,hN,hE⟩:=h;refine ⟨_,(zaf (za6 (zck (zbN (zaz qcw hr (zaa (pv 0) (zaa (pv 1) zac))))) (zaf (znE CL.qdS thrX rfl rfl (zaa zbo zac))) zaA)),?_⟩;rcases hN with ⟨ty,h1,h2⟩ | ⟨a,zs,rfl,ha,hl,hA,hb⟩
 ·refine ⟨_,rfl,_,rfl,t,ps,x,rfl,ht,hp,.inl ⟨ty,h1,h2,_,rfl,?_⟩⟩;refine iteT ?_;exact ⟨(by show 1≤sizeLine;decide),hE _ fun _ _ e=>e⟩
 ·refine ⟨_,rfl,_,rfl,t,ps,_,rfl,ht,hp,.inr ⟨a,zs,rfl,ha,hl,hA,_,rfl,?_⟩⟩;rw[hb];refine iteT ?_;exact ⟨(by show 1≤sizeLine;decide),hE _ fun _ _ e=>e⟩
def zjR (K:Frag)(C:Addr)(rest:List V→Prop):Sp:=fun vs H Q E=>∃(st t rs:Addr) (ps:List Nat) (x:V) (r:List V),vs=.ref st::x::r∧rest r∧H st=some (.tup [.ref t,.ref rs])∧H t=some (.tup (zbP ps))∧ps.length≤900∧NoW K ps x H∧∀ H',Same H H'→E (.ref C) none H'
abbrev R1 (r:List V):Prop:=∃ k,r=[k]
abbrev R2 (r:List V):Prop:=∃ k m,r=[k,m]
theorem zl9 (T:Txt K mg){C:Addr}{s1 s2:Sp}(qaI:DF K mg "paper_of" zcX zbQ)(qaB:FX P w K mg base 4 "need_way" za5 (ziM K C))(qau:FC P w K mg base 8 "full_rows" zbc s1)(qaE:FC P w K mg base 7 "search_for_key" zaZ s2):FX P w K mg base 9 "paper_of" zbQ (zjR K C R1):=by
 refine qaI.okx qaV (fun vs H Q E h=>?_) (fun f cdv A outer s H vs Q E hr h=>?_)
 ·obtain ⟨st,t,rs,ps,x,r,rfl,⟨k,rfl⟩,_⟩:=h;rfl
 obtain ⟨st,t,rs,ps,x,r,rfl,⟨k,rfl⟩,hst,ht,hp,hN,hE⟩:=h;exact ⟨_,(zag (zbd (zoW qaB hr zqX (zaa (zau zaF (pv 0) zae (fun _ _=>rfl)) (zaa (pv 1) zac))))
   (zag (zas (i:=3) qaV.nd rfl (Or.inl rfl) (zaz qaE hr (zaa (zau zaF (pv 0) zae (fun _ _=>rfl)) (zaa (zaz qau hr (zaa (pv 0) zac)) (zaa (pv 1) (zaa (pv 2) zac))))))
   (zaf (zao (zbr (N:=["knot","each"]) (own:=2) (cap:=[]) rfl (zgv rfl T.qc0 (zaa (pv 1) (zaa (pv 3) zac))) ⟨rfl,rfl,rfl,rfl,rfl,rfl⟩ (fun _ _ _ _ _=>(zfX (K:=K) (n:=2) rfl (zaM (zan (i:=0) (show List.Nodup (["knot","each"]:List Str) by decide +kernel) rfl (Or.inl rfl)) (zaM (zan (i:=1) (show List.Nodup (["knot","each"]:List Str) by decide +kernel) rfl (Or.inl rfl)) zcN)))) (fun _ _ _ _ _=>zbp) (fun _ _ _ _ _=>(zbB (zaa (pv 0) (zaa (zau (zcP (K:=K)) (pv 1) zae (fun _ _=>rfl)) (zaa (zau (zcP (K:=K)) (pv 1) zae (fun _ _=>rfl)) zac)))))))))),_,rfl,_,_,_,_,rfl,rfl,SqT.of hst,rfl,_,rfl,t,ps,x,rfl,ht,hp,hN,hE⟩
theorem znV (T:Txt K mg){C:Addr}{s1 s2 s3 s4 s5:Sp}(qaU:DF K mg "lets_by" zds zch)(qaB:FX P w K mg base 4 "need_way" za5 (ziM K C))(qbW:FC P w K mg base 2 "is_line" zcZ s1)(qau:FC P w K mg base 8 "full_rows" zbc s2)(qaC:FC P w K mg base 2 "bridges_of" zbm s3)(qaZ:FC P w K mg base 1 "is_place_in" zbs s4)(qaM:FC P w K mg base 2 "is_near_start" za8 s5):FX P w K mg base 9 "lets_by" zch (zjR K C R2):=by
 refine qaU.okx qaw (fun vs H Q E h=>?_) (fun f cdv A outer s H vs Q E hr h=>?_)
 ·obtain ⟨st,t,rs,ps,x,r,rfl,⟨k,m,rfl⟩,_⟩:=h;rfl
 obtain ⟨st,t,rs,ps,x,r,rfl,⟨k,m,rfl⟩,hst,ht,hp,hN,hE⟩:=h;refine ⟨_,(zbY (zbd (zoW qaB hr zqX (zaa (zau zaF (pv 0) zae (fun _ _=>rfl)) (zaa (pv 1) zac))))
   (zeA (za6 (PW.pt (zgk (zck (zbN (zal zdi rfl T.qae boot_isinstance (zaa (pv 3) (zaa (zdw (v:=.ty "list") rfl T.qbI boot_list rfl) zac))))) (zd4 (zck (zbN (zal (zdF rfl) rfl T.qc4 boot_all (zaa (zbr (N:=["thing"]) (own:=1) (cap:=[]) rfl (zbq (pv 3)) ⟨rfl,rfl,rfl,rfl,rfl,rfl⟩ (fun _ _ _ _ _=>(zan (i:=0) (show List.Nodup (["thing"]:List Str) by decide +kernel) rfl (Or.inl rfl))) (fun _ _ _ _ _=>zbp) (fun _ _ _ _ _=>(zaz qbW hr (zaa (pv 0) zac)))) zac))))))) (zaf (zao zb2)) zaA)
   (zeA (za6 (zav (zl4 (List Int) (huD hr)) (zbr (N:=["line"]) (own:=1) (cap:=[]) rfl (zbq (pv 3)) ⟨rfl,rfl,rfl,rfl,rfl,rfl⟩ (fun _ _ _ _ _=>(zan (i:=0) (show List.Nodup (["line"]:List Str) by decide +kernel) rfl (Or.inl rfl))) (fun _ _ _ _ _=>zbp) (fun _ _ _ _ _=>(zau (zcP (K:=K)) (pv 0) zae (fun _ _=>rfl)))) (pv 1) (zaB _)) (zaf (zao zb2)) zaA)
   (zbY (zas (i:=4) qaw.nd rfl (Or.inl rfl) (zaz qau hr (zaa (pv 0) zac)))
   (zbY (zas (i:=5) qaw.nd rfl (Or.inr rfl) (zaz qaC hr (zaa (zau zaF (pv 0) zae (fun _ _=>rfl)) (zaa (pv 4) zac))))
   (zbY (za2 PassesOwn.leaving rfl (zbq (pv 3)) (zan (i:=6) qaw.nd rfl (Or.inl rfl)) (zaf (za6 (PW.pt (zgk (zck (zbN (zaz qaZ hr (zaa (zau zay (pv 4) (zau zaF (pv 6) zae (fun _ _=>rfl)) (fun _ _=>rfl)) (zaa (zau zaF (pv 6) zae (fun _ _=>rfl)) (zaa (pv 2) zac)))))) (zd4 (zav zhj (zau zaF (pv 6) zae (fun _ _=>rfl)) (zau zay (zau zaF (zau zay (pv 5) (zau zaF (pv 6) zae (fun _ _=>rfl)) (fun _ _=>rfl)) zae (fun _ _=>rfl)) (zau zaF (pv 6) zae (fun _ _=>rfl)) (fun _ _=>rfl)) (zaB _))))) (zaf (zao zb2)) zaA)))
   (zaf (zao (zal (zdF rfl) rfl T.qc4 boot_all (zaa (zbr (N:=["line","below","bridges"]) (own:=2) (cap:=[5]) rfl (zgv rfl T.qc0 (zaa (pv 3) (zaa (zbW zcM (pv 3) (zbS zae) zdt) zac))) ⟨rfl,rfl,rfl,rfl,rfl,rfl⟩ (fun _ _ _ _ _=>(zfX (K:=K) (n:=2) rfl (zaM (zan (i:=0) (show List.Nodup (["line","below","bridges"]:List Str) by decide +kernel) rfl (Or.inl rfl)) (zaM (zan (i:=1) (show List.Nodup (["line","below","bridges"]:List Str) by decide +kernel) rfl (Or.inl rfl)) zcN)))) (fun _ _ _ _ _=>zbp) (fun _ _ _ _ _=>(zaz qaM hr (zaa (pv 2) (zaa (pv 0) (zaa (pv 1) zac)))))) zac)))))))))),?_⟩
 intro N1 n1;exact ⟨_,rfl,_,_,_,_,rfl,rfl,SqT.of hst,rfl,_,rfl,t,ps,x,rfl,ht,hp,hN,hE⟩
def Gv (t:TE)(σ:L2.St)(H:Hp)(R:V→Hp→Prop):Prop:=∀ H1,Same H H1→∀ Q:VK,(∀ x H2,Same H1 H2→R x H2→Q x H2)→t σ H1 Q
def GvA (t:TA)(σ:L2.St)(H:Hp)(R:List V→Hp→Prop):Prop:=∀ H1,Same H H1→∀ Q:List V→Hp→Prop,(∀ x H2,Same H1 H2→R x H2→Q x H2)→t σ H1 Q
def GvO (t:TO)(σ:L2.St)(H:Hp)(o:Option Int):Prop:=∀ H1,Same H H1→∀ Q:Option Int→Hp→Prop,Q o H1→t σ H1 Q
theorem Same.refl (H:Hp):Same H H:=fun _ _ h=>h
theorem Gv.mono {t:TE}{σ:L2.St}{H:Hp}{R R':V→Hp→Prop}(h:Gv t σ H R)(m:∀ x H2,Same H H2→R x H2→R' x H2):Gv t σ H R':=fun H1 s Q q=>h H1 s Q fun x H2 s2 r=>q x H2 s2 (m x H2 (s.trans s2) r)
theorem zeT {i:Nat}{σ:L2.St}{H:Hp}{x:V}{R:V→Hp→Prop}(e:σ[i]?=some (some x))(r:∀ H1,Same H H1→R x H1):Gv (tVar i) σ H R:=fun H1 s Q q=>⟨x,e,q x H1 (Same.refl _) (r H1 s)⟩
theorem zeS {σ:L2.St}{H:Hp}:GvO zlC σ H none:=fun _ _ _ q=>q
def ziF (E:V→Hp→Prop):Prop:=∀ x H H',Same H H'→E x H→E x H'
theorem zop {xs:List V}{lo hi:Option Int}{z:V}(h:z∈cutV xs lo hi):z∈xs:=yb0 (ybJ h)
theorem zkq (xs:List V)(lo hi:Option Int):(cutV xs lo hi).length≤xs.length:=by
 unfold cutV;rw[yar,yaL];omega
theorem zi8 {σ:L2.St}{H:Hp}{E:V→Hp→Prop}:GvA tNil σ H (fun xs H'=>xs.length=0∧∀ x∈xs,E x H'):=fun H1 _ Q q=>q [] H1 (Same.refl _) ⟨rfl,fun _ h=>absurd h yaF⟩
theorem zaK {σ:L2.St}{H:Hp}{E:V→Hp→Prop}{n:Nat}{t:TE}{ts:TA}(hE:ziF E)(h:Gv t σ H E)(hs:GvA ts σ H (fun xs H'=>xs.length=n∧∀ x∈xs,E x H')):GvA (zkH t ts) σ H (fun xs H'=>xs.length=n+1∧∀ x∈xs,E x H'):=fun H1 s1 Q q=>
 h H1 s1 _ fun x H2 s2 r=>hs H2 (s1.trans s2) _ fun xs H3 s3 r3=>q _ _ (s2.trans s3) ⟨by rw[yaK,r3.1],fun z hz=>by
  rcases yal.mp hz with rfl | h
  ·exact hE _ _ _ s3 r
  ·exact r3.2 z h⟩
def El (b:Bool)(z:V)(H:Hp):Prop:=∃ d as,RD H z d as∧d.showable=true∧(b=false→d.hasDict=false)∧(b=true→∀ x∈as,H x=some (.dK []))∧d.depth≤3∧d.shown.length≤4000
theorem zqO {K:Frag}{H:Hp}{x:V}{d:PyData}{as:List Addr}(r:RD H x d as):AnyV K H x:=by
 cases r with
 | non=>exact .oth _ (fun _ z=>nomatch z) (.oth _ _ .non (by decide +kernel))
 | bl b=>exact .oth _ (fun _ z=>nomatch z) (.bl b)
 | int i=>exact .int i
 | str x=>exact .oth _ (fun _ z=>nomatch z) (.oth _ _ (.str x) (by decide +kernel))
 | lst e _=>exact .oth _ (fun _ z=>nomatch z) (.oth _ _ (.lst e) (by decide +kernel))
 | tup e _=>exact .oth _ (fun _ z=>nomatch z) (.oth _ _ (.tup e) (by decide +kernel))
 | dic e=>exact .oth _ (fun _ z=>nomatch z) (.oth _ _ (.dK e) (by decide +kernel))
theorem els {b:Bool}{H:Hp}:∀{zs:List V},(∀ z∈zs,El b z H)→∃ ds as,RDs H zs ds as∧PyData.showableAll ds=true∧(b=false→PyData.hasDictAll ds=false)∧(b=true→∀ x∈as,H x=some (.dK []))∧PyData.depthAll ds≤3∧((PyData.shownAll ds).map (·.length)).sum≤4000 * zs.length∧(PyData.shownAll ds).length=zs.length
 | [],_=>⟨[],[],.nil,by simp[PyData.showableAll],fun _=>by simp[PyData.hasDictAll],fun _ _ h=>absurd h yaF,by simp[PyData.depthAll],by simp[PyData.shownAll],by simp[PyData.shownAll]⟩
 | z::zs,h=>by
  obtain ⟨d,as,r,h1,h2,h3,h4,h5⟩:=h z yak;obtain ⟨ds,bs,rs,g1,g2,g3,g4,g5,g6⟩:=els (zs:=zs) fun y hy=>h y (yas _ hy);refine ⟨d::ds,as++bs,.cons r rs,by simp[PyData.showableAll,h1,g1],fun e=>by simp[PyData.hasDictAll,h2 e,g2 e],fun e x hx=>?_,?_,?_,?_⟩
  ·rcases yai.mp hx with h | h
   ·exact h3 e x h
   ·exact g3 e x h
  ·simp only[PyData.depthAll];omega
  ·simp only[PyData.shownAll,yaw,yaS,yaK];omega
  ·simp only[PyData.shownAll,yaK,g6]
theorem zfZ {n:Nat}(h:n < 64):(PyData.shown (.int (n:Int))).length≤2∧(PyData.int (n:Int)).showable=true:=by
 have:∀ n:Fin 64,(PyData.shown (.int ((n:Nat):Int))).length≤2∧(PyData.int ((n:Nat):Int)).showable=true:=by decide +kernel
 exact this ⟨n,h⟩
theorem El.nat {b:Bool}{H:Hp}{n:Nat}(h:n < 64):El b (nV n) H:=⟨_,[],.int _,(zfZ h).2,fun _=>by simp[PyData.hasDict],fun _ _ h=>absurd h yaF,by simp[PyData.depth],yaB (zfZ h).1 (by decide)⟩
theorem El.of {b:Bool}{H:Hp}{x:V}{d:PyData}(r:RD H x d [])(h1:d.showable=true)(h2:d.hasDict=false)(h3:d.depth≤3)(h4:d.shown.length≤4000):El b x H:=⟨d,[],r,h1,fun _=>h2,fun _ _ h=>absurd h yaF,h3,h4⟩
theorem zhn {H:Hp}:∀{ws:List Nat},(∀ n∈ws,n < 64)→∃ ds,RDs H (ws.map nV) ds []∧PyData.showableAll ds=true∧PyData.hasDictAll ds=false∧PyData.depthAll ds≤1∧((PyData.shownAll ds).map (·.length)).sum≤2 * ws.length∧(PyData.shownAll ds).length=ws.length
 | [],_=>⟨[],.nil,by simp[PyData.showableAll],by simp[PyData.hasDictAll],by simp[PyData.depthAll],by simp[PyData.shownAll],by simp[PyData.shownAll]⟩
 | n::ws,h=>by
  have hn:=zfZ (h n yak);obtain ⟨ds,rs,g1,g2,g4,g5,g6⟩:=zhn (H:=H) (ws:=ws) fun y hy=>h y (yas _ hy);refine ⟨.int (n:Int)::ds,.cons (as:=[]) (bs:=[]) (.int _) rs,by simp[PyData.showableAll,hn.2,g1],by simp[PyData.hasDictAll,PyData.hasDict,g2],?_,?_,?_⟩
  ·simp only[PyData.depthAll,PyData.depth];omega
  ·simp only[PyData.shownAll,yaw,yaS,yaK];omega
  ·simp only[PyData.shownAll,yaK,g6]
theorem El.way {H:Hp}{a:Addr}{ws:List Nat}(h:H a=some (.lst (ws.map nV)))(hl:ws.length≤900)(hn:∀ n∈ws,n < 64):El false (.ref a) H:=by
 obtain ⟨ds,rs,g1,g2,g4,g5,g6⟩:=zhn (H:=H) hn;refine ⟨.list ds,[a],.lst h rs,by simpa [PyData.showable] using g1,fun _=>by simpa [PyData.hasDict] using g2,(fun z=>nomatch z),by simp only[PyData.depth];omega,?_⟩;have:=listText_len_le (PyData.shownAll ds);simp only[PyData.shown];omega
theorem zin {n:Nat}{i:Int}(h:(n:Int)≤i):zc4 n (.int i)=false:=by
 have e:zc4 n (.int i)=(decide (0≤i) && decide (i < (n:Int))):=rfl;rw[e,yaq (show ¬ i < (n:Int) by omega),ybD]
theorem zmW {n:Nat}{i:Int}(h:i < 0):zc4 n (.int i)=false:=by
 have e:zc4 n (.int i)=(decide (0≤i) && decide (i < (n:Int))):=rfl;rw[e,yaq (show ¬ 0≤i by omega),ybW]
theorem El.tupw {H:Hp}{a:Addr}{ws:List Nat}(h:H a=some (.tup (ws.map nV)))(hl:ws.length≤900)(hn:∀ n∈ws,n < 64):El false (.ref a) H:=by
 obtain ⟨ds,rs,g1,g2,g4,g5,g6⟩:=zhn (H:=H) hn;refine ⟨.tuple ds,[],.tup h rs,by simpa [PyData.showable] using g1,fun _=>by simpa [PyData.hasDict] using g2,(fun z=>nomatch z),by simp only[PyData.depth];omega,?_⟩;have:=tupleText_len_le (PyData.shownAll ds);simp only[PyData.shown];omega
def Txt3 (x:V)(H:Hp):Prop:=∃ t:Str,∀ H',Same H H'→∀ Q:VK,Q (.str t) H'→(zqQ [x] H' Q∨zoT [x] H' Q)
theorem Txt3.same:ziF Txt3:=fun x H H' s ⟨t,ht⟩=>⟨t,fun H2 s2=>ht H2 (s.trans s2)⟩
theorem zpP {a:Addr}{zs:List V}{H:Hp}(ha:H a=some (.lst zs))(la:zs.length≤2000)(ea:∀ z∈zs,El false z H):Txt3 (.ref a) H:=by
 obtain ⟨ds,as,rs,g1,g2,g3,g4,g5,g6⟩:=els ea;refine ⟨(PyData.list ds).shown,fun H' s Q q=>.inl ⟨a,.list ds,a::as,rfl,.lst (s _ _ ha) (rs.same s),by simpa [PyData.showable] using g1,PyData.noDict_hsm (by simpa [PyData.hasDict] using g2 rfl),by simp only[PyData.depth];omega,?_,q⟩⟩;have:=listText_len_le (PyData.shownAll ds);have e:sizeLine=16777216:=by decide
 simp only[PyData.shown];omega
theorem zpl {a:Addr}{ws:List Nat}{H:Hp}(h:H a=some (.tup (ws.map nV)))(hl:ws.length≤900)(hn:∀ n∈ws,n < 64):Txt3 (.ref a) H:=by
 obtain ⟨ds,rs,g1,g2,g4,g5,g6⟩:=zhn (H:=H) hn;refine ⟨(PyData.tuple ds).shown,fun H' s Q q=>.inl ⟨a,.tuple ds,[],rfl,.tup (s _ _ h) (rs.same s),by simpa [PyData.showable] using g1,PyData.noDict_hsm (by simpa [PyData.hasDict] using g2),by simp only[PyData.depth];omega,?_,q⟩⟩;have:=tupleText_len_le (PyData.shownAll ds);have e:sizeLine=16777216:=by decide
 simp only[PyData.shown];omega
def del (H:Hp)(L:List Addr):Hp:=fun b=>if b∈L then none else H b
theorem zdk {H:Hp}{L:List Addr}{b:Addr}(h:b∉L):del H L b=H b:=if_neg h
theorem zf6 {H:Hp}{L:List Addr}{b:Addr}{o:HO}(e:del H L b=some o):b∉L∧H b=some o:=by
 unfold del at e;by_cases c:b∈L
 ·rw[if_pos c]at e;cases e
 ·rw[if_neg c]at e;exact ⟨c,e⟩
theorem zmn {H:Hp}{p:Addr}(h:H p=none)(o:HO):Same H (del (upd H p o) [p]):=fun b o' e=>by
 have n:=zab e h;rw[zdk (fun z=>n (yah.mp z)),zah n];exact e
theorem zqe {H:Hp}{L:Addr}{o:HO}:Same (del H [L]) (del (upd H L o) [L]):=fun b o' e=>by
 obtain ⟨n,h⟩:=zf6 e;rw[zdk n,zah (fun z=>n (yah.mpr z))];exact h
theorem zhz {H H':Hp}{L:List Addr}(s:Same H H'):Same (del H L) (del H' L):=fun b o e=>by
 obtain ⟨n,h⟩:=zf6 e;rw[zdk n];exact s _ _ h
def NWD (K:Frag)(ps:List Nat)(d:List Addr)(x:V)(H:Hp):Prop:=NoW K ps x (del H d)∧Txt3 x (del H d)
theorem NoW.same {K:Frag}{ps:List Nat}{x:V}{H H':Hp}(s:Same H H')(h:NoW K ps x H):NoW K ps x H':=by
 rcases h with ⟨ty,h1,h2⟩ | ⟨a,zs,e,h1,h2,h3,h4⟩
 ·exact .inl ⟨ty,h1.same s,h2⟩
 ·exact .inr ⟨a,zs,e,s _ _ h1,h2,fun z hz=>(h3 z hz).same s,h4⟩
theorem NWD.same {K:Frag}{ps:List Nat}{d:List Addr}:ziF (NWD K ps d):=fun x _ _ s h=>⟨h.1.same (zhz s),Txt3.same _ _ _ (zhz s) h.2⟩
theorem zh4 {K:Frag}{ps:List Nat}{d:List Addr}{a:Addr}{zs:List V}{H:Hp}(hn:a∉d)(ha:H a=some (.lst zs))(la:zs.length≤2000)(ea:∀ z∈zs,El false z (del H d))(hb:wayB ps zs=false):NWD K ps d (.ref a) H:=
 have ha':del H d a=some (.lst zs):=by rw[zdk hn];exact ha
 ⟨.inr ⟨a,zs,rfl,ha',by omega,fun z hz=>by
  obtain ⟨_,_,r,_⟩:=ea z hz;exact zqO r,hb⟩,zpP ha' la ea⟩
theorem zmj {K:Frag}{ps:List Nat}{d:List Addr}{H:Hp}{x:V}{ty:String}{t:Str}(h:TyOf K (del H d) x (.type ty))(hk:kitO ty "list" = some false)(r:∀ H',Same (del H d) H'→zju H' x t):NWD K ps d x H:=⟨.inl ⟨ty,h,hk⟩,t,fun H' s Q q=>.inr ⟨x,t,rfl,r H' s,q⟩⟩
theorem zoZ {K:Frag}{ps:List Nat}{d:List Addr}{a:Addr}{ws:List Nat}{H:Hp}(hn:a∉d)(ha:H a=some (.tup (ws.map nV)))(hl:ws.length≤900)(hk:∀ n∈ws,n < 64):NWD K ps d (.ref a) H:=
 have ha':del H d a=some (.tup (ws.map nV)):=by rw[zdk hn];exact ha
 ⟨.inl ⟨_,.tup ha',by decide +kernel⟩,zpl ha' hl hk⟩
theorem zbD {ps:List Nat}{zs:List V}{x:V}(hx:x∈zs)(h:zc4 (ps.length+1) x=false):wayB ps zs=false:=by
 unfold wayB;rw[yb3.mpr ⟨x,hx,by rw[h];decide⟩,ybD,ybW]
theorem zeX {ps l:List Nat}{i a c:Nat}(h1:l[i]?=some a)(h2:l[i+1]?=some c)(h:par ps c≠some a):wayB ps (l.map nV)=false:=by
 have hl:=(yao.mp h2).1;unfold wayB;refine Bool.and_eq_false_iff.mpr (.inr (yb3.mpr ⟨i,yaX.mpr (by rw[yab];omega),?_⟩));unfold zmm;rw[yaj,yaj,h1,h2];show ¬ decide (parV ps ((c:Int)).toNat=nV a)=true;rw[ya9,yaq (fun z=>h (ze5.mp z))];decide
theorem znJ {ps:List Nat}:par ps 0=none:=rfl
theorem zhB {ps w:List Nat}(T:zaC ps)(h:zhH ps w){i j:Nat}(hij:i < j)(hj:j < w.length):w.getD i 0 < w.getD j 0:=by
 induction j with
 | zero=>omega
 | succ j ih=>
  have h1:=(zaP T (h j hj)).1;rcases ybs i j with z | z
  ·have:=ih z (by omega);omega
  ·have:i=j:=by omega
   subst this;exact h1
theorem zik {w:List Nat}{i:Nat}(h:i < w.length):w[i]?=some (w.getD i 0):=by
 rw[yad,yac h];rfl
section
variable {ps w:List Nat}(T:zaC ps)(hc:zhH ps w)(hw:0 < w.length)
include hw in
theorem zml {k:Nat}(h:par ps k≠some (w.getD (w.length - 1) 0)):wayB ps ((w++[k]).map nV)=false:=
 zeX (i:=w.length - 1) (a:=w.getD (w.length - 1) 0) (c:=k) (by rw[ya0 (by omega)];exact zik (by omega)) (by rw[show w.length - 1+1=w.length by omega,yaP (yaa _),yby];rfl) h
include T hc hw in
theorem zn4:wayB ps ((w++w).map nV)=false:=by
 refine zeX (i:=w.length - 1) (a:=w.getD (w.length - 1) 0) (c:=w.getD 0 0) (by rw[ya0 (by omega)];exact zik (by omega)) (by rw[show w.length - 1+1=w.length by omega,yaP (yaa _),yby];exact zik hw) fun z=>?_;have h1:=(zaP T z).1;rcases ybs 0 (w.length - 1) with y | y
 ·have:=zhB T hc y (by omega);omega
 ·rw[show w.length - 1=0 by omega]at h1;omega
include T hc in
theorem zmk (h1:1 < w.length):wayB ps (w.reverse.map nV)=false:=by
 refine zeX (i:=0) (a:=w.getD (w.length - 1) 0) (c:=w.getD (w.length - 2) 0) (by rw[yb4 (by omega)];exact zik (by omega)) (by rw[yb4 (by omega),show w.length - 1 - (0+1)=w.length - 2 by omega];exact zik (by omega)) fun z=>?_;have h2:=(zaP T z).1;have:=zhB T hc (show w.length - 2 < w.length - 1 by omega) (by omega);omega
include T hc in
theorem zpL (h2:2 < w.length):wayB ps ((w.take 1++w.drop 2).map nV)=false:=by
 have hl:(w.take 1).length=1:=by rw[yar];omega
 refine zeX (i:=0) (a:=w.getD 0 0) (c:=w.getD 2 0) (by rw[ya0 (by omega),List.getElem?_take_of_lt (by omega)];exact zik (by omega)) (by rw[yaP (by omega),hl,ybu];exact zik (by omega)) fun z=>?_;have e:=hc 1 h2;rw[e]at z;have:=zhB T hc (show 0 < 1 by omega) (by omega);have:=yag z;omega
include hw in
theorem zn5 (h1:1 < w.length):wayB ps ((w.take 1++w.drop 2++[0]).map nV)=false:=by
 have hl:(w.take 1++w.drop 2).length=w.length - 1:=by rw[yaf,yar,yaL];omega
 obtain ⟨a,ha⟩:∃ a,(w.take 1++w.drop 2)[w.length - 2]?=some a:=⟨_,yac (by omega)⟩;refine zeX (i:=w.length - 2) (a:=a) (c:=0) (by rw[ya0 (by omega)];exact ha) (by rw[yaP (by omega),hl,show w.length - 2+1 - (w.length - 1)=0 by omega];rfl) ?_;rw[znJ];exact fun z=>nomatch z
end
def LX (Av:List Addr)(zs:List V)(x:V)(H:Hp):Prop:=∃ a,a∉Av∧x=.ref a∧H a=some (.lst zs)
def zhF (H:Hp)(Av:List Addr):Prop:=∀ a∈Av,∃ o,H a=some o
theorem zhF.mono {H H':Hp}{Av:List Addr}(h:zhF H Av)(s:Same H H'):zhF H' Av:=fun a ha=>by
 obtain ⟨o,e⟩:=h a ha;exact ⟨o,s _ _ e⟩
theorem zhF.out {H H':Hp}{Av:List Addr}(h:zhF H Av)(s:Same H H'){p:Addr}(hp:H' p=none):p∉Av:=fun z=>by
 obtain ⟨o,e⟩:=h p z;rw[s _ _ e]at hp;cases hp
theorem gv_c {σ:L2.St}{H:Hp}{v:V}{R:V→Hp→Prop}(r:∀ H1,Same H H1→R v H1):Gv (tC v) σ H R:=fun H1 s Q q=>q v H1 (Same.refl _) (r H1 s)
section
variable {K:Frag}{σ:L2.St}{H:Hp}{d:List Addr}(hd:zhF H d)
include hd in
theorem zcQ {zs ys:List V}{t u:TE}(h1:Gv t σ H (LX d zs))(h2:Gv u σ H (LX d ys))(hl:zs.length+ys.length≤100000):Gv (tOp rCat t u) σ H (LX d (zs++ys)):=fun H1 s1 Q q=>
 h1 H1 s1 _ fun x H2 s2 r1=>h2 H2 (s1.trans s2) _ fun y H3 s3 r2=>by
  obtain ⟨a,na,rfl,ha⟩:=r1;obtain ⟨b,nb,rfl,hb⟩:=r2;refine ⟨a,b,_,_,rfl,rfl,s3 _ _ ha,hb,yaB hl (by decide),fun p hp=>?_⟩;exact q _ _ (s2.trans (s3.trans (zai hp _))) ⟨p,hd.out (s1.trans (s2.trans s3)) hp,rfl,zad⟩
theorem zcu:GvA tNil σ H (fun xs _=>xs=[]):=fun H1 _ Q q=>q [] H1 (Same.refl _) rfl
theorem zbK {v:V}{vs:List V}{t:TE}{ts:TA}(h:Gv t σ H (fun x _=>x=v))(hs:GvA ts σ H (fun xs _=>xs=vs)):GvA (zkH t ts) σ H (fun xs _=>xs=v::vs):=fun H1 s1 Q q=>
 h H1 s1 _ fun x H2 s2 r=>hs H2 (s1.trans s2) _ fun xs H3 s3 r3=>q _ _ (s2.trans s3) (by rw[r,r3])
include hd in
theorem zcv {zs:List V}{ts:TA}(hs:GvA ts σ H (fun xs _=>xs=zs))(hn:zs.length≤1000):Gv (tLst ts) σ H (LX d zs):=fun H1 s1 Q q=>
 hs H1 s1 _ fun xs H2 s2 r=>by
  subst r;exact ⟨yaB hn (by decide),fun p hp=>q _ _ (s2.trans (zai hp _)) ⟨p,hd.out (s1.trans s2) hp,rfl,zad⟩⟩
include hd in
theorem zdC {zs:List V}{i:Nat}{x:V}{tl th:TO}{lo hi:Option Int}(e:σ[i]?=some (some x))(h:LX d zs x H)(hl:GvO tl σ H lo)(hh:GvO th σ H hi):Gv (tSl (rSlL K) (tVar i) tl th) σ H (LX d (cutV zs lo hi)):=fun H1 s1 Q q=>by
 obtain ⟨a,na,rfl,ha⟩:=h;refine ⟨_,e,hl H1 s1 _ (hh H1 s1 _ ⟨a,zs,rfl,SqL.of (s1 _ _ ha),fun p hp=>?_⟩)⟩;exact q _ _ (zai hp _) ⟨p,hd.out s1 hp,rfl,zad⟩
include hd in
theorem zp3 {zs:List V}{i:Nat}{x:V}{th:TO}(e:σ[i]?=some (some x))(h:LX d zs x H)(hh:GvO th σ H (some (-1))):Gv (tRev K (tVar i) th) σ H (LX d zs.reverse):=fun H1 s1 Q q=>by
 obtain ⟨a,na,rfl,ha⟩:=h;refine ⟨_,e,hh H1 s1 _ ⟨a,zs,rfl,rfl,SqL.of (s1 _ _ ha),fun p hp=>?_⟩⟩;exact q _ _ (zai hp _) ⟨p,hd.out s1 hp,rfl,zad⟩
end
theorem LX.mono {d:List Addr}{zs:List V}:ziF (LX d zs):=fun _ _ _ s ⟨a,n,e,h⟩=>⟨a,n,e,s _ _ h⟩
def LE_ (n:Nat)(E:V→Hp→Prop)(x:V)(H:Hp):Prop:=∃ a zs,x=.ref a∧H a=some (.lst zs)∧zs.length=n∧∀ z∈zs,E z H
theorem LE_.mono {n:Nat}{E:V→Hp→Prop}(hE:ziF E):ziF (LE_ n E):=fun x H H' s h=>by
 obtain ⟨a,zs,rfl,ha,la,ea⟩:=h;exact ⟨a,zs,rfl,s _ _ ha,la,fun z hz=>hE _ _ _ s (ea z hz)⟩
theorem zi9 {σ:L2.St}{H:Hp}{E:V→Hp→Prop}{n:Nat}{ts:TA}(hE:ziF E)(hs:GvA ts σ H (fun xs H'=>xs.length=n∧∀ x∈xs,E x H'))(hn:n≤1000:=by decide):Gv (tLst ts) σ H (LE_ n E):=fun H1 s1 Q q=>
 hs H1 s1 _ fun xs H2 s2 r=>⟨by rw[r.1];exact yaB hn (by decide),fun p hp=>q _ _ (s2.trans (zai hp _)) ⟨p,xs,rfl,zad,r.1,fun z hz=>hE _ _ _ (zai hp _) (r.2 z hz)⟩⟩
theorem zp4 {σ:L2.St}{H:Hp}{E:V→Hp→Prop}{n m:Nat}{t u:TE}(hE:ziF E)(h1:Gv t σ H (LE_ n E))(h2:Gv u σ H (LE_ m E))(hl:n+m≤100000):Gv (tOp rCat t u) σ H (LE_ (n+m) E):=fun H1 s1 Q q=>
 h1 H1 s1 _ fun x H2 s2 r1=>h2 H2 (s1.trans s2) _ fun y H3 s3 r2=>by
  obtain ⟨a,xs,rfl,ha,la,ea⟩:=r1;obtain ⟨b,ys,rfl,hb,lb,eb⟩:=r2;refine ⟨a,b,_,_,rfl,rfl,s3 _ _ ha,hb,by rw[la,lb];exact yaB hl (by decide),fun p hp=>?_⟩;have sp:=zai hp (.lst (xs++ys));refine q _ _ (s2.trans (s3.trans sp)) ⟨p,_,rfl,zad,by rw[yaf,la,lb],fun z hz=>?_⟩;rcases yai.mp hz with h | h
  ·exact hE _ _ _ (s3.trans sp) (ea z h)
  ·exact hE _ _ _ sp (eb z h)
theorem ziB {n:Nat}(h:n < 64):(PyData.shown (.int ((n:Int)+10 ^ 50))).length≤60∧(PyData.int ((n:Int)+10 ^ 50)).showable=true:=by
 have:∀ n:Fin 64,(PyData.shown (.int (((n:Nat):Int)+10 ^ 50))).length≤60∧(PyData.int (((n:Nat):Int)+10 ^ 50)).showable=true:=by decide +kernel
 exact this ⟨n,h⟩
theorem El.big {b:Bool}{H:Hp}{n:Nat}(h:n < 64):El b (.int ((n:Int)+10 ^ 50)) H:=⟨_,[],.int _,(ziB h).2,fun _=>by simp[PyData.hasDict],fun _ _ h=>absurd h yaF,by simp[PyData.depth],yaB (ziB h).1 (by decide)⟩
def zjI (K:Frag):Sp:=fun vs H Q _=>∃(d L t wa:Addr) (ps w:List Nat) (Av:List Addr),vs=[.ref d,.ref t,.ref wa]∧d∈Av∧zhF H Av∧wa∉Av∧H t=some (.tup (zbP ps))∧zaC ps∧ps.length≤40∧zdo H wa ps w∧LS K L d H∧
 ∀ x H',NWD K ps Av x H'→Keep d H H'→LS K L d H'→Q x H'
set_option maxHeartbeats 2000000 in
theorem zma (T:Txt K mg)(qbm:DF K mg "_law_no_ways" zc9 zcI)(qac:FC P w K mg base 2 "_law_take" zbb (zem K)):FC P w K mg base 3 "_law_no_ways" zcI (zjI K):=by
 refine qbm.ok qax (fun vs H Q E h=>?_) (fun f cdv A outer s H vs Q E hr h=>?_)
 ·obtain ⟨d,L,t,wa,ps,w,Av,rfl,_⟩:=h;rfl
 obtain ⟨d,L,t,wa,ps,w,Av,rfl,hdA,hAv,hwA,ht,hT,hp,W,hs,q⟩:=h;refine ⟨_,(zag (zfW (i:=3) (N:=["_law_knot","_law_tree_here","_law_way_here"]) (own:=1) (cap:=[1,2]) qax.nd rfl rfl rfl (zc0 rfl T.qap (zaa zae (zaa (zal zam rfl T.qaz boot_len (zaa (pv 1) zac)) zac))) ⟨rfl,rfl,rfl,rfl,rfl,rfl⟩ (fun _ _ _ _ _=>(zan (i:=0) (show List.Nodup (["_law_knot","_law_tree_here","_law_way_here"]:List Str) by decide +kernel) rfl (Or.inl rfl))) (fun _ _ _ _ _=>(zfV (zav zhj (zau (zcP (K:=K)) (pv 1) (pv 0) (fun _ _=>rfl)) (zau (zfK (K:=K)) (pv 2) (ze3 zcT zae) (fun _ _=>rfl)) (zaB _)))) (fun _ _ _ _ _=>(pv 0)))
   (zag (zas (i:=4) qax.nd rfl (Or.inl rfl) (zaI (zaa (zaI zac) (zaa (zbB zac) (zaa (zbJ zcc rfl T.qbJ boot_tuple (zaa (pv 2) zac)) (zaa zhX (zaa zae (zaa zb2 (zaa zbo (zaa zhb (zaa (zaI (zaa (pv 2) zac)) (zaa (zaw zb4 (zaI (zaa zhX zac)) (pv 2)) (zaa (zaw zb4 (pv 2) (zaI (zaa zb2 zac))) (zaa (zaw zb4 (pv 2) (zaI (zaa zbo zac))) (zaa (zaI (zaa zae (zaa zae zac))) zac)))))))))))))))
   (zag (zas (i:=4) qax.nd rfl (Or.inl rfl) (zaw zb4 (pv 4) (zaI (zaa (zaw zb4 (pv 2) (pv 2)) (zaa (zaw zb4 (pv 2) (zaI (zaa zae zac))) (zaa (zaw zb4 (pv 2) (zaI (zaa (zal zam rfl T.qaz boot_len (zaa (pv 1) zac)) zac))) (zaa (zaI (zaa (ze3 zcT zae) zac)) (zaa (zaw zb4 (zbW zcM (pv 2) zdt (zbS (ze3 zcT zae))) (zaI (zaa (zaw zbe (zau zay (pv 2) (ze3 zcT zae) (fun _ _=>rfl)) (zaw zfj zae zae)) zac))) (zaa (zaI (zaa (zaI (zaa zae zac)) zac)) (zaa (zaI (zaa (zbB (zaa (zau zay (pv 2) zae (fun _ _=>rfl)) zac)) zac)) zac))))))))))
   (zag (zas (i:=4) qax.nd rfl (Or.inl rfl) (zaw zb4 (pv 4) (zbr (N:=["_law_knot","_law_way_here"]) (own:=1) (cap:=[2]) rfl (zbq (pv 3)) ⟨rfl,rfl,rfl,rfl,rfl,rfl⟩ (fun _ _ _ _ _=>(zan (i:=0) (show List.Nodup (["_law_knot","_law_way_here"]:List Str) by decide +kernel) rfl (Or.inl rfl))) (fun _ _ _ _ _=>zbp) (fun _ _ _ _ _=>(zaw zb4 (pv 1) (zaI (zaa (pv 0) zac)))))))
   (zaJ (za6 (zav zkR (zal zam rfl T.qaz boot_len (zaa (pv 2) zac)) zae (zaB _)) (zaf (zas (i:=4) qax.nd rfl (Or.inl rfl) (zaw zb4 (pv 4) (zaI (zaa (zpx (pv 2) (zbS (ze3 zcT zae))) (zaa (zaw zb4 (zaw zb4 (zbW zcM (pv 2) zdt (zbS zae)) (zbW zcM (pv 2) (zbS zae) zdt)) (zaI (zaa zae zac))) zac)))))) zaA)
   (zaJ (za6 (zav zkR (zal zam rfl T.qaz boot_len (zaa (pv 2) zac)) zae (zaB _)) (zaf (zbd (ze4 F.plainAttrs_list F.slot_list_append F.type_list_append za0 (pv 4) (zaa (zaw zb4 (zbW zcM (pv 2) zdt (zbS zae)) (zbW zcM (pv 2) (zbS zae) zdt)) zac)))) zaA)
   (zaf (zao (zau zay (pv 4) (zaz qac hr (zaa (pv 0) (zaa (zal zam rfl T.qaz boot_len (zaa (pv 4) zac)) zac))) (fun _ _=>rfl)))))))))),?_⟩
 have hwl:=W.len;have hw0:0 < w.length:=ybV.mpr W.ne;have hwk:∀ n∈w,n < 64:=fun n hn=>by
  have:=W.kn n hn;omega
 obtain ⟨ob,hob⟩:∃ ob,H d=some ob:=by
  obtain ⟨_,_,_,e2,_⟩:=hs.ex;exact ⟨_,e2⟩
 have htd:t≠d:=fun z=>by
  obtain ⟨_,_,_,e2,_⟩:=hs.ex;rw[← z,ht]at e2;cases e2
 have hwd:wa≠d:=fun z=>by
  obtain ⟨_,_,_,e2,_⟩:=hs.ex;rw[← z,W.at_]at e2;cases e2
 have hla:atI (w.map nV) (-1)=some (nV (w.getD (w.length - 1) 0)):=by
  have e:w=w.take (w.length - 1)++[w.getD (w.length - 1) 0]:=by
   conv=>lhs;rw[← yat (yaa w.length),show w.length=w.length - 1+1 by omega,zjz (by omega)]
  conv=>lhs;rw[e]
  exact zjs
 have hlk:=W.kn _ (zlq (show w.length - 1 < w.length by omega));generalize hwl0:w.getD (w.length - 1) 0=wl at hla hlk;refine ⟨_,rfl,_,_,rfl,.inr (SqT.of ht),1,_,rfl,⟨by omega,by omega,by omega,by rw[zax];omega⟩,fun D hD=>?_⟩;have en:((((zbP ps).length:Nat):Int) - 1).toNat=ps.length:=by
  rw[zax];omega
 rw[en];refine zd2 (lo:=1) (n:=ps.length) (fun i σ H2=>∃(x0:Option V) (lone:List Nat),σ=[x0,some (.ref t),some (.ref wa)]∧H2 D=some (.lst (lone.map nV))∧lone.length≤i∧(∀ k∈lone,k < ps.length+1∧par ps k≠some wl)∧But D H H2) ?_ ?_ ?_
 ·exact ⟨_,[],rfl,zad,yaa _,fun _ h=>absurd h yaF,fun b o n e=>by rw[zah n];exact e⟩
 ·rintro i m σ H2 him hi ⟨x0,lone,rfl,h2,hll,hlo,k2⟩;have e1:(1:Int)+(i:Int)=((i+1:Nat):Int):=by omega
  rw[e1];have h2t:=k2 _ _ (zab ht hD) ht;have h2w:=k2 _ _ (zab W.at_ hD) W.at_;refine ⟨_,rfl,_,rfl,_,_,_,_,rfl,rfl,SqT.of h2t,zfg (by omega),_,rfl,_,rfl,_,_,_,_,rfl,rfl,SqL.of h2w,hla,zeo _ _ _,_,rfl,?_⟩;by_cases hq:parV ps (i+1)=nV wl
  ·refine zi6 hq ⟨m - 1,by omega,by omega,_,lone,rfl,h2,by omega,hlo,k2⟩
  ·rw[yaq hq];refine iteT ?_;refine ⟨_,rfl,_,h2,zap (by rw[yab];omega),m - 1,by omega,by omega,_,lone++[i+1],rfl,?_,by rw[yaf,yaJ];omega,fun k hk=>?_,fun b o n e=>by rw[zah n];exact k2 b o n e⟩
   ·rw[zad,yan];rfl
   ·rcases yai.mp hk with z | z
    ·exact hlo k z
    ·rw[yah.mp z];exact ⟨by omega,fun z=>hq (ze5.mpr z)⟩
 rintro σ H1 ⟨x0,lone,rfl,h1,hll,hlo,k1⟩;have s1:Same H H1:=fun b o e=>k1 b o (zab e hD) e;have hob1:=hAv.mono s1;have hd1:=s1 _ _ hob;have hDd:D≠d:=fun z=>zab hob hD z.symm;have w1:=s1 _ _ W.at_;have t1:=s1 _ _ ht;have lw:∀{H'},Same H1 H'→LX Av (w.map nV) (.ref wa) H':=fun s=>⟨wa,hwA,rfl,s _ _ w1⟩;have elw:∀{H':Hp},∀ z∈w.map nV,El false z H':=fun z hz=>by
  obtain ⟨n,hn,rfl⟩:=yaA.mp hz;exact El.nat (hwk n hn)
 have el1:∀{H':Hp} {l:List V} {v:V},(∀ z∈l,El false z H')→El false v H'→∀ z∈l++[v],El false z H':=fun h1 h2 z hz=>by
  rcases yai.mp hz with y | y
  ·exact h1 z y
  ·rw[yah.mp y];exact h2
 have elc:∀{H':Hp} {l m:List V},(∀ z∈l,El false z H')→(∀ z∈m,El false z H')→∀ z∈l++m,El false z H':=fun h1 h2 z hz=>(yai.mp hz).elim (h1 z) (h2 z);have cutm:∀{H':Hp} {lo hi:Option Int},∀ z∈cutV (w.map nV) lo hi,El false z H':=fun z hz=>elw z (zop hz);have mk:∀{zs:List V} {x:V} {H':Hp},LX Av zs x H'→zs.length≤2000→(∀ z∈zs,El false z (del H' Av))→wayB ps zs=false→NWD K ps Av x H':=fun ⟨a,na,e,ha⟩ hl hE hb=>e ▸ zh4 na ha hl hE hb;dsimp only[zhw,tSeq,tAsg];refine (zi9 (n:=13) (NWD.same (K:=K) (ps:=ps) (d:=Av)) (zaK NWD.same ?a1 (zaK NWD.same ?a2 (zaK NWD.same ?a3 (zaK NWD.same ?a4 (zaK NWD.same ?a5 (zaK NWD.same ?a6 (zaK NWD.same ?a7 (zaK NWD.same ?a8 (zaK NWD.same ?a9 (zaK NWD.same ?b1 (zaK NWD.same ?b2 (zaK NWD.same ?b3 (zaK NWD.same ?b4 zi8)))))))))))))) H1 (Same.refl _) _ fun y2 H2 s2 r2=>?_
 case a1=>exact (zcv hob1 zcu (by decide)).mono fun _ H' _ h=>mk h (by decide) (fun z hz=>absurd hz yaF) rfl
 case a2=>exact fun H' s' Q q=>⟨(by show 0≤sizeLine;decide),fun p hp=>q _ _ (zai hp _) (zoZ (ws:=[]) (hob1.out s' hp) zad (by decide) (fun _ h=>absurd h yaF))⟩
 case a3=>exact fun H' s' Q q=>⟨_,rfl,wa,_,rfl,.inl ⟨SqL.of (s' _ _ w1),fun p hp=>q _ _ (zai hp _) (zoZ (ws:=w) (hob1.out s' hp) zad hwl hwk)⟩⟩
 case a4=>exact gv_c fun H' _=>zmj .non (by decide +kernel) fun _ _=>.non
 case a5=>exact gv_c fun H' _=>zmj (.int 7) (by decide +kernel) fun _ _=>.int 7 (by decide)
 case a6=>exact gv_c fun H' _=>zmj (.bl true) (by decide +kernel) fun _ _=>.bl true
 case a7=>exact gv_c fun H' _=>zmj (.str _) (by decide +kernel) fun _ _=>.str _ (by decide +kernel)
 case a8=>
  intro H' s' Q q e he;have n:e∉Av:=hob1.out s' he;have w:del (upd H' e (.dK [])) Av e=some (.dK []):=by rw[zdk n];exact zad
  exact q _ _ (zai he _) (zmj (.dK w) (by decide +kernel) fun H' s'=>.dic e (s' _ _ w))
 case a9=>exact (zcv hob1 (zbK (v:=.ref wa) (zeT rfl fun _ _=>rfl) zcu) (by show 1≤1000;decide)).mono fun _ H' s h=>mk h (by show 1≤2000;decide) (fun z hz=>by rw[yah.mp hz];exact El.way (by rw[zdk hwA];exact s _ _ w1) hwl hwk) (zbD yak rfl)
 case b1=>exact (zcQ hob1 (zcv hob1 (zbK (v:=.non) (gv_c fun _ _=>rfl) zcu) (by decide)) (zeT rfl fun _ s=>lw s) (by rw[yab];show 1+_≤_;omega)).mono fun _ H' s h=>mk h (by rw[yaf,yab];show 1+_≤_;omega) (elc (fun z hz=>by rw[yah.mp hz];exact .of .non (by decide +kernel) (by decide +kernel) (by decide +kernel) (by decide +kernel)) elw) (zbD yak rfl)
 case b2=>exact (zcQ hob1 (zeT rfl fun _ s=>lw s) (zcv hob1 (zbK (v:=.bl true) (gv_c fun _ _=>rfl) zcu) (by decide)) (by rw[yab];show _+1≤_;omega)).mono fun _ H' s h=>mk h (by rw[yaf,yab];show _+1≤_;omega) (el1 elw (.of (.bl _) (by decide +kernel) (by decide +kernel) (by decide +kernel) (by decide +kernel))) (zbD (yax _ yak) rfl)
 case b3=>exact (zcQ hob1 (zeT rfl fun _ s=>lw s) (zcv hob1 (zbK (v:=.str "1") (gv_c fun _ _=>rfl) zcu) (by decide)) (by rw[yab];show _+1≤_;omega)).mono fun _ H' s h=>mk h (by rw[yaf,yab];show _+1≤_;omega) (el1 elw (.of (.str _) (by decide +kernel) (by decide +kernel) (by decide +kernel) (by decide +kernel))) (zbD (yax _ yak) rfl)
 case b4=>exact (zcv hob1 (zbK (v:=.int 0) (gv_c fun _ _=>rfl) (zbK (v:=.int 0) (gv_c fun _ _=>rfl) zcu)) (by decide)).mono fun _ H' s h=>mk h (by decide) (fun z hz=>by
   have:z=.int 0:=by simpa using hz
   rw[this];exact El.nat (n:=0) (by decide)) (zeX (l:=[0,0]) (i:=0) rfl rfl (fun z=>nomatch z))
 have s12:=s1.trans s2;have hob2:=hob1.mono s2;have hd2:=s2 _ _ hd1;have w2:=s2 _ _ w1;have t2:=s2 _ _ t1;refine (zp4 (n:=13) (m:=7) NWD.same (zeT rfl fun H' s=>LE_.mono NWD.same _ _ _ s r2) (zi9 (n:=7) NWD.same (zaK NWD.same ?c1 (zaK NWD.same ?c2 (zaK NWD.same ?c3 (zaK NWD.same ?c4 (zaK NWD.same ?c5 (zaK NWD.same ?c6 (zaK NWD.same ?c7 zi8)))))))) (by decide)) H2 (Same.refl _) _ fun y3 H3 s3 r3=>?_
 case c1=>exact (zcQ hob2 (zeT rfl fun _ s=>lw (s2.trans s)) (zeT rfl fun _ s=>lw (s2.trans s)) (by rw[yab];omega)).mono fun _ H' s h=>mk h (by rw[yaf,yab];omega) (elc elw elw) (by rw[← yan];exact zn4 hT W.ch hw0)
 case c2=>exact (zcQ hob2 (zeT rfl fun _ s=>lw (s2.trans s)) (zcv hob2 (zbK (v:=.int 0) (gv_c fun _ _=>rfl) zcu) (by decide)) (by rw[yab];show _+1≤_;omega)).mono fun _ H' s h=>mk h (by rw[yaf,yab];show _+1≤_;omega) (el1 elw (El.nat (n:=0) (by decide))) (by rw[show w.map nV++[.int 0]=(w++[0]).map nV by rw[yan];rfl];exact zml hw0 (fun z=>nomatch z))
 case c3=>exact (zcQ hob2 (zeT rfl fun _ s=>lw (s2.trans s)) (zcv hob2 (zbK (v:=.int (((zbP ps).length:Nat):Int)) (fun H' s' Q q=>⟨_,rfl,_,_,rfl,.inr (SqT.of (s' _ _ t2)),q _ _ (Same.refl _) rfl⟩) zcu) (by show 1≤1000;decide)) (by rw[yab];show _+1≤_;omega)).mono fun _ H' s h=>mk h (by rw[yaf,yab];show _+1≤_;omega) (el1 elw (El.nat (by rw[zax];omega))) (zbD (yax _ yak) (zin (by rw[zax];omega)))
 case c4=>exact (zcv hob2 (zbK (v:=.int (-1)) (fun H' s' Q q=>⟨_,rfl,q _ _ (Same.refl _) rfl⟩) zcu) (by decide)).mono fun _ H' s h=>mk h (by decide) (fun z hz=>by rw[yah.mp hz];exact .of (.int _) (by decide +kernel) (by decide +kernel) (by decide +kernel) (by decide +kernel)) (zbD yak (zmW (by decide)))
 case c5=>
  refine (zcQ hob2 (zdC hob2 rfl (lw s2) zeS (fun _ _ _ q=>⟨_,rfl,_,rfl,q⟩)) (zcv hob2 (zbK (v:=.int ((wl:Int)+10 ^ 50)) (fun H' s' Q q=>⟨_,rfl,_,rfl,_,_,_,_,rfl,rfl,SqL.of (s' _ _ w2),hla,_,_,rfl,rfl,⟨by decide,by decide,by decide⟩,_,_,rfl,rfl,q _ _ (Same.refl _) rfl⟩) zcu) (by show 1≤1000;decide)) ?_).mono fun _ H' s h=>mk h ?_ (el1 cutm (El.big (by omega))) (zbD (yax _ yak) (zin ?_))
  ·have:=zkq (w.map nV) none (some (-1));rw[yab]at this;show _+1≤_;omega
  ·have:=zkq (w.map nV) none (some (-1));rw[yab]at this;rw[yaf];show _+1≤_;omega
  ·have:(100:Int)≤10 ^ 50:=by decide
   omega
 case c6=>
  intro H' s' Q q;refine ⟨(by show 1≤sizeLine;decide),fun b hb=>⟨(by show 1≤sizeLine;decide),fun a ha=>?_⟩⟩;have sb:=zai hb (.lst [V.int 0]);have sa:=zai ha (.lst [V.ref b]);have nbd:b∉Av:=hob2.out s' hb;have nad:a∉Av:=hob2.out (s'.trans sb) ha;refine q _ _ (sb.trans sa) (zh4 (zs:=[.ref b]) nad zad (by show 1≤2000;decide) (fun z hz=>?_) (zbD yak rfl));rw[yah.mp hz];exact El.way (ws:=[0]) (by rw[zdk nbd];exact sa _ _ zad) (by decide) (by decide)
 case c7=>
  intro H' s' Q q;refine ⟨_,rfl,_,_,_,_,rfl,rfl,SqL.of (s' _ _ w2),zaQ (j:=0) (v:=nV (w.getD 0 0)) (by rw[yaj,zik hw0];rfl),(by show 1≤sizeLine;decide),fun b hb=>⟨(by show 1≤sizeLine;decide),fun a ha=>?_⟩⟩;have sb:=zai hb (.tup [nV (w.getD 0 0)]);have sa:=zai ha (.lst [V.ref b]);have nbd:b∉Av:=hob2.out s' hb;have nad:a∉Av:=hob2.out (s'.trans sb) ha;refine q _ _ (sb.trans sa) (zh4 (zs:=[.ref b]) nad zad (by show 1≤2000;decide) (fun z hz=>?_) (zbD yak rfl));rw[yah.mp hz];exact El.tupw (ws:=[w.getD 0 0]) (by rw[zdk nbd];exact sa _ _ zad) (by show 1≤900;decide) (fun n hn=>by rw[yah.mp hn];exact hwk _ (zlq hw0))
 have s13:=s2.trans s3;have s03:=s1.trans s13;have h3D:=s13 _ _ h1;have h3w:=s13 _ _ w1;have hd3:=s13 _ _ hd1;have hob3:=hob1.mono s13;obtain ⟨a3,xs3,rfl,ha3,hl3,he3⟩:=r3;refine ⟨_,rfl,_,rfl,D,rfl,⟨_,SqL.of h3D⟩,fun D4 hD4=>?_⟩;refine zcw (xs:=lone.map nV) (fun i σ H4=>∃(x0:Option V) (us:List V),σ=[x0,some (.ref wa)]∧H4 D4=some (.lst us)∧Paired (fun k u=>∃ p,u=V.ref p∧p∉Av∧p≠D4∧H4 p=some (.lst ((w++[k]).map nV))) (lone.take i) us∧But D4 H3 H4) ?_ ?_ ?_ ?_
 ·exact ⟨_,[],rfl,zad,.nil,fun b o n e=>by rw[zah n];exact e⟩
 ·rintro i σ H4 _ ⟨x0,us,rfl,_,_,k4⟩;exact k4.sq (SqL.of h3D) hD4
 ·rintro i m x σ H4 hx hm ⟨x0,us,rfl,h4,hP,k4⟩;have hi:=(yao.mp hx).1;rw[yab]at hi hm;obtain ⟨hi',rfl⟩:=zgD hx;have h4w:=k4 _ _ (zab h3w hD4) h3w;have hul:=Paired.length hP;rw[yar]at hul;refine zd8 ?_;refine ⟨_,rfl,_,rfl,(by show 1≤sizeLine;decide),fun u hu=>?_⟩;have su:=zai hu (.lst [nV (lone.getD i 0)]);refine ⟨wa,u,_,_,rfl,rfl,su _ _ h4w,zad,ybd (zap (by rw[yab];show _+1≤_;omega)),fun p hp=>?_⟩;have sp:=su.trans (zai hp (.lst (w.map nV++[nV (lone.getD i 0)])));have hpp:upd (upd H4 u (.lst [nV (lone.getD i 0)])) p (.lst (w.map nV++[nV (lone.getD i 0)])) p=some (.lst ((w++[lone.getD i 0]).map nV)):=by rw[zad,yan];rfl
  generalize upd (upd H4 u (.lst [nV (lone.getD i 0)])) p (.lst (w.map nV++[nV (lone.getD i 0)]))=H5 at sp hpp ⊢;have h5D:=sp _ _ h4;have npD:p≠D4:=fun z=>by
   have:=su _ _ h4;rw[← z,hp]at this;cases this
  have npd:p∉Av:=hob3.out (fun b o e=>su _ _ (k4 b o (zab e hD4) e)) hp;refine ⟨_,h5D,zap (by omega),m - 1,by omega,by rw[yab];omega,_,us++[.ref p],rfl,zad,?_,fun b o n e=>by rw[zah n];exact sp _ _ (k4 b o n e)⟩;rw[zjz hi];exact zco (zaL (fun _ _ zq0=>(by obtain ⟨p,e1,e2,e3,e4⟩:=zq0;exact ⟨p,e1,e2,e3,by rw[zah e3];exact sp _ _ e4⟩)) hP) ⟨p,rfl,npd,npD,by rw[zah npD];exact hpp⟩
 rintro σ H4 ⟨x0,us,rfl,h4,hP,k4⟩;rw[yab,yat (yaa _)]at hP;have s4:Same H3 H4:=fun b o e=>k4 b o (zab e hD4) e;have hul:=Paired.length hP;refine ⟨a3,D4,_,_,rfl,rfl,s4 _ _ ha3,h4,ybd (zap (by omega)),fun c5 hc5=>?_⟩;have s5:=zai hc5 (.lst (xs3++us));have hn5:=zmn hc5 (.lst (xs3++us));have hcd:c5≠d:=fun z=>zab (s4 _ _ hd3) hc5 z.symm;have hcf:H c5=none:=(s03.trans s4).free hc5;have f5:∃ zs:List V,upd H4 c5 (.lst (xs3++us)) c5=some (.lst zs)∧(0 < zs.length∧zs.length≤60)∧∀ z∈zs,NWD K ps Av z (del (upd H4 c5 (.lst (xs3++us))) [c5]):=by
  refine ⟨_,zad,by rw[yaf];omega,fun z hz=>?_⟩;rcases yai.mp hz with y | y
  ·exact NWD.same _ _ _ (s4.trans hn5) (he3 z y)
  ·obtain ⟨j,hj⟩:=List.getElem?_of_mem y;obtain ⟨k,hk,p,rfl,e2,e3,e4⟩:=zfY hP hj;have hkl:=hlo k (yaQ hk);refine NWD.same _ _ _ hn5 (zh4 e2 e4 (by rw[yab,yaf,yaJ];omega) (fun z hz=>?_) (zml hw0 (by rw[hwl0];exact hkl.2)));obtain ⟨n,hn,rfl⟩:=yaA.mp hz;rcases yai.mp hn with y | y
   ·exact El.nat (hwk n y)
   ·rw[yah.mp y];exact El.nat (by omega)
 have s05:=s03.trans (s4.trans s5);generalize upd H4 c5 (.lst (xs3++us))=H5 at s5 f5 s05 ⊢;have h5w:=s05 _ _ W.at_;have hd5:=s05 _ _ hob;obtain ⟨zs5,h5c,hl5,he5⟩:=f5;have el10:∀{H':Hp},∀ z∈[V.int 0],El false z H':=fun z hz=>by
  rw[yah.mp hz];exact El.nat (n:=0) (by decide)
 have cut1:cutV (w.map nV) none (some 1)=(w.take 1).map nV:=by
  have:=zqg (xs:=w.map nV) 1;rw[← ycn]at this;exact this
 have cut2:cutV (w.map nV) (some 2) none=(w.drop 2).map nV:=by
  have:=zf7 (xs:=w.map nV) 2;rw[← List.map_drop]at this;exact this
 have elh:∀{H':Hp},∀ z∈(w.take 1++w.drop 2).map nV,El false z H':=fun z hz=>by
  obtain ⟨n,hn,rfl⟩:=yaA.mp hz;rcases yai.mp hn with y | y
  ·exact El.nat (hwk n (ybJ y))
  ·exact El.nat (hwk n (yb0 y))
 have hhl:(w.take 1++w.drop 2).length≤900:=by
  rw[yaf,yar,yaL];omega
 have hob5:=hAv.mono s05;have lw5:∀{H'},Same H5 H'→LX Av (w.map nV) (.ref wa) H':=fun s=>⟨wa,hwA,rfl,s _ _ h5w⟩;refine ⟨fun σ' H'=>∃(c:Addr) (zs:List V),σ'=[some (.ref d),some (.ref t),some (.ref wa),some (.ref D),some (.ref c)]∧H' c=some (.lst zs)∧(0 < zs.length∧zs.length≤62)∧c≠d∧H c=none∧(∀ z∈zs,NWD K ps Av z (del H' [c]))∧Same H5 H',?_,?_⟩
 ·refine ⟨_,rfl,_,_,rfl,.inl (SqL.of h5w),_,_,rfl,rfl,_,rfl,?_⟩;refine ite2 (fun z1=>?_) (fun _=>⟨c5,zs5,rfl,h5c,⟨hl5.1,by omega⟩,hcd,hcf,he5,Same.refl _⟩);have z1:=yaD z1;rw[yab]at z1;have hw1:1 < w.length:=by omega
  refine ⟨_,rfl,?_⟩;refine (zi9 (n:=2) (NWD.same (K:=K) (ps:=ps) (d:=Av)) (zaK NWD.same ?e1 (zaK NWD.same ?e2 zi8))) H5 (Same.refl _) _ fun y6 H6 s6 r6=>?_
  case e1=>exact (zp3 hob5 rfl (lw5 (Same.refl _)) (fun _ _ _ q=>⟨_,rfl,_,rfl,q⟩)).mono fun _ H' s h=>mk h (by rw[ybw,yab];omega) (fun z hz=>elw z (ybO.mp hz)) (by rw[← List.map_reverse];exact zmk hT W.ch hw1)
  case e2=>
   refine (zcQ hob5 (zcQ hob5 (zdC hob5 rfl (lw5 (Same.refl _)) zeS (fun _ _ _ q=>⟨_,rfl,q⟩)) (zdC hob5 rfl (lw5 (Same.refl _)) (fun _ _ _ q=>⟨_,rfl,q⟩) zeS) ?_) (zcv hob5 (zbK (v:=.int 0) (gv_c fun _ _=>rfl) zcu) (by decide)) ?_).mono fun _ H' s h=>?_
   ·rw[cut1,cut2,yab,yab,yar,yaL];omega
   ·rw[cut1,cut2,← yan,yab];show _+1≤_;omega
   ·rw[cut1,cut2,← yan]at h;refine mk h (by rw[yaf,yab];show _+1≤_;omega) (elc elh el10) ?_;rw[show (w.take 1++w.drop 2).map nV++[V.int 0]=(w.take 1++w.drop 2++[0]).map nV by rw[yan (l₂:=[0])];rfl];exact zn5 hw0 hw1
  obtain ⟨b6,ys6,rfl,hb6,l6,e6⟩:=r6;refine ⟨c5,b6,_,_,rfl,rfl,s6 _ _ h5c,hb6,ybd (zap (by omega)),fun c7 hc7=>?_⟩;have hn7:=zmn hc7 (.lst (zs5++ys6));refine ⟨c7,_,rfl,zad,by rw[yaf];omega,(fun z=>zab (s6 _ _ hd5) hc7 z.symm),(s05.trans s6).free hc7,fun z hz=>?_,s6.trans (zai hc7 _)⟩;rcases yai.mp hz with y | y
  ·exact NWD.same _ _ _ (fun b o e=>hn7 _ _ (s6 _ _ (zf6 e).2)) (he5 z y)
  ·exact NWD.same _ _ _ hn7 (e6 z y)
 rintro σ' H6 ⟨c,zs,rfl,hc,hlz,hcd',hcf',he,s6⟩;have h6w:=s6 _ _ h5w;have hd6:=s6 _ _ hd5;have s06:=s05.trans s6;have hcw:wa≠c:=zab W.at_ hcf';refine ⟨fun σ' H'=>∃(zs:List V),σ'=[some (.ref d),some (.ref t),some (.ref wa),some (.ref D),some (.ref c)]∧H' c=some (.lst zs)∧(0 < zs.length∧zs.length≤63)∧(∀ z∈zs,NWD K ps Av z (del H' [c]))∧But c H6 H',?_,?_⟩
 ·refine ⟨_,rfl,_,_,rfl,.inl (SqL.of h6w),_,_,rfl,rfl,_,rfl,?_⟩;refine ite2 (fun z1=>?_) (fun _=>⟨zs,rfl,hc,⟨hlz.1,by omega⟩,he,fun _ _ _ e=>e⟩);have z1:=yaD z1;rw[yab]at z1;have hw2:2 < w.length:=by omega
  have hob6:zhF H6 (c::Av):=fun a ha=>by
   rcases yal.mp ha with z | z
   ·rw[z];exact ⟨_,hc⟩
   ·exact (hob5.mono s6) a z
  have lw6:LX (c::Av) (w.map nV) (.ref wa) H6:=⟨wa,(fun z=>by
   rcases yal.mp z with y | y
   ·exact hcw y
   ·exact hwA y),rfl,h6w⟩
  refine ⟨_,rfl,.inl ⟨rfl,_,SqL.of hc⟩,?_⟩;refine (zcQ hob6 (zdC hob6 rfl lw6 zeS (fun _ _ _ q=>⟨_,rfl,q⟩)) (zdC hob6 rfl lw6 (fun _ _ _ q=>⟨_,rfl,q⟩) zeS) ?_) H6 (Same.refl _) _ fun y7 H7 s7 r7=>?_
  ·rw[cut1,cut2,yab,yab,yar,yaL];omega
  obtain ⟨a7,n7,rfl,h7⟩:=r7;rw[cut1,cut2,← yan]at h7;have n7d:a7∉Av:=fun z=>n7 (yas _ z);have n7c:a7∉[c]:=fun z=>n7 (by rw[yah.mp z];exact yak);refine ⟨_,_,_,rfl,rfl,s7 _ _ hc,zap (by omega),?_⟩;refine ⟨zs++[.ref a7],rfl,zad,by rw[yaf,yaJ];omega,fun z hz=>?_,fun b o n e=>by rw[zah n];exact s7 _ _ e⟩;refine NWD.same _ _ _ zqe ?_;rcases yai.mp hz with y | y
  ·exact NWD.same _ _ _ (zhz s7) (he z y)
  ·rw[yah.mp y];exact zh4 n7d (by rw[zdk n7c];exact h7) (by rw[yab];omega) elh (zpL hT W.ch hw2)
 rintro σ' H7 ⟨zs7,rfl,h7c,hl7,he7,k7⟩;have kd7:Keep d H H7:=fun b o _ e=>k7 _ _ (zab e hcf') (s06 _ _ e);have ls7:LS K L d H7:=hs.same fun b o e=>k7 _ _ (zab e hcf') (s06 _ _ e);refine ⟨_,rfl,_,rfl,_,rfl,_,_,rfl,.inl (SqL.of h7c),d,L,_,rfl,by omega,ls7,fun v H8 v0 v1 k8 s8=>?_⟩;obtain ⟨j,rfl⟩:=zh6 v0;have hj:j < zs7.length:=by omega
 refine ⟨_,_,_,_,rfl,rfl,SqL.of (k8 _ _ hcd' h7c),zaQ (yac hj),?_⟩;have hz:=he7 _ (yaG hj);have sd:Same (del (del H7 [c]) Av) (del H8 Av):=fun b o e=>by
  obtain ⟨n,e1⟩:=zf6 e;rw[zdk n];exact k8 _ _ (fun z=>n (by rw[z];exact hdA)) (zf6 e1).2
 exact q _ H8 ⟨hz.1.same sd,Txt3.same _ _ _ sd hz.2⟩ (fun b o n e=>k8 _ _ n (kd7 _ _ n e)) s8
theorem Kp2.trans {mF mS:Addr}{H H1 H2:Hp}(a:Kp2 mF mS H H1)(b:Kp2 mF mS H1 H2):Kp2 mF mS H H2:=fun c o x y h=>b c o x y (a c o x y h)
theorem Kp2.of {mF mS:Addr}{H H1:Hp}(a:Same H H1):Kp2 mF mS H H1:=fun c o _ _ h=>a c o h
def zlN (K:Frag)(m1 m2:Addr):Sp:=fun vs H Q _=>∃(st:Addr) (x:V) (key:Int) (b:Nat),vs=[.ref st,x,.int key,.int b]∧
 ((∃(wa:Addr) (ps:List Nat) (rows:List (List Int)) (t rs:Addr) (as:List Addr) (w:List Nat),x=.ref wa∧zbi H st ps rows t rs as∧zdo H wa ps w∧TabS m1 m2 H∧∀ H',Kp2 m1 m2 H H'→TabS m1 m2 H'→Q (.str "none") H')∨
 ∃(t rs:Addr) (ps:List Nat),H st=some (.tup [.ref t,.ref rs])∧H t=some (.tup (zbP ps))∧ps.length≤900∧NoW K ps x H∧∀ H',Same H H'→Q (.str "way") H')
theorem znX (T:Txt K mg){qab qak qaa qah qaq qai qal qam qar qaj qas qan:Addr}(CL:Cls K mg qab qak qaa qah qaq qai qal qam qar qaj qas qan){m1 m2:Addr}(qbX:DF K mg "_law_heard" zes zdQ)(qc1:FX P w K mg base 9 "paper_of" zbQ (fun vs H Q E=>zlH K m1 m2 vs H Q E∨zjR K qaa R1 vs H Q E))(qdf:FX P w K mg base 9 "lets_by" zch (fun vs H Q E=>zoL K vs H Q E∨zjR K qaa R2 vs H Q E)):FC P w K mg base 10 "_law_heard" zdQ (zlN K m1 m2):=by
 refine qbX.ok qbd (fun vs H Q E h=>?_) (fun f cdv A outer s H vs Q E hr h=>?_)
 ·obtain ⟨st,x,key,b,rfl,_⟩:=h;rfl
 obtain ⟨st,x,key,b,rfl,h⟩:=h;refine ⟨_,(zag (zas (i:=4) qbd.nd rfl (Or.inl rfl) zhX)
   (zaJ (zpv (i:=5) (zqS (zav zdx (pv 3) zae (zaB _)) (zjW (zlX qc1 hr (zaa (pv 0) (zaa (pv 1) (zaa (pv 2) zac))))) (zjW (zlX qdf hr (zaa (pv 0) (zaa (pv 1) (zaa (pv 2) (zaa (zaI (zaa (zbB (zaa zae (zaa zae (zaa zae zac)))) zac)) zac))))))) rfl rfl qbd.nd rfl rfl CL.qck rfl (fun _=>(zaf (zas (i:=4) qbd.nd rfl (Or.inl rfl) (pv 5)))))
   (zaJ (za6 (zav zq6 (pv 4) zhX (zaB _)) (zaf (zao zbo)) zaA)
   (zaJ (za6 (zbN (zal zge rfl T.qae boot_isinstance (zaa (pv 4) (zaa (zbB (zaa (zb1 (v:=.ref qai) rfl CL.qc6 rfl) (zaa (zb1 (v:=.ref qar) rfl CL.qdQ rfl) (zaa (zb1 (v:=.ref qam) rfl CL.qdw rfl) (zaa (zb1 (v:=.ref qaj) rfl CL.qc7 rfl) (zaa (zb1 (v:=.ref qal) rfl CL.qdv rfl) (zaa (zb1 (v:=.ref qas) rfl CL.qdR rfl) (zaa (zb1 (v:=.ref qah) rfl CL.qc5 rfl) (zaa (zb1 (v:=.ref qan) rfl CL.qdx rfl) (zaa (zb1 (v:=.ref qak) rfl CL.qdu rfl) (zaa (zb1 (v:=.ref qaq) rfl CL.qdP rfl) zac))))))))))) zac)))) (zaf (zao zbo)) zaA)
   (zaJ (za6 (zck (zbN (zal zge rfl T.qae boot_isinstance (zaa (pv 4) (zaa (zdw (v:=.ty "ValueError") rfl T.qcB (by decide +kernel) rfl) zac))))) (zaf (zao zbo)) zaA)
   (zaf (zao (zau zay (zaI (zaa zbo (zaa zbo zac))) (zbJ zne rfl T.qd7 boot_int (zaa (zal zge rfl T.qae boot_isinstance (zaa (pv 4) (zaa (zb1 (v:=.ref qaa) rfl CL.qdO rfl) zac))) zac)) (fun _ _=>rfl))))))))),?_⟩
 rcases h with ⟨wa,ps,rows,t,rs,as,w,rfl,S,W,TT,q⟩ | ⟨t,rs,ps,hst,ht,hp,hN,q⟩
 ·refine ⟨fun σ' H'=>σ'=[some (.ref st),some (.ref wa),some (.int key),some (.int b),some .non,none]∧Kp2 m1 m2 H H'∧TabS m1 m2 H',?_,?_⟩
  ·refine ⟨_,rfl,rfl,_,rfl,?_⟩;refine ite2 (fun _=>?_) (fun _=>?_)
   ·exact ⟨_,rfl,_,rfl,_,rfl,.inl ⟨st,wa,key,ps,rows,t,rs,as,w,rfl,S,W,TT,fun D zs H' _ k' t' _ _=>⟨rfl,k',t'⟩⟩⟩
   ·refine ⟨_,rfl,_,rfl,_,rfl,(by show 3≤sizeLine;decide),fun u hu=>?_⟩;have su:=zai hu (.tup [.int 0,.int 0,.int 0]);refine ⟨(by show 1≤sizeLine;decide),fun l hl=>?_⟩;have sl0:=zai hl (.lst [.ref u]);have sl:=su.trans sl0;exact .inl ⟨st,wa,l,key,ps,rows,t,rs,as,w,[.ref u],[some (0,0,0)],rfl,S.same sl,W.same sl,zad,.cons (.good u 0 0 0 (sl0 _ _ zad)) .nil,(by show 1≤200;decide),fun H' s'=>⟨rfl,.of (sl.trans s'),TT.ext (sl.trans s').ext⟩⟩
  rintro σ' H1 ⟨rfl,k1,T1⟩;refine ⟨fun _ _=>False,?_,fun _ _ z=>z.elim⟩;refine ⟨_,rfl,rfl,_,rfl,?_⟩;exact zpW rfl (q H1 k1 T1)
 ·refine ⟨fun σ' H'=>∃ a,σ'=[some (.ref st),some x,some (.int key),some (.int b),some (.ref a),none]∧H' a=some (ziq a (.ref qaa))∧Same H H',?_,?_⟩
  ·refine ⟨_,rfl,rfl,_,rfl,?_⟩;refine ite2 (fun _=>?_) (fun _=>?_)
   ·exact ⟨_,rfl,_,rfl,_,rfl,.inr ⟨st,t,rs,ps,x,_,rfl,⟨_,rfl⟩,hst,ht,hp,hN,fun H' s'=>⟨qaa,rfl,CL.qc8,fun a ha=>⟨_,rfl,a,rfl,zad,s'.trans (zai ha _)⟩⟩⟩⟩
   ·refine ⟨_,rfl,_,rfl,_,rfl,(by show 3≤sizeLine;decide),fun u hu=>?_⟩;have su:=zai hu (.tup [.int 0,.int 0,.int 0]);refine ⟨(by show 1≤sizeLine;decide),fun l hl=>?_⟩;have sl:=su.trans (zai hl (.lst [.ref u]));exact .inr ⟨st,t,rs,ps,x,_,rfl,⟨_,_,rfl⟩,sl _ _ hst,sl _ _ ht,hp,hN.same sl,fun H' s'=>⟨qaa,rfl,CL.qc8,fun a ha=>⟨_,rfl,a,rfl,zad,(sl.trans s').trans (zai ha _)⟩⟩⟩
  rintro σ' H1 ⟨a,rfl,ha,s1⟩;refine ⟨fun σ' H'=>σ'=[some (.ref st),some x,some (.int key),some (.int b),some (.ref a),none]∧H1=H',?_,?_⟩
  ·refine ⟨_,rfl,rfl,_,rfl,?_⟩;refine zpX (fun z=>nomatch z) ?_;exact ⟨rfl,rfl⟩
  rintro σ' H' ⟨rfl,rfl⟩;refine ⟨fun σ' H'=>σ'=[some (.ref st),some x,some (.int key),some (.int b),some (.ref a),none]∧Same H1 H',?_,?_⟩
  ·refine ⟨_,rfl,(by show 10≤sizeLine;decide),fun tp htp=>?_⟩;have st:=zai htp (.tup [.ref qai,.ref qar,.ref qam,.ref qaj,.ref qal,.ref qas,.ref qah,.ref qan,.ref qak,.ref qaq]);refine ⟨a,qaa,_,false,rfl,st _ _ ha,CL.qcK,.inr (.inr ⟨tp,[qai,qar,qam,qaj,qal,qas,qah,qan,qak,qaq],rfl,zad,by show PySem.W.kitAny K _ _=_;simp only[List.map,PySem.W.kitAny,CL.qbL,CL.qcn,CL.qb9,CL.qbM,CL.qb8,CL.qco,CL.qbK,CL.qca,CL.qb7,CL.qcm]⟩),_,rfl,?_⟩;refine iteF ?_;exact ⟨rfl,st⟩
  rintro σ' H2 ⟨rfl,s2⟩;refine ⟨fun σ' H'=>σ'=[some (.ref st),some x,some (.int key),some (.int b),some (.ref a),none]∧H2=H',?_,?_⟩
  ·refine ⟨_,rfl,a,qaa,_,true,rfl,s2 _ _ ha,CL.qcK,.inr (.inl ⟨_,rfl,CL.qdT⟩),_,rfl,?_⟩;refine iteF ?_;exact ⟨rfl,rfl⟩
  rintro σ' H' ⟨rfl,rfl⟩;refine ⟨(by show 2≤sizeLine;decide),fun l hl=>?_⟩;have gl:=zai hl (.lst [V.str "other",V.str "way"]);have wl:upd H2 l (.lst [V.str "other",V.str "way"]) l=some (.lst [V.str "other",V.str "way"]):=zad;generalize upd H2 l (.lst [V.str "other",V.str "way"])=H3 at gl wl ⊢;refine ⟨_,rfl,a,qaa,_,true,rfl,gl _ _ (s2 _ _ ha),CL.qcK,.inl ⟨_,rfl,CL.qcl⟩,?_⟩;refine .inr ⟨true,rfl,?_⟩;refine ⟨_,_,_,_,rfl,rfl,SqL.of wl,rfl,?_⟩;exact q H3 (s1.trans (s2.trans gl))
theorem zfQ {H H':Hp}{st t rs:Addr}{ps:List Nat}{rows:List (List Int)}{as:List Addr}(S:zbi H st ps rows t rs as)(e:∀ b us,H b=some (.tup us)→H' b=some (.tup us)):zbi H' st ps rows t rs as:=
 ⟨e _ _ S.st,e _ _ S.tr,e _ _ S.rs,pImp (fun _ _=>e _ _) S.at_,S.len,S.T,S.R,S.few,S.keys⟩
theorem hu16 {A:Around}{k:Nat}(hr:Room k A):A.units+16 < cLine:=ybe (yb8 (by decide:16≤64) _) hr.units
def zhQ (K:Frag)(m1 m2:Addr):Sp:=fun vs H Q _=>∃(a:Addr) (ns:List Int),vs=[.ref a]∧SqL K H a (ns.map V.int)∧ns.length≤63∧m1≠m2∧H m1=some (.tbl #[])∧H m2=some (.tbl #[])∧∀ H',Q (.bl true) H'
set_option maxHeartbeats 1000000 in
theorem zra (T:Txt K mg){m1 m2:Addr}(qdW:DF K mg "law" znC zjY)(qdg:FC P w K mg base 1 "_law_begin" zdS (zlR K))(qdh:FC P w K mg base 6 "_law_stand" zdO (zjL K))(qdX:FC P w K mg base 3 "_law_way" zfH (zoM K))(qcz:FC P w K mg base 4 "_law_asked_key" zbU (zlS K))(qcT:FC P w K mg base 3 "_law_no_ways" zcI (zjI K))(qbY:FC P w K mg base 10 "_law_heard" zdQ (zlN K m1 m2)):FC P w K mg base 11 "law" zjY (zhQ K m1 m2):=by
 refine qdW.ok qbr (fun vs H Q E h=>?_) (fun f cdv A outer s H vs Q E hr h=>?_)
 ·obtain ⟨a,ns,rfl,_⟩:=h;rfl
 obtain ⟨a,ns,rfl,hS,_,hnd,hm1,hm2,q⟩:=h;have TT0:TabS m1 m2 H:=⟨⟨#[],hm1,trivial,.inl rfl⟩,⟨#[],hm2,trivial,.inl rfl⟩,hnd⟩;refine ⟨_,(zag (zas (i:=1) qbr.nd rfl (Or.inl rfl) (zaz qdg hr (zaa (pv 0) zac)))
   (zag (zas (i:=2) qbr.nd rfl (Or.inl rfl) (zaz qdh hr (zaa (pv 1) zac)))
   (zag (zas (i:=3) qbr.nd rfl (Or.inl rfl) (zaz qdX hr (zaa (pv 1) (zaa (zau zaF (pv 2) zae (fun _ _=>rfl)) zac))))
   (zag (zas (i:=4) qbr.nd rfl (Or.inl rfl) (zaz qcz hr (zaa (pv 1) (zaa (pv 2) zac))))
   (zag (za2 PassesOwn.never rfl (zbI rfl T.qap (zaa zae zac)) (zan (i:=5) qbr.nd rfl (Or.inl rfl)) (zag (zas (i:=6) qbr.nd rfl (Or.inl rfl) (zaz qcT hr (zaa (pv 1) (zaa (zau zaF (pv 2) zae (fun _ _=>rfl)) (zaa (pv 3) zac)))))
   (zag (zas (i:=7) qbr.nd rfl (Or.inl rfl) (zal (zce.or (ziv hr.gd (hu16 hr)) (zgJ hr.gd (hu16 hr))) rfl T.qdK boot_repr (zaa (pv 6) zac)))
   (zag (za2 PassesOwn.never rfl (zbI rfl T.qap (zaa zae zac)) (zan (i:=8) qbr.nd rfl (Or.inl rfl)) (zaf (za6 (PW.pt (zgk (zav zhj (zaz qbY hr (zaa (pv 2) (zaa (pv 3) (zaa (pv 4) (zaa (pv 8) zac))))) zbo (zaB _)) (zd4 (zav zhj (zaz qbY hr (zaa (pv 2) (zaa (pv 6) (zaa (pv 4) (zaa (pv 8) zac))))) zbo (zaB _))))) (zaf (zao zb2)) zaA)))
   (zaf (za6 (zav zhj (zal (zce.or (ziv hr.gd (hu16 hr)) (zgJ hr.gd (hu16 hr))) rfl T.qdK boot_repr (zaa (pv 6) zac)) (pv 7) (zaB _)) (zaf (zao zb2)) zaA))))))
   (zaf (zao (zhc zdx (zaz qbY hr (zaa (pv 2) (zaa (pv 3) (zaa (pv 4) (zaa zae zac))))) zbo (zaB _))))))))),?_⟩
 refine ⟨_,rfl,a,ns,rfl,hS,fun d H1 _ g1 s1=>?_⟩;have ndT:∀{H':Hp} {p:Addr} {o:HO},LS K a d H'→H' p=some o→(∀ kvs,o≠.dK kvs)→p≠d:=fun s hp n z=>by
  obtain ⟨_,_,_,e,_⟩:=s.ex;rw[← z,hp]at e;exact n _ (yag e)
 refine ⟨_,rfl,d,a,rfl,s1,fun st ps rows t rs as H2 S k2 s2=>?_⟩;have T2:TabS m1 m2 H2:=(TT0.ext g1.ext).ext (s1.ext k2);have hfew:=S.few;refine ⟨_,rfl,_,rfl,_,_,_,_,rfl,rfl,SqT.of S.st,rfl,d,a,t,ps,rfl,S.tr,S.T,S.few,s2,fun wa w H3 hwa W3 k3 s3=>?_⟩;have tk:∀{HX HY:Hp} {b:Addr} {o:List V},LS K a d HX→Keep d HX HY→HX b=some (.tup o)→HY b=some (.tup o):=fun s k e=>k _ _ (ndT s e (fun _ z=>by cases z)) e
 have S3:=zfQ S fun _ _ e=>tk s2 k3 e;refine ⟨_,rfl,_,rfl,d,a,st,ps,rows,t,rs,as,rfl,S3,s3,fun key H4 k4 s4=>?_⟩;have S4:=zfQ S3 fun _ _ e=>tk s3 k4 e;have T4:=(T2.ext (s2.ext k3)).ext (s3.ext k4);have hwd:wa≠d:=fun z=>by
  obtain ⟨_,_,_,e,_⟩:=s2.ex;rw[← z,hwa]at e;cases e
 have W4:zdo H4 wa ps w:=⟨k4 _ _ hwd W3.at_,W3.len,W3.ne,W3.ch,W3.kn⟩;clear S S3 W3 T2 TT0 k2 k3 k4 s1 s2 s3;have P:∀ H':Hp,(∀ b o,b≠d→(∀ tab,o≠.tbl tab)→H4 b=some o→H' b=some o)→zbi H' st ps rows t rs as∧zdo H' wa ps w:=fun H' k=>by
  have kt:∀{b:Addr} {o:HO},(∀ tab,o≠.tbl tab)→(∀ kvs,o≠.dK kvs)→H4 b=some o→H' b=some o:=fun n1 n2 e=>k _ _ (ndT s4 e n2) n1 e;exact ⟨zfQ S4 fun _ _ e=>kt (fun _ z=>by cases z) (fun _ z=>by cases z) e,⟨kt (fun _ z=>by cases z) (fun _ z=>by cases z) W4.at_,W4.len,W4.ne,W4.ch,W4.kn⟩⟩
 refine ⟨5,rfl,by decide,by decide,?_⟩;refine zbh (n:=5) (fun i σ HA=>∃ x5 x6 x7 x8:Option V,σ=[some (.ref a),some (.ref d),some (.ref st),some (.ref wa),some (.int key),x5,x6,x7,x8]∧(∀ b o,b≠d→(∀ tab,o≠.tbl tab)→H4 b=some o→HA b=some o)∧TabS m1 m2 HA∧LS K a d HA) ?_ ?_ ?_
 ·exact ⟨_,_,_,_,rfl,fun _ _ _ _ e=>e,T4,s4⟩
 ·rintro i σ HA hi ⟨x5,x6,x7,x8,rfl,kA,TA,sA⟩;obtain ⟨SA,WA⟩:=P HA kA;have hAv:zhF HA [d,m1,m2]:=fun b hb=>by
   rcases yal.mp hb with z | hb
   ·obtain ⟨_,_,_,e,_⟩:=sA.ex;rw[z];exact ⟨_,e⟩
   rcases yal.mp hb with z | hb
   ·obtain ⟨tab,e⟩:=zbE TA.f;rw[z];exact ⟨_,e⟩
   ·obtain ⟨tab,e⟩:=zbE TA.s;rw[yah.mp hb];exact ⟨_,e⟩
  have hwA:wa∉[d,m1,m2]:=fun hb=>by
   rcases yal.mp hb with z | hb
   ·exact hwd z
   rcases yal.mp hb with z | hb
   ·obtain ⟨tab,e⟩:=zbE TA.f;rw[← z,WA.at_]at e;cases e
   ·obtain ⟨tab,e⟩:=zbE TA.s;rw[← yah.mp hb,WA.at_]at e;cases e
  refine ⟨_,rfl,_,rfl,_,_,_,_,rfl,rfl,SqT.of SA.st,rfl,_,rfl,d,a,t,wa,ps,w,[d,m1,m2],rfl,yak,hAv,hwA,SA.tr,SA.T,hfew,WA,sA,fun x HB hx kB sB=>?_⟩;have TB:=TA.ext (sA.ext kB);have kAB:∀ b o,b≠d→(∀ tab,o≠.tbl tab)→H4 b=some o→HB b=some o:=fun b o n1 n2 e=>kB _ _ n1 (kA _ _ n1 n2 e);obtain ⟨hN,tx,htx⟩:=hx;have dm:∀{HX:Hp},Kp2 m1 m2 HB HX→Same (del HB [d,m1,m2]) (del HX [d,m1,m2]):=fun {HX} k b o e=>by
   obtain ⟨n,e1⟩:=zf6 e;rw[zdk n];exact k _ _ (fun z=>n (by rw[z];exact yas _ yak)) (fun z=>n (by rw[z];exact yas _ (yas _ yak))) e1
  have dd:∀{HX:Hp},Same (del HX [d,m1,m2]) HX:=fun {HX} b o e=>(zf6 e).2;have kx:∀{HX:Hp},Kp2 m1 m2 HB HX→∀ b o,b≠d→(∀ tab,o≠.tbl tab)→H4 b=some o→HX b=some o:=fun k b o n1 n2 e=>(k.kp0 TB) _ _ n2 (kAB _ _ n1 n2 e);refine ⟨_,rfl,?_⟩;refine htx HB dd _ ?_;refine ⟨2,rfl,by decide,by decide,?_⟩;refine zbh (n:=2) (fun j σ HC=>∃ x8:Option V,σ=[some (.ref a),some (.ref d),some (.ref st),some (.ref wa),some (.int key),some (.int (0+(i:Int))),some x,some (.str tx),x8]∧Kp2 m1 m2 HB HC∧TabS m1 m2 HC) ?_ ?_ ?_
  ·exact ⟨_,rfl,fun _ _ _ _ e=>e,TB⟩
  ·rintro j σ HC hj ⟨x8,rfl,kC,TC⟩;obtain ⟨SC,WC⟩:=P HC (kx kC);rw[ybT];refine ⟨_,rfl,_,rfl,_,rfl,_,rfl,st,_,key,j,rfl,.inl ⟨wa,ps,rows,t,rs,as,w,rfl,SC,WC,TC,fun HD kD TD=>?_⟩⟩;have kCD:=kC.trans kD;obtain ⟨SD,WD⟩:=P HD (kx kCD);refine ⟨rfl,_,rfl,?_⟩;refine iteF ?_;refine ⟨_,rfl,_,rfl,_,rfl,_,rfl,st,x,key,j,rfl,.inr ⟨t,rs,ps,SD.st,SD.tr,by omega,(hN.same (dm kCD)).same dd,fun HE sE=>?_⟩⟩;refine ⟨rfl,_,rfl,?_⟩;refine iteF ?_;exact ⟨_,rfl,kCD.trans (.of sE),TD.ext sE.ext⟩
  rintro σ HC ⟨x8,rfl,kC,TC⟩;refine ⟨_,rfl,?_⟩;refine htx HC (fun b o e=>dd _ _ (dm kC b o e)) _ ?_;refine ⟨_,rfl,rfl,_,rfl,?_⟩;refine zi6 rfl ?_;exact ⟨_,_,_,_,rfl,kx kC,TC,zrf sB (kC.kp0 TB)⟩
 rintro σ HA ⟨x5,x6,x7,x8,rfl,kA,TA,sA⟩;obtain ⟨SA,WA⟩:=P HA kA;refine ⟨_,rfl,_,rfl,_,rfl,st,_,key,0,rfl,.inl ⟨wa,ps,rows,t,rs,as,w,rfl,SA,WA,TA,fun HB _ _=>⟨rfl,?_⟩⟩⟩;exact q _
abbrev lawRoom:Nat:=11
theorem all_ok (T:Txt K mg){qab qak qaa qah qaq qai qal qam qar qaj qas qan:Addr}(CL:Cls K mg qab qak qaa qah qaq qai qal qam qar qaj qas qan){mc24 mp24 mc28 mp28:Addr}(hBM:BMAt mg base)(qbw:DF K mg "is_whole" zdK zbR)(qda:DF K mg "code" zjU zg9)(qaD:DF K mg "how_many_below" zbw zbl)(qbi:DF K mg "joined_up" zda zcJ)(qaK:DF K mg "lowest_unlike" zbF zbx)(qcq:DF K mg "turned" zfy zeB)(qcr:DF K mg "labels" zfA zeD)(qa4:DF K mg "neighbours" zcD zbH)(qa5:DF K mg "least_free" zcE zca)(qbQ:DF K mg "colours" zex zdT)(qcN:DF K mg "marks" zg1 zfG)(qcs:DF K mg "handed" zfE zeH)(qag:DF K mg "is_one_of_first" zaY zaH)(qbx:DF K mg "children" zdL zcn)(qbR:DF K mg "beneath" zey zdU)(qbe:DF K mg "is_way" zev zcm)(qaH:DF K mg "need_way" zcY za5)(qaW:DF K mg "own_entries" zb6 zbT)(qat:DF K mg "full_rows_beneath" za3 zaX)(qbj:DF K mg "full_rows" zdb zbc)(qbS:DF K mg "owns_of" zep zdN)(qbl:DF K mg "starts_of" zc8 zcH)(qa7:DF K mg "bridges_of" zcG zbm)(qaG:DFT K mg "first_place" zbk zbV mc24 mp24)(qbf:DF K mg "start_in" zdJ zcl)(qa8:DF K mg "next_place" zcC zb9)(qcx:DF K mg "search" zfz zeC)(qao:DFT K mg "search_for_key" zaR zaZ mc28 mp28)(qaI:DF K mg "paper_of" zcX zbQ)(qbV:DF K mg "is_line" zew zcZ)(qaY:DF K mg "is_place_in" zb8 zbs)(qaL:DF K mg "is_near_start" zbG za8)(qaU:DF K mg "lets_by" zds zch)(qbT:DF K mg "_law_every" zet zdR)(qbO:DF K mg "_law_begin" zeu zdS)(qbN:DF K mg "_law_mixed" zer zdP)(qcp:DF K mg "_law_take" zfC zbb)(qcM:DF K mg "_law_key" zg4 zeG)(qct:DF K mg "_law_tree" zfB zeE)(qcP:DF K mg "_law_row" zg3 zfI)(qcv:DF K mg "_law_rows" zfD zeF)(qa9:DF K mg "_law_children" zcF zcb)(qcS:DF K mg "_law_way" zg2 zfH)(qbU:DF K mg "_law_stand" zeq zdO)(qaX:DF K mg "_law_asked_key" zb7 zbU)(qbm:DF K mg "_law_no_ways" zc9 zcI)(qbX:DF K mg "_law_heard" zes zdQ)(qdW:DF K mg "law" znC zjY):FC P w K mg base 11 "law" zjY (zhQ K mp24 mp28):=
 have m:=znR (P:=P) (w:=w) (base:=base) T qbN;have t:=zpA T qcp m;have c:=zpI (P:=P) (w:=w) (base:=base) T qda;have nb:=zhk (P:=P) (w:=w) (base:=base) T qa4;have mk:=znS T qcN (zmb T qcr c (zl6 T qcq (zq9 T qaK))) (zkU T qbQ nb (zhl T qa5)) nb;have ch:=ziS (P:=P) (w:=w) (base:=base) T qbx;have fr:=zrd T qat (zkV T qbR) ch (zmf T qcs mk) (zq8 T qaW) (zmc T qbi);have fu:=znY T qbj fr;have bo:=zpJ T qa7 ch (zl7 T qbl) (zpB T qbS);have ky:=zrb T qcM t;have ls:=zkT T qbU t (znT T qct t) (znU T qcv t (zpG T qcP t ky));have fi:=fun (b:Heap) (S:Sub K mg base b)=>znZ (P:=P) (w:=w) (base:=b) T qaG (hBM.lift S) (fun b' _=>zrc (base:=b') T qaD);have se:=fun (b:Heap) (S:Sub K mg base b)=>zl8 (P:=P) (w:=w) (base:=b) (mp:=mp24) T qcx (fi b S) (zj5 T qbf) (zpC T qa8);have wh:=znN (P:=P) (w:=w) (base:=base) T qbw;have nd:=zpD T qaH (znW T qbe (znP T qag wh));have fk:=zmg T qao hBM bo se;have li:=zme T qbV wh;have pi:=zkS (P:=P) (w:=w) (base:=base) T qaY;have ns:=zpE T qaL (zj5 T qbf);have nx:=znQ T CL qaH (zmd T qbe (zmh T qag wh));have pa:=(znO T qaI nd fu fk).fx.or (zl9 T qaI nx fu fk);have le:=(zpH T qaU nd li fu bo pi ns).fx.or (znV T qaU nx li fu bo pi ns)
 zra T qdW (zn1 T qbO) ls (zpF T qcS t (zh2 T qa9)) (zn2 T qaX (zn0 T qbT) t ky) (zma T qbm t) (znX T CL qbX pa le)
end
theorem u1 {P:List Value→Prop}(h:∀ a,P [a])(us:List Value)(hl:us.length=1):P us:=by
 rcases us with _ | ⟨a,_ | ⟨z,us⟩⟩
 ·cases hl
 ·exact h a
 ·exact absurd hl (by simp)
theorem u2 {P:List Value→Prop}(h:∀ a b,P [a,b])(us:List Value)(hl:us.length=2):P us:=by
 rcases us with _ | ⟨a,_ | ⟨b,_ | ⟨z,us⟩⟩⟩
 ·cases hl
 ·cases hl
 ·exact h a b
 ·exact absurd hl (by simp)
theorem u3 {P:List Value→Prop}(h:∀ a b c,P [a,b,c])(us:List Value)(hl:us.length=3):P us:=by
 rcases us with _ | ⟨a,_ | ⟨b,_ | ⟨c,_ | ⟨z,us⟩⟩⟩⟩
 ·cases hl
 ·cases hl
 ·cases hl
 ·exact h a b c
 ·exact absurd hl (by simp)
theorem u4 {P:List Value→Prop}(h:∀ a b c d,P [a,b,c,d])(us:List Value)(hl:us.length=4):P us:=by
 rcases us with _ | ⟨a,_ | ⟨b,_ | ⟨c,_ | ⟨d,_ | ⟨z,us⟩⟩⟩⟩⟩
 ·cases hl
 ·cases hl
 ·cases hl
 ·cases hl
 ·exact h a b c d
 ·exact absurd hl (by simp)
structure AD (K:Frag)(x:Str)(st:Stmt):Prop where
 ex:∃(f:Addr) (oc:Value) (od:Option Addr) (kV dc pm:Value) (an:Option Addr) (cd ct:Value) (sl:Array (Option Value)),nsIn K mainGlobals x=some (some (.ref f))∧K.lookup f=some ⟨oc,od,.func (fnOf x x (zcR st) (zbL st) (zaj st) .none kV dc pm an cd ct),sl⟩∧codeIn K cd x=true∧keepIn K (.ref f)=true
theorem AD.of {K:Frag}{x:Str}{st:Stmt}{f:Addr}{oc:Value}{od:Option Addr}{kV dc pm:Value}{an:Option Addr}{cd ct:Value}{sl:Array (Option Value)}(a:nsIn K mainGlobals x=some (some (.ref f)))(l:K.lookup f=some ⟨oc,od,.func (fnOf x x (zcR st) (zbL st) (zaj st) .none kV dc pm an cd ct),sl⟩)(c:codeIn K cd x=true)(k:keepIn K (.ref f)=true):AD K x st:=⟨f,oc,od,kV,dc,pm,an,cd,ct,sl,a,l,c,k⟩
theorem AD.df {K:Frag}{h:Heap}{mg:Str→Option Value}{x:Str}{st:Stmt}{ps:List Str}(a:AD K x st)(X:K.In h)(G:h.Ns mainGlobals mg)
  (hb:∀(kV doc pm:Value) (an:Option Addr) (cdv ct:Value) (us:List Value),us.length=ps.length→bindArgs (fnOf x x (zcR st) (zbL st) (zaj st) .none kV doc pm an cdv ct) ⟨us,[]⟩=pure (ps.zip us):=by
   first | exact fun _ _ _ _ _ _=>u1 fun _=>rfl | exact fun _ _ _ _ _ _=>u2 fun _ _=>rfl | exact fun _ _ _ _ _ _=>u3 fun _ _ _=>rfl | exact fun _ _ _ _ _ _=>u4 fun _ _ _ _=>rfl | exact fun _ _ _ _ _ _=>u5 fun _ _ _ _ _=>rfl | exact fun _ _ _ _ _ _=>u6 fun _ _ _ _ _ _=>rfl):DF K mg x st ps:=by
 obtain ⟨f,oc,od,kV,dc,pm,an,cd,ct,sl,a,l,c,k⟩:=a.ex;exact ⟨_,_,zmS l c k,(zmS l c k).binds hb,mg_of X G a⟩
theorem AD.dft {K:Frag}{h:Heap}{mg:Str→Option Value}{x:Str}{st:Stmt}{ps:List Str}{mc mp:Addr}(a:AD K x st)(X:K.In h)(G:h.Ns mainGlobals mg)(t:tabIn K x=some (mc,mp))(hh:codeHdIn K mc mp=true)
  (hb:∀(kV doc pm:Value) (an:Option Addr) (cdv ct:Value) (us:List Value),us.length=ps.length→bindArgs (fnOf x x (zcR st) (zbL st) (zaj st) .none kV doc pm an cdv ct) ⟨us,[]⟩=pure (ps.zip us):=by
   first | exact fun _ _ _ _ _ _=>u1 fun _=>rfl | exact fun _ _ _ _ _ _=>u2 fun _ _=>rfl | exact fun _ _ _ _ _ _=>u3 fun _ _ _=>rfl | exact fun _ _ _ _ _ _=>u4 fun _ _ _ _=>rfl | exact fun _ _ _ _ _ _=>u5 fun _ _ _ _ _=>rfl | exact fun _ _ _ _ _ _=>u6 fun _ _ _ _ _ _=>rfl):DFT K mg x st ps mc mp:=by
 obtain ⟨f,oc,od,kV,dc,pm,an,cd,ct,sl,a,l,c,k⟩:=a.ex;have e:cd=.ref mc:=L2.znv a l t;subst e;exact ⟨⟨_,_,_,_,_,_,_,_,_,l,c,k,mg_of X G a,(zmS l c k).binds hb⟩,hh⟩
theorem zrE {l:OpenLaw}{w:World}{K:Frag}{h:Heap}{mg:Str→Option Value}{fa mc24 mp24 mc28 mp28 qab qak qaa qah qaq qai qal qam qar qaj qas qan:Addr}(X:K.In h)(G:h.Ns mainGlobals mg)(hfa:mg "law" = some (.ref fa)){t_KNOT_NUMBERS:Tok}{t_TURNS:Tok}{t_MOST_BEHIND_START:Tok}(a1:AD K "is_whole" zdK)(a2:AD K "code" zjU)(a3:AD K "how_many_below" zbw)(a4:AD K "joined_up" zda)(a5:AD K "lowest_unlike" zbF)(a6:AD K "turned" zfy)(a7:AD K "labels" zfA)(a8:AD K "neighbours" zcD)(a9:AD K "least_free" zcE)(a10:AD K "colours" zex)(a11:AD K "marks" zg1)(a12:AD K "handed" zfE)(a13:AD K "is_one_of_first" zaY)(a14:AD K "children" zdL)(a15:AD K "beneath" zey)(a16:AD K "is_way" zev)(a17:AD K "need_way" zcY)(a18:AD K "own_entries" zb6)(a19:AD K "full_rows_beneath" za3)(a20:AD K "full_rows" zdb)(a21:AD K "owns_of" zep)(a22:AD K "starts_of" zc8)(a23:AD K "bridges_of" zcG)(a24:AD K "first_place" zbk)(a25:AD K "start_in" zdJ)(a26:AD K "next_place" zcC)(a27:AD K "search" zfz)(a28:AD K "search_for_key" zaR)(a29:AD K "paper_of" zcX)(a30:AD K "is_line" zew)(a31:AD K "is_place_in" zb8)(a32:AD K "is_near_start" zbG)(a33:AD K "lets_by" zds)(a34:AD K "_law_every" zet)(a35:AD K "_law_begin" zeu)(a36:AD K "_law_mixed" zer)(a37:AD K "_law_take" zfC)(a38:AD K "_law_key" zg4)(a39:AD K "_law_tree" zfB)(a40:AD K "_law_row" zg3)(a41:AD K "_law_rows" zfD)(a42:AD K "_law_children" zcF)(a43:AD K "_law_way" zg2)(a44:AD K "_law_stand" zeq)(a45:AD K "_law_asked_key" zb7)(a46:AD K "_law_no_ways" zc9)(a47:AD K "_law_heard" zes)(a48:AD K "law" znC)(t24:tabIn K "first_place" = some (mc24,mp24))(h24:codeHdIn K mc24 mp24=true)(t28:tabIn K "search_for_key" = some (mc28,mp28))(h28:codeHdIn K mc28 mp28=true)(qcA:nsIn K mainGlobals "BridgeError" = some (some (.ref qab)))(qdE:nsIn K mainGlobals "NoTree" = some (some (.ref qak)))(qdi:nsIn K mainGlobals "NoWay" = some (some (.ref qaa)))(qdj:nsIn K mainGlobals "NoStand" = some (some (.ref qah)))(qdY:nsIn K mainGlobals "Twice" = some (some (.ref qaq)))(qdk:nsIn K mainGlobals "Missing" = some (some (.ref qai)))(qdF:nsIn K mainGlobals "NoRoom" = some (some (.ref qal)))(qdG:nsIn K mainGlobals "NoKnot" = some (some (.ref qam)))(qdZ:nsIn K mainGlobals "NoKey" = some (some (.ref qar)))(qdl:nsIn K mainGlobals "NoOrder" = some (some (.ref qaj)))(qd0:nsIn K mainGlobals "NoRow" = some (some (.ref qas)))(qdH:nsIn K mainGlobals "NoText" = some (some (.ref qan)))(qdI:PySem.W.excIn K qaa zqs "ValueError.__new__" = true)(qdm:findIn K (.ref qaa) "__getattribute__" = some (some (.builtin "BaseException.__getattribute__")))(qdn:findIn K (.ref qaa) "__getattr__" = some none)(qdo:findIn K (.ref qaa) "__class__" = some (some (.builtin "object.__class__")))(qdp:mroIn K qaa (.type "object")=some true)(qdq:mroIn K qaa (.type "BaseException")=some true)(qdr:(PySem.W.clsIn K qaa).isSome=true)(qds:mroIn K qaa (.ref qab)=some true)(qdt:kitOne K (.ref qaa) (.type "ValueError")=some true)(qbg:kitOne K (.ref qaa) (.ref qab)=some true)(qbZ:kitOne K (.ref qaa) (.ref qak)=some false)(qcb:kitOne K (.ref qaa) (.ref qaa)=some true)(qbD:kitOne K (.ref qaa) (.ref qah)=some false)(qcc:kitOne K (.ref qaa) (.ref qaq)=some false)(qbE:kitOne K (.ref qaa) (.ref qai)=some false)(qb0:kitOne K (.ref qaa) (.ref qal)=some false)(qb1:kitOne K (.ref qaa) (.ref qam)=some false)(qcd:kitOne K (.ref qaa) (.ref qar)=some false)(qbF:kitOne K (.ref qaa) (.ref qaj)=some false)(qce:kitOne K (.ref qaa) (.ref qas)=some false)(qb2:kitOne K (.ref qaa) (.ref qan)=some false)(ug1:PySem.W.specialIn K (.builtin "object.__class__") "__get__" = some (some (.builtin "getset_descriptor.__get__")))(ug2:PySem.W.takesIn K (.builtin "object.__class__")=some true)(ub1:(PySem.W.clsIn K qab).isSome=true)(ub2:PySem.W.typeIn K (.ref qab)=some (.type "type"))(ub3:mroIn K qab (.type "BaseException")=some true)(qcE:nsIn K mainGlobals "ValueError" = some none)(qed:nsIn K mainGlobals "abs" = some none)(qee:nsIn K mainGlobals "all" = some none)(qd9:nsIn K mainGlobals "bool" = some none)(qea:nsIn K mainGlobals "dict" = some none)(qcU:nsIn K mainGlobals "enumerate" = some none)(qef:nsIn K mainGlobals "int" = some none)(qcF:nsIn K mainGlobals "isinstance" = some none)(qeg:nsIn K mainGlobals "len" = some none)(qeb:nsIn K mainGlobals "list" = some none)(qeh:nsIn K mainGlobals "max" = some none)(qei:nsIn K mainGlobals "min" = some none)(qd1:nsIn K mainGlobals "range" = some none)(qec:nsIn K mainGlobals "repr" = some none)(qc2:nsIn K mainGlobals "reversed" = some none)(qdJ:nsIn K mainGlobals "sorted" = some none)(qd2:nsIn K mainGlobals "tuple" = some none)(qej:nsIn K mainGlobals "zip" = some none)(qcf:nsIn K mainGlobals "KNOT_NUMBERS" = some (some (.int 64 t_KNOT_NUMBERS)))(qd3:nsIn K mainGlobals "TURNS" = some (some (.int 5 t_TURNS)))(qbn:nsIn K mainGlobals "MOST_BEHIND_START" = some (some (.int 2 t_MOST_BEHIND_START))) :
  ∃ fd:FuncData,(∀(s:Shared) (v:Value),BindsTo s fd ⟨[v],[]⟩ [("_law_script",v)])∧∀ base:Heap,K.In base→base.Ns mainGlobals mg→L2.BMAt mg base→FnOk l.prog w K mg base CX0 lawRoom fa fd ["_law_script"] (zhQ K mp24 mp28):=by
 obtain ⟨f,oc,od,kV,dc,pm,an,cd,ct,sl,a,l,c,k⟩:=a48.ex;have e:=hfa.symm.trans (mg_of X G a);cases e
 have T:Txt K mg:=⟨mg_none_of X G qcE,mg_none_of X G qed,mg_none_of X G qee,mg_none_of X G qd9,mg_none_of X G qea,mg_none_of X G qcU,mg_none_of X G qef,mg_none_of X G qcF,mg_none_of X G qeg,mg_none_of X G qeb,mg_none_of X G qeh,mg_none_of X G qei,mg_none_of X G qd1,mg_none_of X G qec,mg_none_of X G qc2,mg_none_of X G qdJ,mg_none_of X G qd2,mg_none_of X G qej,⟨_,mg_of X G qcf⟩,⟨_,mg_of X G qd3⟩,⟨_,mg_of X G qbn⟩⟩;have CL:Cls K mg qab qak qaa qah qaq qai qal qam qar qaj qas qan:=⟨mg_of X G qcA,mg_of X G qdE,mg_of X G qdi,mg_of X G qdj,mg_of X G qdY,mg_of X G qdk,mg_of X G qdF,mg_of X G qdG,mg_of X G qdZ,mg_of X G qdl,mg_of X G qd0,mg_of X G qdH,⟨mg_of X G qdi,qdI⟩,⟨qdm,qdn,qdo,ug1,ug2,qdp,qdq,qdr⟩,⟨qds,ub1,ub2,ub3⟩,qdt,qbg,qbZ,qcb,qbD,qcc,qbE,qb0,qb1,qcd,qbF,qce,qb2⟩;exact ⟨_,fun s v=>.of_eq rfl,fun base _ _ hBM=>(all_ok (P:=_) (w:=w) (base:=base) T CL hBM (a1.df X G) (a2.df X G) (a3.df X G) (a4.df X G) (a5.df X G) (a6.df X G) (a7.df X G) (a8.df X G) (a9.df X G) (a10.df X G) (a11.df X G) (a12.df X G) (a13.df X G) (a14.df X G) (a15.df X G) (a16.df X G) (a17.df X G) (a18.df X G) (a19.df X G) (a20.df X G) (a21.df X G) (a22.df X G) (a23.df X G) (a24.dft X G t24 h24) (a25.df X G) (a26.df X G) (a27.df X G) (a28.dft X G t28 h28) (a29.df X G) (a30.df X G) (a31.df X G) (a32.df X G) (a33.df X G) (a34.df X G) (a35.df X G) (a36.df X G) (a37.df X G) (a38.df X G) (a39.df X G) (a40.df X G) (a41.df X G) (a42.df X G) (a43.df X G) (a44.df X G) (a45.df X G) (a46.df X G) (a47.df X G) (a48.df X G)).at (mg_of X G a) l⟩
theorem walk {l:OpenLaw}{q:Program}{loose:List Str}{XP:(Str→Option Value)→Heap→Prop}{YP:World→Heap→Prop}{d:DefRec}{K:Params→Frag}{mc24 mp24 mc28 mp28:Addr}(hn:l.most=some 63)(hdf:d.params.defaults=[])
  (hY:∀(w:World) (h:Heap),YP w h→(K w.params).In h) (hYT24:∀(w:World) (h:Heap),YP w h→h.get? mp24=some (PySem.W.tabObj #[])) (hC24:∀(w:World),codeHdIn (K w.params) mc24 mp24=true) (hD24:∀(w:World),(K w.params).lookup mp24=none) (hYT28:∀(w:World) (h:Heap),YP w h→h.get? mp28=some (PySem.W.tabObj #[])) (hC28:∀(w:World),codeHdIn (K w.params) mc28 mp28=true) (hD28:∀(w:World),(K w.params).lookup mp28=none) (hNE:mp24≠mp28)
  (F:∀(w:World) (mg:Str→Option Value) (fa:Addr) (h:Heap),(K w.params).In h→h.Ns mainGlobals mg→mg d.name=some (.ref fa)→
   ∃ fd:FuncData,(∀(s:Shared) (u:Value),BindsTo s fd ⟨[u],[]⟩ [("_law_script",u)])∧∀ base:Heap,(K w.params).In base→base.Ns mainGlobals mg→L2.BMAt mg base→FnOk l.prog w (K w.params) mg base CX0 lawRoom fa fd ["_law_script"] (zhQ (K w.params) mp24 mp28)) :
  PySem.W.WalkO q loose XP YP l.row.toRowW d [] (fun f vs=>PySem.call f vs):=
 L2.znr (n:=63) (k:=lawRoom) (x := "_law_script") (tabs:=[(mc24,mp24),(mc28,mp28)]) (sp:=fun w=>zhQ (K w.params) mp24 mp28) hn (by decide) hdf ⟨rfl,by decide,by decide,rfl⟩ hY (fun w h Y q hq=>(yal.mp hq).elim (fun z=>z ▸ hYT24 w h Y) (fun hq=>(yal.mp hq).elim (fun z=>z ▸ hYT28 w h Y) (fun hq=>absurd hq yaF))) (fun w q hq=>(yal.mp hq).elim (fun z=>z ▸ ⟨hC24 w,hD24 w⟩) (fun hq=>(yal.mp hq).elim (fun z=>z ▸ ⟨hC28 w,hD28 w⟩) (fun hq=>absurd hq yaF))) F (fun _ _ a ns hl hT hS=>⟨a,ns,rfl,hS,hl,hNE,hT _ yak,hT _ (yas _ yak),fun _=>rfl⟩)
end My
open PySem PySem.W PyProof.Rows
namespace PySem.W.Fast
def tw11453104301294793734:=0
def tw7997123617876789665:=0
def tw13482596260504775356:=0
def tw3854176604321211573:=0
def tw17991143235360392284:=0
def tw5145630202379516600:=0
def tw7213886954909493996:=0
def tw3678492169803697218:=0
def tw7663156676485918763:=0
def tw13690782741325733489:=0
def tw1054864429463759750:=0
def tw10854583517723713845:=0
def tw9796664524479311761:=0
def tw10842527039164971635:=0
def tw7277329526821498491:=0
def tw13011916783976738177:=0
def tw3898565760552602970:=0
def tw14911478652096258039:=0
def tw2588592266469026123:=0
def tw15936916232361025980:=0
def tw4667971983496962519:=0
def tw14012587667597628807:=0
def tw6411386001048795894:=0
def tw18204134364324467771:=0
def tw12853049015551970367:=0
def tw1148007887043084931:=0
def tw5264281274871970686:=0
def tw8364245138102588758:=0
def tw2125280507190499037:=0
def tw4929513505989809976:=0
def tw11960649724104777581:=0
def tw9291952837723266165:=0
def tw4396649650982564996:=0
def tw13847019955715251254:=0
def tw7310958598619149097:=0
def tw4740213779286777922:=0
def tw13984114813089117740:=0
def tw16924421898193825194:=0
def tw8764373902216296284:=0
def tw17345627551217767004:=0
def tw2291089015478456544:=0
def tw3631612814775202299:=0
def tw12450629204673504548:=0
def tw4878522782683723476:=0
def tw8906418550028237729:=0
def tw17742786288815136212:=0
def tw7084158384960734222:=0
def tw11481666512473874546:=0
def tw7703045938207140137:=0
def tw18022479059066426108:=0
def tw15512415387487582279:=0
def tw11676318111097480546:=0
def tw7680959282614297493:=0
def tw5409973287407238489:=0
def tw17878328530919136098:=0
def tw5124725164776712993:=0
def tw5404510664648633364:=0
def tw47702520185205048:=0
def tw4016738087751836913:=0
def tw212985330419518304:=0
def tw7213283711745734846:=0
def tw1085173024004291133:=0
def tw16284640197107256593:=0
def tw16598205122196558834:=0
def tw6664842029053080696:=0
def tw15411010278038130610:=0
def tw2304190168305837022:=0
def tw13619894252081735139:=0
def tw10135058749445651742:=0
def tw1323116350541461932:=0
def tw6362679549226130819:=0
def tw8851711625536215878:=0
def tw7888737251021186739:=0
def tw12297431260769626469:=0
def tw7579918319555499461:=0
def tw16454283919443922266:=0
def tw6453487990186149755:=0
def tw8746513999720086973:=0
def tw13594802433634005838:=0
def tw13688805917921606675:=0
def tw8119414769771789588:=0
def tw12049673872396888785:=0
def tw4989986782391089965:=0
def tw15650465384765495358:=0
def tw12095992242595159288:=0
def tw9394215747741447692:=0
def tw15858639723038217548:=0
def tw7549744000762988180:=0
def tw4860130623877374862:=0
def tw16638343862655530215:=0
def tw17653940334615421215:=0
def tw13654394220728594916:=0
def tw1881600941303002226:=0
def tw11990259942017645032:=0
def tw6292487634748591702:=0
def tw2102004873476291338:=0
def tw5843736176879444050:=0
def tw16716442992770400273:=0
def tw6380846690281239779:=0
def tw15034661837096114778:=0
def tw9475656753552985706:=0
def tw5892182671643133485:=0
def tw3352481027327544030:=0
def tw11518575683504895223:=0
def tw7858511235140452893:=0
def tw16012631658203435121:=0
def tw7548465511689842898:=0
def tw3977597095332047257:=0
def tw3176260241052390999:=0
def tw2260654831909336667:=0
def tw10235165990183846520:=0
def tw11005263785300662782:=0
def tw16073499619206264742:=0
def tw7972061468231189514:=0
def tw14482975646956828506:=0
def tw14899336198550614141:=0
def tw17218337862283069958:=0
def tw16702504677726484734:=0
def tw12598810366007695736:=0
def tw3389084675265743584:=0
def tw9796058492896428523:=0
def tw9054461993936846848:=0
def tw11074599099786549437:=0
def tw14476406526526057324:=0
def tw7099848012672733619:=0
def tw4887856822235939979:=0
def tw15112464762911619538:=0
def tw11674679326250793342:=0
def tw14062415661310699053:=0
def tw12740636222740189228:=0
def tw4704776172364873513:=0
def tw16413441199111804525:=0
def tw6180264779507257473:=0
def tw9935874347691486619:=0
def tw10542586418722110829:=0
def tw5340616192633656947:=0
def tw7924067183429335063:=0
def tw5899422982227526960:=0
def tw12470611275912561526:=0
def tw14791901391646422120:=0
def tw8905215801009408354:=0
def tw10266048444673365668:=0
def tw3001553755002141645:=0
def tw9746430196559637049:=0
def tw9577583698349216550:=0
def tw4721983349017139458:=0
def tw3718689510099732093:=0
def tw12813920089045375665:=0
def tw11246843879898128014:=0
def tw13186680517438797300:=0
def tw7117864632312216639:=0
def tw150988564741037214:=0
def tw4821519161863200439:=0
def tw17762530999007980189:=0
def tw17720229552439700235:=0
def tw314271492467293716:=0
def tw12799665353378923288:=0
def tw9551784756361404939:=0
def tw17716606207557359202:=0
def tw9383125798549680869:=0
def tw614869659564348612:=0
def tw2648745660446015314:=0
def tw17982250871017808923:=0
def tw17455527038266212901:=0
def tw16703317992977541043:=0
def tw14895940182848747270:=0
def tw1435384248751762450:=0
def tw11564736775142590449:=0
def tw17344314728925221740:=0
def tw7379020865931687092:=0
def tw10730883592793945318:=0
def tw5289014573847021033:=0
def tw7567405873749021266:=0
def tw5612851004304044483:=0
def tw18025590364990111895:=0
def tw17296838452763933957:=0
def tw17769025815025768080:=0
def tw5951817828160138624:=0
def tw328990890270619324:=0
def tw16536513542150394530:=0
def tw1942209225012135633:=0
def tw10201520389908942210:=0
def tw11888189736332051238:=0
def tw1380498449407329388:=0
def tw897793407852796776:=0
def tw10943187585175536028:=0
def tw673878300485614764:=0
def tw16967902135395743973:=0
def tw3128118245185466767:=0
def tw4214735511581427804:=0
def tw14057718328844017373:=0
def tw8741537281460705345:=0
def tw10506102505217739204:=0
def tw15259177897787181338:=0
def tw8437405695272313528:=0
def tw4780855289729507269:=0
def tw7857505608685037841:=0
def tw14207735535654635647:=0
def tw15609908758600721850:=0
def tw17159701477476060903:=0
def tw11558018831422007909:=0
def tw13675476314505395969:=0
def tw1086025464083237109:=0
def tw8776050226908765939:=0
def tw3266798748693368877:=0
def tw5058848153739779244:=0
def tw13314178858844453313:=0
def tw12647557069669840967:=0
def tw17227629736110640912:=0
def tw5519575030640643626:=0
def tw1970960568721151928:=0
def tw12459166407701422582:=0
def tw1201732766088254527:=0
def tw10854017794668486879:=0
def tw9565439939743409526:=0
def tw6418357970226867573:=0
def tw3598864443376609226:=0
def tw13484080651534604161:=0
def tw5917770934231745007:=0
def tw17630430274670519639:=0
def tw13175189247851638616:=0
def tw10917725042097242100:=0
def tw12601677982964571715:=0
def tw11134317465576896994:=0
def tw17854427326770970852:=0
def tw15408890775254817016:=0
def tw10966922650034807541:=0
def tw9149774088365803768:=0
def tw17104660357661919170:=0
def tw12433470684869056371:=0
def tw8851898071188080732:=0
def tw938654316225493418:=0
def tw10043470393132932475:=0
def tw10178059776646410104:=0
def tw9806557120841233814:=0
def tw4875737161308779958:=0
def tw16934082424101495857:=0
def tw4762493192941211124:=0
def tw9838210843528740754:=0
def tw7559728597131244306:=0
def tw3087429316751707532:=0
def tw2164430847651083056:=0
def tw5374555797472050456:=0
def tw11188944856644651873:=0
def tw17518079895217996108:=0
def tw2916138804001773836:=0
def tw6223872149476235289:=0
def tw2615346005382886750:=0
def tw10713545837625330180:=0
def tw5066919792297253802:=0
def tw10420619355597986813:=0
def tw10639124285349592093:=0
def tw8463224706622243474:=0
def tw6029857827632251143:=0
def tw16898717816957355893:=0
def tw1466219453549144290:=0
def tw12151736618342724791:=0
def tw16140359088149055838:=0
def tw538245388711788229:=0
def tw5086758684589335114:=0
def tw12837073086263620276:=0
def tw1250931735273213806:=0
def tw12228813675228419396:=0
def tw1763954151835990392:=0
def tw14772102201549277009:=0
def tw3372745204110381698:=0
def tw3658615955627881367:=0
def tw3918604948212417993:=0
def tw8996528971052608113:=0
def tw8270130772822141359:=0
def tw15998381420527298868:=0
def tw8610552186918183299:=0
def tw11595480759444096860:=0
def tw15331712543305360387:=0
end PySem.W.Fast
set_option maxRecDepth 100000 in
set_option maxHeartbeats 0 in
theorem PySem.Challenge.cw_bridgefind_k36_papers_refused_holds : PySem.Challenge.rw_bridgefind_k36_papers_refused.Holds := by
 w_on; o_law; k_head; (case hw=>w_witness2)
 k_fill
 refine My.walk (l:=PySem.Challenge.rw_bridgefind_k36_papers_refused) (mc24:=315) (mp24:=311) (mc28:=343) (mp28:=339) rfl rfl (fun w h Y=>PySem.W.km_in_of Y) (fun w h Y=>PySem.W.km_tabs_of Y 311 (by decide)) (fun w=>by kernel_rfl) (fun w=>by kernel_rfl) (fun w h Y=>PySem.W.km_tabs_of Y 339 (by decide)) (fun w=>by kernel_rfl) (fun w=>by kernel_rfl) (by decide) ?F
 case F=>
  intro w mg fa h KX G hmg
  refine' My.zrE (mc24:=315) (mp24:=311) (mc28:=343) (mp28:=339) KX G hmg ?_ ?_ ?_ ?_ ?_ ?_ ?_ ?_ ?_ ?_ ?_ ?_ ?_ ?_ ?_ ?_ ?_ ?_ ?_ ?_ ?_ ?_ ?_ ?_ ?_ ?_ ?_ ?_ ?_ ?_ ?_ ?_ ?_ ?_ ?_ ?_ ?_ ?_ ?_ ?_ ?_ ?_ ?_ ?_ ?_ ?_ ?_ ?_ ?_ ?_ ?_ ?_ ?_ ?_ ?_ ?_ ?_ ?_ ?_ ?_ ?_ ?_ ?_ ?_ ?_ ?_ ?_ ?_ ?_ ?_ ?_ ?_ ?_ ?_ ?_ ?_ ?_ ?_ ?_ ?_ ?_ ?_ ?_ ?_ ?_ ?_ ?_ ?_ ?_ ?_ ?_ ?_ ?_ ?_ ?_ ?_ ?_ ?_ ?_ ?_ ?_ ?_ ?_ ?_ ?_ ?_ ?_ ?_ ?_ ?_ ?_
  any_goals k_is
  all_goals first | refine' My.AD.of ?_ ?_ ?_ ?_ | skip
  any_goals k_is
  all_goals kernel_rfl

