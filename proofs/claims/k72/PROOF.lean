import PyProof.Rows.All
import Wide.All
import OpenK.AllK
import Wide.FinOn
import PyProof.EqAt
import PyProof.EqKinds
import PyProof.TupleCall
import PyProof.NeKinds
import Lean
import PySem.Challenge.RW_bridgefind_k72_whole_there_and_back
set_option Elab.async false
set_option linter.all false
set_option maxRecDepth 100000
local macro_rules | `(tactic| omega)=>`(tactic| lia)
open PySem.W (Frag nsIn codeIn keepIn tabIn codeHdIn mg_of mg_none_of fnOf OpenLaw kitOne mroIn findIn)
abbrev yaa:=@Nat.le_refl
abbrev yab:=@List.length_map
abbrev yac:=@List.getElem?_eq_getElem
abbrev yad:=@Option.some.inj
abbrev yae:=@PySem.Heap.lt_size
abbrev yaf:=@decide_eq_false
abbrev yag:=@decide_eq_true
abbrev yah:=@List.getD_eq_getElem?_getD
abbrev yai:=@PySem.Heap.get?_push_of_some
abbrev yaj:=@List.mem_append
abbrev yak:=@List.mem_cons
abbrev yal:=@List.mem_singleton
abbrev yam:=@List.length_append
abbrev yan:=@List.getElem?_eq_some_iff
abbrev yao:=@List.map_cons
abbrev yap:=@List.length_take
abbrev yaq:=@Nat.ne_of_lt
abbrev yar:=@List.take_of_length_le
abbrev yas:=@Array.length_toList
abbrev yat:=@List.size_toArray
abbrev yau:=@List.getElem?_map
abbrev yav:=@List.map_append
abbrev yaw:=@Nat.lt_of_lt_of_le
abbrev yax:=@Bool.false_ne_true
abbrev yay:=@Nat.le_trans
abbrev yaz:=@PySem.Heap.get?_push_size
abbrev yaA:=@List.mem_append_right
abbrev yaB:=@List.mem_map
abbrev yaC:=@List.mem_cons_self
abbrev yaD:=@List.mem_cons_of_mem
abbrev yaE:=@Nat.zero_le
abbrev yaF:=@List.pairwise_append
abbrev yaG:=@List.sum_cons
abbrev yaH:=@List.append_nil
abbrev yaI:=@List.length_cons
abbrev yaJ:=@List.mem_of_getElem?
abbrev yaK:=@List.append_assoc
abbrev yaL:=@List.length_drop
abbrev yaM:=@List.take_append_drop
abbrev yaN:=@Array.toList_append
abbrev yaO:=@of_decide_eq_true
abbrev yaP:=@List.take_succ_eq_append_getElem
abbrev yaQ:=@Bool.false_eq_true
abbrev yaR:=@List.mem_append_left
abbrev yaS:=@List.nodup_cons
abbrev yaT:=@Array.getElem?_toList
abbrev yaU:=@List.getElem?_eq_none
abbrev yaV:=@List.not_mem_nil
abbrev yaW:=@List.all_eq_true
abbrev yaX:=@Nat.lt_of_le_of_lt
abbrev yaY:=@Array.getElem?_eq_getElem
abbrev yaZ:=@List.drop_eq_nil_of_le
abbrev ya0:=@List.lookup_cons
abbrev ya1:=@List.getElem_mem
abbrev ya2:=@Nat.le_of_lt
abbrev ya3:=@List.getElem_of_mem
abbrev ya4:=@List.getElem?_append_right
abbrev ya5:=@List.length_singleton
abbrev ya6:=@List.ext_getElem?
abbrev ya7:=@List.length_range
abbrev ya8:=@List.mem_filter
abbrev ya9:=@List.mem_range
abbrev yba:=@Nat.le_succ
abbrev ybb:=@Int.toNat_natCast
abbrev ybc:=@List.any_cons
abbrev ybd:=@List.map_map
abbrev ybe:=@List.nodup_append
abbrev ybf:=@List.length_filter_le
abbrev ybg:=@Nat.lt_irrefl
abbrev ybh:=@Nat.ne_of_gt
abbrev ybi:=@List.getElem?_append_left
abbrev ybj:=@List.pairwise_iff_getElem
abbrev ybk:=@Nat.add_le_add_right
abbrev ybl:=@List.filter_append
abbrev ybm:=@Int.natCast_nonneg
abbrev ybn:=@PySem.Heap.get?_update_other
abbrev ybo:=@List.length_nil
abbrev ybp:=@Nat.add_zero
abbrev ybq:=@Nat.min_eq_left
abbrev ybr:=@List.filter_cons_of_pos
abbrev ybs:=@List.length_replicate
abbrev ybt:=@Bool.and_eq_true
abbrev ybu:=@List.length_set
abbrev ybv:=@List.find?_cons
abbrev ybw:=@List.nodup_nil
abbrev ybx:=@List.drop_drop
abbrev yby:=@List.mem_of_mem_take
abbrev ybz:=@List.mem_of_mem_drop
abbrev ybA:=@Nat.lt_or_ge
abbrev ybB:=@List.pairwise_map
abbrev ybC:=@Nat.testBit_succ
abbrev ybD:=@List.getElem?_set
abbrev ybE:=@List.filter_eq_nil_iff
abbrev ybF:=@List.map_set
abbrev ybG:=@List.flatten_cons
abbrev ybH:=@List.length_reverse
abbrev ybI:=@List.filterMap_cons
abbrev ybJ:=@List.of_mem_zip
abbrev ybK:=@List.all_cons
abbrev ybL:=@List.map_nil
abbrev ybM:=@Option.map_eq_some_iff
abbrev ybN:=@List.perm_append_comm
abbrev ybO:=@Array.toList_push
abbrev ybP:=@Bool.not_eq_true'
abbrev ybQ:=@Array.toList_reverse
abbrev ybR:=@List.getElem?_take
abbrev ybS:=@List.mem_reverse
abbrev ybT:=@Nat.pow_succ
abbrev ybU:=@Nat.not_lt_zero
abbrev ybV:=@List.range_succ
abbrev ybW:=@List.filter_cons_of_neg
abbrev ybX:=@Int.zero_add
abbrev ybY:=@List.mem_or_eq_of_mem_set
abbrev ybZ:=@Bool.eq_iff_iff
abbrev yb0:=@PySem.Heap.size_push
abbrev yb1:=@Nat.lt_succ_self
abbrev yb2:=@List.drop_sublist
abbrev yb3:=@List.drop_eq_getElem_cons
abbrev yb4:=@List.pairwise_cons
abbrev yb5:=@Array.toList_extract
abbrev yb6:=@List.extract_eq_take_drop
abbrev yb7:=@List.drop_take
abbrev yb8:=@List.reverse_append
abbrev yb9:=@List.drop_zero
abbrev yca:=@List.take_zero
abbrev ycb:=@List.getElem?_drop
abbrev ycc:=@List.foldl_cons
abbrev ycd:=@Bool.not_true
abbrev yce:=@Int.emod_nonneg
abbrev ycf:=@Int.emod_lt_of_pos
abbrev ycg:=@Bool.and_true
abbrev ych:=@List.getElem?_range
abbrev yci:=@List.getElem?_reverse
abbrev ycj:=@List.reverse_cons
abbrev yck:=@List.length_zip
abbrev ycl:=@List.mem_flatten
abbrev ycm:=@List.map_congr_left
abbrev ycn:=@Nat.min_eq_right
abbrev yco:=@List.flatten_append
abbrev ycp:=@List.map_take
abbrev ycq:=@Nat.add_le_add_left
abbrev ycr:=@Array.perm_iff_toList_perm
abbrev ycs:=@Bool.not_eq_false'
abbrev yct:=@List.reverse_reverse
abbrev ycu:=@List.getElem?_cons_succ
abbrev ycv:=@List.zip_cons_cons
abbrev ycw:=@List.eq_nil_of_length_eq_zero
abbrev ycx:=@List.perm_ext_iff_of_nodup
abbrev ycy:=@List.pairwise_singleton
abbrev ycz:=@List.length_eq_zero_iff
namespace L2
open PySem PySem.Spec PyProof.Rows
abbrev Key:=Sum Int Str
def ziQ : Key→Value→Bool
  | .inl k,v=>Value.isInt k v
  | .inr x,v=>Value.isStrOf x v
def keyH (w : World) : Key→Int
  | .inl k=>hashInt k
  | .inr x=>hashStr w x
theorem zaR : ∀ {k : Key} {v : Value},ziQ k v = true→(∃ i t,k = Sum.inl i∧v = Value.int i t)∨(∃ x t,k = Sum.inr x∧v = Value.str x t)
  | .inl i,v,h=>by
    obtain ⟨t,e⟩:=Value.isInt_shape (k:=i) (v:=v) h
    exact .inl ⟨i,t,rfl,e⟩
  | .inr x,v,h=>by
    obtain ⟨t,e⟩:=Value.isStrOf_shape (x:=x) (v:=v) h
    exact .inr ⟨x,t,rfl,e⟩
theorem zms (i : Int) (t : Tok) : ziQ (.inl i) (.int i t) = true:=by simp [ziQ,Value.isInt]
theorem zmr (x : Str) (t : Tok) : ziQ (.inr x) (.str x t) = true:=by simp [ziQ,Value.isStrOf]
theorem zrb (a b : Int) : decide ((Sum.inl a : Key) = Sum.inl b) = (a == b):=by
  by_cases e : a = b
  · subst e; simp
  · have h : ¬ (Sum.inl a : Key) = Sum.inl b:=fun q=>e (Sum.inl.inj q)
    rw [yaf h]
    exact (beq_eq_false_iff_ne.mpr e).symm
theorem zq8 (a b : Str) : decide ((Sum.inr a : Key) = Sum.inr b) = decide (a = b):=by
  by_cases e : a = b
  · subst e; simp
  · have h : ¬ (Sum.inr a : Key) = Sum.inr b:=fun q=>e (Sum.inr.inj q)
    rw [yaf h,yaf e]
theorem zra (a : Int) (b : Str) : decide ((Sum.inl a : Key) = Sum.inr b) = false:=yaf (fun q=>nomatch q)
theorem zq9 (a : Str) (b : Int) : decide ((Sum.inr a : Key) = Sum.inl b) = false:=yaf (fun q=>nomatch q)
def za1 (prog : Program) (w : World) : PySem.KeyKind prog w Key where
  is:=ziQ
  hash:=keyH w
  inj:=fun v a b ha hb=>by
    rcases zaR ha with ⟨i,t,rfl,rfl⟩ | ⟨x,t,rfl,rfl⟩
    · rcases zaR hb with ⟨j,u,rfl,e⟩ | ⟨y,u,rfl,e⟩
      · injection e with e1 _; rw [e1]
      · exact nomatch e
    · rcases zaR hb with ⟨j,u,rfl,e⟩ | ⟨y,u,rfl,e⟩
      · exact nomatch e
      · injection e with e1 _; rw [e1]
  byValue:=fun k v h=>by
    rcases zaR h with ⟨i,t,rfl,rfl⟩ | ⟨x,t,rfl,rfl⟩ <;> rfl
  pyHash:=fun hv h=>by
    rcases zaR hv with ⟨i,t,rfl,rfl⟩ | ⟨x,t,rfl,rfl⟩
    · exact wpAny_pyHash_int h
    · exact wpAny_pyHash_str h
  eqBool:=fun hu hv h=>by
    rcases zaR hu with ⟨i,t,rfl,rfl⟩ | ⟨x,t,rfl,rfl⟩
    · rcases zaR hv with ⟨j,u,rfl,rfl⟩ | ⟨y,u,rfl,rfl⟩
      · rw [zrb] at h; exact wpAny_eqBool_int h
      · rw [zra] at h; exact SeqAt.EqAt.int_str i t y u _ _ _ _ h
    · rcases zaR hv with ⟨j,u,rfl,rfl⟩ | ⟨y,u,rfl,rfl⟩
      · rw [zq9] at h; exact SeqAt.EqAt.str_int x t j u _ _ _ _ h
      · rw [zq8] at h; exact wpAny_eqBool_str h
  «strs»:=fun k x t v h=>by
    rcases zaR h with ⟨i,u,rfl,e⟩ | ⟨y,u,rfl,e⟩
    · exact nomatch e
    · injection e with e1 _
      subst e1
      cases v <;> rfl
theorem zkF (prog : Program) (w : World) (k : Key) (v : Value) : (za1 prog w).is k v = ziQ k v:=rfl
theorem ziJ (prog : Program) (w : World) (i : Int) (t : Tok) : (za1 prog w).is (.inl i) (.int i t) = true:=zms i t
theorem ziI (prog : Program) (w : World) (x : Str) (t : Tok) : (za1 prog w).is (.inr x) (.str x t) = true:=zmr x t
end L2
namespace L2
open PySem PySem.Spec PyProof.Rows
inductive V where
  | non | bl (b : Bool) | int (i : Int) | str (x : Str) | byt (b : Array UInt8) | flt (b : UInt64) | ref (a : Addr) | ty (n : String)
  deriving DecidableEq
def RelV : V→Value→Prop
  | .non,u=>u = Value.none
  | .bl b,u=>u = Value.bool b
  | .int i,u=>∃ t,u = Value.int i t
  | .str x,u=>∃ t,u = Value.str x t
  | .byt b,u=>∃ t,u = Value.bytes b t
  | .flt b,u=>∃ t,u = Value.float b t
  | .ref a,u=>u = Value.ref a
  | .ty n,u=>u = Value.type n
abbrev Vals : List V→List Value→Prop:=Paired RelV
theorem Vals.length {xs : List V} {us : List Value} (r : Vals xs us) : xs.length = us.length:=Paired.length r
theorem Vals.get : ∀ {xs : List V} {us : List Value} {i : Nat} {x : V},Vals xs us→xs[i]? = some x→∃ u,us[i]? = some u∧RelV x u
  | _,_,_,_,.nil,e=>by simp at e
  | _,_,0,_,.cons r _,e=>by simp at e; subst e; exact ⟨_,rfl,r⟩
  | _,_,i + 1,x,.cons _ t,e=>by
    obtain ⟨u,h1,h2⟩:=Vals.get (i:=i) (x:=x) t (by simpa using e)
    exact ⟨u,by simpa using h1,h2⟩
theorem Vals.set {x : V} {u : Value} (r : RelV x u) : ∀ {xs : List V} {us : List Value} (i : Nat),Vals xs us→Vals (xs.set i x) (us.set i u)
  | _,_,_,.nil=>.nil
  | _,_,0,.cons _ t=>.cons r t
  | _,_,i + 1,.cons q t=>.cons q (Vals.set r i t)
theorem Vals.append : ∀ {xs ys : List V} {us ws : List Value},Vals xs us→Vals ys ws→Vals (xs ++ ys) (us ++ ws)
  | _,_,_,_,.nil,s=>s
  | _,_,_,_,.cons r t,s=>.cons r (Vals.append t s)
theorem Vals.take : ∀ {xs : List V} {us : List Value} (n : Nat),Vals xs us→Vals (xs.take n) (us.take n)
  | _,_,0,_=>.nil
  | _,_,_ + 1,.nil=>.nil
  | _,_,n + 1,.cons r t=>.cons r (Vals.take n t)
theorem Vals.drop : ∀ {xs : List V} {us : List Value} (n : Nat),Vals xs us→Vals (xs.drop n) (us.drop n)
  | _,_,0,r=>r
  | _,_,_ + 1,.nil=>.nil
  | _,_,n + 1,.cons _ t=>Vals.drop n t
def RelO : Option V→Option Value→Prop
  | some v,some u=>RelV v u
  | none,none=>True
  | _,_=>False
def KV {κ : Type} : List (κ×V)→List (κ×Value)→Prop:=Paired fun (p : κ×V) (q : κ×Value)=>p.1 = q.1∧RelV p.2 q.2
def kV : Key→V
  | .inl i=>.int i
  | .inr x=>.str x
inductive HO where
  | lst (xs : List V)
  | tup (xs : List V)
  | dK (kvs : List (Key×V)) | dT (kvs : List (List Key×V))
  | set (S : Int→Bool) (n : Nat)
  | ins (C dx : Addr) (fs : List (Str×V))
  | own (x : Addr)
  | xd (fs : List (Str×V))
  | met (f x : Addr)
  | rng (lo hi : Int)
  | frz (o : Obj) (u : HO)
  | tbl (ps : Array Value)
  | ext (φ : Heap→Prop)
abbrev Hp:=Addr→Option HO
def upd (H : Hp) (a : Addr) (o : HO) : Hp:=fun b=>if b = a then some o else H b
theorem zab {H : Hp} {a : Addr} {o : HO} : upd H a o a = some o:=by unfold upd; rw [if_pos rfl]
theorem zah {H : Hp} {a b : Addr} {o : HO} (h : b≠a) : upd H a o b = H b:=by unfold upd; rw [if_neg h]
theorem zoZ {H : Hp} {a : Addr} {o u : HO} : upd (upd H a o) a u = upd H a u:=by
  funext b; unfold upd; split <;> rfl
theorem zqU {H : Hp} {a b : Addr} {o u : HO} (h : H a = some o) (h' : H b = some u) (d : o≠u) : a≠b:=by
  intro e; subst e; rw [h] at h'; exact d (yad h')
theorem zad {H : Hp} {a b : Addr} {o : HO} (h : H a = some o) (h' : H b = none) : a≠b:=by
  intro e; subst e; rw [h] at h'; cases h'
section
variable (P : Program) (w : World)
def zbe (H : Hp) (h : Heap) (a : Addr) : HO→Prop
  | .lst xs=>xs.length≤sizeLine∧∃ (its : List Value) (n : Nat),Vals xs its∧h.get? a = some { cls:=.type "list",data:=.seq its.toArray n }
  | .tup xs=>xs.length≤sizeLine∧∃ its : List Value,Vals xs its∧IsTup h a its.toArray
  | .dK kvs=>kvs.length≤sizeLine∧(a == sysModules) = false∧∃ vs,KV kvs vs∧h.DictOf (za1 P w) a vs
  | .dT kvs=>kvs.length≤sizeLine∧(a == sysModules) = false∧∃ xs : List (List Key×Addr×Value),
      Paired (fun (p : List Key×V) (q : List Key×Addr×Value)=>p.1 = q.1∧H q.2.1 = some (.tup (p.1.map kV))∧RelV p.2 q.2.2) kvs xs∧
      ∃ o es ep,h.get? a = some o∧o.ExactDict∧o.data = .dict es ep∧es.toList = xs.map (entryOfKey (tupleKind (za1 P w)))∧(xs.map (·.1)).Nodup
  | .set S n=>h.SetOf (intKind P w) a S n
  | .ins C dx fs=>H dx = some (.own a)∧fs.length≤1000∧dx≠a∧h.get? a = some (PySem.W.instObj C dx)∧
      ∃ mA,h.Ns1 dx mA∧(∀ f,RelO (fs.lookup f) (mA f))∧PySem.Within mA (fs.map (·.1))
  | .own _=>∃ o,h.get? a = some o
  | .xd fs=>∃ mA,h.Ns1 a mA∧∀ f,RelO (fs.lookup f) (mA f)
  | .rng lo hi=>∃ t u v,h.get? a = some { cls:=.type "range",data:=.fields #[.int lo t,.int hi u,.int 1 v] }
  | .frz o u=>h.get? a = some o∧zbe H h a u
  | .tbl ps=>h.get? a = some { cls:=.none,data:=.fields ps }
  | .met f x=>h.get? a = some (PySem.W.methodObj (.ref f) (.ref x))
  | .ext φ=>φ h∧(∃ o,h.get? a = some o)∧∀ h1 h2 : Heap,φ h1→(∀ o,h1.get? a = some o→h2.get? a = some o)→φ h2
def HOk (H : Hp) (h : Heap) : Prop:=∀ a o,H a = some o→zbe P w H h a o
end
section
variable {P : Program} {w : World} {H H' : Hp} {h h' : Heap} {a : Addr} {o : HO}
theorem zbe.lt (x : zbe P w H h a o) : a < h.objs.size:=by
  cases o with
  | lst xs=>obtain ⟨_,_,_,_,e⟩:=x; exact yae e
  | tup xs=>obtain ⟨_,_,_,p⟩:=x; exact p.lt
  | dK kvs=>obtain ⟨_,_,_,_,o,_,_,e,_⟩:=x; exact yae e
  | dT kvs=>obtain ⟨_,_,_,_,o,_,_,e,_⟩:=x; exact yae e
  | set S n=>obtain ⟨o,_,_,_,e,_⟩:=x; exact yae e
  | ins C dx fs=>obtain ⟨_,_,_,e,_⟩:=x; exact yae e
  | own y=>obtain ⟨_,e⟩:=x; exact yae e
  | xd fs=>obtain ⟨_,⟨_,_,_,e,_⟩,_⟩:=x; exact yae e
  | rng lo hi=>obtain ⟨_,_,_,e⟩:=x; exact yae e
  | frz ob u=>obtain ⟨e,_⟩:=x; exact yae e
  | tbl ps=>exact yae (show h.get? a = some _ from x)
  | met f y=>exact yae (show h.get? a = some _ from x)
  | ext φ=>obtain ⟨_,⟨_,e⟩,_⟩:=x; exact yae e
theorem Paired.mapP {α β : Type} {F G : α→β→Prop} : ∀ {l₁ : List α} {l₂ : List β},Paired F l₁ l₂→(∀ a b,F a b→G a b)→Paired G l₁ l₂
  | _,_,.nil,_=>.nil
  | _,_,.cons r t,f=>.cons (f _ _ r) (Paired.mapP t f)
theorem zbe.stay (x : zbe P w H h a o) (k : ∀ b u,(b = a∨H b = some (.own a))→h.get? b = some u→h'.get? b = some u)
    (ho : ∀ b,H b = some (.own a)→H' b = some (.own a)) (ht : ∀ b xs,H b = some (.tup xs)→H' b = some (.tup xs)) : zbe P w H' h' a o:=by
  induction o with
  | lst xs=>obtain ⟨z,its,n,r,e⟩:=x; exact ⟨z,its,n,r,k _ _ (.inl rfl) e⟩
  | tup xs=>obtain ⟨z,its,r,ob,e,c⟩:=x; exact ⟨z,its,r,ob,k _ _ (.inl rfl) e,c⟩
  | dK kvs=>obtain ⟨z,y,vs,r,ob,es,ep,e,c⟩:=x; exact ⟨z,y,vs,r,ob,es,ep,k _ _ (.inl rfl) e,c⟩
  | dT kvs=>
    obtain ⟨z,y,xs,r,ob,es,ep,e,c⟩:=x
    exact ⟨z,y,xs,Paired.mapP r fun p q z=>⟨z.1,ht _ _ z.2.1,z.2.2⟩,ob,es,ep,k _ _ (.inl rfl) e,c⟩
  | set S n=>obtain ⟨ob,es,ep,t,e,c⟩:=x; exact ⟨ob,es,ep,t,k _ _ (.inl rfl) e,c⟩
  | ins C dx fs=>
    obtain ⟨d,z,ne,e,mA,⟨od,es,ep,e2,c⟩,r⟩:=x
    exact ⟨ho _ d,z,ne,k _ _ (.inl rfl) e,mA,⟨od,es,ep,k _ _ (.inr d) e2,c⟩,r⟩
  | own y=>obtain ⟨ob,e⟩:=x; exact ⟨ob,k _ _ (.inl rfl) e⟩
  | xd fs=>obtain ⟨mA,⟨od,es,ep,e,c⟩,r⟩:=x; exact ⟨mA,⟨od,es,ep,k _ _ (.inl rfl) e,c⟩,r⟩
  | rng lo hi=>obtain ⟨t,u,v,e⟩:=x; exact ⟨t,u,v,k _ _ (.inl rfl) e⟩
  | frz ob u ih=>obtain ⟨e,q⟩:=x; exact ⟨k _ _ (.inl rfl) e,ih q⟩
  | tbl ps=>
    have e : h.get? a = some { cls:=.none,data:=.fields ps }:=x
    show h'.get? a = some { cls:=.none,data:=.fields ps }
    exact k a _ (.inl rfl) e
  | met f y=>
    have e : h.get? a = some (PySem.W.methodObj (.ref f) (.ref y)):=x
    show h'.get? a = some (PySem.W.methodObj (.ref f) (.ref y))
    exact k a _ (.inl rfl) e
  | ext φ=>obtain ⟨p,⟨o,e⟩,st⟩:=x; exact ⟨st _ _ p fun o q=>k _ _ (.inl rfl) q,⟨o,k _ _ (.inl rfl) e⟩,st⟩
theorem HOk.lt (x : HOk P w H h) (e : H a = some o) : a < h.objs.size:=(x a o e).lt
theorem HOk.fresh (x : HOk P w H h) (e : h.objs.size≤a) : H a = none:=by
  cases q : H a with
  | none=>rfl
  | some u=>exact absurd (yaw (x.lt q) e) (ybg _)
theorem HOk.kept (x : HOk P w H h) (k : ∀ b u,h.get? b = some u→h'.get? b = some u) : HOk P w H h':=fun a o e=>
  (x a o e).stay (fun b u _ q=>k b u q) (fun _ q=>q) fun _ _ q=>q
theorem HOk.laid (x : HOk P w H h) (k : ∀ b u,h.get? b = some u→h'.get? b = some u) (hp : h.objs.size≤a) (new : zbe P w (upd H a o) h' a o) : HOk P w (upd H a o) h':=fun b u e=>by
  have hn:=x.fresh hp
  by_cases hb : b = a
  · subst hb; rw [zab] at e; cases e; exact new
  · rw [zah hb] at e
    exact (x b u e).stay (fun c v _ q=>k c v q) (fun c q=>by rw [zah (zad q hn)]; exact q) fun c xs q=>by rw [zah (zad q hn)]; exact q
end
def Rd (H : Hp) (a : Addr) (u : HO) : Prop:=H a = some u∨∃ o,H a = some (.frz o u)
theorem Rd.ok {P : Program} {w : World} {H : Hp} {h : Heap} {a : Addr} {u : HO} (r : Rd H a u) (x : HOk P w H h) : zbe P w H h a u:=by
  rcases r with r | ⟨o,r⟩
  · exact x a u r
  · obtain ⟨_,q⟩:=x a _ r
    exact q
def Mut : Option HO→Prop
  | some (.lst _)=>True
  | some (.dK _)=>True
  | some (.dT _)=>True
  | some (.set _ _)=>True
  | some (.ins _ _ _)=>True
  | some (.ext _)=>True
  | _=>False
section
variable {P : Program} {w : World} {H : Hp} {h h' : Heap} {x e : Addr} {o' : HO}
theorem HOk.write (ok : HOk P w H h) (mu : Mut (H x)) (he : e = x∨H e = some (.own x)) (k : ∀ b u,b≠e→h.get? b = some u→h'.get? b = some u) (heo : ∃ u,h'.get? e = some u)
    (new : zbe P w (upd H x o') h' x o') : HOk P w (upd H x o') h':=fun b u q=>by
  have nown : ∀ c y,H c = some (.own y)→c≠x:=fun c y r z=>by subst z; rw [r] at mu; exact mu
  have ntup : ∀ c xs,H c = some (.tup xs)→c≠x:=fun c xs r z=>by subst z; rw [r] at mu; exact mu
  by_cases hb : b = x
  · subst hb; rw [zab] at q; cases q; exact new
  · rw [zah hb] at q
    by_cases hbe : b = e
    · have q' : H b = some (.own x):=by
        rcases he with z | z
        · exact absurd (hbe.trans z) hb
        · rw [hbe]; exact z
      rw [q] at q'; cases q'
      obtain ⟨v,hv⟩:=heo
      exact ⟨v,by rw [hbe]; exact hv⟩
    · refine (ok b u q).stay (fun c v hc r=>k c v ?_ r) (fun c r=>by rw [zah (nown c b r)]; exact r) fun c xs r=>by rw [zah (ntup c xs r)]; exact r
      rcases hc with rfl | hc
      · exact hbe
      · rintro rfl
        rcases he with z | z
        · exact nown c b hc z
        · rw [hc] at z; cases z; exact hb rfl
end
structure Un (fs ex : List Addr) (H H' : Hp) (h h' : Heap) : Prop where
  keep : ∀ b o,h.get? b = some o→H b = none→b∉fs→b∉ex→h'.get? b = some o
  slot : ∀ b o,h.get? b = some o→H b = none→b∈fs→b∉ex→∃ sl,h'.get? b = some { o with slots:=sl }
  free : ∀ b o,h.get? b = some o→H b = none→b∉ex→H' b = none
  there : ∀ b o,h.get? b = some o→b∉ex→∃ o',h'.get? b = some o'
  tups : ∀ b xs,H b = some (.tup xs)→H' b = some (.tup xs)
  frzs : ∀ b o u,H b = some (.frz o u)→H' b = some (.frz o u)
  tbls : ∀ b ps,H b = some (.tbl ps)→∃ more,H' b = some (.tbl (ps ++ more))
section
variable {fs fs' ex ex' : List Addr} {H H1 H2 : Hp} {h h1 h2 h' : Heap} {a x e : Addr} {o : HO}
theorem Un.any (u : Un fs ex H H1 h h1) {b : Addr} {ob : Obj} (q : h.get? b = some ob) (n : H b = none) (hx : b∉ex) : ∃ sl,h1.get? b = some { ob with slots:=sl }:=by
  by_cases hb : b∈fs
  · exact u.slot b ob q n hb hx
  · exact ⟨ob.slots,u.keep b ob q n hb hx⟩
theorem Un.kept (k : ∀ b u,h.get? b = some u→h'.get? b = some u) : Un fs ex H H h h':=
  ⟨fun b ob q _ _ _=>k b ob q,fun b ob q _ _ _=>⟨ob.slots,k b ob q⟩,fun _ _ _ n _=>n,fun b ob q _=>⟨ob,k b ob q⟩,fun _ _ q=>q,fun _ _ _ q=>q,fun _ ps q=>⟨#[],by rw [q]; simp⟩⟩
theorem Un.refl : Un fs ex H H h h:=Un.kept fun _ _ q=>q
theorem Un.laid (k : ∀ b u,h.get? b = some u→h'.get? b = some u) (hp : h.objs.size≤a) (hn : H a = none) : Un fs ex H (upd H a o) h h' where
  keep:=fun b u q _ _ _=>k b u q
  slot:=fun b u q _ _ _=>⟨u.slots,k b u q⟩
  free:=fun b u q n _=>by rw [zah (yaq (yaw (yae q) hp))]; exact n
  there:=fun b u q _=>⟨u,k b u q⟩
  tups:=fun b xs q=>by rw [zah (zad q hn)]; exact q
  frzs:=fun b u xs q=>by rw [zah (zad q hn)]; exact q
  tbls:=fun b ps q=>⟨#[],by rw [zah (zad q hn),q]; simp⟩
theorem Un.write (mu : Mut (H x)) (he : e = x∨H e = some (.own x)) (k : ∀ b u,b≠e→h.get? b = some u→h'.get? b = some u) (heo : ∃ u,h'.get? e = some u) : Un fs ex H (upd H x o) h h':=by
  have hx : ∀ b,H b = none→b≠x:=fun b n z=>by subst z; rw [n] at mu; exact mu
  have hb : ∀ b,H b = none→b≠e:=fun b n z=>by
    subst z
    rcases he with r | r
    · exact hx b n r
    · rw [n] at r; cases r
  have hm : ∀ b u,H b = some u→¬ Mut (some u)→b≠x:=fun b u q nm z=>by subst z; rw [q] at mu; exact nm mu
  refine ⟨fun b u q n _ _=>k b u (hb b n) q,fun b u q n _ _=>⟨u.slots,k b u (hb b n) q⟩,fun b u q n _=>by rw [zah (hx b n)]; exact n,fun b u q _=>?_,
    fun b xs q=>by rw [zah (hm b _ q fun z=>z)]; exact q,fun b u xs q=>by rw [zah (hm b _ q fun z=>z)]; exact q,fun b ps q=>⟨#[],by rw [zah (hm b _ q fun z=>z),q]; simp⟩⟩
  by_cases hbe : b = e
  · subst hbe; exact heo
  · exact ⟨u,k b u hbe q⟩
end
def trk (h : Heap) (H : Hp) : List Addr:=(List.range h.objs.size).filter fun a=>(H a).isSome
def hidT (h : Heap) (H : Hp) : Heap:=PySem.W.hideAll h (trk h H)
theorem zmz (h : Heap) (H : Hp) : (hidT h H).objs.size = h.objs.size:=PySem.W.hideAll_size _ _
theorem zn6 {h : Heap} {H : Hp} {b : Addr} {o : Obj} (e : h.get? b = some o) (n : H b = none) : (hidT h H).get? b = some o:=
  PySem.W.hideAll_get _ e fun hm=>by
    have q : (H b).isSome = true:=(ya8.mp hm).2
    rw [n] at q; simp at q
theorem zpE {h : Heap} {H : Hp} {b : Addr} {o : Obj} (e : (hidT h H).get? b = some o) : h.get? b = some o∧H b = none:=by
  have e' : h.get? b = some o:=PySem.W.of_hideAll (trk h H) e
  refine ⟨e',?_⟩
  cases q : H b with
  | none=>rfl
  | some x=>
    have hm : b∈trk h H:=ya8.mpr ⟨ya9.mpr (yae e'),by simp [q]⟩
    have z : (hidT h H).get? b = none:=PySem.W.hideAll_none (trk h H) hm
    rw [z] at e; cases e
def zp8 (g h : Heap) (L : Addr) : List (Addr×Obj):=(List.range h.objs.size).filterMap fun a=>if a = L∨(g.get? a).isSome = true then none else (h.get? a).map fun o=>(a,o)
def rest (g h : Heap) (L d : Addr) : List (Addr×Obj):=(zp8 g h L).filter fun p=>decide (p.1≠d)
end L2
namespace L2
open PySem PySem.Spec PyProof.Rows
structure Mod (K : Frag) (mg : Str→Option Value) (base : Heap) : Prop where
  kin : K.In base
  glob : base.Ns mainGlobals mg
  blt : ∃ mb,base.Ns builtinsNs mb∧∀ x : Str,x ≠ "__name__"→mb x = bootBuiltins x
  nolimit : base.NoLimit
structure Cx where
  prog : Program
  w : World
  K : Frag
  mg : Str→Option Value
  base : Heap
  A : Around
  N : List Str
  s₀ : Shared
  H₀ : Hp
  env : Env
  outer : List Env
  stack : List Env
  ex : List Addr
  fn : Str→Bool
  calm : Bool
  pn : List (Addr×Obj)
  xe : Value→Shared→Prop
def frs (l : List Env) : List Addr:=l.filterMap (·.frame)
abbrev Cx.fs (X : Cx) : List Addr:=frs X.outer
def Vis (sc : Scope) (x : Str) : Prop:=sc.names.lookup x = some .local∨sc.names.lookup x = some .cell∨sc.names.lookup x = some .free
def Loc (sc : Scope) (x : Str) : Prop:=sc.names.lookup x = some .local∨sc.names.lookup x = some .cell
def Look (env : Env) (h : Heap) (m : Str→Option Value) (x : Str) (u : Value) : Prop:=
  (env.kindOf x = some .local∧m x = some u)∨((env.kindOf x = some .cell∨env.kindOf x = some .free)∧∃ c,env.cells.lookup x = some c∧h.IsCell c (some u))
structure Cx.Ok (X : Cx) : Prop where
  mod : Mod X.K X.mg X.base
  kind : X.env.scope.kind = .function
  glob : X.env.globals = mainGlobals
  blt : X.env.builtins = builtinsNs
  above : X.s₀.heap.objs.size≤X.env.locals
  inj : ∀ x y c,X.env.cells.lookup x = some c→X.env.cells.lookup y = some c→x = y
  has : ∀ x,(X.env.kindOf x = some .cell∨X.env.kindOf x = some .free)→∃ c,X.env.cells.lookup x = some c
  cab : ∀ x c,X.fn x = true→X.env.cells.lookup x = some c→X.s₀.heap.objs.size≤c
  hd : X.calm = true→X.A.handled = none
  frames : X.A.frames = some X.stack
  stk : X.stack = X.outer∨(X.stack = X.env :: X.outer∧X.env.frame = some X.env.locals)
  exf : ∀ b∈X.ex,b≠X.env.locals∧∀ x c,X.env.cells.lookup x = some c→c≠b
  bs : ∀ b o,X.base.get? b = some o→X.s₀.heap.get? b = some o∧X.H₀ b = none
  bsz : X.base.objs.size≤X.s₀.heap.objs.size
  noex : ∀ b o,X.base.get? b = some o→b∉X.ex
  exfs : ∀ b∈X.ex,b∉X.fs
  funs : X.s₀.heap.FunFrames X.base X.outer
  frf : ∀ b∈X.fs,X.H₀ b = none
structure Inv (X : Cx) (pins : List (Addr×Obj)) (σ : List (Option V)) (H : Hp) (s : Shared) : Prop where
  ok : X.Ok
  os : s.os = X.s₀.os
  bare : AllBare s.gens
  base : Un X.fs X.ex X.H₀ H X.s₀.heap s.heap
  loc : ∃ m,s.heap.Ns X.env.locals m∧∀ (i : Nat) (x : Str) (v : V),X.N[i]? = some x→σ[i]? = some (some v)→Vis X.env.scope x→∃ u,RelV v u∧Look X.env s.heap m x u
  cell : ∀ x c,X.env.cells.lookup x = some c→∃ v,s.heap.IsCell c v
  free : H X.env.locals = none
  freeC : ∀ x c,X.env.cells.lookup x = some c→H c = none
  pin : ∀ p∈X.pn ++ pins,s.heap.get? p.1 = some p.2∧H p.1 = none∧p.1≠X.env.locals∧p.1∉X.fs∧∀ v,p.2.data≠.cell v
  hok : HOk X.prog X.w H s.heap
  len : σ.length = X.N.length
section
variable {X : Cx} {pins : List (Addr×Obj)} {σ : List (Option V)} {H H' : Hp} {s : Shared} {h' : Heap}
theorem Cx.Ok.nofr (ok : X.Ok) {b : Addr} {o : Obj} (e : X.base.get? b = some o) : b∉X.fs:=fun hb=>by
  have:=(ok.funs.mem hb).1
  rw [e] at this; cases this
theorem Inv.bs (I : Inv X pins σ H s) : ∀ b o,X.base.get? b = some o→s.heap.get? b = some o∧H b = none:=fun b o e=>
  ⟨I.base.keep b o (I.ok.bs b o e).1 (I.ok.bs b o e).2 (I.ok.nofr e) (I.ok.noex b o e),I.base.free b o (I.ok.bs b o e).1 (I.ok.bs b o e).2 (I.ok.noex b o e)⟩
theorem Inv.bk (I : Inv X pins σ H s) : ∀ b o,X.base.get? b = some o→s.heap.get? b = some o:=fun b o e=>(I.bs b o e).1
theorem Inv.mod (I : Inv X pins σ H s) : Mod X.K X.mg X.base:=I.ok.mod
theorem Inv.kIn (I : Inv X pins σ H s) : X.K.In s.heap:=I.ok.mod.kin.keeps I.bk
theorem Inv.lt (I : Inv X pins σ H s) : X.env.locals < s.heap.objs.size:=let ⟨_,hn,_⟩:=I.loc; hn.lt
theorem Inv.sz (I : Inv X pins σ H s) : X.s₀.heap.objs.size≤s.heap.objs.size:=yay I.ok.above (ya2 I.lt)
theorem Inv.nofs (I : Inv X pins σ H s) {a : Addr} (h : s.heap.objs.size≤a) : a∉X.fs:=fun hb=>by
  obtain ⟨_,o,ho,_⟩:=I.ok.funs.mem hb
  exact absurd (yaw (yae ho) (yay I.sz h)) (ybg _)
theorem Inv.cne (I : Inv X pins σ H s) : ∀ x c,X.env.cells.lookup x = some c→c≠X.env.locals:=fun x c e z=>by
  obtain ⟨v,o,ho,hd⟩:=I.cell x c e
  obtain ⟨m,⟨o',es,ep,ho',hd',_⟩,_⟩:=I.loc
  rw [z,ho'] at ho; cases ho; rw [hd'] at hd; cases hd
theorem Inv.funs (I : Inv X pins σ H s) : s.heap.FunFrames X.base X.outer:=by
  have all : ∀ (l : List Env),(∀ b∈frs l,b∈X.fs)→X.s₀.heap.FunFrames X.base l→s.heap.FunFrames X.base l:=by
    intro l
    induction l with
    | nil=>intro _ _; trivial
    | cons env r ih=>
      intro hs hl
      obtain ⟨hk,⟨L,o,hf,hn,ho,hd⟩,hr⟩:=hl
      have hL : L∈X.fs:=hs L (by unfold frs; rw [ybI,hf]; exact yaC)
      obtain ⟨sl,e⟩:=I.base.slot L o ho (I.ok.frf L hL) hL fun z=>I.ok.exfs L z hL
      exact ⟨hk,⟨L,_,hf,hn,e,hd⟩,ih (fun b hb=>hs b (by unfold frs; rw [ybI,hf]; exact yaD _ hb)) hr⟩
  exact all X.outer (fun _ hb=>hb) I.ok.funs
theorem Inv.stack (I : Inv X pins σ H s) : s.heap.FunFrames X.base X.stack:=by
  rcases I.ok.stk with e | ⟨e,hf⟩
  · rw [e]; exact I.funs
  · rw [e]
    obtain ⟨m,hn,_⟩:=I.loc
    refine .cons (by rw [I.ok.kind]; decide) hf hn ?_ I.funs
    exact Heap.get?_none_of_le (yay I.ok.bsz I.ok.above)
theorem Inv.stkSub (I : Inv X pins σ H s) : ∀ b∈frs X.stack,b∈X.env.locals :: X.fs:=fun b hb=>by
  rcases I.ok.stk with e | ⟨e,hf⟩
  · rw [e] at hb; exact yaD _ hb
  · rw [e] at hb
    unfold frs at hb
    rw [ybI,hf] at hb
    exact hb
theorem Inv.stkFree (I : Inv X pins σ H s) : ∀ b∈frs X.stack,H b = none:=fun b hb=>by
  rcases yak.mp (I.stkSub b hb) with e | hb
  · rw [e]; exact I.free
  · obtain ⟨_,o,ho,_⟩:=I.ok.funs.mem hb
    exact I.base.free b o ho (I.ok.frf b hb) fun z=>I.ok.exfs b z hb
theorem Inv.step {g' : Array GenState} {t' : Nat} {d' : Drawn} {ch : List Addr} (I : Inv X pins σ H s)
    (hch : ∀ b∈ch,(b∈X.ex∨X.s₀.heap.objs.size≤b)∧b≠X.env.locals∧(∀ x c,X.env.cells.lookup x = some c→c≠b)∧∀ p∈X.pn ++ pins,p.1≠b)
    (keep : ∀ b o,b≠X.env.locals→b∉X.fs→b∉ch→s.heap.get? b = some o→H b = none→h'.get? b = some o)
    (slot : ∀ b o,b≠X.env.locals→b∈X.fs→b∉ch→s.heap.get? b = some o→H b = none→∃ sl,h'.get? b = some { o with slots:=sl }) (free : ∀ b o,b∉ch→s.heap.get? b = some o→H b = none→H' b = none)
    (there : ∀ b o,b∉ch→s.heap.get? b = some o→∃ o',h'.get? b = some o')
    (tups : ∀ b xs,H b = some (.tup xs)→H' b = some (.tup xs)) (frzs : ∀ b o u,H b = some (.frz o u)→H' b = some (.frz o u)) (tbls : ∀ b ps,H b = some (.tbl ps)→∃ more,H' b = some (.tbl (ps ++ more)))
    (ns : ∀ m,s.heap.Ns X.env.locals m→h'.Ns X.env.locals m) (hok : HOk X.prog X.w H' h') (hg : AllBare g') :
    Inv X pins σ H' { s with heap:=h',gens:=g',drawn:=d',toks:=t' }:=by
  have neL : ∀ b o,X.s₀.heap.get? b = some o→b≠X.env.locals:=fun b o e=>yaq (yaw (yae e) I.ok.above)
  have neC : ∀ b o,X.s₀.heap.get? b = some o→b∉X.ex→b∉ch:=fun b o e hx hb=>by
    rcases (hch b hb).1 with z | z
    · exact hx z
    · exact absurd (yaw (yae e) z) (ybg _)
  have cellK : ∀ x c,X.env.cells.lookup x = some c→∀ v,s.heap.IsCell c v→h'.IsCell c v:=fun x c e v ⟨o,ho,hd⟩=>by
    have nch : c∉ch:=fun z=>(hch c z).2.2.1 x c e rfl
    by_cases hc : c∈X.fs
    · obtain ⟨sl,q⟩:=slot c o (I.cne x c e) hc nch ho (I.freeC x c e)
      exact ⟨_,q,hd⟩
    · exact ⟨o,keep c o (I.cne x c e) hc nch ho (I.freeC x c e),hd⟩
  refine ⟨I.ok,I.os,hg,⟨fun b o e n hb hx=>?_,fun b o e n hb hx=>?_,fun b o e n hx=>?_,fun b o e hx=>?_,fun b xs e=>tups b xs (I.base.tups b xs e),fun b o xs e=>frzs b o xs (I.base.frzs b o xs e),fun b ps e=>?_⟩,?_,fun x c e=>?_,?_,fun x c e=>?_,fun p hp=>?_,hok,I.len⟩
  · exact keep b o (neL b o e) hb (neC b o e hx) (I.base.keep b o e n hb hx) (I.base.free b o e n hx)
  · obtain ⟨sl,e1⟩:=I.base.slot b o e n hb hx
    obtain ⟨sl',e2⟩:=slot b _ (neL b o e) hb (neC b o e hx) e1 (I.base.free b o e n hx)
    exact ⟨sl',e2⟩
  · obtain ⟨o',e1⟩:=I.base.there b o e hx
    exact free b o' (neC b o e hx) e1 (I.base.free b o e n hx)
  · obtain ⟨o',e1⟩:=I.base.there b o e hx
    exact there b o' (neC b o e hx) e1
  · obtain ⟨m1,e1⟩:=I.base.tbls b ps e
    obtain ⟨m2,e2⟩:=tbls b _ e1
    exact ⟨m1 ++ m2,by rw [e2,Array.append_assoc]⟩
  · obtain ⟨m,hn,hl⟩:=I.loc
    refine ⟨m,ns m hn,fun i x v e1 e2 e3=>?_⟩
    obtain ⟨u,r,l⟩:=hl i x v e1 e2 e3
    refine ⟨u,r,?_⟩
    rcases l with l | ⟨k,c,e,z⟩
    · exact .inl l
    · exact .inr ⟨k,c,e,cellK x c e _ z⟩
  · obtain ⟨v,z⟩:=I.cell x c e
    exact ⟨v,cellK x c e v z⟩
  · obtain ⟨m,⟨o,_,_,ho,_⟩,_⟩:=I.loc
    exact free _ o (fun z=>(hch _ z).2.1 rfl) ho I.free
  · obtain ⟨v,o,ho,hd⟩:=I.cell x c e
    exact free c o (fun z=>(hch c z).2.2.1 x c e rfl) ho (I.freeC x c e)
  · obtain ⟨e,n,ne,nf,d⟩:=I.pin p hp
    have nch : p.1∉ch:=fun z=>(hch p.1 z).2.2.2 p hp rfl
    exact ⟨keep p.1 p.2 ne nf nch e n,free p.1 p.2 nch e n,ne,nf,d⟩
theorem Inv.un {t' : Nat} (I : Inv X pins σ H s) (u : Un X.fs [] H H' s.heap h') (hok : HOk X.prog X.w H' h') : Inv X pins σ H' { s with heap:=h',toks:=t' }:=by
  obtain ⟨m,⟨o,es,ep,ho,r⟩,_⟩:=id I.loc
  obtain ⟨sl,hL⟩:=u.any ho I.free (by simp)
  exact I.step (g':=s.gens) (d':=s.drawn) (ch:=[]) (fun _ z=>nomatch z) (fun b o _ hb _ e n=>u.keep b o e n hb (by simp)) (fun b o _ hb _ e n=>u.slot b o e n hb (by simp)) (fun b o _ e n=>u.free b o e n (by simp)) (fun b o _ e=>u.there b o e (by simp)) u.tups u.frzs u.tbls (fun m' hm=>by
    obtain ⟨o',es',ep',ho',r'⟩:=hm
    rw [ho] at ho'; cases ho'
    exact ⟨_,es',ep',hL,r'⟩) hok I.bare
theorem Inv.call {g' : Array GenState} {t' : Nat} {d' : Drawn} {ch : List Addr} (I : Inv X pins σ H s) (u : Un (frs X.stack) ch H H' s.heap h') (hok : HOk X.prog X.w H' h') (hg : AllBare g')
    (hch : ∀ b∈ch,(b∈X.ex∨X.s₀.heap.objs.size≤b)∧b≠X.env.locals∧(∀ x c,X.env.cells.lookup x = some c→c≠b)∧∀ p∈X.pn ++ pins,p.1≠b) :
    Inv X pins σ H' { s with heap:=h',gens:=g',drawn:=d',toks:=t' }:=by
  obtain ⟨m,⟨o,es,ep,ho,r⟩,_⟩:=id I.loc
  obtain ⟨sl,hL⟩:=u.any ho I.free fun z=>(hch _ z).2.1 rfl
  exact I.step (ch:=ch) hch (fun b o hL hb hc e n=>u.keep b o e n (fun z=>(yak.mp (I.stkSub b z)).elim hL hb) hc) (fun b o _ _ hc e n=>u.any e n hc) (fun b o hc e n=>u.free b o e n hc) (fun b o hc e=>u.there b o e hc) u.tups u.frzs u.tbls (fun m' hm=>by
    obtain ⟨o',es',ep',ho',r'⟩:=hm
    rw [ho] at ho'; cases ho'
    exact ⟨_,es',ep',hL,r'⟩) hok hg
theorem Inv.turned {t' : Nat} {it : Addr} (I : Inv X pins σ H s) (k : ∀ b o,b≠it→s.heap.get? b = some o→h'.get? b = some o) (hn : H it = none) (hL : it≠X.env.locals)
    (h1 : it∈X.ex∨X.s₀.heap.objs.size≤it) (h2 : ∀ x c,X.env.cells.lookup x = some c→c≠it) (h3 : ∀ p∈X.pn ++ pins,p.1≠it) : Inv X pins σ H { s with heap:=h',toks:=t' }:=by
  have nit : ∀ b u,H b = some u→b≠it:=fun b u e z=>by rw [z,hn] at e; cases e
  refine I.step (g':=s.gens) (d':=s.drawn) (ch:=[it]) (fun b hb=>?_) (fun b o _ _ hc e _=>k b o (fun z=>hc (by simp [z])) e) (fun b o _ _ hc e _=>⟨o.slots,k b o (fun z=>hc (by simp [z])) e⟩) (fun _ _ _ _ n=>n)
    (fun b o hc e=>⟨o,k b o (fun z=>hc (by simp [z])) e⟩) (fun _ _ e=>e) (fun _ _ _ e=>e) (fun b ps e=>⟨#[],by rw [e]; simp⟩) (fun m hm=>?_) (fun b u e=>?_) I.bare
  · have e : b = it:=by simpa using hb
    subst e
    exact ⟨h1,hL,h2,h3⟩
  · obtain ⟨o,es,ep,ho,r⟩:=hm
    exact ⟨o,es,ep,k _ o (Ne.symm hL) ho,r⟩
  · refine (I.hok b u e).stay (fun c v hc q=>k c v ?_ q) (fun _ q=>q) fun _ _ q=>q
    rcases hc with z | z
    · rw [z]; exact nit b u e
    · exact nit c _ z
theorem Inv.tok (I : Inv X pins σ H s) (t : Nat) : Inv X pins σ H { s with toks:=t }:=I.un (h':=s.heap) (t':=t) Un.refl I.hok
theorem Inv.kept {t' : Nat} (I : Inv X pins σ H s) (k : ∀ b u,s.heap.get? b = some u→h'.get? b = some u) : Inv X pins σ H { s with heap:=h',toks:=t' }:=I.un (Un.kept k) (I.hok.kept k)
theorem Inv.laid {a : Addr} {o : HO} {t' : Nat} (I : Inv X pins σ H s) (k : ∀ b u,s.heap.get? b = some u→h'.get? b = some u) (hp : s.heap.objs.size≤a) (new : zbe X.prog X.w (upd H a o) h' a o) :
    Inv X pins σ (upd H a o) { s with heap:=h',toks:=t' }:=I.un (Un.laid k hp (I.hok.fresh hp)) (I.hok.laid k hp new)
theorem Inv.write {x e : Addr} {o : HO} {t' : Nat} (I : Inv X pins σ H s) (mu : Mut (H x)) (he : e = x∨H e = some (.own x)) (k : ∀ b u,b≠e→s.heap.get? b = some u→h'.get? b = some u) (heo : ∃ u,h'.get? e = some u)
    (new : zbe X.prog X.w (upd H x o) h' x o) : Inv X pins σ (upd H x o) { s with heap:=h',toks:=t' }:=I.un (Un.write mu he k heo) (I.hok.write mu he k heo new)
theorem Inv.pins_of {pins' : List (Addr×Obj)} (I : Inv X pins σ H s) (h : ∀ p∈pins',s.heap.get? p.1 = some p.2∧H p.1 = none∧p.1≠X.env.locals∧p.1∉X.fs∧∀ v,p.2.data≠.cell v) : Inv X pins' σ H s:=
  ⟨I.ok,I.os,I.bare,I.base,I.loc,I.cell,I.free,I.freeC,fun p hp=>(yaj.mp hp).elim (fun z=>I.pin p (yaR _ z)) (h p),I.hok,I.len⟩
theorem zjT {N : List Str} (hN : N.Nodup) {i j : Nat} {x : Str} (a : N[i]? = some x) (b : N[j]? = some x) : i = j:=by
  obtain ⟨h1,e1⟩:=yan.mp a
  obtain ⟨h2,e2⟩:=yan.mp b
  exact (List.getElem_inj hN).mp (e1.trans e2.symm)
theorem zhK {M : Model} {A : Around} {E : Value→Shared→Prop} {i : Nat} {x : Str} {v : V} {u : Value} {Q : Unit→Shared→Prop} (I : Inv X pins σ H s) (hN : X.N.Nodup) (hi : X.N[i]? = some x) (hx : Loc X.env.scope x) (r : RelV v u)
    (h : ∀ s',Inv X pins (σ.set i (some v)) H s'→(∃ a,Heap.SameBut a s.heap s'.heap∧(a = X.env.locals∨X.env.cells.lookup x = some a))→Q () s') (hf : X.fn x = true∨X.env.scope.names.lookup x = some .local:=by first | exact .inl rfl | exact .inr rfl | assumption) : wpAny M A (storeName X.env x u) Q E s:=by
  obtain ⟨m,hn,hl⟩:=id I.loc
  have hcls : (X.env.scope.kind == .class || (X.env.scope.kind == .module && X.env.locals != X.env.globals)) = false:=by rw [I.ok.kind]; rfl
  have hiσ : i < σ.length:=by rw [I.len]; exact (yan.mp hi).1
  have cne:=I.cne
  have tracked : ∀ {a : Addr} {h' : Heap},(∃ o,s.heap.get? a = some o∧H a = none)→Heap.SameBut a s.heap h'→HOk X.prog X.w H h':=fun {a h'} ha hs b ob e=>by
    obtain ⟨_,_,hfree⟩:=ha
    refine (I.hok b ob e).stay (fun c w' hc q=>(hs.2 c ?_).trans q) (fun _ q=>q) fun _ _ q=>q
    rintro rfl
    rcases hc with rfl | hc
    · rw [hfree] at e; cases e
    · rw [hfree] at hc; cases hc
  rcases hx with hk | hk
  · refine wpAny_storeName_local hk hn (fun h' hn' hs=>?_) hcls
    obtain ⟨oL,_,_,hoL,_⟩:=id hn
    refine h _ ⟨I.ok,I.os,I.bare,⟨fun b o e n hb hx=>?_,fun b o e n hb hx=>?_,I.base.free,fun b o e hx=>?_,I.base.tups,I.base.frzs,I.base.tbls⟩,⟨_,hn',fun j y v' e1 e2 e3=>?_⟩,fun y c e=>?_,I.free,I.freeC,fun p hp=>?_,tracked ⟨oL,hoL,I.free⟩ hs,by simpa using I.len⟩ ⟨_,hs,.inl rfl⟩
    · exact (hs.2 b (yaq (yaw (yae e) I.ok.above))).trans (I.base.keep b o e n hb hx)
    · obtain ⟨sl,e1⟩:=I.base.slot b o e n hb hx
      exact ⟨sl,(hs.2 b (yaq (yaw (yae e) I.ok.above))).trans e1⟩
    · obtain ⟨o',e1⟩:=I.base.there b o e hx
      exact ⟨o',(hs.2 b (yaq (yaw (yae e) I.ok.above))).trans e1⟩
    · by_cases hj : j = i
      · subst hj
        rw [hi] at e1; cases e1
        rw [List.getElem?_set_self hiσ] at e2
        cases e2
        exact ⟨u,r,.inl ⟨hk,by simp⟩⟩
      · rw [List.getElem?_set_ne (Ne.symm hj)] at e2
        obtain ⟨u',r',q⟩:=hl j y v' e1 e2 e3
        refine ⟨u',r',?_⟩
        rcases q with ⟨k,e⟩ | ⟨k,c,e,z⟩
        · refine .inl ⟨k,?_⟩
          have : y≠x:=fun e=>hj (zjT hN e1 (e ▸ hi))
          simp [this,e]
        · exact .inr ⟨k,c,e,z.sameBut hs (cne y c e)⟩
    · obtain ⟨w',z⟩:=I.cell y c e
      exact ⟨w',z.sameBut hs (cne y c e)⟩
    · obtain ⟨e,n,ne,nf,d⟩:=I.pin p hp
      exact ⟨(hs.2 p.1 ne).trans e,n,ne,nf,d⟩
  · have hfn : X.fn x = true:=by
      rcases hf with z | z
      · exact z
      · rw [z] at hk; cases hk
    obtain ⟨c,hc⟩:=I.ok.has x (.inl hk)
    obtain ⟨w',z⟩:=I.cell x c hc
    refine wpAny_storeName_cell I.ok.kind hk hc z (fun h' hc' hs=>?_)
    obtain ⟨oc,hoc,hocd⟩:=id z
    refine h { s with heap:=h' } ⟨I.ok,I.os,I.bare,⟨fun b o e n hb hx=>?_,fun b o e n hb hx=>?_,I.base.free,fun b o e hx=>?_,I.base.tups,I.base.frzs,I.base.tbls⟩,⟨m,hn.sameBut hs (Ne.symm (cne x c hc)),fun j y v' e1 e2 e3=>?_⟩,fun y c' e=>?_,I.free,I.freeC,fun p hp=>?_,tracked ⟨oc,hoc,I.freeC x c hc⟩ hs,by simpa using I.len⟩ ⟨c,hs,.inr hc⟩
    · exact (hs.2 b (yaq (yaw (yae e) (I.ok.cab x c hfn hc)))).trans (I.base.keep b o e n hb hx)
    · obtain ⟨sl,e1⟩:=I.base.slot b o e n hb hx
      exact ⟨sl,(hs.2 b (yaq (yaw (yae e) (I.ok.cab x c hfn hc)))).trans e1⟩
    · obtain ⟨o',e1⟩:=I.base.there b o e hx
      exact ⟨o',(hs.2 b (yaq (yaw (yae e) (I.ok.cab x c hfn hc)))).trans e1⟩
    · by_cases hj : j = i
      · subst hj
        rw [hi] at e1; cases e1
        rw [List.getElem?_set_self hiσ] at e2
        cases e2
        exact ⟨u,r,.inr ⟨.inl hk,c,hc,hc'⟩⟩
      · rw [List.getElem?_set_ne (Ne.symm hj)] at e2
        obtain ⟨u',r',q⟩:=hl j y v' e1 e2 e3
        refine ⟨u',r',?_⟩
        rcases q with q | ⟨k,c',e,z'⟩
        · exact .inl q
        · refine .inr ⟨k,c',e,z'.sameBut hs ?_⟩
          rintro rfl
          exact hj (zjT hN e1 (I.ok.inj _ _ _ e hc ▸ hi))
    · by_cases hcc : c' = c
      · subst hcc; exact ⟨_,hc'⟩
      · obtain ⟨w2,z2⟩:=I.cell y c' e
        exact ⟨w2,z2.sameBut hs hcc⟩
    · obtain ⟨e,n,ne,nf,d⟩:=I.pin p hp
      refine ⟨(hs.2 p.1 ?_).trans e,n,ne,nf,d⟩
      intro q
      rw [q,hoc] at e
      have q' : oc = p.2:=yad e
      exact d w' (by rw [← q']; exact hocd)
theorem zjm {M : Model} {A : Around} {E : Value→Shared→Prop} {i : Nat} {x : Str} {v : V} {u : Value} {Q : Unit→Shared→Prop} (I : Inv X pins σ H s) (hN : X.N.Nodup) (hi : X.N[i]? = some x) (hx : Loc X.env.scope x) (r : RelV v u)
    (h : ∀ s',Inv X pins (σ.set i (some v)) H s'→Q () s') (hf : X.fn x = true∨X.env.scope.names.lookup x = some .local:=by first | exact .inl rfl | exact .inr rfl | assumption) : wpAny M A (storeName X.env x u) Q E s:=
  zhK I hN hi hx r (fun s' I' _=>h s' I') hf
theorem Inv.call' {s' : Shared} {ch : List Addr} (I : Inv X pins σ H s) (ho : s'.os = s.os) (u : Un (frs X.stack) ch H H' s.heap s'.heap) (hok : HOk X.prog X.w H' s'.heap) (hg : AllBare s'.gens)
    (hch : ∀ b∈ch,(b∈X.ex∨X.s₀.heap.objs.size≤b)∧b≠X.env.locals∧(∀ x c,X.env.cells.lookup x = some c→c≠b)∧∀ p∈X.pn ++ pins,p.1≠b) : Inv X pins σ H' s':=by
  obtain ⟨h',g',d',t',o'⟩:=s'
  have e : o' = s.os:=ho
  subst e
  exact I.call (g':=g') (t':=t') (d':=d') u hok hg hch
end
abbrev XK:=Value→Option Addr→Hp→Prop
abbrev St:=List (Option V)
abbrev VK:=V→Hp→Prop
abbrev TE:=St→Hp→VK→Prop
abbrev TT:=St→Hp→(Bool→Hp→Prop)→Prop
abbrev TA:=St→Hp→(List V→Hp→Prop)→Prop
structure Ends where
  nx : St→Hp→Prop
  rt : VK
  bk : St→Hp→Prop:=fun _ _=>False
  ct : St→Hp→Prop:=fun _ _=>False
abbrev TS:=Ends→St→Hp→Prop
def EP (X : Cx) (pins : List (Addr×Obj)) (σ : St) (Q : VK) (u : Value) (s' : Shared) : Prop:=∃ v H',Inv X pins σ H' s'∧RelV v u∧Q v H'
def TP (X : Cx) (pins : List (Addr×Obj)) (σ : St) (Q : Bool→Hp→Prop) (b : Bool) (s' : Shared) : Prop:=∃ H',Inv X pins σ H' s'∧Q b H'
def AP (X : Cx) (pins : List (Addr×Obj)) (σ : St) (Q : List V→Hp→Prop) (us : List Value) (s' : Shared) : Prop:=∃ vs H',Inv X pins σ H' s'∧Vals vs us∧Q vs H'
def SP (X : Cx) (pins : List (Addr×Obj)) (D : Ends) (f : Flow) (s' : Shared) : Prop:=
  match f with
  | .next=>∃ σ' H',Inv X pins σ' H' s'∧D.nx σ' H'
  | .brk=>∃ σ' H',Inv X pins σ' H' s'∧D.bk σ' H'
  | .cont=>∃ σ' H',Inv X pins σ' H' s'∧D.ct σ' H'
  | .ret u=>∃ v σ' H',Inv X pins σ' H' s'∧RelV v u∧D.rt v H'
def PE (X : Cx) (e : Expr) (t : TE) : Prop:=
  ∀ (pins : List (Addr×Obj)) (s : Shared) (σ : St) (H : Hp) (Q : VK),Inv X pins σ H s→t σ H Q→wpAny (model X.prog X.w) X.A (eval e X.env) (EP X pins σ Q) X.xe s
def PT (X : Cx) (e : Expr) (t : TT) : Prop:=
  ∀ (pins : List (Addr×Obj)) (s : Shared) (σ : St) (H : Hp) (Q : Bool→Hp→Prop),Inv X pins σ H s→t σ H Q→wpAny (model X.prog X.w) X.A (isTrue e X.env (eval e X.env)) (TP X pins σ Q) X.xe s
def PW (X : Cx) (e : Expr) (t : TT) : Prop:=
  ∀ (whole : Sem Value) (pins : List (Addr×Obj)) (s : Shared) (σ : St) (H : Hp) (Q : Bool→Hp→Prop),Inv X pins σ H s→t σ H Q→wpAny (model X.prog X.w) X.A (isTrue e X.env whole) (TP X pins σ Q) X.xe s
theorem PW.pt {X : Cx} {e : Expr} {t : TT} (h : PW X e t) : PT X e t:=h _
def PA (X : Cx) (es : List Expr) (t : TA) : Prop:=
  ∀ (pos : Pos) (pins : List (Addr×Obj)) (s : Shared) (σ : St) (H : Hp) (Q : List V→Hp→Prop),Inv X pins σ H s→t σ H Q→wpAny (model X.prog X.w) X.A (spliced (backTo pos (starEach es X.env))) (AP X pins σ Q) X.xe s
def PS (X : Cx) (st : Stmt) (t : TS) : Prop:=
  ∀ (pins : List (Addr×Obj)) (s : Shared) (σ : St) (H : Hp) (D : Ends),Inv X pins σ H s→t D σ H→wpAny (model X.prog X.w) X.A (exec st X.env) (SP X pins D) X.xe s
def PSs (X : Cx) (st : List Stmt) (t : TS) : Prop:=
  ∀ (pins : List (Addr×Obj)) (s : Shared) (σ : St) (H : Hp) (D : Ends),Inv X pins σ H s→t D σ H→wpAny (model X.prog X.w) X.A (execs st X.env) (SP X pins D) X.xe s
theorem thn {α : Type} {t : Sem α} {Q Q' : α→Shared→Prop} {M : Model} {A : Around} {E : Value→Shared→Prop} {s : Shared} (h : wpAny M A t Q E s) (hQ : ∀ a s,Q a s→Q' a s) : wpAny M A t Q' E s:=wpAny_mono h hQ fun _ _ x=>x
end L2
namespace L2
open PySem PySem.Spec PyProof.Rows
section
variable {X : Cx}
def tVar (i : Nat) : TE:=fun σ H Q=>∃ v,σ[i]? = some (some v)∧Q v H
def tC (v : V) : TE:=fun _ H Q=>Q v H
theorem zqD {i : Nat} {x : Str} {pos : Pos} (hN : X.N[i]? = some x) (hv : Vis X.env.scope x) (hd : (x == ("__debug__" : Str)) = false:=by decide) (hcd : (x == ("__classdict__" : Str)) = false:=by decide) : PE X (.Name x pos) (tVar i):=by
  intro pins s σ H Q I h
  obtain ⟨v,e,h⟩:=h
  obtain ⟨m,hn,hl⟩:=I.loc
  obtain ⟨u,r,l⟩:=hl i x v hN e hv
  have fin : EP X pins σ Q u s:=⟨v,H,I,r,h⟩
  rcases l with ⟨hk,hm⟩ | ⟨hk,c,hc,hcell⟩
  · exact wpAny_Name (wpAny_loadName_local I.ok.kind hk hn hm fin) hd
  · rcases hk with hk | hk
    · exact wpAny_Name (wpAny_loadName_cell I.ok.kind hk hc hcell fin) hd
    · exact wpAny_Name (wpAny_loadName_free I.ok.kind hk hc hcell fin hcd) hd
theorem zaj {i j pos} : PE X (.Constant (.int i) j pos) (tC (.int i)):=fun _ _ _ H _ I h=>wpAny_Constant_int ⟨.int i,H,I.tok _,⟨_,rfl⟩,h⟩
theorem zhb {b j pos} : PE X (.Constant (.bool b) j pos) (tC (.bl b)):=fun _ _ _ H _ I h=>Constant_bool ⟨.bl b,H,I,rfl,h⟩
theorem zlS {j pos} : PE X (.Constant .none j pos) (tC .non):=fun _ _ _ H _ I h=>Constant_none ⟨.non,H,I,rfl,h⟩
theorem zda {x j pos} : PE X (.Constant (.str x) j pos) (tC (.str x)):=fun _ _ _ H _ I h=>Calls.Constant_str ⟨.str x,H,I.tok _,⟨_,rfl⟩,h⟩
def Gl (X : Cx) (x : Str) : Prop:=X.env.kindOf x = some .globalImplicit
theorem zhp {E : Value→Shared→Prop} {pins : List (Addr×Obj)} {s : Shared} {σ : St} {H : Hp} {x : Str} {u : Value} {pos : Pos} {Q : Value→Shared→Prop} (I : Inv X pins σ H s) (hg : Gl X x) (hm : X.mg x = some u) (h : Q u s)
    (hd : (x == ("__debug__" : Str)) = false:=by decide) : wpAny (model X.prog X.w) X.A (eval (.Name x pos) X.env) Q E s:=
  Calls.Name_function_global I.ok.kind hg (Calls.loadGlobal_global (by rw [I.ok.glob]; exact I.mod.glob.keeps I.bk) hm h) hd
theorem ze0 {E : Value→Shared→Prop} {pins : List (Addr×Obj)} {s : Shared} {σ : St} {H : Hp} {x : Str} {u : Value} {pos : Pos} {Q : Value→Shared→Prop} (I : Inv X pins σ H s) (hg : Gl X x) (hm : X.mg x = none) (hv : bootBuiltins x = some u) (h : Q u s)
    (hn : x ≠ "__name__":=by decide) (hd : (x == ("__debug__" : Str)) = false:=by decide) : wpAny (model X.prog X.w) X.A (eval (.Name x pos) X.env) Q E s:=by
  obtain ⟨mb,h1,h2⟩:=I.mod.blt
  exact Calls.Name_function_global I.ok.kind hg (Calls.loadGlobal_builtin (by rw [I.ok.glob]; exact I.mod.glob.keeps I.bk) hm (by rw [I.ok.blt]; exact h1.keeps I.bk) ((h2 x hn).trans hv) h) hd
theorem zpn {x : Str} {v : V} {u : Value} {pos : Pos} (hg : Gl X x) (hm : X.mg x = some u) (r : RelV v u) (hd : (x == ("__debug__" : Str)) = false:=by decide) : PE X (.Name x pos) (tC v):=
  fun _ _ _ H _ I h=>zhp I hg hm ⟨v,H,I,r,h⟩ hd
theorem zdb {x : Str} {v : V} {u : Value} {pos : Pos} (hg : Gl X x) (hm : X.mg x = none) (hv : bootBuiltins x = some u) (r : RelV v u) (hn : x ≠ "__name__":=by decide) (hd : (x == ("__debug__" : Str)) = false:=by decide) : PE X (.Name x pos) (tC v):=
  fun _ _ _ H _ I h=>ze0 I hg hm hv ⟨v,H,I,r,h⟩ hn hd
variable {a b : Expr} {ta tb : TE} {pos : Pos}
def tB (t : TE) : TT:=fun σ H Q=>t σ H fun x H1=>∃ c,x = .bl c∧Q c H1
theorem zc7 {e : Expr} {t : TE} (h : PE X e t) (he : ∀ whole,isTrue e X.env whole = (do let v ← whole; standAt e.pos; holding [v] (truthy v)):=by intro _; rfl) : PT X e (tB t):=by
  intro pins s σ H Q I hw
  refine isTrue_plain (thn (h pins s σ H _ I hw) fun v s1 ⟨x,H1,I1,r1,q1⟩=>?_) (he _)
  obtain ⟨d,rfl,q⟩:=q1
  cases r1
  exact wpAny_truthy_bool ⟨H1,I1,q⟩
variable {tA tB' : TT} {rest : List Expr}
def tAnd (t u : TT) : TT:=fun σ H Q=>t σ H fun c H1=>if c = true then u σ H1 Q else Q false H1
def tOr (t u : TT) : TT:=fun σ H Q=>t σ H fun c H1=>if c = true then Q true H1 else u σ H1 Q
def tNot (t : TT) : TT:=fun σ H Q=>t σ H fun c H1=>Q (!c) H1
theorem zg5 (ha : PT X a tA) : PW X (.BoolOp .And [a] pos) tA:=by
  intro wh pins s σ H Q I h
  refine isTrue_and (thn (ha pins s σ H Q I h) fun c s1 e=>?_)
  cases c with
  | true=>exact isTrue_and_nil e
  | false=>exact e
theorem zlL (ha : PT X a tA) : PW X (.BoolOp .Or [a] pos) tA:=by
  intro wh pins s σ H Q I h
  refine isTrue_or (thn (ha pins s σ H Q I h) fun c s1 e=>?_)
  cases c with
  | false=>exact isTrue_or_nil e
  | true=>exact e
theorem zjB (ha : PT X a tA) (hb : PW X (.BoolOp .And (b :: rest) pos) tB') : PW X (.BoolOp .And (a :: b :: rest) pos) (tAnd tA tB'):=by
  intro wh pins s σ H Q I h
  refine isTrue_and (thn (ha pins s σ H _ I h) fun c s1 ⟨H1,I1,q1⟩=>?_)
  cases c with
  | true=>exact hb wh pins s1 σ H1 Q I1 q1
  | false=>exact ⟨H1,I1,q1⟩
theorem zph (ha : PT X a tA) (hb : PW X (.BoolOp .Or (b :: rest) pos) tB') : PW X (.BoolOp .Or (a :: b :: rest) pos) (tOr tA tB'):=by
  intro wh pins s σ H Q I h
  refine isTrue_or (thn (ha pins s σ H _ I h) fun c s1 ⟨H1,I1,q1⟩=>?_)
  cases c with
  | true=>exact ⟨H1,I1,q1⟩
  | false=>exact hb wh pins s1 σ H1 Q I1 q1
theorem zeU (ha : PT X a tA) : PT X (.UnaryOp .Not a pos) (tNot tA):=by
  intro pins s σ H Q I h
  exact isTrue_not (ha pins s σ H (fun c H1=>Q (!c) H1) I h)
def zry (ta tb : TE) : TE:=fun σ H Q=>ta σ H fun x H1=>∃ c,x = .bl c∧if c = true then tb σ H1 Q else Q (.bl false) H1
def zrs (ta : TE) : TE:=fun σ H Q=>ta σ H fun x H1=>∃ c,x = .bl c∧Q (.bl (!c)) H1
theorem zjJ {op} {t : TE} (h : PE X a t) : PE X (.BoolOp op [a] pos) t:=fun pins s σ H Q I hw=>BoolOp_one (h pins s σ H Q I hw)
theorem zjL (ha : PE X a ta) (hb : PE X (.BoolOp .And (b :: rest) pos) tb) : PE X (.BoolOp .And (a :: b :: rest) pos) (zry ta tb):=by
  intro pins s σ H Q I h
  refine BoolOp_and (thn (ha pins s σ H _ I h) fun v s1 ⟨x,H1,I1,r1,q1⟩=>?_)
  obtain ⟨c,rfl,q1⟩:=q1
  cases r1
  refine wpAny_truthy_bool ?_
  cases c with
  | true=>exact hb pins s1 σ H1 Q I1 q1
  | false=>exact ⟨.bl false,H1,I1,rfl,q1⟩
theorem zlR (ha : PE X a ta) : PE X (.UnaryOp .Not a pos) (zrs ta):=by
  intro pins s σ H Q I h
  refine UnaryOp_ (thn (ha pins s σ H _ I h) fun v s1 ⟨x,H1,I1,r1,q1⟩=>?_)
  obtain ⟨c,rfl,q1⟩:=q1
  cases r1
  exact not_of (wpAny_truthy_bool ⟨.bl (!c),H1,I1,rfl,q1⟩)
def tIf (t : TT) (ta tb : TE) : TE:=fun σ H Q=>t σ H fun c H1=>if c = true then ta σ H1 Q else tb σ H1 Q
theorem znx {c : Expr} (hc : PT X c tA) (ha : PE X a ta) (hb : PE X b tb) : PE X (.IfExp c a b pos) (tIf tA ta tb):=by
  intro pins s σ H Q I h
  refine wpAny_IfExp (thn (hc pins s σ H _ I h) fun d s1 ⟨H1,I1,q1⟩=>?_)
  cases d with
  | true=>exact ha pins s1 σ H1 Q I1 q1
  | false=>exact hb pins s1 σ H1 Q I1 q1
end
end L2
namespace L2
open PySem PySem.Spec PyProof.Rows
def SqL (K : Frag) (H : Hp) (a : Addr) (xs : List V) : Prop:=
  Rd H a (.lst xs)∨
    ∃ (o : Obj) (its : Array Value) (n : Nat),K.lookup a = some o∧o.cls = .type "list"∧o.dict = none∧o.data = .seq its n∧its.size≤sizeLine∧Vals xs its.toList
def SqT (K : Frag) (H : Hp) (a : Addr) (xs : List V) : Prop:=
  Rd H a (.tup xs)∨
    ∃ (o : Obj) (its : Array Value) (n : Nat),K.lookup a = some o∧o.cls = .type "tuple"∧o.data = .seq its n∧its.size≤sizeLine∧Vals xs its.toList
def absV : Value→Option V
  | .none=>some .non
  | .bool b=>some (.bl b)
  | .int i _=>some (.int i)
  | .str x _=>some (.str x)
  | .bytes b _=>some (.byt b)
  | .float b _=>some (.flt b)
  | .ref a=>some (.ref a)
  | .type n=>some (.ty n)
  | _=>none
theorem RelV.abs {x : V} {u : Value} (r : RelV x u) : absV u = some x:=by
  cases x with
  | non=>cases r; rfl
  | bl _=>cases r; rfl
  | int _=>obtain ⟨t,rfl⟩:=r; rfl
  | str _=>obtain ⟨t,rfl⟩:=r; rfl
  | byt _=>obtain ⟨t,rfl⟩:=r; rfl
  | flt _=>obtain ⟨t,rfl⟩:=r; rfl
  | ref _=>cases r; rfl
  | ty _=>cases r; rfl
theorem RelV.inj {x y : V} {u : Value} (r : RelV x u) (q : RelV y u) : x = y:=yad (r.abs.symm.trans q.abs)
theorem Vals.inj : ∀ {xs ys : List V} {us : List Value},Vals xs us→Vals ys us→xs = ys
  | _,_,_,.nil,.nil=>rfl
  | _,_,_,.cons r t,.cons r' t'=>by rw [r.inj r',Vals.inj t t']
section
variable {X : Cx} {pins : List (Addr×Obj)} {σ : St} {H : Hp} {s : Shared} {a : Addr} {xs ys : List V}
theorem SqL.of {K : Frag} (h : H a = some (.lst xs)) : SqL K H a xs:=.inl (.inl h)
theorem SqT.of {K : Frag} (h : H a = some (.tup xs)) : SqT K H a xs:=.inl (.inl h)
theorem Inv.list (I : Inv X pins σ H s) (h : SqL X.K H a xs) : ∃ its : List Value,Vals xs its∧PlainL s.heap a its.toArray∧xs.length≤sizeLine:=by
  rcases h with h | ⟨o,its,n,hk,hc,hd,hs,hz,r⟩
  · obtain ⟨z,its,n,r,e⟩:=h.ok I.hok
    exact ⟨its,r,⟨_,n,e,rfl,rfl,rfl⟩,z⟩
  · refine ⟨its.toList,r,⟨o,n,I.kIn a o hk,hc,hd,by simpa using hs⟩,?_⟩
    have e:=r.length
    simp only [yas] at e
    omega
theorem Inv.tuple (I : Inv X pins σ H s) (h : SqT X.K H a xs) : ∃ its : List Value,Vals xs its∧IsTup s.heap a its.toArray∧xs.length≤sizeLine:=by
  rcases h with h | ⟨o,its,n,hk,hc,hs,hz,r⟩
  · obtain ⟨z,its,r,p⟩:=h.ok I.hok
    exact ⟨its,r,p,z⟩
  · refine ⟨its.toList,r,⟨o,I.kIn a o hk,hc,n,by simpa using hs⟩,?_⟩
    have e:=r.length
    simp only [yas] at e
    omega
theorem Inv.list_inj (I : Inv X pins σ H s) (h : SqL X.K H a xs) (h' : SqL X.K H a ys) : xs = ys:=by
  obtain ⟨its,r,⟨o,n,e,_,_,d⟩,_⟩:=I.list h
  obtain ⟨its',r',⟨o',n',e',_,_,d'⟩,_⟩:=I.list h'
  rw [e] at e'; cases e'
  rw [d] at d'
  injection d' with d1 _
  have : its = its':=by simpa using congrArg Array.toList d1
  subst this
  exact r.inj r'
theorem Inv.tuple_inj (I : Inv X pins σ H s) (h : SqT X.K H a xs) (h' : SqT X.K H a ys) : xs = ys:=by
  obtain ⟨its,r,⟨o,e,_,n,d⟩,_⟩:=I.tuple h
  obtain ⟨its',r',⟨o',e',_,n',d'⟩,_⟩:=I.tuple h'
  rw [e] at e'; cases e'
  rw [d] at d'
  injection d' with d1 _
  have : its = its':=by simpa using congrArg Array.toList d1
  subst this
  exact r.inj r'
end
abbrev Cx.wish (X : Cx) (E : Value→Shared→Prop) : Cx:={ X with xe:=E }
abbrev Cx.nox (X : Cx) : Cx:=X.wish fun _ _=>False
theorem Cx.Ok.wish {X : Cx} (ok : X.Ok) (E : Value→Shared→Prop) : (X.wish E).Ok:=
  ⟨ok.mod,ok.kind,ok.glob,ok.blt,ok.above,ok.inj,ok.has,ok.cab,ok.hd,ok.frames,ok.stk,ok.exf,ok.bs,ok.bsz,ok.noex,ok.exfs,ok.funs,ok.frf⟩
theorem Cx.Ok.unwish {X : Cx} {E : Value→Shared→Prop} (ok : (X.wish E).Ok) : X.Ok:=
  ⟨ok.mod,ok.kind,ok.glob,ok.blt,ok.above,ok.inj,ok.has,ok.cab,ok.hd,ok.frames,ok.stk,ok.exf,ok.bs,ok.bsz,ok.noex,ok.exfs,ok.funs,ok.frf⟩
section
variable {X : Cx} {pins : List (Addr×Obj)} {σ : St} {H : Hp} {s : Shared} {E : Value→Shared→Prop}
theorem Inv.wish (I : Inv X pins σ H s) (E : Value→Shared→Prop) : Inv (X.wish E) pins σ H s:=⟨I.ok.wish E,I.os,I.bare,I.base,I.loc,I.cell,I.free,I.freeC,I.pin,I.hok,I.len⟩
theorem Inv.unwish (I : Inv (X.wish E) pins σ H s) : Inv X pins σ H s:=⟨I.ok.unwish,I.os,I.bare,I.base,I.loc,I.cell,I.free,I.freeC,I.pin,I.hok,I.len⟩
theorem SP.unwish {D : Ends} {f : Flow} {s' : Shared} (h : SP (X.wish E) pins D f s') : SP X pins D f s':=by
  cases f with
  | next=>obtain ⟨σ',H',I,q⟩:=h; exact ⟨σ',H',I.unwish,q⟩
  | brk=>obtain ⟨σ',H',I,q⟩:=h; exact ⟨σ',H',I.unwish,q⟩
  | cont=>obtain ⟨σ',H',I,q⟩:=h; exact ⟨σ',H',I.unwish,q⟩
  | ret u=>obtain ⟨v,σ',H',I,r,q⟩:=h; exact ⟨v,σ',H',I.unwish,r,q⟩
theorem PSs.nox {st : List Stmt} {t : TS} (h : PSs X.nox st t) : PSs X st t:=fun pins s σ H D I hw=>
  wpAny_mono (h pins s σ H D (I.wish _) hw) (fun _ _ q=>q.unwish) fun _ _ z=>False.elim z
end
section
variable {X : Cx} {st : Stmt} {rest : List Stmt} {t u : TS} {e : Expr} {te : TE} {pos : Pos}
def zrt : TS:=fun D σ H=>D.nx σ H
def tSeq (t u : TS) : TS:=fun D σ H=>t { D with nx:=u D } σ H
theorem zaA : PSs X [] zrt:=fun _ _ σ H _ I h=>wpAny_execs_nil ⟨σ,H,I,h⟩
theorem zaf (h1 : PS X st t) (h2 : PSs X rest u) : PSs X (st :: rest) (tSeq t u):=by
  intro pins s σ H D I h
  refine wpAny_execs_cons (thn (h1 pins s σ H { D with nx:=u D } I h) fun f s1 q=>?_)
  cases f with
  | next=>
    obtain ⟨σ',H',I',q⟩:=q
    exact h2 pins s1 σ' H' D I' q
  | ret v=>exact q
  | brk=>exact q
  | cont=>exact q
theorem zae (h1 : PS X st t) : PSs X [st] t:=by
  intro pins s σ H D I h
  refine wpAny_execs_cons (thn (h1 pins s σ H D I h) fun f s1 q=>?_)
  cases f with
  | next=>exact wpAny_execs_nil q
  | ret v=>exact q
  | brk=>exact q
  | cont=>exact q
theorem Inv.quiet {pins : List (Addr×Obj)} {σ : St} {H : Hp} {s : Shared} (I : Inv X pins σ H s) : interactive X.env = false:=by simp [interactive,I.ok.kind]
def zru (te : TE) : TS:=fun D σ H=>te σ H fun _ H1=>D.nx σ H1
theorem zbT (he : PE X e te) (hs : swapsWith e none pos.line X.env = pure false:=by rfl) : PS X (.Expr e pos) (zru te):=by
  intro pins s σ H D I h
  exact wpAny_Expr_any (thn (he pins s σ H _ I h) fun v s1 ⟨x,H1,I1,r1,q1⟩=>⟨σ,H1,I1,q1⟩) I.quiet hs
def tRet (te : TE) : TS:=fun D σ H=>te σ H D.rt
theorem zav (he : PE X e te) : PS X (.Return (some e) pos) (tRet te):=by
  intro pins s σ H D I h
  exact wpAny_Return_some (thn (he pins s σ H _ I h) fun v s1 ⟨x,H1,I1,r1,q1⟩=>⟨x,σ,H1,I1,r1,q1⟩)
def tIfS (c : TT) (t u : TS) : TS:=fun D σ H=>c σ H fun b H1=>if b = true then t D σ H1 else u D σ H1
theorem zba {c : Expr} {a b : List Stmt} {tc : TT} (hc : PT X c tc) (ha : PSs X a t) (hb : PSs X b u) : PS X (.If c a b pos) (tIfS tc t u):=by
  intro pins s σ H D I h
  refine wpAny_If (thn (hc pins s σ H _ I h) fun d s1 ⟨H1,I1,q1⟩=>?_)
  cases d with
  | true=>exact ha pins s1 σ H1 D I1 q1
  | false=>exact hb pins s1 σ H1 D I1 q1
def zqh : TS:=fun _ _ _=>False
theorem zaY : PS X st zqh:=fun _ _ _ _ _ _ h=>h.elim
end
abbrev TG:=V→St→Hp→(St→Hp→Prop)→Prop
abbrev TGs:=List V→St→Hp→(St→Hp→Prop)→Prop
def PG (X : Cx) (target : Expr) (t : TG) : Prop:=
  ∀ (pins : List (Addr×Obj)) (s : Shared) (σ : St) (H : Hp) (v : V) (u : Value) (Q : St→Hp→Prop),Inv X pins σ H s→RelV v u→t v σ H Q→
    wpAny (model X.prog X.w) X.A (assign target X.env u) (fun _ s'=>∃ σ' H',Inv X pins σ' H' s'∧Q σ' H') X.xe s
def PGs (X : Cx) (ts : List Expr) (t : TGs) : Prop:=
  ∀ (pins : List (Addr×Obj)) (s : Shared) (σ : St) (H : Hp) (vs : List V) (us : List Value) (Q : St→Hp→Prop),Inv X pins σ H s→Vals vs us→t vs σ H Q→
    wpAny (model X.prog X.w) X.A (assignInOrder ((assignEach ts X.env).map (·.2)) us) (fun _ s'=>∃ σ' H',Inv X pins σ' H' s'∧Q σ' H') X.xe s
abbrev TSet:=V→V→V→Hp→(Hp→Prop)→Prop
def PSet (X : Cx) (t : TSet) : Prop:=
  ∀ (pins : List (Addr×Obj)) (s : Shared) (σ : St) (H : Hp) (o i v : V) (ov iv u : Value) (Q : Hp→Prop),Inv X pins σ H s→RelV o ov→RelV i iv→RelV v u→t o i v H Q→
    wpAny (model X.prog X.w) X.A (setItem ov iv u) (fun _ s'=>∃ H',Inv X pins σ H' s'∧Q H') X.xe s
section
variable {X : Cx} {pos : Pos}
def zmH (i : Nat) : TG:=fun v σ H Q=>Q (σ.set i (some v)) H
theorem zas {i : Nat} {x : Str} (hN : X.N.Nodup) (hi : X.N[i]? = some x) (hx : Loc X.env.scope x) (hf : X.fn x = true∨X.env.scope.names.lookup x = some .local:=by first | exact .inl rfl | exact .inr rfl | assumption) : PG X (.Name x pos) (zmH i):=by
  intro pins s σ H v u Q I r h
  exact wpAny_assign_Name (zjm I hN hi hx r (fun s' I'=>⟨_,H,I',h⟩) hf)
def gNil : TGs:=fun vs σ H Q=>vs = []∧Q σ H
def zrI (t : TG) (u : TGs) : TGs:=fun vs σ H Q=>∃ v r,vs = v :: r∧t v σ H fun σ' H'=>u r σ' H' Q
theorem zfJ : PGs X [] gNil:=by
  intro pins s σ H vs us Q I r h
  obtain ⟨e,h⟩:=h
  subst e
  cases r
  exact assignInOrder_nil ⟨σ,H,I,h⟩
theorem zaZ {e : Expr} {es : List Expr} {t : TG} {u : TGs} (h1 : PG X e t) (h2 : PGs X es u)
    (hs : (assignEach (e :: es) X.env).map (·.2) = assign e X.env :: (assignEach es X.env).map (·.2):=by rfl) : PGs X (e :: es) (zrI t u):=by
  intro pins s σ H vs us Q I r h
  obtain ⟨v,vr,e1,h⟩:=h
  subst e1
  cases r with
  | cons r rr=>
    rw [hs]
    refine assignInOrder_cons (thn (h1 pins s σ H _ _ _ I r h) fun _ s1 ⟨σ1,H1,I1,q1⟩=>?_)
    exact h2 pins s1 σ1 H1 _ _ Q I1 rr q1
def gTup (K : Frag) (n : Nat) (t : TGs) : TG:=fun v σ H Q=>∃ a xs,v = .ref a∧SqT K H a xs∧xs.length = n∧t xs σ H Q
theorem zjI {es : List Expr} {k : Nat} {t : TGs} {n : Nat} (hc : X.calm = true) (h : PGs X es t)
    (hn : (assignEach es X.env).length = n:=by rfl) (hst : (assignEach es X.env).findIdx? (·.1) = none:=by rfl) : PG X (.Tuple es k pos) (gTup X.K n t):=by
  intro pins s σ H v u Q I r hw
  obtain ⟨a,xs,e1,hq,hl,hw⟩:=hw
  subst e1
  cases r
  obtain ⟨its,rv,ht,hz⟩:=I.tuple hq
  refine assign_Tuple_tuple (I.ok.hd hc) ht (by simp [hn,← hl,rv.length]) hst fun h' hx=>?_
  have I1 : Inv X pins σ H { s with heap:=h' }:=I.kept (t':=s.toks) fun b o e=>hx b o (yaq (yae e)) e
  exact h pins _ σ H xs _ Q I1 (by simpa using rv) hw
def gSub (to ti : TE) (t : TSet) : TG:=fun v σ H Q=>to σ H fun o H1=>ti σ H1 fun i H2=>t o i v H2 fun H3=>Q σ H3
theorem zhX {o i : Expr} {to ti : TE} {t : TSet} (ho : PE X o to) (hi : PE X i ti) (hs : PSet X t)
    (ha : ∀ v,assign (.Subscript o i pos) X.env v = (do
      let ov ← holding [v] (eval o X.env)
      let iv ← holding [v,ov] (eval i X.env)
      standAt pos
      holding [v,ov,iv] (setItem ov iv v)
      release [v,ov,iv] []):=by intro _; rfl) : PG X (.Subscript o i pos) (gSub to ti t):=by
  intro pins s σ H v u Q I r h
  rw [ha]
  refine wpAny_bind (wpAny_holding (thn (ho pins s σ H _ I h) fun ov s1 ⟨x,H1,I1,r1,q1⟩=>?_))
  refine wpAny_bind (wpAny_holding (thn (hi pins s1 σ H1 _ I1 q1) fun iv s2 ⟨y,H2,I2,r2,q2⟩=>?_))
  refine wpAny_bind (wpAny_standAt (wpAny_bind (wpAny_holding (thn (hs pins s2 σ H2 x y v ov iv u _ I2 r1 r2 r q2) fun _ s3 ⟨H3,I3,q3⟩=>?_))))
  exact wpAny_release ⟨σ,H3,I3,q3⟩
def tAsg (te : TE) (g : TG) : TS:=fun D σ H=>te σ H fun x H1=>g x σ H1 D.nx
theorem zgr {tg e : Expr} {te : TE} {g : TG} (he : PE X e te) (hg : PG X tg g) (hs : swapsWithSole [tg] e pos.line X.env = pure false:=by rfl) (hw : swappedStores [tg] e X.env = pure none:=by rfl)
    (h1 : (assignEach [tg] X.env).map (·.2) = [assign tg X.env]:=by rfl) : PS X (.Assign [tg] e pos) (tAsg te g):=by
  intro pins s σ H D I h
  refine wpAny_Assign_stores (thn (he pins s σ H _ I h) fun v s1 ⟨x,H1,I1,r1,q1⟩=>?_) hs hw
  rw [h1]
  exact thn (hg pins s1 σ H1 x v _ I1 r1 q1) fun _ s2 q=>q
theorem zar {i : Nat} {x : Str} {e : Expr} {te : TE} {pos' : Pos} (hN : X.N.Nodup) (hi : X.N[i]? = some x) (hx : Loc X.env.scope x) (he : PE X e te) (hs : swapsWith e (some (.Name x pos')) pos.line X.env = pure false:=by rfl) (hf : X.fn x = true∨X.env.scope.names.lookup x = some .local:=by first | exact .inl rfl | exact .inr rfl | assumption) :
    PS X (.Assign [.Name x pos'] e pos) (tAsg te (zmH i)):=by
  intro pins s σ H D I h
  refine wpAny_Assign_Name (thn (he pins s σ H _ I h) fun v s1 ⟨y,H1,I1,r1,q1⟩=>?_) hs
  exact zjm I1 hN hi hx r1 (fun s2 I2=>⟨_,H1,I2,q1⟩) hf
end
section
variable {X : Cx} {pos : Pos}
def zlk (c : TT) (tb : TS) : TS:=fun D σ H=>∃ W : Nat→St→Hp→Prop,(∃ m,W m σ H)∧∀ m σ H,W m σ H→
  c σ H fun b H1=>if b = true then ∃ N : St→Hp→Prop,(∀ σ' H',N σ' H'→∃ m',m' < m∧W m' σ' H')∧tb { D with nx:=N,ct:=N,bk:=D.nx } σ H1 else D.nx σ H1
theorem zjF {c : Expr} {body : List Stmt} {tc : TT} {tb : TS} (hp : PassesOwn (model X.prog X.w) X.A X.env X.xe) (hc : PT X c tc) (hb : PSs X body tb) : PS X (.While c body [] pos) (zlk tc tb):=by
  intro pins s σ H D I h
  obtain ⟨W,⟨m0,w0⟩,turn⟩:=h
  refine wpAny_While (codeAny_whileLoop (fun n s'=>∃ σ' H',Inv X pins σ' H' s'∧W n σ' H') ?_ m0 ⟨σ,H,I,w0⟩)
  rintro n s1 ⟨σ1,H1,I1,w1⟩
  refine wpAny_passesOwn hp (thn (hc pins s1 σ1 H1 _ I1 (turn n σ1 H1 w1)) fun b s2 ⟨H2,I2,q2⟩=>?_)
  cases b with
  | true=>
    obtain ⟨N,hN,q2⟩:=q2
    rw [if_pos rfl]
    refine wpAny_passesOwn hp (thn (hb pins s2 σ1 H2 _ I2 q2) fun f s3 q3=>?_)
    cases f with
    | next=>
      obtain ⟨σ3,H3,I3,n3⟩:=q3
      obtain ⟨m',hm,w3⟩:=hN σ3 H3 n3
      exact ⟨m',hm,σ3,H3,I3,w3⟩
    | cont=>
      obtain ⟨σ3,H3,I3,n3⟩:=q3
      obtain ⟨m',hm,w3⟩:=hN σ3 H3 n3
      exact ⟨m',hm,σ3,H3,I3,w3⟩
    | brk=>exact q3
    | ret v=>exact q3
  | false=>
    rw [if_neg yax]
    exact wpAny_execs_nil ⟨σ1,H2,I2,q2⟩
end
structure It where
  go : Nat→Hp→Prop
  yld : Nat→Hp→V→Hp→Prop
  stop : Nat→Hp→Prop
def FpOk (X : Cx) (pins : List (Addr×Obj)) (H : Hp) (b : Addr) : Prop:=
  H b = none∧b≠X.env.locals∧b∉X.fs∧(b∈X.ex∨X.s₀.heap.objs.size≤b)∧(∀ x c,X.env.cells.lookup x = some c→c≠b)∧∀ p∈X.pn ++ pins,p.1≠b
theorem Inv.fpOk {X : Cx} {pins : List (Addr×Obj)} {σ : St} {H H' : Hp} {s : Shared} {b : Addr} (I : Inv X pins σ H s) (hb : s.heap.objs.size≤b) (hn : H' b = none) : FpOk X pins H' b:=by
  refine ⟨hn,ybh (yaw I.lt hb),I.nofs hb,.inr (yay I.sz hb),fun x c e z=>?_,fun p hp z=>?_⟩
  · obtain ⟨v,q⟩:=I.cell x c e
    exact absurd (yaw q.lt (by rw [z]; exact hb)) (ybg _)
  · exact absurd (yaw (yae (I.pin p hp).1) (by rw [z]; exact hb)) (ybg _)
structure Turn (P : Program) (w : World) (K : Frag) (tg : Expr) (J : It) (fp : List Addr) (it : Addr) (tn : Nat→Heap→Prop) : Prop where
  mem : it∈fp
  obj : ∀ i h,tn i h→∀ b∈fp,∃ o,h.get? b = some o∧∀ v,o.data≠.cell v
  keep : ∀ i h h',tn i h→(∀ b∈fp,∀ o,h.get? b = some o→h'.get? b = some o)→tn i h'
  item : ∀ (X : Cx),X.prog = P→X.w = w→X.K = K→X.calm = true→∀ (i : Nat) (pins : List (Addr×Obj)) (s : Shared) (σ : St) (H : Hp) (E : Value→Shared→Prop),Inv X pins σ H s→(∀ b∈fp,FpOk X pins H b)→tn i s.heap→J.go i H→
    wpAny (model P w) X.A (pyNext (.ref it)) (fun r s1=>∃ u,r = some u∧
      wpAny (model P w) X.A (letOwnedTupleGo tg (.ref it) u) (fun _ s2=>∃ x H',Inv X pins σ H' s2∧RelV x u∧J.yld i H x H'∧tn (i + 1) s2.heap∧∀ b∈fp,H' b = none) E s1) E s
  done : ∀ (X : Cx),X.prog = P→X.w = w→X.K = K→X.calm = true→∀ (i : Nat) (pins : List (Addr×Obj)) (s : Shared) (σ : St) (H : Hp) (E : Value→Shared→Prop),Inv X pins σ H s→(∀ b∈fp,FpOk X pins H b)→tn i s.heap→J.stop i H→
    wpAny (model P w) X.A (pyNext (.ref it)) (fun r s1=>r = none∧Inv X pins σ H s1) E s
  self : ∀ (A : Around) (i : Nat) (s : Shared) (Q : Value→Shared→Prop) (E : Value→Shared→Prop),tn i s.heap→Q (.ref it) s→wpAny (model P w) A (pyIter (.ref it)) Q E s
abbrev TI:=St→Hp→(It→Hp→Prop)→Prop
def PIE (X : Cx) (pins : List (Addr×Obj)) (σ : St) (tg : Expr) (R : It→Hp→Prop) (itv : Value) (s2 : Shared) : Prop:=
  ∃ (it : Addr) (fp : List Addr) (tn : Nat→Heap→Prop) (J : It) (H' : Hp),itv = .ref it∧Inv X pins σ H' s2∧Turn X.prog X.w X.K tg J fp it tn∧tn 0 s2.heap∧(∀ b∈fp,FpOk X pins H' b)∧R J H'
def PI (X : Cx) (tg iter : Expr) (wi : TI) : Prop:=
  ∀ (pins : List (Addr×Obj)) (s : Shared) (σ : St) (H : Hp) (R : It→Hp→Prop),Inv X pins σ H s→wi σ H R→
    wpAny (model X.prog X.w) X.A (eval iter X.env) (fun v s1=>wpAny (model X.prog X.w) X.A (pyIter v) (PIE X pins σ tg R) X.xe s1) X.xe s
theorem zoa {M : Model} {A : Around} {E : Value→Shared→Prop} {s : Shared} {tg : Expr} {it : Addr} {u : Value} {o : Obj} {n : String} {vs : Array Value} {Q : Unit→Shared→Prop} (ho : s.heap.get? it = some o) (hc : o.cls = .type n) (hd : o.data = .fields vs)
    (hn : ["enumerate","zip","dict_itemiterator","dict_reverseitemiterator","odict_iterator","itertools.zip_longest","itertools.pairwise"].contains n = false) (hQ : Q () s) : wpAny M A (letOwnedTupleGo tg (.ref it) u) Q E s:=by
  unfold letOwnedTupleGo
  cases tg <;> first
    | exact wpAny_pure hQ
    | (cases u <;> first
        | exact wpAny_pure hQ
        | (refine wpAny_bind (wpAny_load ho ?_)
           rw [hc,hd]
           show wpAny M A (if (["enumerate","zip","dict_itemiterator","dict_reverseitemiterator","odict_iterator","itertools.zip_longest","itertools.pairwise"].contains n && vs[0]? == some (rawInt _)) = true then _ else _) Q E s
           rw [if_neg (by intro h; rw [hn,Bool.false_and] at h; cases h)]
           exact wpAny_pure hQ))
def Itl (K : Frag) (a : Addr) : It:=
  ⟨fun i H=>∃ xs x,SqL K H a xs∧xs[i]? = some x,fun i H x H'=>H' = H∧∀ xs,SqL K H a xs→xs[i]? = some x,fun i H=>∃ xs,SqL K H a xs∧xs.length≤i⟩
def Itt (K : Frag) (a : Addr) : It:=
  ⟨fun i H=>∃ xs x,SqT K H a xs∧xs[i]? = some x,fun i H x H'=>H' = H∧∀ xs,SqT K H a xs→xs[i]? = some x,fun i H=>∃ xs,SqT K H a xs∧xs.length≤i⟩
def Itr (lo : Int) (n : Nat) : It:=⟨fun i _=>i < n,fun i H x H'=>H' = H∧x = .int (lo + i),fun i _=>n≤i⟩
theorem zhD {P : Program} {w : World} {K : Frag} {tg : Expr} (a it : Addr) : Turn P w K tg (Itl K a) [it] it (fun i h=>h.IsListIter it a i) where
  mem:=by simp
  obj:=fun i h st b hb=>by
    have e : b = it:=by simpa using hb
    subst e
    obtain ⟨o,e,c,d⟩:=st
    exact ⟨o,e,fun v z=>by rw [d] at z; cases z⟩
  keep:=fun i h h' st k=>st.at fun o e=>k it (by simp) o e
  item:=by
    intro X hP hw hK hc i pins s σ H E I hf st hg
    subst hP hw hK
    obtain ⟨xs,x,hq,hx⟩:=hg
    obtain ⟨its,rv,p,hz⟩:=I.list hq
    obtain ⟨u,hu,ru⟩:=rv.get hx
    obtain ⟨f0,f1,f2,f3,f4,f5⟩:=hf it (by simp)
    refine wpAny_pyNext_list_item st p.isList (x:=u) (by simpa using hu) fun h' st' sb=>?_
    have I1 : Inv X pins σ H { s with heap:=h' }:=I.turned (t':=s.toks) (fun b o hb e=>(sb.2 b hb).trans e) f0 f1 f3 f4 f5
    obtain ⟨o,e,c,d⟩:=id st'
    exact ⟨u,rfl,zoa (s:={ s with heap:=h' }) e c d (by decide) ⟨x,H,I1,ru,⟨rfl,fun ys hy=>by rw [I.list_inj hy hq]; exact hx⟩,st',fun b hb=>(hf b hb).1⟩⟩
  done:=by
    intro X hP hw hK hc i pins s σ H E I hf st hg
    subst hP hw hK
    obtain ⟨xs,hq,hx⟩:=hg
    obtain ⟨its,rv,p,hz⟩:=I.list hq
    obtain ⟨f0,f1,f2,f3,f4,f5⟩:=hf it (by simp)
    have hl:=rv.length
    exact wpAny_pyNext_list_end (I.ok.hd hc) st p.isList (by simp; omega) fun h' eb=>⟨rfl,I.turned (t':=s.toks) (fun b o hb e=>eb b o hb e) f0 f1 f3 f4 f5⟩
  self:=fun _ _ _ _ _ st h=>wpAny_pyIter_listiter st h
theorem zgj {P : Program} {w : World} {K : Frag} {tg : Expr} (a it : Addr) : Turn P w K tg (Itt K a) [it] it (fun i h=>h.IsTupleIter it a i) where
  mem:=by simp
  obj:=fun i h st b hb=>by
    have e : b = it:=by simpa using hb
    subst e
    obtain ⟨o,e,c,d⟩:=st
    exact ⟨o,e,fun v z=>by rw [d] at z; cases z⟩
  keep:=fun i h h' st k=>st.at fun o e=>k it (by simp) o e
  item:=by
    intro X hP hw hK hc i pins s σ H E I hf st hg
    subst hP hw hK
    obtain ⟨xs,x,hq,hx⟩:=hg
    obtain ⟨its,rv,p,hz⟩:=I.tuple hq
    obtain ⟨u,hu,ru⟩:=rv.get hx
    obtain ⟨f0,f1,f2,f3,f4,f5⟩:=hf it (by simp)
    refine wpAny_pyNext_tuple_item st (show s.heap.IsTuple a its.toArray from p) (x:=u) (by simpa using hu) fun h' st' sb=>?_
    have I1 : Inv X pins σ H { s with heap:=h' }:=I.turned (t':=s.toks) (fun b o hb e=>(sb.2 b hb).trans e) f0 f1 f3 f4 f5
    obtain ⟨o,e,c,d⟩:=id st'
    exact ⟨u,rfl,zoa (s:={ s with heap:=h' }) e c d (by decide) ⟨x,H,I1,ru,⟨rfl,fun ys hy=>by rw [I.tuple_inj hy hq]; exact hx⟩,st',fun b hb=>(hf b hb).1⟩⟩
  done:=by
    intro X hP hw hK hc i pins s σ H E I hf st hg
    subst hP hw hK
    obtain ⟨xs,hq,hx⟩:=hg
    obtain ⟨its,rv,p,hz⟩:=I.tuple hq
    obtain ⟨f0,f1,f2,f3,f4,f5⟩:=hf it (by simp)
    have hl:=rv.length
    exact wpAny_pyNext_tuple_end (I.ok.hd hc) st (show s.heap.IsTuple a its.toArray from p) (by simp; omega) fun h' eb=>⟨rfl,I.turned (t':=s.toks) (fun b o hb e=>eb b o hb e) f0 f1 f3 f4 f5⟩
  self:=fun _ _ _ _ _ st h=>wpAny_pyIter_tupleiter st h
theorem zkm {P : Program} {w : World} {K : Frag} {tg : Expr} (it : Addr) (lo : Int) (n : Nat) : Turn P w K tg (Itr lo n) [it] it (fun i h=>IsRangeIter h it (lo + (i : Nat) * 1) ((n : Int) - (i : Nat)) 1) where
  mem:=by simp
  obj:=fun i h st b hb=>by
    have e : b = it:=by simpa using hb
    subst e
    exact ⟨_,st,fun v z=>by
      have z' : Data.fields _ = Data.cell v:=z
      cases z'⟩
  keep:=fun i h h' st k=>k it (by simp) _ st
  item:=by
    intro X hP hw hK hc i pins s σ H E I hf st hg
    subst hP hw hK
    obtain ⟨f0,f1,f2,f3,f4,f5⟩:=hf it (by simp)
    have W:=Walks.range (prog:=X.prog) (w:=X.w) (I.ok.hd hc) it lo 1 n
    refine W.item i s _ _ hg st fun v h' tk hv st' kk=>?_
    obtain ⟨t,rfl⟩:=hv
    have I1 : Inv X pins σ H { s with heap:=h',toks:=tk }:=I.turned (fun b o hb e=>kk b o (by simpa using hb) e) f0 f1 f3 f4 f5
    refine ⟨_,rfl,zoa (s:={ s with heap:=h',toks:=tk }) (n := "range_iterator") st' rfl rfl (by decide) ⟨.int (lo + i),H,I1,⟨t,?_⟩,⟨rfl,rfl⟩,st',fun b hb=>(hf b hb).1⟩⟩
    rw [Int.mul_one]
  done:=by
    intro X hP hw hK hc i pins s σ H E I hf st hg
    subst hP hw hK
    obtain ⟨f0,f1,f2,f3,f4,f5⟩:=hf it (by simp)
    exact wpAny_pyNext_range_end (I.ok.hd hc) st (by have : n≤i:=hg; omega) fun h' eb=>⟨rfl,I.turned (t':=s.toks) (fun b o hb e=>eb b o hb e) f0 f1 f3 f4 f5⟩
  self:=fun _ _ _ _ _ st h=>wpAny_pyIter_rangeiter st h
end L2
namespace L2
open PySem PySem.Spec PyProof.Rows
section
variable {X : Cx} {tg : Expr}
def zrG (K : Frag) (tl : TE) : TI:=fun σ H R=>tl σ H fun x H1=>∃ a,x = .ref a∧(∃ xs,SqL K H1 a xs)∧R (Itl K a) H1
def iTup (K : Frag) (tl : TE) : TI:=fun σ H R=>tl σ H fun x H1=>∃ a,x = .ref a∧(∃ xs,SqT K H1 a xs)∧R (Itt K a) H1
theorem zdN {l : Expr} {tl : TE} (hl : PE X l tl) : PI X tg l (zrG X.K tl):=by
  intro pins s σ H R I h
  refine thn (hl pins s σ H _ I h) fun v s1 ⟨x,H1,I1,r1,q1⟩=>?_
  obtain ⟨a,e,⟨xs,hq⟩,q⟩:=q1
  subst e
  cases r1
  obtain ⟨its,rv,p,hz⟩:=I1.list hq
  refine wpAny_pyIter_list p.isList ?_
  refine ⟨s1.heap.objs.size,[s1.heap.objs.size],_,_,H1,rfl,I1.kept (t':=s1.toks) fun b o e=>yai _ e,zhD a _,⟨_,yaz _ rfl,rfl,rfl⟩,fun b hb=>?_,q⟩
  have e : b = s1.heap.objs.size:=by simpa using hb
  subst e
  exact I1.fpOk (yaa _) (I1.hok.fresh (yaa _))
theorem zfH {l : Expr} {tl : TE} (hl : PE X l tl) : PI X tg l (iTup X.K tl):=by
  intro pins s σ H R I h
  refine thn (hl pins s σ H _ I h) fun v s1 ⟨x,H1,I1,r1,q1⟩=>?_
  obtain ⟨a,e,⟨xs,hq⟩,q⟩:=q1
  subst e
  cases r1
  obtain ⟨its,rv,p,hz⟩:=I1.tuple hq
  refine wpAny_pyIter_tuple (show s1.heap.IsTuple a its.toArray from p) ?_
  refine ⟨s1.heap.objs.size,[s1.heap.objs.size],_,_,H1,rfl,I1.kept (t':=s1.toks) fun b o e=>yai _ e,zgj a _,⟨_,yaz _ rfl,rfl,rfl⟩,fun b hb=>?_,q⟩
  have e : b = s1.heap.objs.size:=by simpa using hb
  subst e
  exact I1.fpOk (yaa _) (I1.hok.fresh (yaa _))
theorem zjA {pins : List (Addr×Obj)} {σ : St} {H : Hp} {s : Shared} {R : It→Hp→Prop} {E : Value→Shared→Prop} {lo hi : Int} {t u v : Tok} {tk : Nat} (I : Inv X pins σ H s) (h1 : -(2 ^ 62)≤lo) (h2 : lo < 2 ^ 62) (h3 : -(2 ^ 62)≤hi) (h4 : hi < 2 ^ 62)
    (q : R (Itr lo (hi - lo).toNat) H) : wpAny (model X.prog X.w) X.A (pyIter (.ref s.heap.objs.size)) (PIE X pins σ tg R) E { s with heap:=s.heap.push { cls:=.type "range",data:=.fields #[.int lo t,.int hi u,.int 1 v] },toks:=tk }:=by
  refine wpAny_pyIter_range (IsRange.new ..) (small_one h1 h2 h3 h4) ?_
  have I1 : Inv X pins σ H { s with heap:=s.heap.push { cls:=.type "range",data:=.fields #[.int lo t,.int hi u,.int 1 v] },toks:=tk }:=I.kept fun b o e=>yai _ e
  refine ⟨(s.heap.push { cls:=.type "range",data:=.fields #[.int lo t,.int hi u,.int 1 v] }).objs.size,[(s.heap.push { cls:=.type "range",data:=.fields #[.int lo t,.int hi u,.int 1 v] }).objs.size],_,_,H,rfl,
    I1.kept (t':=tk) fun b o e=>yai _ e,zkm _ lo (hi - lo).toNat,?_,fun b hb=>?_,q⟩
  · have e1 : lo + ((0 : Nat) : Int) * 1 = lo:=by simp
    have e2 : (((hi - lo).toNat : Nat) : Int) - ((0 : Nat) : Int) = Builtin.Range.rangeSize lo hi 1:=by rw [rangeSize_one]; split <;> omega
    show IsRangeIter _ _ (lo + ((0 : Nat) : Int) * 1) ((((hi - lo).toNat : Nat) : Int) - ((0 : Nat) : Int)) 1
    rw [e1,e2]
    exact yaz _ rfl
  · have e : b = (s.heap.push { cls:=.type "range",data:=.fields #[.int lo t,.int hi u,.int 1 v] }).objs.size:=by simpa using hb
    subst e
    exact I1.fpOk (yaa _) (I1.hok.fresh (yaa _))
def zrF (ta : TA) : TI:=fun σ H R=>ta σ H fun vs H1=>∃ j : Int,vs = [.int j]∧-(2 ^ 62)≤j∧j < 2 ^ 62∧R (Itr 0 j.toNat) H1
def zrE (ta : TA) : TI:=fun σ H R=>ta σ H fun vs H1=>∃ i j : Int,vs = [.int i,.int j]∧(-(2 ^ 62)≤i∧i < 2 ^ 62∧-(2 ^ 62)≤j∧j < 2 ^ 62)∧R (Itr i (j - i).toNat) H1
theorem zbP {a : Expr} {ta : TA} {p pos : Pos} (hg : Gl X "range") (hm : X.mg "range" = none) (ha : PA X [a] ta) (hs : starEach [a] X.env = [(false,eval a X.env)]:=by rfl) : PI X tg (.Call (.Name "range" p) [a] [] pos) (zrF ta):=by
  intro pins s σ H R I h
  refine Call_ (ze0 I hg hm boot_range (PyProof.Rows.callWith_type1 (thn (ha pos pins s σ H _ I h) fun us s1 ⟨vs,H1,I1,r1,q1⟩=>?_) hs rfl))
  obtain ⟨j,e,q1,q2,q⟩:=q1
  subst e
  cases r1 with
  | cons r rr=>
    cases rr
    obtain ⟨t,rfl⟩:=r
    exact call_range_1 (zjA I1 (by omega) (by omega) q1 q2 (by simpa using q))
theorem zeh {a b : Expr} {ta : TA} {p pos : Pos} (hg : Gl X "range") (hm : X.mg "range" = none) (ha : PA X [a,b] ta) (hs : starEach [a,b] X.env = [(false,eval a X.env),(false,eval b X.env)]:=by rfl) (hs2 : starEach [b] X.env = [(false,eval b X.env)]:=by rfl) :
    PI X tg (.Call (.Name "range" p) [a,b] [] pos) (zrE ta):=by
  intro pins s σ H R I h
  refine Call_ (ze0 I hg hm boot_range (PyProof.Rows.callWith_type1 (thn (ha pos pins s σ H _ I h) fun us s1 ⟨vs,H1,I1,r1,q1⟩=>?_) (by rw [hs,hs2]) (by rw [hs2]; rfl)))
  obtain ⟨i,j,e,⟨q1,q2,q3,q4⟩,q⟩:=q1
  subst e
  cases r1 with
  | cons r rr=>
    cases rr with
    | cons r' rr=>
      cases rr
      obtain ⟨t,rfl⟩:=r
      obtain ⟨t',rfl⟩:=r'
      exact call_range_2 (zjA I1 q1 q2 q3 q4 q)
def tFor (wi : TI) (g : TG) (tb : TS) : TS:=fun D σ H=>wi σ H fun J H1=>∃ W : Nat→Nat→St→Hp→Prop,(∃ m,W 0 m σ H1)∧∀ i m σ H,W i m σ H→
  (J.stop i H∧D.nx σ H)∨(J.go i H∧∃ N : St→Hp→Prop,(∀ σ' H',N σ' H'→∃ m',m' < m∧W (i + 1) m' σ' H')∧∀ x H',J.yld i H x H'→g x σ H' fun σ2 H2=>tb { D with nx:=N,ct:=N,bk:=D.nx } σ2 H2)
def zhV (fp : List Addr) (h : Heap) : List (Addr×Obj):=fp.filterMap fun b=>(h.get? b).map fun o=>(b,o)
theorem zdD {fp : List Addr} {h : Heap} {b : Addr} {o : Obj} (hb : b∈fp) (e : h.get? b = some o) : (b,o)∈zhV fp h:=List.mem_filterMap.mpr ⟨b,hb,by rw [e]; rfl⟩
theorem zl9 {fp : List Addr} {h : Heap} {p : Addr×Obj} (hp : p∈zhV fp h) : p.1∈fp∧h.get? p.1 = some p.2:=by
  obtain ⟨b,hb,e⟩:=List.mem_filterMap.mp hp
  cases q : h.get? b with
  | none=>rw [q] at e; cases e
  | some o=>
    rw [q] at e
    have e' : (b,o) = p:=yad e
    subst e'
    exact ⟨hb,q⟩
theorem Inv.pinned {pins : List (Addr×Obj)} {σ : St} {H : Hp} {s : Shared} {fp : List Addr} (I : Inv X pins σ H s) (hf : ∀ b∈fp,FpOk X pins H b) (ho : ∀ b∈fp,∃ o,s.heap.get? b = some o∧∀ v,o.data≠.cell v) : Inv X (pins ++ zhV fp s.heap) σ H s:=
  I.pins_of fun p hp=>(yaj.mp hp).elim (fun z=>I.pin p (yaA _ z)) fun z=>by
    obtain ⟨hb,e⟩:=zl9 z
    obtain ⟨f0,f1,f2,_⟩:=hf p.1 hb
    obtain ⟨o,e',d⟩:=ho p.1 hb
    rw [e] at e'; cases e'
    exact ⟨e,f0,f1,f2,d⟩
theorem Inv.unpinned {pins pl : List (Addr×Obj)} {σ : St} {H : Hp} {s : Shared} (I : Inv X (pins ++ pl) σ H s) : Inv X pins σ H s:=I.pins_of fun p hp=>I.pin p (yaA _ (yaR _ hp))
theorem zbO {iter : Expr} {body : List Stmt} {wi : TI} {g : TG} {tb : TS} {pos : Pos} (hp : PassesOwn (model X.prog X.w) X.A X.env X.xe) (hc : X.calm = true) (hi : PI X tg iter wi) (hg : PG X tg g) (hb : PSs X body tb)
    (hs : ∀ x,foldedSetIterable iter X.env x = pure x:=by intro _; rfl) : PS X (.For tg iter body [] pos) (tFor wi g tb):=by
  intro pins s σ H D I h
  refine wpAny_For (thn (hi pins s σ H _ I h) fun v s1 h1=>thn h1 fun itv s2 h2=>?_) hs
  obtain ⟨it,fp,tn,J,H2,e,I2,T,st2,f2,W,⟨m0,w0⟩,turn⟩:=h2
  subst e
  have stat : ∀ {H' : Hp},(∀ b∈fp,H' b = none)→∀ b∈fp,FpOk X pins H' b:=fun hn b hb=>⟨hn b hb,(f2 b hb).2⟩
  refine codeAny_forLoop_any (fun n s'=>∃ i σ' H',Inv X pins σ' H' s'∧tn i s'.heap∧(∀ b∈fp,H' b = none)∧W i n σ' H') ?_ m0 ⟨0,σ,H2,I2,st2,fun b hb=>(f2 b hb).1,w0⟩
  rintro n s3 ⟨i,σ3,H3,I3,st3,fr3,w3⟩
  rcases turn i n σ3 H3 w3 with ⟨stop,qn⟩ | ⟨go,N,hN,step⟩
  · refine wpAny_passesOwn hp (thn (T.done X rfl rfl rfl hc i pins s3 σ3 H3 X.xe I3 (stat fr3) st3 stop) fun r s4 ⟨hr,I4⟩=>?_)
    subst hr
    exact wpAny_execs_nil ⟨σ3,H3,I4,qn⟩
  · refine wpAny_passesOwn hp (thn (T.item X rfl rfl rfl hc i pins s3 σ3 H3 X.xe I3 (stat fr3) st3 go) fun r s4 ⟨u,hr,h4⟩=>?_)
    subst hr
    refine wpAny_passesOwn hp (thn h4 fun _ s5 ⟨x,H5,I5,r5,y5,st5,fr5⟩=>?_)
    have I5':=I5.pinned (stat fr5) (T.obj _ _ st5)
    refine wpAny_passesOwn hp (thn (hg _ s5 σ3 H5 x u _ I5' r5 (step x H5 y5)) fun _ s6 ⟨σ6,H6,I6,q6⟩=>?_)
    refine wpAny_passesOwn hp (thn (hb _ s6 σ6 H6 _ I6 q6) fun f s7 q7=>?_)
    have again : ∀ {σ7 : St} {H7 : Hp},Inv X (pins ++ zhV fp s5.heap) σ7 H7 s7→N σ7 H7→∃ m,m < n∧∃ i σ' H',Inv X pins σ' H' s7∧tn i s7.heap∧(∀ b∈fp,H' b = none)∧W i m σ' H':=fun {σ7 H7} I7 n7=>by
      obtain ⟨m',hm,w7⟩:=hN σ7 H7 n7
      refine ⟨m',hm,i + 1,σ7,H7,I7.unpinned,T.keep _ _ _ st5 fun b hb o e=>(I7.pin (b,o) (yaA _ (yaA _ (zdD hb e)))).1,fun b hb=>?_,w7⟩
      obtain ⟨o,e,d⟩:=T.obj _ _ st5 b hb
      exact (I7.pin (b,o) (yaA _ (yaA _ (zdD hb e)))).2.1
    cases f with
    | next=>obtain ⟨σ7,H7,I7,n7⟩:=q7; exact again I7 n7
    | cont=>obtain ⟨σ7,H7,I7,n7⟩:=q7; exact again I7 n7
    | brk=>obtain ⟨σ7,H7,I7,q7⟩:=q7; exact ⟨σ7,H7,I7.unpinned,q7⟩
    | ret v=>obtain ⟨x7,σ7,H7,I7,r7,q7⟩:=q7; exact ⟨x7,σ7,H7,I7.unpinned,r7,q7⟩
end
theorem zj6 {K : Frag} {a : Addr} {xs : List V} {g : TG} {tb : TS} {D : Ends} {σ : St} {H : Hp} (Pv : Nat→St→Hp→Prop) (h0 : Pv 0 σ H) (hl : ∀ i σ H,i≤xs.length→Pv i σ H→SqL K H a xs)
    (hs : ∀ i x σ H,xs[i]? = some x→Pv i σ H→g x σ H fun σ2 H2=>tb { D with nx:=Pv (i + 1),ct:=Pv (i + 1),bk:=D.nx } σ2 H2) (hd : ∀ σ H,Pv xs.length σ H→D.nx σ H) :
    ∃ W : Nat→Nat→St→Hp→Prop,(∃ m,W 0 m σ H)∧∀ i m σ H,W i m σ H→
      ((Itl K a).stop i H∧D.nx σ H)∨((Itl K a).go i H∧∃ N : St→Hp→Prop,(∀ σ' H',N σ' H'→∃ m',m' < m∧W (i + 1) m' σ' H')∧∀ x H',(Itl K a).yld i H x H'→g x σ H' fun σ2 H2=>tb { D with nx:=N,ct:=N,bk:=D.nx } σ2 H2):=by
  refine ⟨fun i m σ H=>m = xs.length - i∧i≤xs.length∧Pv i σ H,⟨xs.length,by simp,yaE _,h0⟩,?_⟩
  rintro i m σ H ⟨rfl,hi,p⟩
  have q:=hl i σ H hi p
  by_cases hlt : i < xs.length
  · refine .inr ⟨⟨xs,xs[i],q,by simp [hlt]⟩,Pv (i + 1),fun σ' H' p'=>⟨xs.length - (i + 1),by omega,rfl,hlt,p'⟩,fun x H' y=>?_⟩
    obtain ⟨e,y⟩:=y
    subst e
    exact hs i x σ _ (y xs q) p
  · have e : i = xs.length:=by omega
    subst e
    exact .inl ⟨⟨xs,q,yaa _⟩,hd σ H p⟩
theorem ziW {K : Frag} {a : Addr} {xs : List V} {g : TG} {tb : TS} {D : Ends} {σ : St} {H : Hp} (Pv : Nat→St→Hp→Prop) (h0 : Pv 0 σ H) (hl : ∀ i σ H,i≤xs.length→Pv i σ H→SqT K H a xs)
    (hs : ∀ i x σ H,xs[i]? = some x→Pv i σ H→g x σ H fun σ2 H2=>tb { D with nx:=Pv (i + 1),ct:=Pv (i + 1),bk:=D.nx } σ2 H2) (hd : ∀ σ H,Pv xs.length σ H→D.nx σ H) :
    ∃ W : Nat→Nat→St→Hp→Prop,(∃ m,W 0 m σ H)∧∀ i m σ H,W i m σ H→
      ((Itt K a).stop i H∧D.nx σ H)∨((Itt K a).go i H∧∃ N : St→Hp→Prop,(∀ σ' H',N σ' H'→∃ m',m' < m∧W (i + 1) m' σ' H')∧∀ x H',(Itt K a).yld i H x H'→g x σ H' fun σ2 H2=>tb { D with nx:=N,ct:=N,bk:=D.nx } σ2 H2):=by
  refine ⟨fun i m σ H=>m = xs.length - i∧i≤xs.length∧Pv i σ H,⟨xs.length,by simp,yaE _,h0⟩,?_⟩
  rintro i m σ H ⟨rfl,hi,p⟩
  have q:=hl i σ H hi p
  by_cases hlt : i < xs.length
  · refine .inr ⟨⟨xs,xs[i],q,by simp [hlt]⟩,Pv (i + 1),fun σ' H' p'=>⟨xs.length - (i + 1),by omega,rfl,hlt,p'⟩,fun x H' y=>?_⟩
    obtain ⟨e,y⟩:=y
    subst e
    exact hs i x σ _ (y xs q) p
  · have e : i = xs.length:=by omega
    subst e
    exact .inl ⟨⟨xs,q,yaa _⟩,hd σ H p⟩
theorem zbB {lo : Int} {n : Nat} {g : TG} {tb : TS} {D : Ends} {σ : St} {H : Hp} (Pv : Nat→St→Hp→Prop) (h0 : Pv 0 σ H)
    (hs : ∀ i σ H,i < n→Pv i σ H→g (.int (lo + i)) σ H fun σ2 H2=>tb { D with nx:=Pv (i + 1),ct:=Pv (i + 1),bk:=D.nx } σ2 H2) (hd : ∀ σ H,Pv n σ H→D.nx σ H) :
    ∃ W : Nat→Nat→St→Hp→Prop,(∃ m,W 0 m σ H)∧∀ i m σ H,W i m σ H→
      ((Itr lo n).stop i H∧D.nx σ H)∨((Itr lo n).go i H∧∃ N : St→Hp→Prop,(∀ σ' H',N σ' H'→∃ m',m' < m∧W (i + 1) m' σ' H')∧∀ x H',(Itr lo n).yld i H x H'→g x σ H' fun σ2 H2=>tb { D with nx:=N,ct:=N,bk:=D.nx } σ2 H2):=by
  refine ⟨fun i m σ H=>m = n - i∧i≤n∧Pv i σ H,⟨n,by simp,yaE _,h0⟩,?_⟩
  rintro i m σ H ⟨rfl,hi,p⟩
  by_cases hlt : i < n
  · refine .inr ⟨hlt,Pv (i + 1),fun σ' H' p'=>⟨n - (i + 1),by omega,rfl,hlt,p'⟩,fun x H' y=>?_⟩
    obtain ⟨e,y⟩:=y
    subst e y
    exact hs i σ _ hlt p
  · have e : i = n:=by omega
    subst e
    exact .inl ⟨yaa _,hd σ H p⟩
theorem znb {c : TT} {tb : TS} {D : Ends} {σ : St} {H : Hp} (Pv : St→Hp→Prop) (μ : St→Hp→Nat) (h0 : Pv σ H)
    (hs : ∀ σ H,Pv σ H→c σ H fun b H1=>if b = true then tb { D with nx:=fun σ' H'=>Pv σ' H'∧μ σ' H' < μ σ H,ct:=fun σ' H'=>Pv σ' H'∧μ σ' H' < μ σ H,bk:=D.nx } σ H1 else D.nx σ H1)
    (mono : ∀ σ H Q Q',(∀ b H1,Q b H1→Q' b H1)→c σ H Q→c σ H Q') : zlk c tb D σ H:=by
  refine ⟨fun m σ H=>m = μ σ H∧Pv σ H,⟨_,rfl,h0⟩,?_⟩
  rintro m σ H ⟨rfl,p⟩
  refine mono σ H _ _ (fun b H1 q=>?_) (hs σ H p)
  cases b with
  | true=>exact ⟨_,fun σ' H' ⟨p',l⟩=>⟨_,l,rfl,p'⟩,q⟩
  | false=>exact q
end L2
namespace L2
open PySem PySem.Spec PyProof.Rows
abbrev R2:=V→V→Hp→VK→Prop
def OpR (X : Cx) (f : Value→Value→Sem Value) (r : R2) : Prop:=
  ∀ (pins : List (Addr×Obj)) (s : Shared) (σ : St) (H : Hp) (x y : V) (v u : Value) (Q : VK),Inv X pins σ H s→RelV x v→RelV y u→r x y H Q→
    wpAny (model X.prog X.w) X.A (f v u) (EP X pins σ Q) X.xe s
def UnR (X : Cx) (f : Value→Sem Value) (r : V→Hp→VK→Prop) : Prop:=
  ∀ (pins : List (Addr×Obj)) (s : Shared) (σ : St) (H : Hp) (x : V) (v : Value) (Q : VK),Inv X pins σ H s→RelV x v→r x H Q→
    wpAny (model X.prog X.w) X.A (f v) (EP X pins σ Q) X.xe s
def zdl (X : Cx) (f : Value) (r : List V→Hp→VK→Prop) : Prop:=
  ∀ (pins : List (Addr×Obj)) (s : Shared) (σ : St) (H : Hp) (xs : List V) (us : List Value) (Q : VK),Inv X pins σ H s→Vals xs us→r xs H Q→
    wpAny (model X.prog X.w) X.A (call f us) (EP X pins σ Q) X.xe s
def tOp (r : R2) (ta tb : TE) : TE:=fun σ H Q=>ta σ H fun x H1=>tb σ H1 fun y H2=>r x y H2 Q
def tUn (r : V→Hp→VK→Prop) (ta : TE) : TE:=fun σ H Q=>ta σ H fun x H1=>r x H1 Q
def rI (C : Int→Int→Prop) (g : Int→Int→V) : R2:=fun x y H Q=>∃ i j,x = .int i∧y = .int j∧C i j∧Q (g i j) H
def rI0 (g : Int→Int→V) : R2:=fun x y H Q=>∃ i j,x = .int i∧y = .int j∧Q (g i j) H
def rU (g : Int→V) : V→Hp→VK→Prop:=fun x H Q=>∃ i,x = .int i∧Q (g i) H
section
variable {X : Cx} {a b c : Expr} {ta tb tc : TE} {pos : Pos}
theorem binT (ha : PE X a ta) (hb : PE X b tb) {pins : List (Addr×Obj)} {s : Shared} {σ : St} {H : Hp} {R : V→V→Hp→Prop} (I : Inv X pins σ H s)
    (h : ta σ H fun x H1=>tb σ H1 fun y H2=>R x y H2) {Q : Value→Shared→Prop} {f : Value→Value→Sem Value}
    (hf : ∀ v u s2 x y H2,Inv X pins σ H2 s2→RelV x v→RelV y u→R x y H2→wpAny (model X.prog X.w) X.A (f v u) Q X.xe s2) :
    wpAny (model X.prog X.w) X.A (eval a X.env) (fun v s₁=>wpAny (model X.prog X.w) X.A (eval b X.env) (fun u s₂=>wpAny (model X.prog X.w) X.A (f v u) Q X.xe s₂) X.xe s₁) X.xe s:=by
  refine thn (ha pins s σ H _ I h) fun v s1 ⟨x,H1,I1,r1,q1⟩=>?_
  refine thn (hb pins s1 σ H1 _ I1 q1) fun u s2 ⟨y,H2,I2,r2,q2⟩=>?_
  exact hf v u s2 x y H2 I2 r1 r2 q2
theorem zay {op : Operator} {r : R2} (ho : OpR X (binaryOp op) r) (ha : PE X a ta) (hb : PE X b tb) : PE X (.BinOp a op b pos) (tOp r ta tb):=by
  intro pins s σ H Q I h
  exact wpAny_BinOp (binT ha hb I h fun v u s2 x y H2 I2 rx ry q=>ho pins s2 σ H2 x y v u Q I2 rx ry q)
theorem zpk {op : UnaryOp} {r : V→Hp→VK→Prop} (ho : UnR X (unaryOp op) r) (ha : PE X a ta) : PE X (.UnaryOp op a pos) (tUn r ta):=by
  intro pins s σ H Q I h
  exact UnaryOp_ (thn (ha pins s σ H _ I h) fun v s1 ⟨x,H1,I1,r1,q1⟩=>ho pins s1 σ H1 x v Q I1 r1 q1)
theorem opI {f : Value→Value→Sem Value} {C : Int→Int→Prop} {g : Int→Int→Int}
    (rule : ∀ (i j : Int) (t u : Tok) (s : Shared) (Q : Value→Shared→Prop) (E : Value→Shared→Prop),C i j→Q (.int (g i j) s.toks) { s with toks:=s.toks + 1 }→wpAny (model X.prog X.w) X.A (f (.int i t) (.int j u)) Q E s) :
    OpR X f (rI C fun i j=>.int (g i j)):=by
  intro pins s σ H x y v u Q I rx ry h
  obtain ⟨i,j,rfl,rfl,hc,q⟩:=h
  obtain ⟨t,rfl⟩:=rx
  obtain ⟨t',rfl⟩:=ry
  exact rule i j t t' s _ _ hc ⟨.int (g i j),H,I.tok _,⟨_,rfl⟩,q⟩
theorem opI0 {f : Value→Value→Sem Value} {g : Int→Int→Int}
    (rule : ∀ (i j : Int) (t u : Tok) (s : Shared) (Q : Value→Shared→Prop) (E : Value→Shared→Prop),Q (.int (g i j) s.toks) { s with toks:=s.toks + 1 }→wpAny (model X.prog X.w) X.A (f (.int i t) (.int j u)) Q E s) :
    OpR X f (rI0 fun i j=>.int (g i j)):=by
  intro pins s σ H x y v u Q I rx ry h
  obtain ⟨i,j,rfl,rfl,q⟩:=h
  obtain ⟨t,rfl⟩:=rx
  obtain ⟨t',rfl⟩:=ry
  exact rule i j t t' s _ _ ⟨.int (g i j),H,I.tok _,⟨_,rfl⟩,q⟩
theorem opB0 {f : Value→Value→Sem Value} {g : Int→Int→Bool}
    (rule : ∀ (i j : Int) (t u : Tok) (s : Shared) (Q : Value→Shared→Prop) (E : Value→Shared→Prop),Q (.bool (g i j)) s→wpAny (model X.prog X.w) X.A (f (.int i t) (.int j u)) Q E s) :
    OpR X f (rI0 fun i j=>.bl (g i j)):=by
  intro pins s σ H x y v u Q I rx ry h
  obtain ⟨i,j,rfl,rfl,q⟩:=h
  obtain ⟨t,rfl⟩:=rx
  obtain ⟨t',rfl⟩:=ry
  exact rule i j t t' s _ _ ⟨.bl (g i j),H,I,rfl,q⟩
def CDiv (i j : Int) : Prop:=0 < j∧j < 1073741824
def CPow (i j : Int) : Prop:=0≤j∧j≤1000000∧i.natAbs < 2 ^ 64
def CMul (i j : Int) : Prop:=(-(2 ^ 64) < i∧i < 2 ^ 64)∨(-(2 ^ 64) < j∧j < 2 ^ 64)
theorem CMul.ok {i j : Int} (h : CMul i j) : IntMulOk i j:=by
  rcases h with ⟨h1,h2⟩ | ⟨h1,h2⟩
  · exact .of_left (intBits_le_64 h1 h2)
  · exact .of_right (intBits_le_64 h1 h2)
theorem zkl (k : Nat) : (0 : Int)≤2 ^ k:=by
  rw [two_pow_cast]
  exact ybm _
theorem zby : OpR X (binaryOp .Add) (rI0 fun i j=>.int (i + j)):=opI0 fun _ _ _ _ _ _ _ q=>add_int q
theorem zcZ : OpR X (binaryOp .Sub) (rI0 fun i j=>.int (i - j)):=opI0 fun _ _ _ _ _ _ _ q=>sub_int q
theorem zcD : OpR X (binaryOp .Mult) (rI CMul fun i j=>.int (i * j)):=opI fun _ _ _ _ _ _ _ hc q=>mul_int q hc.ok
theorem ziD : OpR X (binaryOp .FloorDiv) (rI CDiv fun i j=>.int (i / j)):=opI fun i j _ _ _ _ _ hc q=>by
  have h1 : (0 : Int) < j:=hc.1
  have h2 : j < 1073741824:=hc.2
  exact floordiv_int (by omega) (by rw [Int.fdiv_eq_ediv_of_nonneg i (by omega)]; exact q) (.inl (PyProof.noPylong_small (by omega)))
theorem zeV : OpR X (binaryOp .Mod) (rI (fun _ j=>0 < j) fun i j=>.int (i % j)):=opI fun i j _ _ _ _ _ hc q=>by
  have h1 : (0 : Int) < j:=hc
  exact mod_int' (by omega) (by rw [Int.fmod_eq_emod_of_nonneg i (by omega)]; exact q)
theorem zgs : OpR X (binaryOp .Pow) (rI CPow fun i j=>.int (i ^ j.toNat)):=opI fun _ _ _ _ _ _ _ hc q=>pow_int_small hc.1 hc.2.1 hc.2.2 q
theorem zqJ : OpR X (binaryOp .RShift) (rI (fun _ j=>0≤j) fun i j=>.int (i / 2 ^ j.toNat)):=opI fun i j _ _ _ _ _ hc q=>
  rshift_int hc (by rw [Int.fdiv_eq_ediv_of_nonneg i (zkl _)]; exact q)
theorem zoN : OpR X (binaryOp .BitAnd) (rI0 fun i j=>.int (Builtin.bitAnd i j)):=opI0 fun _ _ _ _ _ _ _ q=>and_int q
theorem zqI : OpR X (binaryOp .BitXor) (rI0 fun i j=>.int (Builtin.bitXor i j)):=opI0 fun _ _ _ _ _ _ _ q=>xor_int q
theorem unI {f : Value→Sem Value} {g : Int→Int}
    (rule : ∀ (i : Int) (t : Tok) (s : Shared) (Q : Value→Shared→Prop) (E : Value→Shared→Prop),Q (.int (g i) s.toks) { s with toks:=s.toks + 1 }→wpAny (model X.prog X.w) X.A (f (.int i t)) Q E s) :
    UnR X f (rU fun i=>.int (g i)):=by
  intro pins s σ H x v Q I rx h
  obtain ⟨i,rfl,q⟩:=h
  obtain ⟨t,rfl⟩:=rx
  exact rule i t s _ _ ⟨.int (g i),H,I.tok _,⟨_,rfl⟩,q⟩
theorem zlc : UnR X (unaryOp .USub) (rU fun i=>.int (-i)):=unI fun _ _ _ _ _ q=>neg_int q
end
def scal : V→V→Bool
  | .non,.non=>true | .non,.int _=>true | .int _,.non=>true | .non,.bl _=>true | .bl _,.non=>true | .non,.str _=>true | .str _,.non=>true
  | .int _,.int _=>true | .bl _,.bl _=>true | .str _,.str _=>true | .byt _,.byt _=>true
  | .int _,.str _=>true | .str _,.int _=>true | .bl _,.str _=>true | .str _,.bl _=>true
  | _,_=>false
def rEq : R2:=fun x y H Q=>scal x y = true∧Q (.bl (decide (x = y))) H
def rNe : R2:=fun x y H Q=>scal x y = true∧Q (.bl (!decide (x = y))) H
theorem zmS {i j : Int} : decide (V.int i = V.int j) = (i == j):=by
  rw [ybZ]
  simp
theorem zoU {i j : Bool} : decide (V.bl i = V.bl j) = (i == j):=by
  rw [ybZ]
  simp
theorem zmR {i j : Str} : decide (V.str i = V.str j) = (i == j):=by
  rw [ybZ]
  simp
theorem zmT {i j : Array UInt8} : decide (V.byt i = V.byt j) = (i.toList == j.toList):=by
  rw [ybZ]
  cases i
  cases j
  simp
section
variable {X : Cx} {a b c : Expr} {ta tb tc : TE} {pos : Pos}
theorem zaL {pins : List (Addr×Obj)} {σ : St} {H : Hp} {s : Shared} {Q : VK} {k k' : Bool} (I : Inv X pins σ H s) (q : Q (.bl k) H) (e : k = k') : EP X pins σ Q (.bool k') s:=by
  subst e
  exact ⟨.bl k,H,I,rfl,q⟩
theorem zgh : OpR X (compareOp .Eq) rEq:=by
  intro pins s σ H x y v u Q I rx ry h
  obtain ⟨hs,q⟩:=h
  cases x with
  | non=>
    cases rx
    cases y with
    | non=>cases ry; exact PySem.EqNone.eq_none_none (zaL I q (by simp))
    | bl j=>cases ry; exact PySem.EqNone.eq_none_bool (zaL I q (by simp))
    | int j=>obtain ⟨t',rfl⟩:=ry; exact PySem.EqNone.eq_none_int (zaL I q (by simp))
    | str j=>obtain ⟨t',rfl⟩:=ry; exact PySem.EqNone.eq_none_str (zaL I q (by simp))
    | _=>exact absurd (show false = true from hs) yax
  | bl i=>
    cases rx
    cases y with
    | non=>cases ry; exact PySem.EqNone.eq_bool_none (zaL I q (by simp))
    | bl j=>cases ry; exact eq_bool (zaL I q zoU)
    | str j=>obtain ⟨t',rfl⟩:=ry; exact PySem.EqMixed.eq_bool_str (zaL I q (by simp))
    | _=>exact absurd (show false = true from hs) yax
  | int i=>
    obtain ⟨t,rfl⟩:=rx
    cases y with
    | non=>cases ry; exact PySem.EqNone.eq_int_none (zaL I q (by simp))
    | int j=>obtain ⟨t',rfl⟩:=ry; exact eq_int (zaL I q zmS)
    | str j=>obtain ⟨t',rfl⟩:=ry; exact PySem.EqMixed.eq_int_str (zaL I q (by simp))
    | _=>exact absurd (show false = true from hs) yax
  | str i=>
    obtain ⟨t,rfl⟩:=rx
    cases y with
    | non=>cases ry; exact PySem.EqNone.eq_str_none (zaL I q (by simp))
    | bl j=>cases ry; exact PySem.EqMixed.eq_str_bool (zaL I q (by simp))
    | int j=>obtain ⟨t',rfl⟩:=ry; exact PySem.EqMixed.eq_str_int (zaL I q (by simp))
    | str j=>obtain ⟨t',rfl⟩:=ry; exact eq_str (zaL I q zmR)
    | _=>exact absurd (show false = true from hs) yax
  | byt i=>
    obtain ⟨t,rfl⟩:=rx
    cases y with
    | byt j=>obtain ⟨t',rfl⟩:=ry; exact PySem.W.eq_bytes (zaL I q zmT)
    | _=>exact absurd (show false = true from hs) yax
  | _=>cases y <;> exact absurd (show false = true from hs) yax
theorem zqK : OpR X (compareOp .NotEq) rNe:=by
  intro pins s σ H x y v u Q I rx ry h
  obtain ⟨hs,q⟩:=h
  cases x with
  | non=>
    cases rx
    cases y with
    | non=>cases ry; exact PySem.EqNone.ne_none_none (zaL I q (by simp))
    | bl j=>cases ry; exact PySem.EqNone.ne_none_bool (zaL I q (by simp))
    | int j=>obtain ⟨t',rfl⟩:=ry; exact PySem.EqNone.ne_none_int (zaL I q (by simp))
    | str j=>obtain ⟨t',rfl⟩:=ry; exact PySem.EqNone.ne_none_str (zaL I q (by simp))
    | _=>exact absurd (show false = true from hs) yax
  | bl i=>
    cases rx
    cases y with
    | non=>cases ry; exact PySem.EqNone.ne_bool_none (zaL I q (by simp))
    | bl j=>cases ry; exact ne_bool (zaL I q (congrArg not zoU))
    | str j=>obtain ⟨t',rfl⟩:=ry; exact PySem.EqMixed.ne_bool_str (zaL I q (by simp))
    | _=>exact absurd (show false = true from hs) yax
  | int i=>
    obtain ⟨t,rfl⟩:=rx
    cases y with
    | non=>cases ry; exact PySem.EqNone.ne_int_none (zaL I q (by simp))
    | int j=>obtain ⟨t',rfl⟩:=ry; exact ne_int (zaL I q (congrArg not zmS))
    | str j=>obtain ⟨t',rfl⟩:=ry; exact PySem.EqMixed.ne_int_str (zaL I q (by simp))
    | _=>exact absurd (show false = true from hs) yax
  | str i=>
    obtain ⟨t,rfl⟩:=rx
    cases y with
    | non=>cases ry; exact PySem.EqNone.ne_str_none (zaL I q (by simp))
    | bl j=>cases ry; exact PySem.EqMixed.ne_str_bool (zaL I q (by simp))
    | int j=>obtain ⟨t',rfl⟩:=ry; exact PySem.EqMixed.ne_str_int (zaL I q (by simp))
    | str j=>obtain ⟨t',rfl⟩:=ry; exact ne_str (zaL I q (congrArg not zmR))
    | _=>exact absurd (show false = true from hs) yax
  | byt i=>
    obtain ⟨t,rfl⟩:=rx
    cases y with
    | byt j=>obtain ⟨t',rfl⟩:=ry; exact PySem.W.ne_bytes (zaL I q (congrArg not zmT))
    | _=>exact absurd (show false = true from hs) yax
  | _=>cases y <;> exact absurd (show false = true from hs) yax
theorem zhY : OpR X (compareOp .Lt) (rI0 fun i j=>.bl (decide (i < j))):=opB0 fun _ _ _ _ _ _ _ q=>lt_int q
theorem zpq : OpR X (compareOp .LtE) (rI0 fun i j=>.bl (decide (i≤j))):=opB0 fun _ _ _ _ _ _ _ q=>le_int q
theorem zl1 : OpR X (compareOp .Gt) (rI0 fun i j=>.bl (decide (j < i))):=opB0 fun _ _ _ _ _ _ _ q=>gt_int q
theorem zpr : OpR X (compareOp .GtE) (rI0 fun i j=>.bl (decide (j≤i))):=opB0 fun _ _ _ _ _ _ _ q=>ge_int q
theorem zlZ : OpR X (compareOp .IsNot) (fun x y H Q=>y = .non∧Q (.bl (!decide (x = .non))) H):=by
  intro pins s σ H x y v u Q I rx ry h
  obtain ⟨rfl,q⟩:=h
  cases ry
  refine isnot_none_gen (zaL I q ?_)
  cases x <;> first
    | (cases rx; rfl)
    | (obtain ⟨t,rfl⟩:=rx; rfl)
theorem zaF (b : Expr) {op : CmpOp} (h : op≠.In:=by decide) (h2 : op≠.NotIn:=by decide) : behindInMarks op b = false:=by
  have e1 : (op == CmpOp.In) = false:=by cases op <;> first | rfl | exact absurd rfl h
  have e2 : (op == CmpOp.NotIn) = false:=by cases op <;> first | rfl | exact absurd rfl h2
  cases b <;> simp [behindInMarks,e1,e2]
theorem zfK {op : CmpOp} {r : R2} (ho : OpR X (compareOp op) r) (ha : PE X a ta) (hb : PE X b tb) (hm : behindInMarks op b = false) : PE X (.Compare a [op] [b] pos) (tOp r ta tb):=by
  intro pins s σ H Q I h
  exact wpAny_Compare1 (binT ha hb I h fun v u s2 x y H2 I2 rx ry q=>ho pins s2 σ H2 x y v u Q I2 rx ry q) hm
def zqg (t : TE) : TT:=fun σ H Q=>t σ H fun x H'=>∃ k,x = .bl k∧Q k H'
theorem zaw {op : CmpOp} {r : R2} (ho : OpR X (compareOp op) r) (ha : PE X a ta) (hb : PE X b tb) (hm : behindInMarks op b = false) : PT X (.Compare a [op] [b] pos) (zqg (tOp r ta tb)):=by
  intro pins s σ H Q I h
  refine wpAny_isTrue_Compare1 (thn (ha pins s σ H _ I h) fun v s1 ⟨x,H1,I1,r1,q1⟩=>thn (hb pins s1 σ H1 _ I1 q1) fun u s2 ⟨y,H2,I2,r2,q2⟩=>
    thn (ho pins s2 σ H2 x y v u _ I2 r1 r2 q2) fun c s3 ⟨z,H3,I3,r3,k,e,q3⟩=>?_) hm
  subst e
  cases r3
  exact wpAny_truthy_bool ⟨H3,I3,q3⟩
def zoA (r r' : R2) (ta tb tc : TE) : TE:=fun σ H Q=>ta σ H fun x H1=>tb σ H1 fun y H2=>r x y H2 fun z H3=>∃ k,z = .bl k∧
  (if k = true then tc σ H3 fun w' H4=>r' y w' H4 Q else Q (.bl false) H3)
theorem znz {op op' : CmpOp} {r r' : R2} (ho : OpR X (compareOp op) r) (ho' : OpR X (compareOp op') r') (ha : PE X a ta) (hb : PE X b tb) (hc : PE X c tc)
    (hm : lastMarks [op,op'] [b,c] = false:=by with_unfolding_all rfl) : PE X (.Compare a [op,op'] [b,c] pos) (zoA r r' ta tb tc):=by
  intro pins s σ H Q I h
  refine Compare_chain (thn (ha pins s σ H _ I h) fun v s1 ⟨x,H1,I1,r1,q1⟩=>chain_link (thn (hb pins s1 σ H1 _ I1 q1) fun u s2 ⟨y,H2,I2,r2,q2⟩=>
    thn (ho pins s2 σ H2 x y v u _ I2 r1 r2 q2) fun d s3 ⟨z,H3,I3,r3,k,e,q3⟩=>?_)) hm
  subst e
  cases r3
  refine wpAny_truthy_bool ?_
  cases k with
  | false=>exact ite_ff ⟨.bl false,H3,I3,rfl,q3⟩
  | true=>exact ite_tt (chain_last (thn (hc pins s3 σ H3 _ I3 q3) fun w' s4 ⟨z',H4,I4,r4,q4⟩=>ho' pins s4 σ H4 y z' u w' Q I4 r2 r4 q4))
theorem znu {op op' : CmpOp} {r r' : R2} (ho : OpR X (compareOp op) r) (ho' : OpR X (compareOp op') r') (ha : PE X a ta) (hb : PE X b tb) (hc : PE X c tc)
    (hm : lastMarks [op,op'] [b,c] = false:=by with_unfolding_all rfl) : PT X (.Compare a [op,op'] [b,c] pos) (zqg (zoA r r' ta tb tc)):=by
  intro pins s σ H Q I h
  refine isTrue_chain (thn (ha pins s σ H _ I h) fun v s1 ⟨x,H1,I1,r1,q1⟩=>test_link (thn (hb pins s1 σ H1 _ I1 q1) fun u s2 ⟨y,H2,I2,r2,q2⟩=>
    thn (ho pins s2 σ H2 x y v u _ I2 r1 r2 q2) fun d s3 ⟨z,H3,I3,r3,k,e,q3⟩=>?_)) hm
  subst e
  cases r3
  refine wpAny_truthy_bool ?_
  cases k with
  | false=>
    obtain ⟨k',e',q'⟩:=q3
    cases e'
    exact ite_ff ⟨H3,I3,q'⟩
  | true=>
    refine ite_tt (test_last (thn (hc pins s3 σ H3 _ I3 q3) fun w' s4 ⟨z',H4,I4,r4,q4⟩=>thn (ho' pins s4 σ H4 y z' u w' _ I4 r2 r4 q4) fun d' s5 ⟨z2,H5,I5,r5,k2,e2,q5⟩=>?_))
    subst e2
    cases r5
    exact wpAny_truthy_bool ⟨H5,I5,q5⟩
theorem zjW : (sizeLine : Nat) < 2 ^ 63:=by rw [sizeLine_eq]; decide
theorem zfy {x : V} {us : List Value} (r : Vals [x] us) : ∃ u,us = [u]∧RelV x u:=by
  cases r with
  | cons r1 r2=>cases r2; exact ⟨_,rfl,r1⟩
theorem zgP {x y : V} {us : List Value} (r : Vals [x,y] us) : ∃ u w',us = [u,w']∧RelV x u∧RelV y w':=by
  cases r with
  | cons r1 r2=>
    cases r2 with
    | cons r3 r4=>cases r4; exact ⟨_,_,rfl,r1,r3⟩
theorem zhw : zdl X (.builtin "abs") (fun xs H Q=>∃ i,xs = [.int i]∧Q (.int (if i < 0 then -i else i)) H):=by
  intro pins s σ H xs us Q I r h
  obtain ⟨i,rfl,q⟩:=h
  obtain ⟨u,rfl,t,rfl⟩:=zfy r
  exact call_abs_int fun u tk=>⟨.int (if i < 0 then -i else i),H,I.tok _,⟨_,rfl⟩,q⟩
theorem zif (hc : X.calm = true) : zdl X (.builtin "max") (fun xs H Q=>∃ i j,xs = [.int i,.int j]∧Q (.int (if j > i then j else i)) H):=by
  intro pins s σ H xs us Q I r h
  obtain ⟨i,j,rfl,q⟩:=h
  obtain ⟨u,w',rfl,⟨t,rfl⟩,⟨t',rfl⟩⟩:=zgP r
  refine max_two_ints (I.ok.hd hc) fun h' tk k=>⟨_,H,I.kept k,?_,q⟩
  by_cases hj : j > i
  · rw [if_pos hj,if_pos hj]; exact ⟨_,rfl⟩
  · rw [if_neg hj,if_neg hj]; exact ⟨_,rfl⟩
end
end L2
namespace L2
open PySem PySem.Spec PyProof.Rows
structure ObjM (h : Heap) (x dx C : Addr) (mA : Str→Option Value) : Prop where
  obj : h.get? x = some (PySem.W.instObj C dx)
  ns : h.Ns1 dx mA
  ne : dx≠x
theorem zmj {h : Heap} {dx : Addr} {mA : Str→Option Value} (n : h.Ns1 dx mA) : ∃ od,h.get? dx = some od∧∀ name,PySem.W.lookIn name od = some (mA name):=by
  obtain ⟨o,es,ep,ho,hd,hk,_,hm⟩:=n
  refine ⟨o,ho,fun name=>?_⟩
  have e:=hm name
  unfold nsFind findBy at e
  rw [← Array.find?_toList] at e
  unfold PySem.W.lookIn
  rw [hd]
  dsimp only
  split
  · rename_i y q
    rw [q] at e
    exact congrArg some e
  · rename_i q
    rw [q] at e
    have a : es.toList.any (·.refKey) = false:=by
      rw [List.any_eq_false]
      intro y hy
      obtain ⟨z,t,hkey⟩:=hk y (Array.mem_toList_iff.mp hy)
      simp [DictEntry.refKey,hkey]
    have a' : ¬ es.toList.any (·.refKey) = true:=by rw [a]; exact yax
    rw [if_neg a']
    exact congrArg some e
theorem ObjM.look {h : Heap} {x dx C : Addr} {mA : Str→Option Value} (I : ObjM h x dx C mA) : ∃ od,PySem.W.InstAt h x (PySem.W.instObj C dx) C (some od)∧∀ name,PySem.W.lookIn name od = some (mA name):=
  let ⟨od,ho,hl⟩:=zmj I.ns
  ⟨od,⟨I.obj,rfl,rfl,ho⟩,hl⟩
section
variable {prog : Program} {w : World} {A : Around} {E : Value→Shared→Prop} {s : Shared} {K : Frag} {x dx C f : Addr} {mA : Str→Option Value} {name : Str} {v : Value}
theorem zpV {expr : Bool} {Q : Value→Shared→Prop} (X : K.In s.heap) (I : ObjM s.heap x dx C mA) (hg : PySem.W.plainGet K C name = true) (hh : PySem.W.hasDictIn K C = true)
    (ha : findIn K (.ref C) name = some none) (hv : mA name = some v) (hv' : PySem.W.handedIn v = true) (h : Q v { s with toks:=s.toks + 1 }) :
    wpAny (model prog w) A (getAttr (.ref x) name expr) Q E s:=by
  obtain ⟨od,J,hl⟩:=I.look
  exact PySem.W.get_value X J (PySem.W.plainGet_of hg).1 (PySem.W.findObj_own hh ha rfl (by rw [hl,hv])) hv' h
theorem zob {pl : Sem Bool} {Q : Value×List Value→Shared→Prop} (X : K.In s.heap) (I : ObjM s.heap x dx C mA) (hg : PySem.W.plainGet K C name = true)
    (hf : findIn K (.ref C) name = some (some (.ref f))) (ht : PySem.W.isFn K (.ref f) = true) (hv : mA name = none) (h : Q (.ref f,[.ref x]) s) :
    wpAny (model prog w) A (getMethod (.ref x) name pl) Q E s:=by
  obtain ⟨od,J,hl⟩:=I.look
  exact PySem.W.method_fn X J (PySem.W.plainGet_of hg).1 (PySem.W.plainGet_of hg).2 hf (beq_iff_eq.mp ht) (by show (PySem.W.lookIn name od).map (·.isSome) = some false; rw [hl,hv]; rfl) h
theorem zpc {ns : List Str} {Q : Unit→Shared→Prop} (X : K.In s.heap) (I : ObjM s.heap x dx C mA)
    (hs : findIn K (.ref C) "__setattr__" = some (some (.builtin "object.__setattr__"))) (hp : PySem.W.plainOver K C = true) (ht : PySem.W.takerIn K C name = some none) (hh : PySem.W.hasDictIn K C = true)
    (hw : PySem.Within mA ns) (hsz : ns.length≤sizeLine)
    (h : ∀ h',ObjM h' x dx C (fun y=>if y = name then some v else mA y)→Heap.SameBut dx s.heap h'→Q () { s with heap:=h',toks:=s.toks + 2 }) :
    wpAny (model prog w) A (setAttr (.ref x) name v) Q E s:=by
  obtain ⟨od,J,hl⟩:=I.look
  refine PySem.W.set_plain X J hs (PySem.W.osa_open (s:={ s with toks:=s.toks + 1 }) (r:=none) X J hp ht fun b=>?_)
  obtain ⟨cd,hc,hd'⟩:=PySem.W.any_some hh
  have hx : s.heap.get? x = some ⟨.ref C,some dx,.plain,#[]⟩:=I.obj
  refine wpAny_bind (wpAny_pure (wpAny_bind (wpAny_bind (wpAny_loadPart hx (wpAny_bind (PySem.W.Looks.here (s:={ s with toks:=s.toks + 1 }) (PySem.W.looks_clsIn X hc) ?_))))))
  rw [hd']
  refine wpAny_pure (a:=some dx) (wpAny_bind (wpAny_pure (wpAny_bind ?_)))
  refine wpAny_nsSet1 (s:={ s with toks:=s.toks + 1 }) I.ns fun h' hn2 hs2=>?_
  obtain ⟨oD,esD,epD,hoD,hdD,hcD⟩:=hn2.count (PySem.Within.cons name v hw)
  refine wpAny_bind (wpAny_lookBehind hoD (by rw [hdD]; exact pastItsLine_dict (yay hcD (by rw [yaI]; omega))) ?_)
  exact wpAny_pure (h _ ⟨(hs2.2 _ (Ne.symm I.ne)).trans I.obj,hn2,I.ne⟩ hs2)
theorem znY {R : Result→Shared→Prop} {vs : List Value} {kw : List (Str×Value)} (X : K.In s.heap) (hm : PySem.W.makesIn K C = true)
    (hi : findIn K (.ref C) "__init__" = some (some (.ref f))) (hf : PySem.W.typeIn K (.ref f) = some (.type "function"))
    (h : codeAny (model prog w) (A.under (.builtin "type.__call__" ⟨.ref C :: vs,kw⟩)) (.call (.ref f) ⟨.ref (s.heap.objs.size + 1) :: vs,kw⟩) (PySem.W.InitBack (s.heap.objs.size + 1) R)
      { s with heap:=(s.heap.push PySem.W.emptyDict).push (PySem.W.instObj C s.heap.objs.size) }) :
    codeAny (model prog w) A (.call (.ref C) ⟨vs,kw⟩) R s:=by
  obtain ⟨hh,g,d,t,os⟩:=s
  exact PySem.W.make_core (PySem.W.makes_of X hm) (PySem.W.looks_findIn X hi) (fun self=>PySem.W.bind_fn X self hf) (.inl rfl) h
end
def putF (f : Str) (v : V) : List (Str×V)→List (Str×V)
  | []=>[(f,v)]
  | (g,x) :: r=>if g = f then (g,v) :: r else (g,x) :: putF f v r
theorem zfP (f g : Str) (v : V) : ∀ fs : List (Str×V),(putF f v fs).lookup g = if g = f then some v else fs.lookup g
  | []=>by
    show List.lookup g [(f,v)] = _
    by_cases h : g = f
    · have hb : (g == f) = true:=beq_iff_eq.mpr h
      simp only [List.lookup,hb,if_pos h]
    · have hb : (g == f) = false:=beq_eq_false_iff_ne.mpr h
      simp only [List.lookup,hb,if_neg h]
  | (k,x) :: r=>by
    have ih:=zfP f g v r
    rw [show putF f v ((k,x) :: r) = (if k = f then (k,v) :: r else (k,x) :: putF f v r) from rfl]
    by_cases hk : k = f
    · rw [if_pos hk]
      by_cases h : g = k
      · have hb : (g == k) = true:=beq_iff_eq.mpr h
        simp only [List.lookup,hb,if_pos (h.trans hk)]
      · have hb : (g == k) = false:=beq_eq_false_iff_ne.mpr h
        simp only [List.lookup,hb,if_neg (fun e : g = f=>h (e.trans hk.symm))]
    · rw [if_neg hk]
      by_cases h : g = k
      · have hb : (g == k) = true:=beq_iff_eq.mpr h
        simp only [List.lookup,hb,if_neg (fun e : g = f=>hk (h.symm.trans e))]
      · have hb : (g == k) = false:=beq_eq_false_iff_ne.mpr h
        simp only [List.lookup,hb]
        exact ih
theorem zfS (f : Str) (v : V) : ∀ fs : List (Str×V),f∈(putF f v fs).map (·.1)∧∀ g,g∈fs.map (·.1)→g∈(putF f v fs).map (·.1)
  | []=>⟨by simp [putF],fun g h=>by simp at h⟩
  | (k,x) :: r=>by
    obtain ⟨i1,i2⟩:=zfS f v r
    rw [show putF f v ((k,x) :: r) = (if k = f then (k,v) :: r else (k,x) :: putF f v r) from rfl]
    by_cases hk : k = f
    · rw [if_pos hk]
      subst hk
      exact ⟨by simp,fun g h=>by simpa using h⟩
    · rw [if_neg hk]
      refine ⟨?_,fun g h=>?_⟩
      · rw [yao]
        exact yaD _ i1
      · rw [yao] at h ⊢
        rcases yak.mp h with e | e
        · exact yak.mpr (.inl e)
        · exact yaD _ (i2 g e)
theorem zfR (f : Str) (v : V) : ∀ fs : List (Str×V),(putF f v fs).length≤fs.length + 1
  | []=>by simp [putF]
  | (k,x) :: r=>by
    have ih:=zfR f v r
    rw [show putF f v ((k,x) :: r) = (if k = f then (k,v) :: r else (k,x) :: putF f v r) from rfl]
    by_cases hk : k = f
    · rw [if_pos hk,yaI,yaI]; omega
    · rw [if_neg hk,yaI,yaI]; omega
theorem RelO.some_of {v : V} {o : Option Value} (r : RelO (some v) o) : ∃ u,o = some u∧RelV v u:=by
  cases o with
  | none=>exact (show False from r).elim
  | some u=>exact ⟨u,rfl,r⟩
theorem RelO.none_of {o : Option Value} (r : RelO none o) : o = none:=by
  cases o with
  | none=>rfl
  | some u=>exact (show False from r).elim
theorem zmE {v : V} {u : Value} (r : RelV v u) : PySem.W.handedIn u = true:=by
  cases v with
  | non=>cases (show u = Value.none from r); rfl
  | bl b=>cases (show u = Value.bool b from r); rfl
  | int i=>obtain ⟨t,e⟩:=(show ∃ t,u = Value.int i t from r); cases e; rfl
  | str x=>obtain ⟨t,e⟩:=(show ∃ t,u = Value.str x t from r); cases e; rfl
  | byt b=>obtain ⟨t,e⟩:=(show ∃ t,u = Value.bytes b t from r); cases e; rfl
  | flt b=>obtain ⟨t,e⟩:=(show ∃ t,u = Value.float b t from r); cases e; rfl
  | ref a=>cases (show u = Value.ref a from r); rfl
  | ty n=>cases (show u = Value.type n from r); rfl
section
variable {P : Program} {w : World} {H H' : Hp} {h h' : Heap} {a C dx : Addr} {fs fs' : List (Str×V)}
theorem zhr (hok : HOk P w H h) (e : H a = some (.ins C dx fs)) : ∃ mA,ObjM h a dx C mA∧(∀ f,RelO (fs.lookup f) (mA f))∧PySem.Within mA (fs.map (·.1))∧fs.length≤1000∧H dx = some (.own a):=by
  obtain ⟨d,z,ne,ob,mA,n,r,q⟩:=(show zbe P w H h a (.ins C dx fs) from hok a _ e)
  exact ⟨mA,⟨ob,n,ne⟩,r,q,z,d⟩
end
structure Cls (K : Frag) (C : Addr) : Prop where
  pg : PySem.W.plainGet K C Str.empty = true
  hd : PySem.W.hasDictIn K C = true
  po : PySem.W.plainOver K C = true
  sa : findIn K (.ref C) "__setattr__" = some (some (.builtin "object.__setattr__"))
theorem Cls.get {K : Frag} {C : Addr} (c : Cls K C) (f : Str) : PySem.W.plainGet K C f = true:=c.pg
def ze3 (K : Frag) (C : Addr) (f : Str) : Prop:=findIn K (.ref C) f = some none
theorem ze3.taker {K : Frag} {C : Addr} {f : Str} (n : ze3 K C f) : PySem.W.takerIn K C f = some none:=by
  unfold PySem.W.takerIn
  rw [show findIn K (.ref C) f = some none from n]
  rfl
structure Meth (K : Frag) (C : Addr) (m : Str) (f : Addr) : Prop where
  at_ : findIn K (.ref C) m = some (some (.ref f))
  fn : PySem.W.isFn K (.ref f) = true
  kp : keepIn K (.ref f) = true
section
variable {X : Cx} {pins : List (Addr×Obj)} {σ : St} {H : Hp} {s : Shared} {a C dx : Addr} {fs : List (Str×V)} {f : Str} {v : V} {A : Around} {E : Value→Shared→Prop}
theorem zkM {b : Bool} {Q : Value→Shared→Prop} (I : Inv X pins σ H s) (e : H a = some (.ins C dx fs)) (c : Cls X.K C) (n : ze3 X.K C f) (l : fs.lookup f = some v)
    (h : ∀ u s',Inv X pins σ H s'→RelV v u→Q u s') : wpAny (model X.prog X.w) A (getAttr (.ref a) f b) Q E s:=by
  obtain ⟨mA,O,r,_,_,_⟩:=zhr I.hok e
  obtain ⟨u,hu,ru⟩:=RelO.some_of (v:=v) (o:=mA f) (by rw [← l]; exact r f)
  exact zpV I.kIn O (c.get f) c.hd n hu (zmE ru) (h u _ (I.tok _) ru)
theorem zgy {m : Str} {g : Addr} {pl : Sem Bool} {Q : Value×List Value→Shared→Prop} (I : Inv X pins σ H s) (e : H a = some (.ins C dx fs)) (c : Cls X.K C) (k : Meth X.K C m g) (l : fs.lookup m = none)
    (h : Q (.ref g,[.ref a]) s) : wpAny (model X.prog X.w) A (getMethod (.ref a) m pl) Q E s:=by
  obtain ⟨mA,O,r,_,_,_⟩:=zhr I.hok e
  have hn : mA m = none:=RelO.none_of (by rw [← l]; exact r m)
  exact zob I.kIn O (c.get m) k.at_ k.fn hn h
theorem zkp {y : V} {u : Value} {Q : Unit→Shared→Prop} (I : Inv X pins σ H s) (e : H a = some (.ins C dx fs)) (c : Cls X.K C) (n : ze3 X.K C f) (hl : fs.length < 1000) (ry : RelV y u)
    (h : ∀ s',Inv X pins σ (upd H a (.ins C dx (putF f y fs))) s'→Q () s') : wpAny (model X.prog X.w) A (setAttr (.ref a) f u) Q E s:=by
  obtain ⟨mA,O,r,wi,_,ho⟩:=zhr I.hok e
  have hz : (fs.map (·.1)).length≤sizeLine:=by rw [yab,sizeLine_eq]; omega
  refine zpc I.kIn O c.sa c.po n.taker c.hd wi hz fun h' O' sb=>h _ ?_
  have hd : ∃ o,h'.get? dx = some o:=let ⟨o,_,_,e',_⟩:=O'.ns; ⟨o,e'⟩
  refine I.write (x:=a) (e:=dx) (by rw [e]; exact True.intro) (.inr ho) (fun b q hb z=>(sb.2 b hb).trans z) hd ?_
  refine ⟨by rw [zah O.ne]; exact ho,?_,O.ne,O'.obj,_,O'.ns,fun g=>?_,fun g hg=>?_⟩
  · have:=zfR f y fs; omega
  · show RelO ((putF f y fs).lookup g) (if g = f then some u else mA g)
    rw [zfP]
    by_cases q : g = f
    · rw [if_pos q,if_pos q]; exact ry
    · rw [if_neg q,if_neg q]; exact r g
  · by_cases q : g = f
    · rw [q]; exact (zfS f y fs).1
    · refine (zfS f y fs).2 g (wi g fun z=>hg ?_)
      show (if g = f then some u else mA g) = none
      rw [if_neg q]; exact z
theorem Inv.made (I : Inv X pins σ H s) : Inv X pins σ (upd (upd H s.heap.objs.size (.own (s.heap.objs.size + 1))) (s.heap.objs.size + 1) (.ins C s.heap.objs.size []))
    { s with heap:=(s.heap.push PySem.W.emptyDict).push (PySem.W.instObj C s.heap.objs.size) }:=by
  have e1 : (s.heap.push PySem.W.emptyDict).get? s.heap.objs.size = some PySem.W.emptyDict:=yaz s.heap rfl
  have e2 : ((s.heap.push PySem.W.emptyDict).push (PySem.W.instObj C s.heap.objs.size)).get? (s.heap.objs.size + 1) = some (PySem.W.instObj C s.heap.objs.size):=by
    have:=yaz (s.heap.push PySem.W.emptyDict) (o:=PySem.W.instObj C s.heap.objs.size) rfl
    rwa [yb0] at this
  have e3 : (s.heap.push PySem.W.emptyDict).Ns s.heap.objs.size (fun _=>none):=⟨PySem.W.emptyDict,#[],_,e1,rfl,(fun e he=>absurd he (by simp)),fun _=>rfl⟩
  have I1:=I.laid (a:=s.heap.objs.size) (o:=.own (s.heap.objs.size + 1)) (h':=s.heap.push PySem.W.emptyDict) (t':=s.toks) (fun b u q=>yai _ q) (yaa _) ⟨_,e1⟩
  refine I1.laid (a:=s.heap.objs.size + 1) (o:=.ins C s.heap.objs.size []) (t':=s.toks) (fun b u q=>yai _ q) (Nat.le_of_eq (yb0 _ _)) ?_
  have ne : s.heap.objs.size≠s.heap.objs.size + 1:=yaq (yb1 _)
  refine ⟨by rw [zah ne,zab],yaE _,ne,e2,fun _=>none,(Heap.Ns1.of_empty e3).at fun o q=>yai _ q,fun _=>True.intro,fun y hy=>absurd rfl hy⟩
theorem zp4 {prog : Program} {w : World} {env : Env} {e : Expr} {f : Str} {pos : Pos} {s : Shared} {Q : Value→Shared→Prop} (hb : attributeBase e f env (eval e env) = eval e env)
    (h : wpAny (model prog w) A (eval e env) (fun o s₁=>wpAny (model prog w) A (getAttr o f true) Q E s₁) E s) : wpAny (model prog w) A (eval (.Attribute e f pos) env) Q E s:=
  Attribute_any_ h (by rw [arm_eval_Attribute,hb])
end
def tFld (K : Frag) (ta : TE) (f : Str) : TE:=fun σ H Q=>ta σ H fun x H1=>∃ a C dx fs v,x = .ref a∧H1 a = some (.ins C dx fs)∧Cls K C∧ze3 K C f∧fs.lookup f = some v∧Q v H1
def sFld (K : Frag) (ta tv : TE) (f : Str) : TS:=fun D σ H=>tv σ H fun y H1=>ta σ H1 fun x H2=>∃ a C dx fs,x = .ref a∧H2 a = some (.ins C dx fs)∧Cls K C∧ze3 K C f∧fs.length < 1000∧
  D.nx σ (upd H2 a (.ins C dx (putF f y fs)))
section
variable {X : Cx} {o e value : Expr} {f : Str} {pos pos' tpos : Pos} {ta tv : TE}
theorem zcC (he : PE X e ta) (hb : attributeBase e f X.env (eval e X.env) = eval e X.env) : PE X (.Attribute e f pos) (tFld X.K ta f):=by
  intro pins s σ H Q I h
  refine zp4 hb (thn (he pins s σ H _ I h) fun u s1 ⟨x,H1,I1,rx,a,C,dx,fs,v,ex,ea,c,n,l,q⟩=>?_)
  subst ex
  obtain rfl : u = Value.ref a:=rx
  exact zkM I1 ea c n l fun u' s2 I2 ru=>⟨v,H1,I2,ru,q⟩
theorem zjH (ha : PE X o ta) (hv : PE X value tv) (hs : swapsWith value (some (.Attribute o f pos')) pos.line X.env = pure false) : PS X (.Assign [.Attribute o f pos'] value pos) (sFld X.K ta tv f):=by
  intro pins s σ H D I h
  refine plainObj_wpAny_Assign_Attribute (thn (hv pins s σ H _ I h) fun u s1 ⟨y,H1,I1,ry,q⟩=>thn (ha pins s1 σ H1 _ I1 q) fun ov s2 ⟨x,H2,I2,rx,a,C,dx,fs,ex,ea,c,n,l,q2⟩=>?_) hs
  subst ex
  obtain rfl : ov = Value.ref a:=rx
  exact zkp I2 ea c n l ry fun s3 I3=>⟨σ,_,I3,q2⟩
end
section
variable {X : Cx} {pins : List (Addr×Obj)} {σ : St} {H : Hp} {s : Shared} {A : Around} {E : Value→Shared→Prop} {Q : Value→Shared→Prop} {c : Value} {b : Bool}
inductive TyOf (K : Frag) (H : Hp) : V→Value→Prop where
  | non : TyOf K H .non (.type "NoneType")
  | bl (x : Bool) : TyOf K H (.bl x) (.type "bool")
  | int (i : Int) : TyOf K H (.int i) (.type "int")
  | str (x : Str) : TyOf K H (.str x) (.type "str")
  | flt (x : UInt64) : TyOf K H (.flt x) (.type "float")
  | lst {a : Addr} {xs : List V} (e : H a = some (.lst xs)) : TyOf K H (.ref a) (.type "list")
  | frz {a : Addr} {o : Obj} {xs : List V} (e : H a = some (.frz o (.lst xs))) : TyOf K H (.ref a) (.type "list")
  | tup {a : Addr} {xs : List V} (e : H a = some (.tup xs)) : TyOf K H (.ref a) (.type "tuple")
  | dK {a : Addr} {kvs : List (Key×V)} (e : H a = some (.dK kvs)) : TyOf K H (.ref a) (.type "dict")
  | dT {a : Addr} {kvs : List (List Key×V)} (e : H a = some (.dT kvs)) : TyOf K H (.ref a) (.type "dict")
  | ins {a C dx : Addr} {fs : List (Str×V)} (e : H a = some (.ins C dx fs)) (cl : Cls K C) (ha : findIn K (.ref C) "__class__" = some (some (.builtin "object.__class__")))
      (hn : PySem.W.specialIn K (.builtin "object.__class__") "__get__" = some (some (.builtin "getset_descriptor.__get__"))) (htk : PySem.W.takesIn K (.builtin "object.__class__") = some true)
      (hm : mroIn K C (.type "object") = some true) : TyOf K H (.ref a) (.ref C)
theorem zmx {x : V} {u t : Value} (I : Inv X pins σ H s) (rx : RelV x u) (ty : TyOf X.K H x t) (e : kitOne X.K t c = some b) (h : ∀ tk,Q (.bool b) { s with toks:=tk }) :
    wpAny (model X.prog X.w) A (call (.builtin "isinstance") [u,c]) Q E s:=by
  cases ty with
  | non=>cases (show u = Value.none from rx); exact PySem.W.kia_one PySem.W.kitx_none I.kIn True.intro e (fun z=>nomatch z) h
  | bl y=>cases (show u = Value.bool y from rx); exact PySem.W.kia_one PySem.W.kitx_bool I.kIn True.intro e (fun z=>nomatch z) h
  | int i=>obtain ⟨t,q⟩:=(show ∃ t,u = Value.int i t from rx); cases q; exact PySem.W.kia_one PySem.W.kitx_int I.kIn True.intro e (fun z=>nomatch z) h
  | str y=>obtain ⟨t,q⟩:=(show ∃ t,u = Value.str y t from rx); cases q; exact PySem.W.kia_one PySem.W.kitx_str I.kIn True.intro e (fun z=>nomatch z) h
  | flt y=>obtain ⟨t,q⟩:=(show ∃ t,u = Value.float y t from rx); cases q; exact PySem.W.kia_one PySem.W.kitx_float I.kIn True.intro e (fun z=>nomatch z) h
  | @lst a xs ea=>
    cases (show u = Value.ref a from rx)
    obtain ⟨_,_,n,_,h1⟩:=(show zbe X.prog X.w H s.heap a (.lst xs) from I.hok a _ ea)
    exact PySem.W.kia_one PySem.W.kitx_list I.kIn ⟨_,h1,rfl⟩ e (fun z=>nomatch z) h
  | @frz a ob xs ea=>
    cases (show u = Value.ref a from rx)
    obtain ⟨_,_,_,n,_,h1⟩:=(show zbe X.prog X.w H s.heap a (.frz ob (.lst xs)) from I.hok a _ ea)
    exact PySem.W.kia_one PySem.W.kitx_list I.kIn ⟨_,h1,rfl⟩ e (fun z=>nomatch z) h
  | @tup a xs ea=>
    cases (show u = Value.ref a from rx)
    obtain ⟨_,_,_,p⟩:=(show zbe X.prog X.w H s.heap a (.tup xs) from I.hok a _ ea)
    obtain ⟨o,h1,h2,_⟩:=p
    exact PySem.W.kia_one PySem.W.kitx_tuple I.kIn ⟨o,h1,h2⟩ e (fun z=>nomatch z) h
  | @dK a kvs ea=>
    cases (show u = Value.ref a from rx)
    obtain ⟨_,_,vs,_,p⟩:=(show zbe X.prog X.w H s.heap a (.dK kvs) from I.hok a _ ea)
    obtain ⟨o,es,ep,h1,h2,_⟩:=p
    exact PySem.W.kia_one PySem.W.kitx_dict I.kIn ⟨o,h1,h2.1⟩ e (fun z=>nomatch z) h
  | @dT a kvs ea=>
    cases (show u = Value.ref a from rx)
    obtain ⟨_,_,xs,_,o,es,ep,h1,h2,_⟩:=(show zbe X.prog X.w H s.heap a (.dT kvs) from I.hok a _ ea)
    exact PySem.W.kia_one PySem.W.kitx_dict I.kIn ⟨o,h1,h2.1⟩ e (fun z=>nomatch z) h
  | @ins a C dx fs ea cl ha hn htk hm=>
    cases (show u = Value.ref a from rx)
    obtain ⟨mA,O,_⟩:=zhr I.hok ea
    obtain ⟨od,J,_⟩:=O.look
    exact PySem.W.kia_one (PySem.W.kitx_own (cl.get _) cl.hd ha hn htk hm) I.kIn J e (fun z=>nomatch z) h
end
end L2
namespace L2
open PySem PySem.Spec PyProof.Rows
structure Room (k : Nat) (A : Around) : Prop where
  hd : A.handled = none
  dp : A.depth + 3 * k + 5 < recursionLimit
  un : A.units + 16 * k + 200 < cLine
  gd : A.guards = some []
theorem Room.mono {j k : Nat} {A : Around} (r : Room k A) (h : j≤k) : Room j A:=⟨r.hd,by have:=r.dp; omega,by have:=r.un; omega,r.gd⟩
theorem Room.deeper {k : Nat} {A : Around} (r : Room (k + 1) A) (env : Env) : Room k (A.deeper env):=
  ⟨r.hd,by have:=r.dp; show A.depth + 1 + 3 * k + 5 < _; omega,by have:=r.un; show A.units + 3 + 16 * k + 200 < _; omega,r.gd⟩
theorem zkK {A : Around} {C : Addr} {us : List Value} {kw : List (Str×Value)} : (A.under (.builtin "type.__call__" ⟨.ref C :: us,kw⟩)).depth = A.depth + 1:=by
  first | rfl | simp [Around.under,Code.weight,Code.isCreation,Code.isGuard,Code.isCaller,Code.frames,Code.isFrame,guardIds]
theorem zkJ {A : Around} {C : Addr} {us : List Value} {kw : List (Str×Value)} : (A.under (.builtin "type.__call__" ⟨.ref C :: us,kw⟩)).units = A.units + 1:=by
  first | rfl | simp [Around.under,Code.cUnits,Code.frames,Code.isFrame]
theorem Room.make {k : Nat} {A : Around} (r : Room (k + 1) A) (C : Addr) (us : List Value) (kw : List (Str×Value)) : Room k (A.under (.builtin "type.__call__" ⟨.ref C :: us,kw⟩)):=
  ⟨r.hd,by have:=r.dp; rw [zkK]; omega,by have:=r.un; rw [zkJ]; omega,by have h:=r.gd; simp [Around.under,Code.guards,Code.isGuard,guardIds,pushGuards,h]⟩
theorem Room.depth {k : Nat} {A : Around} (r : Room k A) : A.depth < recursionLimit:=by have:=r.dp; omega
theorem Room.units {k : Nat} {A : Around} (r : Room k A) : A.units + 64 < cLine:=by have:=r.un; omega
def tNil : TA:=fun _ H Q=>Q [] H
def zrx (ta : TE) (tr : TA) : TA:=fun σ H Q=>ta σ H fun x H1=>tr σ H1 fun xs H2=>Q (x :: xs) H2
section
variable {X : Cx} {e : Expr} {es : List Expr} {te : TE} {t : TA} {pos : Pos}
theorem zac : PA X [] tNil:=fun _ _ _ _ H Q I h=>Calls.spliced_nil ⟨[],H,I,.nil,h⟩
theorem zaa (ha : PE X e te) (hr : PA X es t) (hs : starEach (e :: es) X.env = (false,eval e X.env) :: starEach es X.env:=by rfl) : PA X (e :: es) (zrx te t):=by
  intro pos pins s σ H Q I h
  rw [hs]
  show wpAny _ _ (spliced ((false,eval e X.env) :: backTo pos (starEach es X.env))) _ _ s
  refine Calls.spliced_cons (thn (ha pins s σ H _ I h) fun u s1 ⟨x,H1,I1,r1,q1⟩=>?_)
  exact thn (hr pos pins s1 σ H1 _ I1 q1) fun us s2 ⟨xs,H2,I2,r2,q2⟩=>⟨x :: xs,H2,I2,.cons r1 r2,q2⟩
def tTup (t : TA) : TE:=fun σ H Q=>t σ H fun xs H1=>xs.length≤sizeLine∧∀ p,H1 p = none→Q (.ref p) (upd H1 p (.tup xs))
def tLst (t : TA) : TE:=fun σ H Q=>t σ H fun xs H1=>xs.length≤sizeLine∧∀ p,H1 p = none→Q (.ref p) (upd H1 p (.lst xs))
theorem zbr {x1} (h : PA X es t) : PE X (.Tuple es x1 pos) (tTup t):=by
  intro pins s σ H Q I hq
  refine wpAny_Tuple_spliced (thn (h pos pins s σ H _ I hq) fun us s1 ⟨xs,H1,I1,r,z,q⟩=>⟨by rw [← r.length]; exact z,?_⟩)
  have hf : H1 s1.heap.objs.size = none:=I1.hok.fresh (yaa _)
  refine ⟨.ref s1.heap.objs.size,upd H1 s1.heap.objs.size (.tup xs),I1.laid (t':=s1.toks) (fun b u e=>yai _ e) (yaa _) ?_,rfl,q _ hf⟩
  exact ⟨z,us,r,⟨_,yaz _ rfl,rfl,_,rfl⟩⟩
theorem zbW (h : PA X es t) : PE X (.List es pos) (tLst t):=by
  intro pins s σ H Q I hq
  refine wpAny_List_spliced (thn (h pos pins s σ H _ I hq) fun us s1 ⟨xs,H1,I1,r,z,q⟩=>⟨by rw [← r.length]; exact z,?_⟩)
  have hf : H1 s1.heap.objs.size = none:=I1.hok.fresh (yaa _)
  refine ⟨.ref s1.heap.objs.size,upd H1 s1.heap.objs.size (.lst xs),I1.laid (t':=s1.toks) (fun b u e=>yai _ e) (yaa _) ?_,rfl,q _ hf⟩
  exact ⟨z,us,0,r,yaz _ rfl⟩
end
abbrev Sp:=List V→Hp→VK→XK→Prop
abbrev CXT:=List Env→Hp→Shared→XK→Value→Shared→Prop
structure Env0 (P : Program) (w : World) (K : Frag) (mg : Str→Option Value) (base : Heap) (A : Around) (outer : List Env) (s : Shared) (H : Hp) : Prop where
  frames : A.frames = some outer
  mod : Mod K mg base
  bs : ∀ b o,base.get? b = some o→s.heap.get? b = some o∧H b = none
  bsz : base.objs.size≤s.heap.objs.size
  funs : s.heap.FunFrames base outer
  frf : ∀ b∈frs outer,H b = none
  hok : HOk P w H s.heap
  bare : AllBare s.gens
def CE (outer : List Env) (P : Program) (w : World) (H : Hp) (s : Shared) (Q : VK) (u : Value) (s' : Shared) : Prop:=
  ∃ v H',s'.os = s.os∧AllBare s'.gens∧Un (frs outer) [] H H' s.heap s'.heap∧HOk P w H' s'.heap∧RelV v u∧Q v H'
def CR (CX : CXT) (outer : List Env) (P : Program) (w : World) (H : Hp) (s : Shared) (Q : VK) (E : XK) (r : Result) (s' : Shared) : Prop:=
  match r with
  | .ok (.ret u)=>CE outer P w H s Q u s'
  | .ok _=>False
  | .error e=>CX outer H s E e s'
structure FnOk (P : Program) (w : World) (K : Frag) (mg : Str→Option Value) (base : Heap) (CX : CXT) (k : Nat) (f : Addr) (fd : FuncData) (ps : List Str) (sp : Sp) : Prop where
  len : ∀ vs H Q E,sp vs H Q E→vs.length = ps.length
  run : ∀ (A : Around) (outer : List Env) (s : Shared) (H : Hp) (args : Args) (us : List Value) (vs : List V) (Q : VK) (E : XK),Room k A→Env0 P w K mg base A outer s H→BindsTo s fd args (ps.zip us)→Vals vs us→sp vs H Q E→
    codeAny (model P w) A (.call (.ref f) args) (CR CX outer P w H s Q E) s
theorem Env0.make {P : Program} {w : World} {K : Frag} {mg : Str→Option Value} {base : Heap} {A : Around} {outer : List Env} {s : Shared} {H : Hp} (e : Env0 P w K mg base A outer s H) (C : Addr) (us : List Value) (kw : List (Str×Value)) :
    Env0 P w K mg base (A.under (.builtin "type.__call__" ⟨.ref C :: us,kw⟩)) outer s H:=⟨by first | exact e.frames | (simpa [Around.under,Code.envs,Code.isFrame,pushEnvs] using e.frames),e.mod,e.bs,e.bsz,e.funs,e.frf,e.hok,e.bare⟩
section
variable {X : Cx} {pins : List (Addr×Obj)} {σ : St} {H : Hp} {s s' : Shared}
theorem Inv.env0 (I : Inv X pins σ H s) : Env0 X.prog X.w X.K X.mg X.base X.A X.stack s H:=
  ⟨I.ok.frames,I.ok.mod,I.bs,yay I.ok.bsz I.sz,I.stack,I.stkFree,I.hok,I.bare⟩
theorem Inv.after {Q : VK} {u : Value} (I : Inv X pins σ H s) (h : CE X.stack X.prog X.w H s Q u s') : EP X pins σ Q u s':=by
  obtain ⟨v,H',os,bare,un,hok,r,q⟩:=h
  obtain ⟨hh,g,d,t,os'⟩:=s'
  obtain rfl : os' = s.os:=os
  exact ⟨v,H',I.call (h':=hh) (g':=g) (d':=d) (t':=t) (ch:=[]) un hok bare (fun b z=>absurd z (by simp)),r,q⟩
end
def zqn (sp : Sp) (dvs : List V) (E : XK) (t : TA) : TE:=fun σ H Q=>t σ H fun vs H1=>sp (vs ++ dvs) H1 Q E
def znl (C : Addr) (m : Str) (sp : Sp) (dvs : List V) (E : XK) (ta : TE) (t : TA) : TE:=fun σ H Q=>ta σ H fun x H1=>∃ a dx fs,x = .ref a∧H1 a = some (.ins C dx fs)∧fs.lookup m = none∧
  t σ H1 fun vs H2=>sp (x :: (vs ++ dvs)) H2 Q E
def zqi (C : Addr) (sp : Sp) (dvs : List V) (E : XK) (t : TA) : TE:=fun σ H Q=>t σ H fun vs H1=>∀ x dx,H1 x = none→H1 dx = none→dx≠x→
  sp (.ref x :: (vs ++ dvs)) (upd (upd H1 dx (.own x)) x (.ins C dx [])) (fun v H2=>v = .non∧Q (.ref x) H2) E
def zdm (K : Frag) (fd : FuncData) (ps : List Str) (ds : List Value) : Prop:=
  ∀ (s : Shared) (us : List Value),K.In s.heap→(us ++ ds).length = ps.length→BindsTo s fd ⟨us,[]⟩ (ps.zip (us ++ ds))
theorem zdm.all {K : Frag} {fd : FuncData} {ps : List Str} (h : ∀ us : List Value,us.length = ps.length→bindArgs fd ⟨us,[]⟩ = pure (ps.zip us)) : zdm K fd ps []:=fun s us _ hl=>by
  rw [yaH] at hl ⊢
  exact .of_eq (h us hl)
def zgd (CX : CXT) (X : Cx) (E : XK) : Prop:=∀ (pins : List (Addr×Obj)) (σ : St) (H : Hp) (s : Shared) (e : Value) (s' : Shared),Inv X pins σ H s→CX X.stack H s E e s'→X.xe e s'
section
variable {X : Cx} {CX : CXT} {k : Nat} {f C : Addr} {fd : FuncData} {ps : List Str} {sp : Sp} {dvs : List V} {ds : List Value} {E : XK} {x m : Str} {p pos apos : Pos} {e o : Expr} {es : List Expr} {ta : TE} {t : TA}
theorem zjw {pins : List (Addr×Obj)} {σ : St} {H : Hp} {s : Shared} {Q : VK} {us : List Value} {vs : List V} (F : FnOk X.prog X.w X.K X.mg X.base CX k f fd ps sp) (hr : Room k X.A) (hb : zdm X.K fd ps ds) (hd : Vals dvs ds) (hx : zgd CX X E)
    (I : Inv X pins σ H s) (r : Vals vs us) (h : sp (vs ++ dvs) H Q E) : wpAny (model X.prog X.w) X.A (call (.ref f) us) (EP X pins σ Q) X.xe s:=by
  have r2 : Vals (vs ++ dvs) (us ++ ds):=r.append hd
  have hl : (us ++ ds).length = ps.length:=by rw [← r2.length]; exact F.len _ _ _ _ h
  refine wpAny_call (codeAny_mono (F.run X.A X.stack s H ⟨us,[]⟩ (us ++ ds) (vs ++ dvs) Q E hr I.env0 (hb s us I.kIn hl) r2 h) fun r s' hq=>?_)
  cases r with
  | error e=>exact hx pins σ H s e s' I hq
  | ok fl=>
    cases fl with
    | ret u=>exact I.after hq
    | next=>exact False.elim hq
    | brk=>exact False.elim hq
    | cont=>exact False.elim hq
theorem zpp (F : FnOk X.prog X.w X.K X.mg X.base CX k f fd ps sp) (hr : Room k X.A) (hg : Gl X x) (hm : X.mg x = some (.ref f)) (hk : keepIn X.K (.ref f) = true) (hb : zdm X.K fd ps ds) (hd : Vals dvs ds) (hx : zgd CX X E)
    (ha : PA X (e :: es) t) (hdb : (x == ("__debug__" : Str)) = false:=by decide) (he : starEach (e :: es) X.env = (false,eval e X.env) :: starEach es X.env:=by rfl) (hpl : (backTo pos (starEach es X.env)).any (·.1) = false:=by rfl) :
    PE X (.Call (.Name x p) (e :: es) [] pos) (zqn sp dvs E t):=by
  intro pins s σ H Q I h
  refine wpAny_Call_Name_kw (zhp I hg hm ?_ hdb)
  refine PySem.W.callWith_K (h₀:=X.base) I.ok.mod.kin hk (thn (ha pos pins s σ H _ I h) fun us s1 ⟨vs,H1,I1,r,q⟩=>⟨I1.kIn,?_⟩) he hpl
  exact zjw F hr hb hd hx I1 r q
theorem zpl {pl : Sem Bool} (he : PE X o ta) (c : Cls X.K C) (hm : Meth X.K C m f) (F : FnOk X.prog X.w X.K X.mg X.base CX k f fd ps sp) (hr : Room k X.A) (hb : zdm X.K fd ps ds) (hd : Vals dvs ds) (hx : zgd CX X E) (ha : PA X (e :: es) t)
    (hst : starEach (e :: es) X.env = (false,eval e X.env) :: starEach es X.env:=by rfl) (hpl : (backTo pos (starEach es X.env)).any (·.1) = false:=by rfl)
    (ht : eval (.Call (.Attribute o m apos) (e :: es) [] pos) X.env = (do
      let ov ← eval o X.env
      standAt apos.atName
      let (f,first) ← holding [ov] (getMethod ov m pl)
      callWith pos f first (backTo pos (starEach (e :: es) X.env)) (backToKw pos (keywordEach [] X.env))):=by rfl) :
    PE X (.Call (.Attribute o m apos) (e :: es) [] pos) (znl C m sp dvs E ta t):=by
  intro pins s σ H Q I h
  refine PySem.W.methodCall_KW (pl:=pl) (thn (he pins s σ H _ I h) fun u s1 ⟨x,H1,I1,rx,a,dx,fs,ex,ea,l,q⟩=>?_) ht
  subst ex
  obtain rfl : u = Value.ref a:=rx
  refine zgy I1 ea c hm l ?_
  refine PySem.W.callWith_K (first:=[.ref a]) (h₀:=X.base) I.ok.mod.kin hm.kp (thn (ha pos pins s1 σ H1 _ I1 q) fun us s2 ⟨vs,H2,I2,r,q2⟩=>⟨I2.kIn,?_⟩) hst hpl
  exact zjw (us:=.ref a :: us) (vs:=.ref a :: vs) F hr hb hd hx I2 (.cons rfl r) q2
theorem znw {pl : Sem Bool} (he : PE X o ta) (c : Cls X.K C) (hm : Meth X.K C m f) (F : FnOk X.prog X.w X.K X.mg X.base CX k f fd ps sp) (hr : Room k X.A) (hb : zdm X.K fd ps ds) (hd : Vals dvs ds) (hx : zgd CX X E)
    (ht : eval (.Call (.Attribute o m apos) [] [] pos) X.env = (do
      let ov ← eval o X.env
      standAt apos.atName
      let (f,first) ← holding [ov] (getMethod ov m pl)
      callWith pos f first (backTo pos (starEach [] X.env)) (backToKw pos (keywordEach [] X.env))):=by rfl) :
    PE X (.Call (.Attribute o m apos) [] [] pos) (znl C m sp dvs E ta tNil):=by
  intro pins s σ H Q I h
  refine PySem.W.methodCall_KW (pl:=pl) (thn (he pins s σ H _ I h) fun u s1 ⟨x,H1,I1,rx,a,dx,fs,ex,ea,l,q⟩=>?_) ht
  subst ex
  obtain rfl : u = Value.ref a:=rx
  refine zgy I1 ea c hm l ?_
  exact PySem.W.callWith_K0 (first:=[.ref a]) I1.kIn hm.kp (zjw (us:=[.ref a]) (vs:=[.ref a]) F hr hb hd hx I1 (.cons rfl .nil) q)
structure Mk (K : Frag) (C f : Addr) : Prop where
  makes : PySem.W.makesIn K C = true
  init : findIn K (.ref C) "__init__" = some (some (.ref f))
  fn : PySem.W.isFn K (.ref f) = true
  kp : keepIn K (.ref C) = true
theorem zns {pins : List (Addr×Obj)} {σ : St} {H : Hp} {s : Shared} {Q : VK} {us : List Value} {vs : List V} (M : Mk X.K C f) (F : FnOk X.prog X.w X.K X.mg X.base CX k f fd ps sp) (hr : Room (k + 1) X.A) (hb : zdm X.K fd ps ds) (hd : Vals dvs ds)
    (hx : zgd CX X E) (I : Inv X pins σ H s) (r : Vals vs us)
    (h : ∀ x dx,H x = none→H dx = none→dx≠x→sp (.ref x :: (vs ++ dvs)) (upd (upd H dx (.own x)) x (.ins C dx [])) (fun v H2=>v = .non∧Q (.ref x) H2) E) :
    wpAny (model X.prog X.w) X.A (call (.ref C) us) (EP X pins σ Q) X.xe s:=by
  have hq:=h (s.heap.objs.size + 1) s.heap.objs.size (I.hok.fresh (yba _)) (I.hok.fresh (yaa _)) (yaq (yb1 _))
  have I2:=Inv.made (C:=C) I
  have r2 : Vals (V.ref (s.heap.objs.size + 1) :: (vs ++ dvs)) (Value.ref (s.heap.objs.size + 1) :: (us ++ ds)):=.cons rfl (r.append hd)
  have hl : (Value.ref (s.heap.objs.size + 1) :: us ++ ds).length = ps.length:=by
    have e:=r2.length
    rw [F.len _ _ _ _ hq] at e
    exact e.symm
  refine wpAny_call (znY (f:=f) I.kIn M.makes M.init (beq_iff_eq.mp M.fn) (codeAny_mono (F.run _ X.stack _ _ ⟨Value.ref (s.heap.objs.size + 1) :: us,[]⟩ (Value.ref (s.heap.objs.size + 1) :: (us ++ ds)) _ _ E (hr.make C us [])
    (I2.env0.make C us []) (hb _ (Value.ref (s.heap.objs.size + 1) :: us) I2.kIn hl) r2 hq) fun r s' hq'=>?_))
  cases r with
  | error e=>exact hx pins σ _ _ e s' I2 hq'
  | ok fl=>
    cases fl with
    | ret u=>
      obtain ⟨v,H',I3,rv,ev,q3⟩:=I2.after hq'
      subst ev
      exact ⟨rv,⟨V.ref (s.heap.objs.size + 1),H',I3,rfl,q3⟩⟩
    | next=>exact False.elim hq'
    | brk=>exact False.elim hq'
    | cont=>exact False.elim hq'
theorem zpm (M : Mk X.K C f) (F : FnOk X.prog X.w X.K X.mg X.base CX k f fd ps sp) (hr : Room (k + 1) X.A) (hg : Gl X x) (hm : X.mg x = some (.ref C)) (hb : zdm X.K fd ps ds) (hd : Vals dvs ds) (hx : zgd CX X E)
    (ha : PA X (e :: es) t) (hdb : (x == ("__debug__" : Str)) = false:=by decide) (he : starEach (e :: es) X.env = (false,eval e X.env) :: starEach es X.env:=by rfl) (hpl : (backTo pos (starEach es X.env)).any (·.1) = false:=by rfl) :
    PE X (.Call (.Name x p) (e :: es) [] pos) (zqi C sp dvs E t):=by
  intro pins s σ H Q I h
  refine wpAny_Call_Name_kw (zhp I hg hm ?_ hdb)
  refine PySem.W.callWith_K (h₀:=X.base) I.ok.mod.kin M.kp (thn (ha pos pins s σ H _ I h) fun us s1 ⟨vs,H1,I1,r,q⟩=>⟨I1.kIn,?_⟩) he hpl
  exact zns M F hr hb hd hx I1 r q
end
structure zan (N P : List Str) (sc : Scope) : Prop where
  kind : sc.kind = .function
  co : sc.isCoroutine = false
  gen : sc.isGenerator = false
  nd : N.Nodup
  pre : N.take P.length = P
  par : ∀ x∈P,sc.names.lookup x = some .local∨sc.names.lookup x = some .cell
  nofree : ∀ y∈sc.names,y.2≠.free
theorem zig {kindOf : Str→Option NameKind} {x : Str} : ∀ {binds : List (Str×Value)} {m : Str→Option Value},(∀ v,(x,v)∉binds)→bindL kindOf binds m x = m x
  | [],_,_=>rfl
  | (n,v) :: r,m,h=>by
    unfold bindL
    rw [zig fun w hw=>h w (yaD _ hw)]
    split
    · have : x≠n:=by rintro rfl; exact h v yaC
      simp [this]
    · rfl
theorem zii {kindOf : Str→Option NameKind} {x : Str} : ∀ {binds : List (Str×Value)} {m : Str→Option Value},(∀ v,(x,v)∉binds)→bindC kindOf binds m x = m x
  | [],_,_=>rfl
  | (n,v) :: r,m,h=>by
    unfold bindC
    rw [zii fun w hw=>h w (yaD _ hw)]
    split
    · rfl
    · have : x≠n:=by rintro rfl; exact h v yaC
      simp [this]
theorem zih {kindOf : Str→Option NameKind} {x : Str} {v : Value} : ∀ {P : List Str} {vs : List Value} {i : Nat} {m : Str→Option Value},P.Nodup→P[i]? = some x→vs[i]? = some v→kindOf x = some .local→
    bindL kindOf (P.zip vs) m x = some v
  | [],_,_,_,_,h,_,_=>by simp at h
  | _ :: _,[],_,_,_,_,h,_=>by simp at h
  | p :: P,w :: vs,0,m,nd,h1,h2,hk=>by
    simp at h1 h2; subst h1; subst h2
    show bindL kindOf ((p,w) :: P.zip vs) m p = _
    unfold bindL
    rw [zig fun v hv=>(yaS.mp nd).1 (ybJ hv).1,if_pos hk]
    simp
  | p :: P,w :: vs,i + 1,m,nd,h1,h2,hk=>by
    show bindL kindOf ((p,w) :: P.zip vs) m x = _
    unfold bindL
    exact zih (i:=i) (yaS.mp nd).2 (by simpa using h1) (by simpa using h2) hk
theorem zij {kindOf : Str→Option NameKind} {x : Str} {v : Value} : ∀ {P : List Str} {vs : List Value} {i : Nat} {m : Str→Option Value},P.Nodup→P[i]? = some x→vs[i]? = some v→kindOf x≠some .local→
    bindC kindOf (P.zip vs) m x = some v
  | [],_,_,_,_,h,_,_=>by simp at h
  | _ :: _,[],_,_,_,_,h,_=>by simp at h
  | p :: P,w :: vs,0,m,nd,h1,h2,hk=>by
    simp at h1 h2; subst h1; subst h2
    show bindC kindOf ((p,w) :: P.zip vs) m p = _
    unfold bindC
    rw [zii fun v hv=>(yaS.mp nd).1 (ybJ hv).1,if_neg hk]
    simp
  | p :: P,w :: vs,i + 1,m,nd,h1,h2,hk=>by
    show bindC kindOf ((p,w) :: P.zip vs) m x = _
    unfold bindC
    exact zij (i:=i) (yaS.mp nd).2 (by simpa using h1) (by simpa using h2) hk
def start (N : List Str) (vs : List V) : St:=vs.map some ++ List.replicate (N.length - vs.length) none
def cxOf (CX : CXT) (P : Program) (w : World) (K : Frag) (mg : Str→Option Value) (base : Heap) (N : List Str) (qual : Str) (scope : Scope) (f : Addr) (cd : Value) (A : Around) (outer : List Env) (s : Shared) (H : Hp) (E : XK) : Cx where
  prog:=P
  w:=w
  K:=K
  mg:=mg
  base:=base
  A:=A.deeper (envOfC qual scope s.heap.objs.size f cd)
  N:=N
  s₀:=s
  H₀:=H
  env:=envOfC qual scope s.heap.objs.size f cd
  outer:=outer
  stack:=envOfC qual scope s.heap.objs.size f cd :: outer
  ex:=[]
  calm:=true
  fn:=fun _=>true
  pn:=[]
  xe:=fun e s'=>wpAny (model P w) (A.deeper (envOfC qual scope s.heap.objs.size f cd)) (leaving (envOfC qual scope s.heap.objs.size f cd) e) (fun _ s''=>CX outer H s E e s'') (fun e' s''=>CX outer H s E e' s'') s'
theorem zkb {sc : Scope} {n : Nat} {x : Str} (h : sc.names.lookup x = some .cell) : ∃ c,(cellsFrom n sc.names []).lookup x = some c:=by
  have q:=PySem.W.cellsFrom_some sc.names n [] (.inl h)
  exact Option.isSome_iff_exists.mp q
theorem zmy {CX : CXT} {P : Program} {w : World} {K : Frag} {mg : Str→Option Value} {base : Heap} {N ps : List Str} {qual : Str} {scope : Scope} {f : Addr} {cd : Value} {A : Around} {outer : List Env} {s s1 : Shared} {H : Hp} {E : XK} {us : List Value} {vs : List V}
    (S : zan N ps scope) (hd : A.handled = none) (e0 : Env0 P w K mg base A outer s H) (hl : vs.length = ps.length) (r : Vals vs us)
    (x : InCallC s s.heap.objs.size (bindL (envOfC qual scope s.heap.objs.size f cd).kindOf (ps.zip us) fun _=>none) (cellsFrom (s.heap.objs.size + 1) scope.names []) (bindC (envOfC qual scope s.heap.objs.size f cd).kindOf (ps.zip us) fun _=>none) s1) :
    Inv (cxOf CX P w K mg base N qual scope f cd A outer s H E) [] (start N vs) H s1:=by
  have hpl : ps.length≤N.length:=by have:=congrArg List.length S.pre; rw [yap] at this; omega
  obtain ⟨h1,tk,rfl,hk⟩:=x.done
  have noA : ∀ b : Addr,b∉(cxOf CX P w K mg base N qual scope f cd A outer s H E).ex:=fun b z=>absurd (show b∈([] : List Addr) from z) (by simp)
  refine ⟨⟨e0.mod,S.kind,rfl,rfl,yaa _,fun y z c h1 h2=>?_,fun y hy=>?_,fun y c _ h=>?_,fun _=>hd,Around.frames_deeper e0.frames,.inr ⟨rfl,rfl⟩,fun b z=>absurd z (noA b),e0.bs,e0.bsz,fun b _ _=>noA b,fun b z=>absurd z (noA b),e0.funs,e0.frf⟩,
    rfl,e0.bare,Un.kept hk,⟨_,x.toInCall.ns,fun i y v h1 h2 h3=>?_⟩,fun y c h=>⟨_,x.cell y c h⟩,e0.hok.fresh (yaa _),fun y c h=>?_,fun p hp=>absurd (show p∈([] : List (Addr×Obj)) from hp) (by simp),e0.hok.kept hk,?_⟩
  · exact name_of_addr x.apart (PySem.mem_of_lookup h1) (PySem.mem_of_lookup h2)
  · have hy : scope.names.lookup y = some .cell∨scope.names.lookup y = some .free:=hy
    rcases hy with hy | hy
    · exact zkb hy
    · exact absurd rfl (S.nofree _ (PySem.mem_of_lookup hy))
  · exact ya2 (x.above y c (PySem.mem_of_lookup h))
  · have hi : i < vs.length:=by
      unfold start at h2
      by_cases hi : i < vs.length
      · exact hi
      · rw [ya4 (by simpa using hi)] at h2
        rw [List.getElem?_replicate] at h2
        split at h2 <;> cases h2
    have ha : vs[i]? = some v:=by
      unfold start at h2
      rw [ybi (by simpa using hi),yau] at h2
      cases e : vs[i]? with
      | none=>rw [e] at h2; cases h2
      | some a=>rw [e] at h2; cases h2; rfl
    obtain ⟨u,hu,rv⟩:=r.get ha
    have hp : ps[i]? = some y:=by
      rw [← S.pre,List.getElem?_take_of_lt (by omega)]; exact h1
    have ndP : ps.Nodup:=by rw [← S.pre]; exact S.nd.sublist (List.take_sublist _ _)
    refine ⟨u,rv,?_⟩
    rcases S.par y (yaJ hp) with k | k
    · exact .inl ⟨k,zih ndP hp hu k⟩
    · obtain ⟨c,e⟩:=zkb (n:=s.heap.objs.size + 1) k
      refine .inr ⟨.inl k,c,e,?_⟩
      have q:=x.cell y c e
      rw [zij ndP hp hu (by show scope.names.lookup y≠_; rw [k]; decide)] at q
      exact q
  · exact e0.hok.fresh (ya2 (x.above y c (PySem.mem_of_lookup h)))
  · unfold start
    show _ = N.length
    rw [yam,yab,ybs]
    omega
theorem zrh {CX : CXT} {P : Program} {w : World} {K : Frag} {mg : Str→Option Value} {base : Heap} {k : Nat} {f : Addr} {name qual : Str} {params : Arguments} {body : List Stmt} {scope : Scope} {dV kV doc pm cdv ct oc : Value} {an od : Option Addr}
    {osl : Array (Option Value)} {N ps : List Str} {sp : Sp} (lk : K.lookup f = some ⟨oc,od,.func (fnOf name qual params body scope dV kV doc pm an cdv ct),osl⟩) (hcd : codeIn K cdv qual = true) (S : zan N ps scope)
    (len : ∀ vs H Q E,sp vs H Q E→vs.length = ps.length)
    (hbody : ∀ (A : Around) (outer : List Env) (s : Shared) (H : Hp) (vs : List V) (Q : VK) (E : XK),Room k (A.deeper (envOfC qual scope s.heap.objs.size f cdv))→sp vs H Q E→
      ∃ t,PSs (cxOf CX P w K mg base N qual scope f cdv A outer s H E) body t∧t { nx:=fun _ H'=>Q .non H',rt:=Q } (start N vs) H) :
    FnOk P w K mg base CX (k + 1) f (fnOf name qual params body scope dV kV doc pm an cdv ct) ps sp:=by
  refine ⟨len,fun A outer s H args us vs Q E hr e0 hb r hsp=>?_⟩
  have hl:=len _ _ _ _ hsp
  have KX : K.In s.heap:=e0.mod.kin.keeps fun b o e=>(e0.bs b o e).1
  have lim : s.heap.NoLimit:=e0.mod.nolimit.keeps fun b o e=>(e0.bs b o e).1
  have hkind : ∀ y∈ps.zip us,scope.names.lookup y.1 = some .local∨(scope.names.lookup y.1 = some .cell∧((cellsFrom (s.heap.objs.size + 1) scope.names []).lookup y.1).isSome = true):=fun ⟨n,v⟩ hy=>by
    rcases S.par n (ybJ hy).1 with q | q
    · exact .inl q
    · exact .inr ⟨q,PySem.W.cellsFrom_some _ _ _ (.inl q)⟩
  refine codeAny_call_function hr.depth (KX _ _ lk) rfl S.co S.gen rfl (PySem.W.codeRec_of KX hcd) (hb _ _ _ _ ?_)
  refine wpAny_newFunctionEnv_cells S.kind hkind fun env he s1 x=>?_
  subst he
  refine ⟨lim.keeps x.toInCall.keep,codeAny_func ?_⟩
  obtain ⟨t,ht,hq⟩:=hbody A outer s H vs Q E (hr.deeper _) hsp
  have I : Inv (cxOf CX P w K mg base N qual scope f cdv A outer s H E) [] (start N vs) H s1:=zmy S hr.hd e0 hl r x
  refine wpAny_mono (ht [] s1 (start N vs) H _ I hq) (fun fl s' hs=>?_) fun e s' hs=>hs
  have fin : ∀ {σ' : St} {H' : Hp} {v : V} {u : Value},Inv (cxOf CX P w K mg base N qual scope f cdv A outer s H E) [] σ' H' s'→RelV v u→Q v H'→CE outer P w H s Q u s':=
    fun {σ' H' v u} J rv q=>⟨v,H',J.os,J.bare,J.base,J.hok,rv,q⟩
  cases fl with
  | ret u=>
    obtain ⟨v,σ',H',J,rv,q⟩:=hs
    exact fin J rv q
  | next=>
    obtain ⟨σ',H',J,q⟩:=hs
    exact fin (v:=V.non) (u:=Value.none) J rfl q
  | brk=>
    obtain ⟨_,_,_,q⟩:=hs
    exact False.elim q
  | cont=>
    obtain ⟨_,_,_,q⟩:=hs
    exact False.elim q
end L2
namespace L2
open PySem PySem.Spec PyProof.Rows
section
variable {X : Cx} {x : Str} {p pos : Pos} {e : Expr} {es : List Expr} {t : TA} {id T : String} {r : List V→Hp→VK→Prop}
def tCB (r : List V→Hp→VK→Prop) (t : TA) : TE:=fun σ H Q=>t σ H fun vs H1=>r vs H1 Q
theorem zap (hc : zdl X (.builtin id) r) (hg : Gl X x) (hm : X.mg x = none) (hv : bootBuiltins x = some (.builtin id)) (ha : PA X (e :: es) t) (hn : x ≠ "__name__":=by decide) (hdb : (x == ("__debug__" : Str)) = false:=by decide)
    (he : starEach (e :: es) X.env = (false,eval e X.env) :: starEach es X.env:=by rfl) (hpl : (backTo pos (starEach es X.env)).any (·.1) = false:=by rfl) : PE X (.Call (.Name x p) (e :: es) [] pos) (tCB r t):=by
  intro pins s σ H Q I h
  refine wpAny_Call_Name_kw (ze0 I hg hm hv ?_ hn hdb)
  exact PyProof.Rows.callWith_builtin1 (thn (ha pos pins s σ H _ I h) fun us s1 ⟨vs,H1,I1,r1,q1⟩=>hc pins s1 σ H1 vs us Q I1 r1 q1) he hpl
theorem zaN (hc : zdl X (.type T) r) (hg : Gl X x) (hm : X.mg x = none) (hv : bootBuiltins x = some (.type T)) (ha : PA X (e :: es) t) (hn : x ≠ "__name__":=by decide) (hdb : (x == ("__debug__" : Str)) = false:=by decide)
    (he : starEach (e :: es) X.env = (false,eval e X.env) :: starEach es X.env:=by rfl) (hpl : (backTo pos (starEach es X.env)).any (·.1) = false:=by rfl) : PE X (.Call (.Name x p) (e :: es) [] pos) (tCB r t):=by
  intro pins s σ H Q I h
  refine wpAny_Call_Name_kw (ze0 I hg hm hv ?_ hn hdb)
  exact PyProof.Rows.callWith_type1 (thn (ha pos pins s σ H _ I h) fun us s1 ⟨vs,H1,I1,r1,q1⟩=>hc pins s1 σ H1 vs us Q I1 r1 q1) he hpl
end
end L2
namespace HT
open PySem PyProof.Rows
section
variable {prog : Program} {w : World} {A : Around} {E : Value→Shared→Prop} {s : Shared}
theorem cat_tup {t b : Addr} {vs ws : List Value} {Q : Value→Shared→Prop} (ht : IsTup s.heap t vs.toArray) (hb : IsTup s.heap b ws.toArray) (hv : vs≠[])
    (h1 : ws = []→Q (.ref t) s) (h2 : ws≠[]→Q (.ref s.heap.objs.size) { s with heap:=s.heap.push { cls:=.type "tuple",data:=.seq (vs ++ ws).toArray } })
    (hsz : vs.length + ws.length≤sizeLine) : wpAny (model prog w) A (binaryOp .Add (.ref t) (.ref b)) Q E s:=by
  obtain ⟨⟨cls,dd,data,sl⟩,ho,hc,n,hd⟩:=id ht
  obtain ⟨⟨cls2,dd2,data2,sl2⟩,ho2,hc2,n2,hd2⟩:=id hb
  simp only at hc hd hc2 hd2
  subst hc hd hc2 hd2
  have e : vs.toArray ++ ws.toArray = (vs ++ ws).toArray:=by simp
  by_cases hw : ws = []
  · exact concat_meets ⟨_,ho,rfl⟩ ⟨_,ho2,rfl⟩ noFill_tuple_add seq_tuple_add PySem.F.slot_tuple_add PySem.F.entry_tuple_add (PySem.F.args_tuple_add_2 _ _)
      (tuple_addW1 t b vs.toArray ws.toArray n n2 dd dd2 sl sl2 (by simpa using hv) (by simp [hw])) ⟨ho,ho2,h1 hw⟩
  · refine concat_meets ⟨_,ho,rfl⟩ ⟨_,ho2,rfl⟩ noFill_tuple_add seq_tuple_add PySem.F.slot_tuple_add PySem.F.entry_tuple_add (PySem.F.args_tuple_add_2 _ _)
      (tuple_addW2 t b vs.toArray ws.toArray n n2 dd dd2 sl sl2 (by simpa using hv) (by simpa using hw) (by rw [yat,yat]; exact hsz)) ⟨ho,ho2,?_⟩
    rw [e]
    exact h2 hw
def sIx (n d : Nat) : Option Int→Nat
  | none=>d
  | some v=>if v < 0 then (v + (n : Int)).toNat else min v.toNat n
theorem zcu (n d k : Nat) : sIx n d (some (k : Int)) = min k n:=by
  show (if (k : Int) < 0 then ((k : Int) + (n : Int)).toNat else min (k : Int).toNat n) = min k n
  rw [if_neg (by omega),ybb]
theorem zqu (n d : Nat) (hd : d≤n) (o : Option Int) : sIx n d o≤n:=by
  cases o with
  | none=>exact hd
  | some v=>
    show (if v < 0 then (v + (n : Int)).toNat else min v.toNat n)≤n
    by_cases hv : v < 0
    · rw [if_pos hv]; omega
    · rw [if_neg hv]; exact Nat.min_le_right _ _
theorem zm0 (v : Int) (n d : Nat) : (if v < 0 then max (v + (n : Int)) 0 else min v (n : Int)) = ((sIx n d (some v) : Nat) : Int):=by
  show (if v < 0 then max (v + (n : Int)) 0 else min v (n : Int)) = (((if v < 0 then (v + (n : Int)).toNat else min v.toNat n) : Nat) : Int)
  by_cases hv : v < 0
  · simp only [if_pos hv]; omega
  · simp only [if_neg hv]; omega
theorem zkZ (lo hi : Option Int) (n : Nat) : Builtin.Slice.sliceAdjust lo hi 1 (n : Int) = (((sIx n 0 lo : Nat) : Int),((sIx n n hi : Nat) : Int)):=by
  have h1 : ¬ ((1 : Int) < 0):=by omega
  unfold Builtin.Slice.sliceAdjust
  simp only [h1,if_false]
  refine Prod.ext ?_ ?_
  · cases lo with
    | none=>rfl
    | some v=>exact zm0 v n 0
  · cases hi with
    | none=>rfl
    | some v=>exact zm0 v n n
theorem zku (i j : Nat) : Builtin.Slice.slicePlaces (i : Int) (j : Int) 1 = j - i:=by
  unfold Builtin.Slice.slicePlaces
  have h1 : (1 : Int) > 0:=by omega
  simp only [h1,if_true,Int.ediv_one]
  split <;> omega
theorem zgo {v : Value} {o : Option Int} {Q : Option Int→Shared→Prop} (p : IsPart v o) (h : Q o s) : wpAny (model prog w) A (Builtin.Slice.slicePartIndex v) Q E s:=by
  cases p with
  | none=>exact slicePart_none h
  | int i t=>exact slicePart_int h
theorem zcY {sl : Addr} {vl vu : Value} {lo hi : Option Int} {n : Nat} {Q : Int×Int×Nat→Shared→Prop} (hs : s.heap.IsSliceOf sl vl vu .none) (pl : IsPart vl lo) (pu : IsPart vu hi)
    (h : Q (((sIx n 0 lo : Nat) : Int),1,sIx n n hi - sIx n 0 lo) s) : wpAny (model prog w) A (Builtin.Slice.sliceApplied (.ref sl) (pure (n : Int))) Q E s:=by
  obtain ⟨os,hos,hcs,hds⟩:=id hs
  unfold Builtin.Slice.sliceApplied Builtin.Slice.sliceFields
  refine wpAny_bind (wpAny_bind (wpAny_field hos hds (x:=vl) rfl (wpAny_bind (wpAny_field hos hds (x:=vu) rfl (wpAny_bind (wpAny_field hos hds (x:=.none) rfl (wpAny_pure ?_)))))))
  refine wpAny_bind (slicePart_none ?_)
  show wpAny _ _ (if ((1 : Int) == 0) = true then _ else _) _ _ s
  rw [if_neg (by decide)]
  refine wpAny_bind (zgo pl (wpAny_bind (zgo pu (wpAny_bind (wpAny_pure ?_)))))
  show wpAny _ _ (match Builtin.Slice.sliceAdjust lo hi 1 (n : Int) with | (lo,hi)=>pure (lo,(1 : Int),Builtin.Slice.slicePlaces lo hi 1)) _ _ s
  rw [zkZ lo hi n]
  show wpAny _ _ (pure (((sIx n 0 lo : Nat) : Int),(1 : Int),Builtin.Slice.slicePlaces ((sIx n 0 lo : Nat) : Int) ((sIx n n hi : Nat) : Int) 1)) _ _ s
  rw [zku]
  exact wpAny_pure h
theorem znv (xs : Array Value) (i k : Nat) : ((List.range k).filterMap fun (m : Nat)=>xs[((i : Int) + (m : Int) * 1).toNat]?).toArray = ((xs.toList.drop i).take k).toArray:=by
  have e : (fun (m : Nat)=>xs[((i : Int) + (m : Int) * 1).toNat]?) = fun m=>xs[i + m]?:=by
    funext m
    have : ((i : Int) + (m : Int) * 1).toNat = i + m:=by omega
    rw [this]
  rw [e]
  have:=pick_run xs i k
  rw [List.filterMap_map] at this
  have e2 : ((fun x=>xs[x]?) ∘ fun x=>i + x) = fun m=>xs[i + m]?:=rfl
  rw [e2] at this
  rw [this]
theorem getItem_tuple_cut {t sl : Addr} {items : Array Value} {vl vu : Value} {lo hi : Option Int} {Q : Value→Shared→Prop} (ht : IsTup s.heap t items) (hs : s.heap.IsSliceOf sl vl vu .none) (pl : IsPart vl lo) (pu : IsPart vu hi)
    (hw : ¬ (sIx items.size 0 lo = 0∧sIx items.size items.size hi = items.size))
    (h : Q (.ref s.heap.objs.size) { s with heap:=s.heap.push { cls:=.type "tuple",data:=.seq ((items.toList.drop (sIx items.size 0 lo)).take (sIx items.size items.size hi - sIx items.size 0 lo)).toArray } })
    (hsz : items.size≤sizeLine) : wpAny (model prog w) A (getItem (.ref t) (.ref sl)) Q E s:=by
  have htake : sizeOk (.seq ((items.toList.drop (sIx items.size 0 lo)).take (sIx items.size items.size hi - sIx items.size 0 lo)).toArray):=by
    show ((items.toList.drop (sIx items.size 0 lo)).take (sIx items.size items.size hi - sIx items.size 0 lo)).toArray.size≤sizeLine
    rw [yat,yap,yaL,yas]
    omega
  have hj : sIx items.size items.size hi≤items.size:=zqu _ _ (yaa _) hi
  obtain ⟨os,hos,hcs,hds⟩:=id hs
  have hTs : s.TypeIs (.ref sl) "slice":=⟨os,hos,hcs⟩
  unfold getItem
  try with_reducible refine wpAny_holding ?_
  first | refine wpAny_bind (wpAny_pure ?_) | skip
  refine wpAny_bind (wpAny_sequenceKey ht.typeIs (by decide) ?_)
  refine wpAny_bind (wpAny_callSpecial?_slot (name:=Str.ofString "__getitem__") ht.typeIs PyProof.Rows.slot_tuple_getitem
    (wpAny_call_entry PyProof.Rows.slot_tuple_getitem ht.typeIs entry_tuple_getitem ?_ (args_tuple_getitem _ _)))
  show wpAny _ _ (Builtin.Tuple.tupleItemsOf (.ref t) >>= _) _ _ s
  refine wpAny_bind (tupleItemsOf_ ht ?_)
  refine wpAny_bind (wpAny_typeOf hTs ?_)
  rw [if_pos (by decide)]
  refine wpAny_bind (zcY hs pl pu ?_)
  have hno : ¬ ((((sIx items.size 0 lo : Nat) : Int) == 0 && (1 : Int) == 1 && (sIx items.size items.size hi - sIx items.size 0 lo) == items.size) = true):=by
    intro q
    rw [ybt,ybt] at q
    have q1 : ((sIx items.size 0 lo : Nat) : Int) = 0:=eq_of_beq q.1.1
    have q2 : sIx items.size items.size hi - sIx items.size 0 lo = items.size:=eq_of_beq q.2
    exact hw ⟨by omega,by omega⟩
  show wpAny _ _ (if (((sIx items.size 0 lo : Nat) : Int) == 0 && (1 : Int) == 1 && (sIx items.size items.size hi - sIx items.size 0 lo) == items.size) = true then _ else _) _ _ s
  rw [if_neg hno,znv]
  first
    | exact wpAny_bind (m:=Builtin.Tuple.tupleExact _) (wpAny_newObj_type (wpAny_pure ⟨_,rfl,wpAny_pure h⟩) htake)
    | exact wpAny_bind (m:=Builtin.Tuple.tupleExact _) (wpAny_newObj_type (wpAny_bind (wpAny_pure (wpAny_pure ⟨_,rfl,wpAny_pure h⟩))) htake)
    | exact wpAny_bind (wpAny_bind (m:=Builtin.Tuple.tupleExact _) (wpAny_newObj_type (wpAny_pure (wpAny_pure ⟨_,rfl,wpAny_pure h⟩)) htake))
    | exact wpAny_bind (wpAny_bind (m:=Builtin.Tuple.tupleExact _) (wpAny_newObj_type (wpAny_pure ⟨_,rfl,wpAny_pure h⟩) htake))
end
end HT
namespace L2
open PySem PySem.Spec PyProof.Rows
abbrev TO:=St→Hp→(Option Int→Hp→Prop)→Prop
def PO (X : Cx) (e : Option Expr) (t : TO) : Prop:=
  ∀ (pins : List (Addr×Obj)) (s : Shared) (σ : St) (H : Hp) (Q : Option Int→Hp→Prop),Inv X pins σ H s→t σ H Q→
    wpAny (model X.prog X.w) X.A (evalPart e X.env) (fun u s'=>∃ o H',Inv X pins σ H' s'∧IsPart u o∧Q o H') X.xe s
def zis : TO:=fun _ H Q=>Q none H
def zrr (t : TE) : TO:=fun σ H Q=>t σ H fun x H1=>∃ i,x = .int i∧Q (some i) H1
section
variable {X : Cx} {e : Expr} {te : TE} {lo hi : Option Expr} {tl th : TO} {pos p2 : Pos}
theorem zeF : PO X none zis:=by
  intro pins s σ H Q I h
  rw [evalPart_none]
  exact wpAny_pure ⟨none,H,I,.none,h⟩
theorem zcv (h : PE X e te) : PO X (some e) (zrr te):=by
  intro pins s σ H Q I hw
  rw [evalPart_some]
  refine thn (h pins s σ H _ I hw) fun u s1 ⟨x,H1,I1,r1,q1⟩=>?_
  obtain ⟨i,rfl,q⟩:=q1
  obtain ⟨t,rfl⟩:=r1
  exact ⟨some i,H1,I1,.int i t,q⟩
def SlR (X : Cx) (r : V→Option Int→Option Int→Hp→VK→Prop) : Prop:=
  ∀ (pins : List (Addr×Obj)) (s : Shared) (σ : St) (H : Hp) (x : V) (v vl vu : Value) (lo hi : Option Int) (sl : Addr) (Q : VK),Inv X pins σ H s→RelV x v→s.heap.IsSliceOf sl vl vu .none→IsPart vl lo→IsPart vu hi→r x lo hi H Q→
    ∃ T id,typeLookup (.type T) "__getitem__" = pure (some (.builtin id))∧s.TypeIs v T∧wpAny (model X.prog X.w) X.A (getItem v (.ref sl)) (EP X pins σ Q) X.xe s
def tSl (r : V→Option Int→Option Int→Hp→VK→Prop) (te : TE) (tl th : TO) : TE:=fun σ H Q=>te σ H fun x H1=>tl σ H1 fun l H2=>th σ H2 fun u H3=>r x l u H3 Q
theorem zcq {r : V→Option Int→Option Int→Hp→VK→Prop} (hr : SlR X r) (he : PE X e te) (hl : PO X lo tl) (hu : PO X hi th) : PE X (.Subscript e (.Slice lo hi none p2) pos) (tSl r te tl th):=by
  intro pins s σ H Q I h
  refine Subscript_ (thn (he pins s σ H _ I h) fun v s1 ⟨x,H1,I1,r1,q1⟩=>?_)
  refine wpAny_Slice (thn (hl pins s1 σ H1 _ I1 q1) fun vl s2 ⟨l,H2,I2,pl,q2⟩=>thn (hu pins s2 σ H2 _ I2 q2) fun vu s3 ⟨u,H3,I3,pu,q3⟩=>?_)
  rw [evalPart_none]
  refine wpAny_pure ?_
  have I4 : Inv X pins σ H3 { s3 with heap:=s3.heap.push { cls:=.type "slice",data:=.fields #[vl,vu,.none] } }:=I3.kept (t':=s3.toks) fun b ob q=>yai _ q
  obtain ⟨T,id,hT,ht,hg⟩:=hr pins { s3 with heap:=s3.heap.push { cls:=.type "slice",data:=.fields #[vl,vu,.none] } } σ H3 x v vl vu l u s3.heap.objs.size Q I4 r1 (Heap.IsSliceOf.new ..) pl pu q3
  show wpAny (model X.prog X.w) X.A (subscriptTail e (.Slice lo hi none p2) v (.ref s3.heap.objs.size)) (EP X pins σ Q) X.xe { s3 with heap:=s3.heap.push { cls:=.type "slice",data:=.fields #[vl,vu,.none] } }
  exact tail_any (ops:=[.ref s3.heap.objs.size,v]) ht hT hg (by with_unfolding_all rfl)
def cutV (xs : List V) (lo hi : Option Int) : List V:=(xs.drop (HT.sIx xs.length 0 lo)).take (HT.sIx xs.length xs.length hi - HT.sIx xs.length 0 lo)
theorem zf2 (xs : List V) (lo hi : Option Int) : (cutV xs lo hi).length≤xs.length:=by
  unfold cutV
  rw [yap,yaL]
  omega
def rSlT (K : Frag) : V→Option Int→Option Int→Hp→VK→Prop:=fun x lo hi H Q=>∃ a xs,x = .ref a∧SqT K H a xs∧
  ¬ (HT.sIx xs.length 0 lo = 0∧HT.sIx xs.length xs.length hi = xs.length)∧∀ p,H p = none→Q (.ref p) (upd H p (.tup (cutV xs lo hi)))
theorem zqt : SlR X (rSlT X.K):=by
  intro pins s σ H x v vl vu lo hi sl Q I rx hs pl pu h
  obtain ⟨a,xs,rfl,hx,hw,q⟩:=h
  cases rx
  obtain ⟨its,r,ht,hz⟩:=I.tuple hx
  have hlen : its.toArray.size = xs.length:=by rw [yat]; exact r.length.symm
  refine ⟨"tuple",_,PyProof.Rows.slot_tuple_getitem.lookup,ht.typeIs,?_⟩
  refine HT.getItem_tuple_cut ht hs pl pu (by rw [hlen]; exact hw) ?_ (by rw [hlen]; exact hz)
  rw [hlen]
  refine ⟨.ref s.heap.objs.size,_,I.laid (t':=s.toks) (o:=.tup (cutV xs lo hi)) (fun b ob q=>yai _ q) (yaa _) ?_,rfl,q _ (I.hok.fresh (yaa _))⟩
  exact ⟨yay (zf2 xs lo hi) hz,_,(r.drop (HT.sIx xs.length 0 lo)).take (HT.sIx xs.length xs.length hi - HT.sIx xs.length 0 lo),IsTup.new _ _⟩
def zpe (K : Frag) : R2:=fun x y H Q=>∃ a b xs ys,x = .ref a∧y = .ref b∧SqT K H a xs∧SqT K H b ys∧xs≠[]∧xs.length + ys.length≤sizeLine∧
  (ys = []→Q (.ref a) H)∧(ys≠[]→∀ p,H p = none→Q (.ref p) (upd H p (.tup (xs ++ ys))))
theorem Vals.nil_iff {xs : List V} {us : List Value} (r : Vals xs us) : us = []↔xs = []:=by
  cases r with
  | nil=>simp
  | cons _ _=>simp
theorem zhg : OpR X (binaryOp .Add) (zpe X.K):=by
  intro pins s σ H x y v u Q I rx ry h
  obtain ⟨a,b,xs,ys,rfl,rfl,ha,hb,hx,hz,q1,q2⟩:=h
  cases rx
  cases ry
  obtain ⟨its,r1,p1,_⟩:=I.tuple ha
  obtain ⟨its2,r2,p2,_⟩:=I.tuple hb
  refine HT.cat_tup p1 p2 (fun z=>hx (r1.nil_iff.mp z)) (fun z=>⟨.ref a,H,I,rfl,q1 (r2.nil_iff.mp z)⟩) (fun z=>?_) (by rw [← r1.length,← r2.length]; exact hz)
  refine ⟨.ref s.heap.objs.size,_,I.laid (t':=s.toks) (o:=.tup (xs ++ ys)) (fun b ob q=>yai _ q) (yaa _) ?_,rfl,q2 (fun w=>z (r2.nil_iff.mpr w)) _ (I.hok.fresh (yaa _))⟩
  exact ⟨by rw [yam]; exact hz,_,r1.append r2,IsTup.new _ _⟩
end
end L2
namespace L2
open PySem PySem.Spec PyProof.Rows
def ixN (n : Nat) (i : Int) : Option Nat:=if 0≤i then (if i < n then some i.toNat else none) else if -(n : Int)≤i then some (i + n).toNat else none
def atI {α : Type} (xs : List α) (i : Int) : Option α:=(ixN xs.length i).bind fun j=>xs[j]?
theorem zmv {n : Nat} {i : Int} {j : Nat} (h : ixN n i = some j) : seqIndex? i n = some j∧j < n∧-(n : Int)≤i∧i < n:=by
  unfold ixN at h
  by_cases h0 : 0≤i
  · rw [if_pos h0] at h
    by_cases h1 : i < n
    · rw [if_pos h1] at h
      have e : i.toNat = j:=yad h
      exact ⟨by rw [seqIndex_of h0 h1,e],by omega,by omega,h1⟩
    · rw [if_neg h1] at h; cases h
  · rw [if_neg h0] at h
    by_cases h1 : -(n : Int)≤i
    · rw [if_pos h1] at h
      have e : (i + n).toNat = j:=yad h
      exact ⟨by rw [seqIndex_neg (by omega) h1,e],by omega,h1,by omega⟩
    · rw [if_neg h1] at h; cases h
theorem zm9 {α : Type} {xs : List α} {i : Int} {v : α} (h : atI xs i = some v) : ∃ j,seqIndex? i xs.length = some j∧xs[j]? = some v∧j < xs.length∧-(xs.length : Int)≤i∧i < xs.length:=by
  unfold atI at h
  cases e : ixN xs.length i with
  | none=>rw [e] at h; cases h
  | some j=>
    rw [e] at h
    obtain ⟨h1,h2,h3,h4⟩:=zmv e
    exact ⟨j,h1,h,h2,h3,h4⟩
theorem zeQ {α : Type} {xs : List α} {j : Nat} {v : α} (h : xs[j]? = some v) : atI xs (j : Int) = some v:=by
  have hj : j < xs.length:=(yan.mp h).1
  have e : ixN xs.length (j : Int) = some j:=by
    unfold ixN
    rw [if_pos (by omega),if_pos (by omega)]; simp
  unfold atI; rw [e]; exact h
def zp9 (b : Expr) : Prop:=∀ o i,subscripted b false o i = operate [o,i] (getItem o i)
def IxR (X : Cx) (r : R2) : Prop:=
  ∀ (value slice : Expr) (pins : List (Addr×Obj)) (s : Shared) (σ : St) (H : Hp) (x y : V) (v u : Value) (Q : VK),Inv X pins σ H s→RelV x v→RelV y u→r x y H Q→
    subscripted slice false v u = operate [v,u] (getItem v u)→wpAny (model X.prog X.w) X.A (subscriptTail value slice v u) (EP X pins σ Q) X.xe s
def MtR (X : Cx) (id : String) (r : V→List V→Hp→VK→Prop) : Prop:=
  ∀ (pins : List (Addr×Obj)) (s : Shared) (σ : St) (H : Hp) (x : V) (xs : List V) (v : Value) (us : List Value) (Q : VK),Inv X pins σ H s→RelV x v→Vals xs us→r x xs H Q→
    wpAny (model X.prog X.w) X.A (call (.builtin id) (v :: us)) (EP X pins σ Q) X.xe s
section
variable {X : Cx} {a b : Expr} {ta tb : TE} {pos : Pos}
theorem za0 {r : R2} (hr : IxR X r) (ha : PE X a ta) (hb : PE X b tb) (hs : zp9 b) : PE X (.Subscript a b pos) (tOp r ta tb):=by
  intro pins s σ H Q I h
  exact Subscript_ (binT ha hb I h fun v u s2 x y H2 I2 rx ry q=>hr a b pins s2 σ H2 x y v u Q I2 rx ry q (hs _ _))
def rIxL (K : Frag) : R2:=fun x y H Q=>∃ p xs i v,x = .ref p∧y = .int i∧SqL K H p xs∧atI xs i = some v∧Q v H
def rIxT (K : Frag) : R2:=fun x y H Q=>∃ p xs i v,x = .ref p∧y = .int i∧SqT K H p xs∧atI xs i = some v∧Q v H
theorem zbA : IxR X (rIxL X.K):=by
  intro value slice pins s σ H x y v u Q I rx ry h hs
  obtain ⟨p,xs,i,z,rfl,rfl,hq,he,q⟩:=h
  cases rx
  obtain ⟨t,rfl⟩:=ry
  obtain ⟨its,r,pl,hz⟩:=I.list hq
  obtain ⟨j,h1,h2,h3,h4,h5⟩:=zm9 he
  obtain ⟨w,ew,rw'⟩:=r.get h2
  have hl:=r.length
  have hn:=zjW
  have fin : EP X pins σ Q w s:=⟨z,H,I,rw',q⟩
  by_cases h0 : 0≤i
  · have hj : i.toNat = j:=by
      rw [seqIndex_of h0 h5] at h1
      exact yad h1
    exact item_listR pl.isList h0 (by omega) (by rw [hj]; simpa using ew) fin hs
  · have hj : (i + (its.toArray.size : Int)).toNat = j:=by
      rw [seqIndex_neg (by omega) h4] at h1
      rw [yat,← hl]
      exact yad h1
    exact subscriptTail_builtinR (x:=w) pl.isList.typeIs slot_list_getitem.lookup
      (wpAny_getItem_list_neg (Q:=fun r s'=>r = w∧EP X pins σ Q r s') pl.isList (by omega) (by rw [yat] <;> omega) (by omega) (by rw [hj]; simpa using ew) ⟨rfl,fin⟩) hs
theorem za8 : IxR X (rIxT X.K):=by
  intro value slice pins s σ H x y v u Q I rx ry h hs
  obtain ⟨p,xs,i,z,rfl,rfl,hq,he,q⟩:=h
  cases rx
  obtain ⟨t,rfl⟩:=ry
  obtain ⟨its,r,pl,hz⟩:=I.tuple hq
  obtain ⟨j,h1,h2,h3,h4,h5⟩:=zm9 he
  obtain ⟨w,ew,rw'⟩:=r.get h2
  have hl:=r.length
  have hn:=zjW
  have fin : EP X pins σ Q w s:=⟨z,H,I,rw',q⟩
  exact subscriptTail_builtinR (x:=w) pl.typeIs slot_tuple_getitem.lookup
    (getItem_tuple (j:=j) (Q:=fun r s'=>r = w∧EP X pins σ Q r s') pl (by omega) (by omega) (by rw [yat,← hl]; exact h1) (by simpa using ew) ⟨rfl,fin⟩) hs
theorem zkI (its : List Value) (n j : Nat) (u : Value) : Obj.mapSeq (·.setIfInBounds j u) { cls:=.type "list",data:=.seq its.toArray n } = { cls:=.type "list",data:=.seq (its.set j u).toArray n }:=by
  simp [Obj.mapSeq]
theorem Inv.lst {pins : List (Addr×Obj)} {σ : St} {H : Hp} {s : Shared} {p : Addr} {xs : List V} (I : Inv X pins σ H s) (h : H p = some (.lst xs)) :
    ∃ (its : List Value) (n : Nat),Vals xs its∧s.heap.get? p = some { cls:=.type "list",data:=.seq its.toArray n }∧xs.length≤sizeLine:=by
  obtain ⟨z,its,n,r,e⟩:=I.hok p _ h
  exact ⟨its,n,r,e,z⟩
theorem Inv.lstUpd {pins : List (Addr×Obj)} {σ : St} {H : Hp} {s : Shared} {p : Addr} {xs ys : List V} {its its' : List Value} {n n' : Nat} {f : Obj→Obj} (I : Inv X pins σ H s) (h : H p = some (.lst xs))
    (ho : s.heap.get? p = some { cls:=.type "list",data:=.seq its.toArray n }) (hf : f { cls:=.type "list",data:=.seq its.toArray n } = { cls:=.type "list",data:=.seq its'.toArray n' }) (r : Vals ys its') (hz : ys.length≤sizeLine) (t : Nat) :
    Inv X pins σ (upd H p (.lst ys)) { s with heap:=s.heap.update p f,toks:=t }:=by
  have e : (s.heap.update p f).get? p = some { cls:=.type "list",data:=.seq its'.toArray n' }:=by
    rw [Heap.get?_update_self f ho (by rw [hf] <;> rfl),hf]
  refine I.write (x:=p) (e:=p) (by rw [h]; trivial) (.inl rfl) (fun b u hb q=>(ybn _ _ (Ne.symm hb)).trans q) ⟨_,e⟩ ?_
  exact ⟨hz,its',n',r,e⟩
def zrB : V→V→V→Hp→(Hp→Prop)→Prop:=fun o i v H Q=>∃ p xs k j,o = .ref p∧i = .int k∧H p = some (.lst xs)∧ixN xs.length k = some j∧Q (upd H p (.lst (xs.set j v)))
theorem zdZ : PSet X zrB:=by
  intro pins s σ H o i v ov iv u Q I ro ri rv h
  obtain ⟨p,xs,k,j,rfl,rfl,hp,hj,q⟩:=h
  cases ro
  obtain ⟨t,rfl⟩:=ri
  obtain ⟨its,n,r,ho,hz⟩:=I.lst hp
  obtain ⟨h1,h2,h3,h4⟩:=zmv hj
  have hl:=r.length
  have hn:=zjW
  have I' : Inv X pins σ (upd H p (.lst (xs.set j v))) { s with heap:=s.heap.update p (Obj.mapSeq (·.setIfInBounds j u)) }:=
    I.lstUpd hp ho (zkI its n j u) (r.set rv j) (by rw [ybu]; exact hz) s.toks
  by_cases h0 : 0≤k
  · have hk : k.toNat = j:=by
      rw [seqIndex_of h0 h4] at h1
      exact yad h1
    exact PySem.W.ki_setAt ho h0 (by omega) (by rw [yat,← hl]; exact h4) (by rw [hk]; exact ⟨_,I',q⟩)
  · have hk : (k + (its.toArray.size : Int)).toNat = j:=by
      rw [seqIndex_neg (by omega) h3] at h1
      rw [yat,← hl]
      exact yad h1
    exact PySem.W.ki_setBack ho (by omega) (by rw [yat,← hl]; exact h3) (by omega) (by rw [hk]; exact ⟨_,I',q⟩)
theorem zhR (lo hi : Option Int) (n : Nat) : (sliceBounds lo hi none n).1 = ((HT.sIx n 0 lo : Nat) : Int)∧(sliceBounds lo hi none n).2.1 = ((HT.sIx n n hi : Nat) : Int)∧(sliceBounds lo hi none n).2.2 = 1:=by
  refine ⟨?_,?_,rfl⟩
  · cases lo with
    | none=>simp [sliceBounds,HT.sIx]
    | some i=>
      simp only [sliceBounds,HT.sIx,Option.getD_none,show (1 : Int) > 0 by decide,if_true]
      by_cases h : i < 0
      · simp only [h,if_true] <;> omega
      · simp only [h,if_false] <;> omega
  · cases hi with
    | none=>simp [sliceBounds,HT.sIx]
    | some i=>
      simp only [sliceBounds,HT.sIx,Option.getD_none,show (1 : Int) > 0 by decide,if_true]
      by_cases h : i < 0
      · simp only [h,if_true] <;> omega
      · simp only [h,if_false] <;> omega
theorem zgX (its : List Value) (lo hi : Option Int) : slicePick its.toArray lo hi none = ((its.drop (HT.sIx its.length 0 lo)).take (HT.sIx its.length its.length hi - HT.sIx its.length 0 lo)).toArray:=by
  obtain ⟨h1,h2,h3⟩:=zhR lo hi its.toArray.size
  unfold slicePick
  rw [h1,h2,h3]
  simp only [sliceRange_one,pick_run,yat] <;> rfl
def rSlL (K : Frag) : V→Option Int→Option Int→Hp→VK→Prop:=fun x lo hi H Q=>∃ a xs,x = .ref a∧SqL K H a xs∧∀ p,H p = none→Q (.ref p) (upd H p (.lst (cutV xs lo hi)))
theorem zlF : SlR X (rSlL X.K):=by
  intro pins s σ H x v vl vu lo hi sl Q I rx hs pl pu h
  obtain ⟨a,xs,rfl,hx,q⟩:=h
  cases rx
  obtain ⟨its,r,ht,hz⟩:=I.list hx
  have hlen:=r.length
  refine ⟨"list",_,slot_list_getitem.lookup,ht.isList.typeIs,?_⟩
  refine wpAny_getItem_list_slice ht.isList hs pl pu .none (by simp) ?_ (by rw [yat] <;> omega)
  rw [zgX,← hlen]
  refine ⟨.ref s.heap.objs.size,_,I.laid (t':=s.toks) (o:=.lst (cutV xs lo hi)) (fun b ob q=>yai _ q) (yaa _) ?_,rfl,q _ (I.hok.fresh (yaa _))⟩
  exact ⟨yay (zf2 xs lo hi) hz,_,0,(r.drop (HT.sIx xs.length 0 lo)).take (HT.sIx xs.length xs.length hi - HT.sIx xs.length 0 lo),yaz _ rfl⟩
def zeJ : V→Bool
  | .non=>true
  | .bl _=>true
  | .int _=>true
  | .str _=>true
  | _=>false
def eqV : V→V→Bool
  | .non,.non=>true
  | .bl a,.bl b=>a == b
  | .bl a,.int b=>(if a then 1 else 0) == b
  | .int a,.bl b=>a == (if b then 1 else 0)
  | .int a,.int b=>a == b
  | .str a,.str b=>a == b
  | _,_=>false
theorem zrm {A : Around} {s : Shared} {y x : V} {u v : Value} (ry : RelV y u) (rx : RelV x v) (fy : zeJ y = true) (fx : zeJ x = true) : SeqAt.EqAt A s u v (eqV y x):=by
  cases y with
  | non=>
    cases ry
    cases x with
    | non=>cases rx; exact SeqAt.EqAt.same _
    | bl b=>cases rx; exact SeqAt.EqAt.none_bool b
    | int b=>obtain ⟨t,rfl⟩:=rx; exact SeqAt.EqAt.none_int b t
    | str b=>obtain ⟨t,rfl⟩:=rx; exact SeqAt.EqAt.none_str b t
    | _=>exact absurd (show false = true from fx) yax
  | bl a=>
    cases ry
    cases x with
    | non=>cases rx; exact SeqAt.EqAt.bool_none a
    | bl b=>cases rx; exact SeqAt.EqAt.bool_bool a b
    | int b=>obtain ⟨t,rfl⟩:=rx; exact SeqAt.EqAt.bool_int a b t
    | str b=>obtain ⟨t,rfl⟩:=rx; exact SeqAt.EqAt.bool_str a b t
    | _=>exact absurd (show false = true from fx) yax
  | int a=>
    obtain ⟨t',rfl⟩:=ry
    cases x with
    | non=>cases rx; exact SeqAt.EqAt.int_none a t'
    | bl b=>cases rx; exact SeqAt.EqAt.int_bool a t' b
    | int b=>obtain ⟨t,rfl⟩:=rx; exact SeqAt.EqAt.int_int a t' b t
    | str b=>obtain ⟨t,rfl⟩:=rx; exact SeqAt.EqAt.int_str a t' b t
    | _=>exact absurd (show false = true from fx) yax
  | str a=>
    obtain ⟨t',rfl⟩:=ry
    cases x with
    | non=>cases rx; exact SeqAt.EqAt.str_none a t'
    | bl b=>cases rx; exact SeqAt.EqAt.str_bool a t' b
    | int b=>obtain ⟨t,rfl⟩:=rx; exact SeqAt.EqAt.str_int a t' b t
    | str b=>obtain ⟨t,rfl⟩:=rx; exact SeqAt.EqAt.str_str a t' b t
    | _=>exact absurd (show false = true from fx) yax
  | _=>exact absurd (show false = true from fy) yax
def eqU (x : V) (u : Value) : Bool:=match u with
  | .none=>eqV .non x
  | .bool b=>eqV (.bl b) x
  | .int i _=>eqV (.int i) x
  | .str z _=>eqV (.str z) x
  | _=>false
theorem zoR {x y : V} {u : Value} (r : RelV y u) (f : zeJ y = true) : eqU x u = eqV y x:=by
  cases y with
  | non=>cases r; rfl
  | bl b=>cases r; rfl
  | int i=>obtain ⟨t,rfl⟩:=r; rfl
  | str z=>obtain ⟨t,rfl⟩:=r; rfl
  | _=>exact absurd (show false = true from f) yax
theorem zgc {x : V} : ∀ {xs : List V} {us : List Value},Vals xs us→xs.all zeJ = true→us.any (eqU x) = xs.any fun y=>eqV y x
  | _,_,.nil,_=>rfl
  | y :: xs,u :: us,.cons r t,f=>by
    rw [ybK,ybt] at f
    rw [ybc,ybc,zoR r f.1,zgc t f.2]
theorem zel {A : Around} {s : Shared} {x : V} {v : Value} (rx : RelV x v) (fx : zeJ x = true) : ∀ {xs : List V} {us : List Value},Vals xs us→xs.all zeJ = true→∀ u∈us,SeqAt.EqAt A s u v (eqU x u)
  | _,_,.nil,_=>fun u hu=>by cases hu
  | y :: xs,u :: us,.cons r t,f=>fun u' hu=>by
    rw [ybK,ybt] at f
    rcases yak.mp hu with rfl | hu
    · rw [zoR r f.1]; exact zrm r rx f.1 fx
    · exact zel rx fx t f.2 u' hu
def inV (x : V) (xs : List V) : Bool:=xs.any fun y=>eqV y x
def rIn (K : Frag) (neg : Bool) : R2:=fun x y H Q=>∃ p xs,y = .ref p∧(SqL K H p xs∨SqT K H p xs)∧zeJ x = true∧xs.all zeJ = true∧Q (.bl (if neg then !inV x xs else inV x xs)) H
theorem zhZ : OpR X (compareOp .In) (rIn X.K false):=by
  intro pins s σ H x y v u Q I rx ry h
  obtain ⟨p,xs,rfl,hq,fx,fs,q⟩:=h
  cases ry
  rcases hq with hq | hq
  · obtain ⟨its,r,pl,hz⟩:=I.list hq
    refine SeqAt.in_listAt (eqU x) pl.isList (fun w hw=>zel rx fx r fs w (by simpa using hw)) ⟨.bl _,H,I,rfl,?_⟩
    rw [show its.toArray.any (eqU x) = its.any (eqU x) by simp,zgc r fs]
    exact q
  · obtain ⟨its,r,pl,hz⟩:=I.tuple hq
    refine SeqAt.in_tupleAt (eqU x) pl (fun w hw=>zel rx fx r fs w (by simpa using hw)) ⟨.bl _,H,I,rfl,?_⟩
    rw [show its.toArray.any (eqU x) = its.any (eqU x) by simp,zgc r fs]
    exact q
theorem zcs : OpR X (compareOp .NotIn) (rIn X.K true):=by
  intro pins s σ H x y v u Q I rx ry h
  obtain ⟨p,xs,rfl,hq,fx,fs,q⟩:=h
  cases ry
  rcases hq with hq | hq
  · obtain ⟨its,r,pl,hz⟩:=I.list hq
    refine SeqAt.notIn_listAt (eqU x) pl.isList (fun w hw=>zel rx fx r fs w (by simpa using hw)) ⟨.bl _,H,I,rfl,?_⟩
    rw [show its.toArray.any (eqU x) = its.any (eqU x) by simp,zgc r fs]
    exact q
  · obtain ⟨its,r,pl,hz⟩:=I.tuple hq
    refine SeqAt.notIn_tupleAt (eqU x) pl (fun w hw=>zel rx fx r fs w (by simpa using hw)) ⟨.bl _,H,I,rfl,?_⟩
    rw [show its.toArray.any (eqU x) = its.any (eqU x) by simp,zgc r fs]
    exact q
theorem zao : zdl X (.builtin "len") (fun xs H Q=>∃ p ys,xs = [.ref p]∧(SqL X.K H p ys∨SqT X.K H p ys)∧Q (.int ys.length) H):=by
  intro pins s σ H xs us Q I r h
  obtain ⟨p,ys,rfl,hq,q⟩:=h
  obtain ⟨u,rfl,rx⟩:=zfy r
  cases rx
  have hn:=zjW
  rcases hq with hq | hq
  · obtain ⟨its,r',pl,hz⟩:=I.list hq
    have hlen:=r'.length
    exact Calls.call_len_list pl.isList (by simp only [yat] <;> omega) ⟨.int ys.length,H,I.tok _,⟨s.toks + 1,by rw [yat,hlen]⟩,q⟩
  · obtain ⟨its,r',pl,hz⟩:=I.tuple hq
    have hlen:=r'.length
    exact len_tuple pl (by simp only [yat] <;> omega) ⟨.int ys.length,H,I.tok _,⟨s.toks + 1,by rw [yat,hlen]⟩,q⟩
theorem zdi : zdl X (.type "list") (fun xs H Q=>∃ p ys,xs = [.ref p]∧(SqL X.K H p ys∨SqT X.K H p ys)∧∀ l,H l = none→Q (.ref l) (upd H l (.lst ys))):=by
  intro pins s σ H xs us Q I r h
  obtain ⟨p,ys,rfl,hq,q⟩:=h
  obtain ⟨u,rfl,rx⟩:=zfy r
  cases rx
  have fin : ∀ (its : List Value),Vals ys its→ys.length≤sizeLine→∀ (h' : Heap) (c' : Nat),(∀ b o',s.heap.get? b = some o'→h'.get? b = some o')→
      h'.get? s.heap.objs.size = some { cls:=.type "list",dict:=none,data:=.seq its.toArray c',slots:=#[] }→EP X pins σ Q (.ref s.heap.objs.size) { s with heap:=h' }:=fun its r' hz h' c' kp e=>
    ⟨.ref s.heap.objs.size,_,I.laid (t':=s.toks) kp (yaa _) (show zbe X.prog X.w _ h' _ (.lst ys) from ⟨hz,its,c',r',e⟩),rfl,q _ (I.hok.fresh (yaa _))⟩
  rcases hq with hq | hq
  · obtain ⟨its,r',pl,hz⟩:=I.list hq
    have hlen:=r'.length
    obtain ⟨o,ho,hc,n,hd⟩:=pl.isList
    exact call_list_seq p (.inl rfl) ho hc hd (fun h' c' kp e=>fin its r' hz h' c' kp e) (by simp only [yat] <;> omega)
  · obtain ⟨its,r',pl,hz⟩:=I.tuple hq
    have hlen:=r'.length
    obtain ⟨o,ho,hc,n,hd⟩:=pl
    exact call_list_seq p (.inr rfl) ho hc hd (fun h' c' kp e=>fin its r' hz h' c' kp e) (by simp only [yat] <;> omega)
theorem zaJ : zdl X (.type "tuple") (fun xs H Q=>∃ p ys,xs = [.ref p]∧((SqL X.K H p ys∧∀ l,H l = none→Q (.ref l) (upd H l (.tup ys)))∨(SqT X.K H p ys∧Q (.ref p) H))):=by
  intro pins s σ H xs us Q I r h
  obtain ⟨p,ys,rfl,h⟩:=h
  obtain ⟨u,rfl,rx⟩:=zfy r
  cases rx
  rcases h with ⟨hq,q⟩ | ⟨hq,q⟩
  · obtain ⟨its,r',pl,hz⟩:=I.list hq
    have hlen:=r'.length
    refine call_tuple_list pl.isList (fun h' kp=>?_) (by simp only [yat] <;> omega)
    have I1 : Inv X pins σ H { s with heap:=h' }:=I.kept (t':=s.toks) kp
    have I2 : Inv X pins σ (upd H h'.objs.size (.tup ys)) { s with heap:=h'.push { cls:=.type "tuple",data:=.seq its.toArray } }:=
      I1.laid (t':=s.toks) (fun b o e=>yai _ e) (yaa _) (show zbe X.prog X.w _ _ _ (.tup ys) from ⟨hz,its,r',IsTup.new _ _⟩)
    exact ⟨.ref h'.objs.size,_,I2,rfl,q _ (I1.hok.fresh (yaa _))⟩
  · obtain ⟨its,r',pl,hz⟩:=I.tuple hq
    exact call_tuple_same pl ⟨.ref p,H,I,rfl,q⟩
def tyV (K : Frag) (T : String) (x : V) (H : Hp) : Prop:=match x with
  | .str _=>T = "str"
  | .int _=>T = "int"
  | .ref p=>(T = "list"∧∃ xs,SqL K H p xs)∨(T = "tuple"∧∃ o,K.lookup p = some o∧o.cls = .type "tuple"∧o.dict = none)∨
      (T = "dict"∧((∃ kvs,H p = some (.dK kvs))∨∃ kvs,H p = some (.dT kvs)))∨(T = "set"∧∃ S n,H p = some (.set S n))
  | _=>False
theorem zoz {pins : List (Addr×Obj)} {σ : St} {H : Hp} {s : Shared} {T : String} {x : V} {v : Value} (I : Inv X pins σ H s) (r : RelV x v) (ty : tyV X.K T x H) :
    s.TypeIs v T∧∀ a,v = .ref a→∃ ob,s.heap.get? a = some ob∧ob.dict = none:=by
  cases x with
  | str z=>
    obtain ⟨t,rfl⟩:=r
    cases (show T = "str" from ty)
    exact ⟨typeIs_str s z t,fun _ e=>nomatch e⟩
  | int i=>
    obtain ⟨t,rfl⟩:=r
    cases (show T = "int" from ty)
    exact ⟨typeIs_int s i t,fun _ e=>nomatch e⟩
  | ref p=>
    cases r
    rcases ty with ⟨rfl,xs,hq⟩ | ⟨rfl,o,hk,hc,hd⟩ | ⟨rfl,hk⟩ | ⟨rfl,S,n,hk⟩
    · obtain ⟨its,_,pl,_⟩:=I.list hq
      refine ⟨pl.isList.typeIs,fun a e=>?_⟩
      cases e
      obtain ⟨o,n,e,c,hd,_⟩:=pl
      exact ⟨o,e,hd⟩
    · refine ⟨⟨o,I.kIn p o hk,hc⟩,fun a e=>?_⟩
      cases e
      exact ⟨o,I.kIn _ o hk,hd⟩
    · have z : ∃ o,s.heap.get? p = some o∧o.ExactDict:=by
        rcases hk with ⟨kvs,hk⟩ | ⟨kvs,hk⟩
        · obtain ⟨_,_,_,_,o,_,_,e,ex,_⟩:=I.hok p _ hk
          exact ⟨o,e,ex⟩
        · obtain ⟨_,_,_,_,o,_,_,e,ex,_⟩:=I.hok p _ hk
          exact ⟨o,e,ex⟩
      obtain ⟨o,e,ex⟩:=z
      refine ⟨⟨o,e,ex.1⟩,fun a e2=>?_⟩
      cases e2
      exact ⟨o,e,ex.2.1⟩
    · obtain ⟨o,_,_,_,e,ex,_⟩:=I.hok p _ hk
      refine ⟨⟨o,e,ex.1⟩,fun a e2=>?_⟩
      cases e2
      exact ⟨o,e,ex.2.1⟩
  | _=>exact False.elim ty
def tBM0 (K : Frag) (T : String) (r : V→List V→Hp→VK→Prop) (to : TE) : TE:=fun σ H Q=>to σ H fun x H1=>tyV K T x H1∧r x [] H1 Q
def tBM (K : Frag) (T : String) (r : V→List V→Hp→VK→Prop) (to : TE) (t : TA) : TE:=fun σ H Q=>to σ H fun x H1=>tyV K T x H1∧t σ H1 fun xs H2=>r x xs H2 Q
variable {o e : Expr} {es : List Expr} {to : TE} {t : TA} {name : Str} {apos cpos : Pos} {T id : String} {r : V→List V→Hp→VK→Prop}
theorem zqG (pa : PlainAttrs T) (slot : Slot T name id) (hty : typeOf (.builtin id) = pure (.type "method_descriptor")) (hm : MtR X id r) (ho : PE X o to)
    (hbase : attributeBase o name X.env (eval o X.env) = eval o X.env:=by rfl) (hline : (apos.endLine == cpos.line) = true:=by rfl) : PE X (.Call (.Attribute o name apos) [] [] cpos) (tBM0 X.K T r to):=by
  intro pins s σ H Q I h
  refine wpAny_Call_method0_late hbase hline (thn (ho pins s σ H _ I h) fun v s1 ⟨x,H1,I1,r1,ty,q1⟩=>?_)
  obtain ⟨h1,h2⟩:=zoz I1 r1 ty
  exact ⟨T,id,pa,slot,hty,h1,h2,Calls.callWith_builtin rfl (PySem.evalArgs_none (hm pins s1 σ H1 x [] v [] Q I1 r1 .nil q1))⟩
theorem zha (pa : PlainAttrs T) (slot : Slot T name id) (hty : typeOf (.builtin id) = pure (.type "method_descriptor")) (hm : MtR X id r) (ho : PE X o to) (ha : PA X (e :: es) t)
    (hbase : attributeBase o name X.env (eval o X.env) = eval o X.env:=by rfl)
    (hfew : ((backTo cpos (starEach (e :: es) X.env)).all (fun x=>!x.1) && (backToKw cpos (keywordEach [] X.env)).all (fun x=>x.1.isSome)
      && decide ((e :: es).length + ([] : List Keyword).length + (if ([] : List Keyword).isEmpty then 0 else 1) < 30)) = true:=by rfl)
    (hline : (apos.endLine == cpos.line) = true:=by rfl) (hs : starEach (e :: es) X.env = (false,eval e X.env) :: starEach es X.env:=by rfl) (hplain : (backTo cpos (starEach es X.env)).any (·.1) = false:=by rfl) :
    PE X (.Call (.Attribute o name apos) (e :: es) [] cpos) (tBM X.K T r to t):=by
  intro pins s σ H Q I h
  refine wpAny_Call_method_late hbase hfew hline rfl (thn (ho pins s σ H _ I h) fun v s1 ⟨x,H1,I1,r1,ty,q1⟩=>?_)
  obtain ⟨h1,h2⟩:=zoz I1 r1 ty
  refine ⟨T,id,pa,slot,hty,h1,h2,?_⟩
  have hA:=ha cpos pins s1 σ H1 _ I1 q1
  rw [hs] at hA ⊢
  refine Calls.callWith_builtin (by show (false || (backTo cpos (starEach es X.env)).any (·.1)) = false; rw [hplain] <;> rfl) (Calls.evalArgs_plain ?_)
  exact thn hA fun us s2 ⟨vs,H2,I2,r2,q2⟩=>hm pins s2 σ H2 x vs v us Q I2 r1 r2 q2
end
end L2
namespace L2
open PySem PySem.Spec PyProof.Rows
def MtM (X : Cx) (id : String) (r : V→List V→Hp→VK→Prop) : Prop:=
  ∀ (pins : List (Addr×Obj)) (s : Shared) (σ : St) (H : Hp) (x : V) (xs : List V) (v : Value) (us : List Value) (Q : VK),Inv X pins σ H s→RelV x v→Vals xs us→r x xs H Q→
    wpAny (model X.prog X.w) X.A (call (.builtin id) (v :: us)) (EP X pins σ Q) X.xe s
theorem Vals.one : ∀ {x : V} {us : List Value},Vals [x] us→∃ u,us = [u]∧RelV x u
  | _,_,.cons r .nil=>⟨_,rfl,r⟩
section
variable {X : Cx} {pins : List (Addr×Obj)} {σ : St} {H : Hp} {s : Shared} {l b : Addr} {xs ys zs : List V}
theorem Inv.lset {its its' : List Value} {n : Nat} {f : Array Value→Array Value} {t' : Nat} (I : Inv X pins σ H s) (hH : H l = some (.lst xs))
    (e : s.heap.get? l = some { cls:=.type "list",data:=.seq its.toArray n }) (hf : f its.toArray = its'.toArray) (hv : Vals ys its') (hz : ys.length≤sizeLine) :
    Inv X pins σ (upd H l (.lst ys)) { s with heap:=s.heap.update l (Obj.mapSeq f),toks:=t' }:=by
  have q:=PySem.IsL.update e f
  rw [hf] at q
  refine I.write (x:=l) (e:=l) (by rw [hH]; exact trivial) (.inl rfl) (fun b' u hb hu=>(ybn s.heap (Obj.mapSeq f) (Ne.symm hb)).trans hu) ⟨_,q⟩ ?_
  exact ⟨hz,its',_,hv,q⟩
theorem Inv.lnew {its : List Value} {t' : Nat} (I : Inv X pins σ H s) (hv : Vals ys its) (hz : ys.length≤sizeLine) :
    Inv X pins σ (upd H s.heap.objs.size (.lst ys)) { s with heap:=s.heap.push { cls:=.type "list",data:=.seq its.toArray },toks:=t' }:=
  I.laid (fun _ _ q=>yai _ q) (yaa _) ⟨hz,its,0,hv,yaz _ rfl⟩
theorem Inv.fresh (I : Inv X pins σ H s) : H s.heap.objs.size = none:=I.hok.fresh (yaa _)
theorem Inv.lstM (I : Inv X pins σ H s) (hH : H l = some (.lst xs)) : xs.length≤sizeLine∧∃ (its : List Value) (n : Nat),Vals xs its∧xs.length = its.length∧s.heap.get? l = some { cls:=.type "list",data:=.seq its.toArray n }:=by
  obtain ⟨z,its,n,r,e⟩:=I.hok l _ hH
  exact ⟨z,its,n,r,r.length,e⟩
theorem znT {n : Nat} (h : n≤sizeLine) : Builtin.List.listTooLong n = false:=by
  unfold Builtin.List.listTooLong
  exact yaf (by omega)
end
section
variable {X : Cx}
def zpg : V→List V→Hp→VK→Prop:=fun x vs H Q=>∃ l xs y,x = .ref l∧vs = [y]∧H l = some (.lst xs)∧xs.length < sizeLine∧Q .non (upd H l (.lst (xs ++ [y])))
theorem zbz : MtM X "list.append" zpg:=by
  intro pins s σ H x vs v us Q I rx rv h
  obtain ⟨l,xs,y,rfl,rfl,hH,hz,q⟩:=h
  cases rx
  obtain ⟨u,rfl,ru⟩:=rv.one
  obtain ⟨z,its,n,r,hl,e⟩:=I.lstM hH
  refine call_meets F.slot_list_append ⟨_,e,rfl⟩ F.entry_list_append (F.args_list_append_2 _ _) (PySem.list_append l its.toArray n u (by rw [yat]; omega)) ⟨e,?_⟩
  refine ⟨.non,_,I.lset (its':=its ++ [u]) hH e (by simp) (r.append (.cons ru .nil)) ?_,rfl,q⟩
  rw [yam,ya5]
  omega
def zpd : V→List V→Hp→VK→Prop:=fun x vs H Q=>∃ l b xs zs,x = .ref l∧vs = [.ref b]∧H l = some (.lst xs)∧H b = some (.lst zs)∧xs.length + zs.length≤sizeLine∧Q .non (upd H l (.lst (xs ++ zs)))
theorem zma : MtM X "list.extend" zpd:=by
  intro pins s σ H x vs v us Q I rx rv h
  obtain ⟨l,b,xs,zs,rfl,rfl,hH,hB,hz,q⟩:=h
  cases rx
  obtain ⟨u,rfl,ru⟩:=rv.one
  cases ru
  obtain ⟨z,its,n,r,hl,e⟩:=I.lstM hH
  obtain ⟨z2,its2,n2,r2,hl2,e2⟩:=I.lstM hB
  have hsz : its.toArray.size + its2.toArray.size≤sizeLine:=by rw [yat,yat]; omega
  have hlong : ¬ (!its.toArray.isEmpty && Builtin.List.listTooLong (its.toArray.size + its2.toArray.size)) = true:=by
    rw [znT hsz,Bool.and_false]
    exact yax
  refine call_meets F.slot_list_extend ⟨_,e,rfl⟩ F.entry_list_extend (F.args_list_extend_2 _ _)
    (AutoSeq1.list_extend_list_list_0 l its.toArray n b its2.toArray n2 hlong (by rw [yat]; omega) (by omega)) ⟨e,e2,?_⟩
  refine ⟨.non,_,I.lset (its':=its ++ its2) hH e (by simp) (r.append r2) ?_,rfl,q⟩
  rw [yam]
  omega
def rCat : R2:=fun x y H Q=>∃ l b xs zs,x = .ref l∧y = .ref b∧H l = some (.lst xs)∧H b = some (.lst zs)∧xs.length + zs.length≤sizeLine∧∀ p,H p = none→Q (.ref p) (upd H p (.lst (xs ++ zs)))
theorem zqL : OpR X (binaryOp .Add) rCat:=by
  intro pins s σ H x y v u Q I rx ry h
  obtain ⟨l,b,xs,zs,rfl,rfl,hH,hB,hz,q⟩:=h
  cases rx
  cases ry
  obtain ⟨z,its,n,r,hl,e⟩:=I.lstM hH
  obtain ⟨z2,its2,n2,r2,hl2,e2⟩:=I.lstM hB
  refine PySem.P.add_list e e2 ?_ (by rw [yat,yat]; omega)
  have ea : its.toArray ++ its2.toArray = (its ++ its2).toArray:=by simp
  rw [ea]
  exact ⟨.ref _,_,I.lnew (t':=s.toks) (r.append r2) (by rw [yam]; omega),rfl,q _ I.fresh⟩
end
end L2
namespace L2
open PySem PySem.Spec PyProof.Rows
section
variable {κ : Type} [DecidableEq κ]
def valV (kvs : List (κ×V)) (k : κ) : Option V:=(kvs.find? fun kv=>decide (kv.1 = k)).map (·.2)
def putK (kvs : List (κ×V)) (k : κ) (v : V) : List (κ×V):=
  if (kvs.any fun kv=>decide (kv.1 = k)) = true then kvs.map (fun kv=>if kv.1 = k then (kv.1,v) else kv) else kvs ++ [(k,v)]
theorem zci {p : κ×V} {r : List (κ×V)} {k : κ} (e : p.1 = k) : valV (p :: r) k = some p.2:=by simp [valV,ybv,e]
theorem zbi {p : κ×V} {r : List (κ×V)} {k : κ} (e : ¬ p.1 = k) : valV (p :: r) k = valV r k:=by simp [valV,ybv,e]
theorem zgQ (k : κ) : ∀ kvs : List (κ×V),(kvs.any fun kv=>decide (kv.1 = k)) = (valV kvs k).isSome
  | []=>rfl
  | p :: r=>by
    rw [ybc]
    by_cases e : p.1 = k
    · simp only [zci e,yag e,Bool.true_or,Option.isSome_some]
    · rw [zbi e,yaf e,Bool.false_or]; exact zgQ k r
theorem zcV (kvs : List (κ×V)) (k : κ) (v : V) : (putK kvs k v).length≤kvs.length + 1:=by
  unfold putK
  split
  · rw [yab]; omega
  · rw [yam,yaI,ybo]; omega
theorem zd6 {kvs : List (κ×V)} {k : κ} (v : V) (h : valV kvs k = none) : putK kvs k v = kvs ++ [(k,v)]:=by
  unfold putK
  rw [zgQ,h]
  exact if_neg (by decide)
theorem RelO.isSome_eq {o : Option V} {u : Option Value} (r : RelO o u) : o.isSome = u.isSome:=by
  cases o with
  | none=>cases u with
    | none=>rfl
    | some _=>exact (show False from r).elim
  | some _=>cases u with
    | none=>exact (show False from r).elim
    | some _=>rfl
theorem KV.val {kvs : List (κ×V)} {vs : List (κ×Value)} (r : KV kvs vs) (k : κ) : RelO (valV kvs k) (valueAt vs k):=by
  unfold KV at r
  induction r with
  | nil=>exact True.intro
  | @cons p q ps qs h t ih=>
    obtain ⟨h1,h2⟩:=h
    by_cases e : p.1 = k
    · have e' : q.1 = k:=h1.symm.trans e
      have b : valueAt (q :: qs) k = some q.2:=by simp [valueAt,ybv,e']
      rw [zci e,b]; exact h2
    · have e' : ¬ q.1 = k:=fun z=>e (h1.trans z)
      have b : valueAt (q :: qs) k = valueAt qs k:=by simp [valueAt,ybv,e']
      rw [zbi e,b]; exact ih
theorem KV.any {kvs : List (κ×V)} {vs : List (κ×Value)} (r : KV kvs vs) (k : κ) : (kvs.any fun kv=>decide (kv.1 = k)) = vs.any fun kv=>decide (kv.1 = k):=by
  unfold KV at r
  induction r with
  | nil=>rfl
  | cons h t ih=>rw [ybc,ybc,ih,h.1]
theorem KV.repl {kvs : List (κ×V)} {vs : List (κ×Value)} (r : KV kvs vs) (k : κ) {y : V} {u : Value} (ry : RelV y u) :
    KV (kvs.map fun kv=>if kv.1 = k then (kv.1,y) else kv) (vs.map fun kv=>if kv.1 = k then (kv.1,u) else kv):=by
  unfold KV at r ⊢
  induction r with
  | nil=>exact .nil
  | @cons p q ps qs h t ih=>
    rw [yao,yao]
    refine .cons ?_ ih
    obtain ⟨h1,h2⟩:=h
    by_cases e : p.1 = k
    · rw [if_pos e,if_pos (h1.symm.trans e)]; exact ⟨h1,ry⟩
    · rw [if_neg e,if_neg (fun z=>e (h1.trans z))]; exact ⟨h1,h2⟩
theorem KV.put {kvs : List (κ×V)} {vs : List (κ×Value)} (r : KV kvs vs) (k : κ) {y : V} {u : Value} (ry : RelV y u) : KV (putK kvs k y) (stored vs k u):=by
  unfold putK stored
  rw [r.any k]
  by_cases e : (vs.any fun kv=>decide (kv.1 = k)) = true
  · rw [if_pos e,if_pos e]; exact r.repl k ry
  · rw [if_neg e,if_neg e]; exact Paired.snoc r ⟨rfl,ry⟩
theorem KV.length {kvs : List (κ×V)} {vs : List (κ×Value)} (r : KV kvs vs) : kvs.length = vs.length:=Paired.length r
end
theorem zmt {P : Program} {w : World} {k : Key} {u : Value} (r : RelV (kV k) u) : (za1 P w).is k u = true:=by
  cases k with
  | inl i=>obtain ⟨t,e⟩:=(show ∃ t,u = Value.int i t from r); subst e; exact ziJ P w i t
  | inr x=>obtain ⟨t,e⟩:=(show ∃ t,u = Value.str x t from r); subst e; exact ziI P w x t
theorem zh5 {P : Program} {w : World} : ∀ {ks : List Key} {us : List Value},Vals (ks.map kV) us→ItemsAre (za1 P w) ks us
  | [],_,r=>by rw [ybL] at r; cases r; exact .nil
  | k :: ks,_,r=>by
    rw [yao] at r
    cases r with
    | cons h t=>exact .cons (zmt h) (zh5 t)
abbrev KT (H : Hp) : List (List Key×V)→List (List Key×Addr×Value)→Prop:=Paired fun p q=>p.1 = q.1∧H q.2.1 = some (.tup (p.1.map kV))∧RelV p.2 q.2.2
theorem KT.val {H : Hp} {kvs : List (List Key×V)} {xs : List (List Key×Addr×Value)} (r : KT H kvs xs) (k : List Key) : RelO (valV kvs k) ((atKey xs k).map (·.2)):=by
  induction r with
  | nil=>exact True.intro
  | @cons p q ps qs h t ih=>
    obtain ⟨h1,_,h2⟩:=h
    by_cases e : p.1 = k
    · have e' : q.1 = k:=h1.symm.trans e
      have b : atKey (q :: qs) k = some q.2:=by simp [atKey,ybv,e']
      rw [zci e,b]; exact h2
    · have e' : ¬ q.1 = k:=fun z=>e (h1.trans z)
      have b : atKey (q :: qs) k = atKey qs k:=by simp [atKey,ybv,e']
      rw [zbi e,b]; exact ih
theorem KT.repl {H : Hp} {kvs : List (List Key×V)} {xs : List (List Key×Addr×Value)} (r : KT H kvs xs) (k : List Key) {y : V} {u : Value} (ry : RelV y u) :
    KT H (kvs.map fun kv=>if kv.1 = k then (kv.1,y) else kv) (xs.map (putAt k u)):=by
  induction r with
  | nil=>exact .nil
  | @cons p q ps qs h t ih=>
    rw [yao,yao]
    refine .cons ?_ ih
    obtain ⟨h1,h2,h3⟩:=h
    unfold putAt
    by_cases e : p.1 = k
    · rw [if_pos e,if_pos (h1.symm.trans e)]; exact ⟨h1,h2,ry⟩
    · rw [if_neg e,if_neg (fun z=>e (h1.trans z))]; exact ⟨h1,h2,h3⟩
theorem KT.put {H : Hp} {kvs : List (List Key×V)} {xs : List (List Key×Addr×Value)} (r : KT H kvs xs) (k : List Key) {b : Addr} {y : V} {u : Value} (hb : H b = some (.tup (k.map kV))) (ry : RelV y u) :
    KT H (putK kvs k y) (storedH xs k b u):=by
  have e : (kvs.any fun kv=>decide (kv.1 = k)) = (atKey xs k).isSome:=by
    rw [zgQ,(r.val k).isSome_eq,Option.isSome_map]
  unfold putK storedH
  rw [e]
  by_cases q : (atKey xs k).isSome = true
  · rw [if_pos q,if_pos q]; exact r.repl k ry
  · rw [if_neg q,if_neg q]; exact Paired.snoc r ⟨rfl,hb,ry⟩
theorem KT.keeps {H H' : Hp} {kvs : List (List Key×V)} {xs : List (List Key×Addr×Value)} (r : KT H kvs xs) (ht : ∀ b ys,H b = some (.tup ys)→H' b = some (.tup ys)) : KT H' kvs xs:=
  Paired.mapP r fun _ _ z=>⟨z.1,ht _ _ z.2.1,z.2.2⟩
section
variable {P : Program} {w : World} {H : Hp} {h : Heap} {a : Addr}
theorem zqv {u : HO} (ok : HOk P w H h) (e : Rd H a u) : zbe P w H h a u:=e.ok ok
theorem zog {kvs : List (Key×V)} (ok : HOk P w H h) (e : Rd H a (.dK kvs)) : kvs.length≤sizeLine∧(a == sysModules) = false∧∃ vs,KV kvs vs∧h.DictOf (za1 P w) a vs:=
  show zbe P w H h a (.dK kvs) from zqv ok e
theorem zp0 {kvs : List (Key×V)} (ok : HOk P w H h) (e : H a = some (.dK kvs)) : kvs.length≤sizeLine∧(a == sysModules) = false∧∃ vs,KV kvs vs∧h.DictOf (za1 P w) a vs:=zog ok (.inl e)
theorem zj1 {ks : List Key} (ok : HOk P w H h) (e : H a = some (.tup (ks.map kV))) : (tupleKind (za1 P w)).is h ks a:=by
  obtain ⟨_,its,r,o,h1,h2,n,h3⟩:=(show zbe P w H h a (.tup (ks.map kV)) from ok a _ e)
  exact ⟨o,its.toArray,n,h1,h2,h3,by simpa using zh5 r⟩
theorem zoe {kvs : List (List Key×V)} (ok : HOk P w H h) (e : Rd H a (.dT kvs)) : kvs.length≤sizeLine∧(a == sysModules) = false∧
    ∃ xs,KT H kvs xs∧h.DictOfH (tupleKind (za1 P w)) a xs:=by
  obtain ⟨z,y,xs,r,o,es,ep,h1,h2,h3,h4,h5⟩:=(show zbe P w H h a (.dT kvs) from zqv ok e)
  refine ⟨z,y,xs,r,o,es,ep,h1,h2,h3,h4,fun x hx=>?_,h5⟩
  have all : ∀ {l : List (List Key×V)} {m : List (List Key×Addr×Value)},KT H l m→∀ x∈m,(tupleKind (za1 P w)).is h x.1 x.2.1:=by
    intro l m q
    induction q with
    | nil=>intro x hx; exact nomatch hx
    | @cons p q ps qs hq t ih=>
      intro x hx
      rcases yak.mp hx with e | hx
      · subst e
        exact zj1 ok (by rw [← hq.1]; exact hq.2.1)
      · exact ih x hx
  exact all r x hx
theorem zrK {kvs : List (List Key×V)} (ok : HOk P w H h) (e : H a = some (.dT kvs)) : kvs.length≤sizeLine∧(a == sysModules) = false∧
    ∃ xs,KT H kvs xs∧h.DictOfH (tupleKind (za1 P w)) a xs:=zoe ok (.inl e)
end
def DGet (H : Hp) (a : Addr) (y : V) (r : Option V) : Prop:=
  (∃ kvs k,Rd H a (.dK kvs)∧y = kV k∧r = valV kvs k)∨∃ kvs k b,Rd H a (.dT kvs)∧y = .ref b∧H b = some (.tup (k.map kV))∧r = valV kvs k
def DPut (H : Hp) (a : Addr) (y v : V) (H' : Hp) : Prop:=
  (∃ kvs k,H a = some (.dK kvs)∧y = kV k∧kvs.length < sizeLine∧H' = upd H a (.dK (putK kvs k v)))∨
  ∃ kvs k b,H a = some (.dT kvs)∧y = .ref b∧H b = some (.tup (k.map kV))∧kvs.length < sizeLine∧H' = upd H a (.dT (putK kvs k v))
theorem DGet.k {H : Hp} {a : Addr} {kvs : List (Key×V)} {k : Key} (e : H a = some (.dK kvs)) : DGet H a (kV k) (valV kvs k):=.inl ⟨kvs,k,.inl e,rfl,rfl⟩
theorem DGet.t {H : Hp} {a b : Addr} {kvs : List (List Key×V)} {k : List Key} (e : H a = some (.dT kvs)) (eb : H b = some (.tup (k.map kV))) : DGet H a (.ref b) (valV kvs k):=.inr ⟨kvs,k,b,.inl e,rfl,eb,rfl⟩
theorem DPut.k {H : Hp} {a : Addr} {kvs : List (Key×V)} {k : Key} {v : V} (e : H a = some (.dK kvs)) (hl : kvs.length < sizeLine) : DPut H a (kV k) v (upd H a (.dK (putK kvs k v))):=.inl ⟨kvs,k,e,rfl,hl,rfl⟩
theorem DPut.t {H : Hp} {a b : Addr} {kvs : List (List Key×V)} {k : List Key} {v : V} (e : H a = some (.dT kvs)) (eb : H b = some (.tup (k.map kV))) (hl : kvs.length < sizeLine) :
    DPut H a (.ref b) v (upd H a (.dT (putK kvs k v))):=.inr ⟨kvs,k,b,e,rfl,eb,hl,rfl⟩
section
variable {X : Cx} {pins : List (Addr×Obj)} {σ : St} {H : Hp} {s : Shared} {a : Addr} {y v : V} {u r : Value} {o : Option V} {A : Around} {E : Value→Shared→Prop}
theorem Inv.big (I : Inv X pins σ H s) : sysModules < s.heap.objs.size:=by
  have h : mainGlobals < s.heap.objs.size:=(I.mod.glob.keeps I.bk).lt
  exact Nat.lt_trans (by decide) h
theorem zmV {Q : Value→Shared→Prop} (hu : A.units + 1 < cLine) (I : Inv X pins σ H s) (g : DGet H a y (some v)) (ry : RelV y u) (h : ∀ w' s',Inv X pins σ H s'→RelV v w'→Q w' s') :
    wpAny (model X.prog X.w) A (getItem (.ref a) u) Q E s:=by
  rcases g with ⟨kvs,k,e,ey,l⟩ | ⟨kvs,k,b,e,ey,eb,l⟩
  · subst ey
    obtain ⟨z,hd,vs,rel,dd⟩:=zog I.hok e
    obtain ⟨w',hw,rw'⟩:=RelO.some_of (v:=v) (o:=valueAt vs k) (by rw [l]; exact rel.val k)
    exact wpAny_getItem_of (zmt ry) dd.mapOf hw (h w' _ (I.tok _) rw')
  · subst ey
    cases (show u = Value.ref b from ry)
    obtain ⟨z,hd,xs,rel,dd⟩:=zoe I.hok e
    obtain ⟨w',hw,rw'⟩:=RelO.some_of (v:=v) (o:=(atKey xs k).map (·.2)) (by rw [l]; exact rel.val k)
    obtain ⟨p,hp,hp2⟩:=ybM.mp hw
    refine wpAny_getItem_heap (tupleKind_room_in1 hu) (zj1 I.hok eb) dd hp ?_
    rw [hp2]
    exact h w' _ (I.tok _) rw'
theorem zp1 {Q : Value→Shared→Prop} (hu : A.units + 1 < cLine) (I : Inv X pins σ H s) (g : DGet H a y o) (ry : RelV y u) (h : ∀ s',Inv X pins σ H s'→Q (.bool (!o.isSome)) s') :
    wpAny (model X.prog X.w) A (compareOp .NotIn u (.ref a)) Q E s:=by
  rcases g with ⟨kvs,k,e,ey,l⟩ | ⟨kvs,k,b,e,ey,eb,l⟩
  · subst ey
    obtain ⟨z,hd,vs,rel,dd⟩:=zog I.hok e
    refine wpAny_notIn_of (zmt ry) hd dd.mapOf ?_
    rw [← (rel.val k).isSome_eq,← l]
    exact h _ (I.tok _)
  · subst ey
    cases (show u = Value.ref b from ry)
    obtain ⟨z,hd,xs,rel,dd⟩:=zoe I.hok e
    refine wpAny_notIn_heap (tupleKind_room_in1 hu) (zj1 I.hok eb) hd dd ?_
    have q:=(rel.val k).isSome_eq
    rw [Option.isSome_map] at q
    rw [← q,← l]
    exact h _ (I.tok _)
theorem ziZ {h' : Heap} {t' : Nat} {ob : HO} (I : Inv X pins σ H s) (mu : Mut (H a)) (hs : Heap.SameBut a s.heap h') (he : ∃ q,h'.get? a = some q) (new : zbe X.prog X.w (upd H a ob) h' a ob) :
    Inv X pins σ (upd H a ob) { s with heap:=h',toks:=t' }:=
  I.write (x:=a) (e:=a) mu (.inl rfl) (fun b q hb z=>(hs.2 b hb).trans z) he new
theorem zoT {P : Program} {w : World} {H' : Hp} {h' : Heap} {kvs : List (Key×V)} {vs : List (Key×Value)} (z : kvs.length≤sizeLine) (hd : (a == sysModules) = false) (rel : KV kvs vs) (dd : h'.DictOf (za1 P w) a vs) :
    zbe P w H' h' a (.dK kvs):=⟨z,hd,vs,rel,dd⟩
theorem zmU {H' : Hp} {Q : Unit→Shared→Prop} (hu : A.units + 1 < cLine) (I : Inv X pins σ H s) (g : DPut H a y v H') (ry : RelV y u) (rv : RelV v r) (h : ∀ s',Inv X pins σ H' s'→Q () s') :
    wpAny (model X.prog X.w) A (setItem (.ref a) u r) Q E s:=by
  rcases g with ⟨kvs,k,e,ey,l,eH⟩ | ⟨kvs,k,b,e,ey,eb,l,eH⟩
  · subst ey eH
    obtain ⟨z,hd,vs,rel,dd⟩:=zp0 I.hok e
    have hz : vs.length≤sizeLine:=by rw [← rel.length]; exact z
    have hl : (putK kvs k v).length≤sizeLine:=by have:=zcV kvs k v; omega
    refine wpAny_setItem_pairs (hsz:=hz) (zmt ry) dd fun h' dd' hs=>h _ ?_
    have he : ∃ q,h'.get? a = some q:=let ⟨q,_,_,hq,_⟩:=dd'; ⟨q,hq⟩
    exact ziZ I (by rw [e]; exact True.intro) hs he (zoT hl hd (rel.put k rv) dd')
  · subst ey eH
    cases (show u = Value.ref b from ry)
    obtain ⟨z,hd,xs,rel,dd⟩:=zrK I.hok e
    have hz : xs.length≤sizeLine:=by rw [← Paired.length rel]; exact z
    have hl : (putK kvs k v).length≤sizeLine:=by have:=zcV kvs k v; omega
    refine wpAny_setItem_heap (hsz:=hz) (tupleKind_room_in1 hu) (zj1 I.hok eb) dd fun h' dd' hs=>h _ ?_
    obtain ⟨q,es,ep,hq,h2,h3,h4,_,h5⟩:=dd'
    refine ziZ I (by rw [e]; exact True.intro) hs ⟨q,hq⟩ ⟨hl,hd,_,(rel.put k eb rv).keeps fun c ys ec=>?_,q,es,ep,hq,h2,h3,h4,h5⟩
    rw [zah (zqU ec e (fun z=>nomatch z))]
    exact ec
end
def NoSl (i : Expr) : Prop:=∀ ov iv,subscripted i false ov iv = operate [ov,iv] (getItem ov iv)
theorem zo7 {prog : Program} {w : World} {A : Around} {E : Value→Shared→Prop} {s : Shared} {env : Env} {value slice : Expr} {pos : Pos} {T id : String} {Q : Value→Shared→Prop}
    (hl : typeLookup (.type T) "__getitem__" = pure (some (.builtin id))) (hs : NoSl slice)
    (h : wpAny (model prog w) A (eval value env) (fun o s₁=>wpAny (model prog w) A (eval slice env) (fun i s₂=>s₂.TypeIs o T∧wpAny (model prog w) A (getItem o i) Q E s₂) E s₁) E s) :
    wpAny (model prog w) A (eval (.Subscript value slice pos) env) Q E s:=by
  refine Subscript_ (wpAny_mono h (fun o s₁ h₁=>wpAny_mono h₁ (fun i s₂ h₂=>?_) fun _ _ x=>x) fun _ _ x=>x)
  obtain ⟨hT,h₂⟩:=h₂
  unfold subscriptTail
  refine wpAny_bind ?_
  rw [getitemInPython_of_ne hT.not_modules]
  refine wpAny_bind (wpAny_specialOf hT hl ?_)
  have fin : wpAny (model prog w) A (subscripted slice false o i) (fun r s₃=>wpAny (model prog w) A (letTemporaryGo value o r >>= fun _=>pure r) Q E s₃) E s₂:=by
    rw [hs o i]
    exact wpAny_operating (wpAny_mono h₂ (fun r s₃ h₃=>wpAny_bind (wpAny_letTemporaryGo (wpAny_pure h₃))) fun _ _ x=>x)
  first
    | exact wpAny_pure (wpAny_bind fin)
    | exact wpAny_bind (wpAny_pure (wpAny_bind fin))
    | exact wpAny_bind fin
theorem ziY {X : Cx} {pins : List (Addr×Obj)} {σ : St} {H : Hp} {s : Shared} {a : Addr} {y : V} {o : Option V} (I : Inv X pins σ H s) (g : DGet H a y o) : s.TypeIs (.ref a) "dict":=by
  rcases g with ⟨kvs,k,e,_,_⟩ | ⟨kvs,k,b,e,_,_,_⟩
  · obtain ⟨_,_,vs,_,dd⟩:=zog I.hok e
    exact dd.typeIs
  · obtain ⟨_,_,xs,_,dd⟩:=zoe I.hok e
    exact dd.typeIs
def zrw (td ty : TE) : TE:=fun σ H Q=>td σ H fun x H1=>ty σ H1 fun y H2=>∃ a v,x = .ref a∧DGet H2 a y (some v)∧Q v H2
def zrz (td ty tv : TE) : TS:=fun D σ H=>tv σ H fun v H1=>td σ H1 fun x H2=>ty σ H2 fun y H3=>∃ a H4,x = .ref a∧DPut H3 a y v H4∧D.nx σ H4
section
variable {X : Cx} {o i e value : Expr} {pos pos' tpos : Pos} {td ty tv : TE}
theorem zdO (hu : X.A.units + 1 < cLine) (ho : PE X o td) (hi : PE X i ty) (hs : NoSl i) : PE X (.Subscript o i pos) (zrw td ty):=by
  intro pins s σ H Q I h
  refine zo7 PySem.F.slot_dict_getitem.lookup hs (thn (ho pins s σ H _ I h) fun u s1 ⟨x,H1,I1,rx,q1⟩=>thn (hi pins s1 σ H1 _ I1 q1) fun iv s2 ⟨y,H2,I2,ry,a,v,ex,g,q2⟩=>?_)
  subst ex
  obtain rfl : u = Value.ref a:=rx
  exact ⟨ziY I2 g,zmV hu I2 g ry fun w' s3 I3 rw'=>⟨v,H2,I3,rw',q2⟩⟩
theorem zeE (hu : X.A.units + 1 < cLine) (ho : PE X o td) (hi : PE X i ty) (hv : PE X value tv) (hs : swapsWith value (some (.Subscript o i pos')) pos.line X.env = pure false) :
    PS X (.Assign [.Subscript o i pos'] value pos) (zrz td ty tv):=by
  intro pins s σ H D I h
  refine wpAny_Assign_Subscript (thn (hv pins s σ H _ I h) fun r s1 ⟨v,H1,I1,rv,q1⟩=>thn (ho pins s1 σ H1 _ I1 q1) fun u s2 ⟨x,H2,I2,rx,q2⟩=>thn (hi pins s2 σ H2 _ I2 q2) fun iv s3 ⟨y,H3,I3,ry,a,H4,ex,g,q3⟩=>?_) hs
  subst ex
  obtain rfl : u = Value.ref a:=rx
  exact zmU hu I3 g ry rv fun s4 I4=>⟨σ,H4,I4,q3⟩
end
theorem zj7 {P : Program} {w : World} {H : Hp} (h : Heap) (hb : sysModules < h.objs.size) : zbe P w H (h.push { cls:=.type "dict",data:=.dict #[] }) h.objs.size (.dK []):=
  ⟨yaE _,beq_eq_false_iff_ne.mpr (Ne.symm (yaq hb)),[],.nil,Heap.DictOf.new h⟩
theorem zof {P : Program} {w : World} {H : Hp} (h : Heap) (hb : sysModules < h.objs.size) : zbe P w H (h.push { cls:=.type "dict",data:=.dict #[] }) h.objs.size (.dT []):=
  ⟨yaE _,beq_eq_false_iff_ne.mpr (Ne.symm (yaq hb)),[],.nil,_,#[],0,yaz _ rfl,⟨rfl,rfl,rfl⟩,rfl,rfl,ybw⟩
def zqk : TE:=fun _ H Q=>∀ p,H p = none→Q (.ref p) (upd H p (.dK []))
def zqj : TE:=fun _ H Q=>∀ p,H p = none→Q (.ref p) (upd H p (.dT []))
section
variable {X : Cx} {pos : Pos}
theorem zjK : PE X (.Dict [] [] pos) zqk:=fun pins s σ H Q I h=>
  wpAny_Dict_empty ⟨.ref s.heap.objs.size,_,I.laid (a:=s.heap.objs.size) (o:=.dK []) (t':=s.toks) (fun _ _ q=>yai _ q) (yaa _) (zj7 s.heap I.big),rfl,h _ (I.hok.fresh (yaa _))⟩
theorem zny : PE X (.Dict [] [] pos) zqj:=fun pins s σ H Q I h=>
  wpAny_Dict_empty ⟨.ref s.heap.objs.size,_,I.laid (a:=s.heap.objs.size) (o:=.dT []) (t':=s.toks) (fun _ _ q=>yai _ q) (yaa _) (zof s.heap I.big),rfl,h _ (I.hok.fresh (yaa _))⟩
end
def zll : List (TE×TE)→St→Hp→(List (V×V)→Hp→Prop)→Prop
  | [],_,H,Q=>Q [] H
  | (tk,tv) :: r,σ,H,Q=>tk σ H fun x H1=>tv σ H1 fun y H2=>zll r σ H2 fun ps H3=>Q ((x,y) :: ps) H3
abbrev VV : List (V×V)→List (Value×Value)→Prop:=Paired fun p q=>RelV p.1 q.1∧RelV p.2 q.2
def PPs (X : Cx) (pos : Pos) (keys : List (Option Expr)) (values : List Expr) (trs : List (TE×TE)) : Prop:=
  ∀ (pins : List (Addr×Obj)) (s : Shared) (σ : St) (H : Hp) (Q : List (V×V)→Hp→Prop),Inv X pins σ H s→zll trs σ H Q→
    wpAny (model X.prog X.w) X.A (evalPairs (pairTrees keys values X.env pos)) (fun vs s'=>∃ ps H',Inv X pins σ H' s'∧VV ps vs∧Q ps H') X.xe s
theorem zpj {X : Cx} {pos : Pos} : PPs X pos [] [] []:=fun pins s σ H Q I h=>pairTrees_nil_walk ⟨[],H,I,.nil,h⟩
theorem zg9 {X : Cx} {pos : Pos} {k v : Expr} {ks : List (Option Expr)} {vs : List Expr} {tk tv : TE} {trs : List (TE×TE)} (hk : PE X k tk) (hv : PE X v tv) (hr : PPs X pos ks vs trs) :
    PPs X pos (some k :: ks) (v :: vs) ((tk,tv) :: trs):=fun pins s σ H Q I h=>
  pairTrees_cons_walk (thn (hk pins s σ H _ I h) fun u s1 ⟨x,H1,I1,rx,q1⟩=>thn (hv pins s1 σ H1 _ I1 q1) fun w2 s2 ⟨y,H2,I2,ry,q2⟩=>
    thn (hr pins s2 σ H2 _ I2 q2) fun ws s3 ⟨ps,H3,I3,rel,q3⟩=>⟨(x,y) :: ps,H3,I3,.cons ⟨rx,ry⟩ rel,q3⟩)
def zeX (kvs more : List (Key×V)) : List (Key×V):=more.foldl (fun acc kv=>putK acc kv.1 kv.2) kvs
theorem KV.merge : ∀ {more : List (Key×V)} {rs : List (Key×Value)} {kvs : List (Key×V)} {vs : List (Key×Value)},KV more rs→KV kvs vs→KV (zeX kvs more) (merged vs rs):=by
  intro more rs kvs vs r
  unfold KV at r
  induction r generalizing kvs vs with
  | nil=>intro q; exact q
  | @cons p q ps qs h t ih=>
    intro r0
    have e : KV (putK kvs p.1 p.2) (stored vs q.1 q.2):=by
      have:=r0.put p.1 h.2
      rw [← h.1]; exact this
    exact ih e
theorem zen : ∀ (more kvs : List (Key×V)),(zeX kvs more).length≤kvs.length + more.length
  | [],kvs=>by show kvs.length≤kvs.length + 0; omega
  | p :: r,kvs=>by
    have h1:=zen r (putK kvs p.1 p.2)
    have h2:=zcV kvs p.1 p.2
    show (zeX (putK kvs p.1 p.2) r).length≤_
    rw [yaI]; omega
theorem zgI {P : Program} {w : World} : ∀ {kvs : List (Key×V)} {ws : List (Value×Value)},VV (kvs.map fun kv=>(kV kv.1,kv.2)) ws→∃ rs,Carries (za1 P w) ws rs∧KV kvs rs
  | [],_,r=>by rw [ybL] at r; cases r; exact ⟨[],True.intro,.nil⟩
  | p :: kvs,_,r=>by
    rw [yao] at r
    cases r with
    | @cons a b as bs h t=>
      obtain ⟨rs,c,q⟩:=zgI (P:=P) (w:=w) t
      obtain ⟨b1,b2⟩:=b
      exact ⟨(p.1,b2) :: rs,⟨zmt h.1,rfl,c⟩,.cons ⟨rfl,h.2⟩ q⟩
def zrv (trs : List (TE×TE)) : TE:=fun σ H Q=>∀ p,H p = none→zll trs σ (upd H p (.dK [])) fun ps H2=>H2 p = some (.dK [])∧∃ kvs : List (Key×V),ps = kvs.map (fun kv=>(kV kv.1,kv.2))∧kvs.length≤15∧Q (.ref p) (upd H2 p (.dK (zeX [] kvs)))
theorem zpo {X : Cx} {pos : Pos} {keys : List (Option Expr)} {values : List Expr} {trs : List (TE×TE)} (h : PPs X pos keys values trs) (hall : keys.all (·.isSome) = true) (hl : keys.length = values.length) (h0 : keys≠[])
    (h15 : keys.length≤15) : PE X (.Dict keys values pos) (zrv trs):=by
  intro pins s σ H Q I q
  have hn:=I.hok.fresh (yaa s.heap.objs.size)
  have I1:=I.laid (a:=s.heap.objs.size) (o:=.dK []) (h':=s.heap.push { cls:=.type "dict",data:=.dict #[] }) (t':=s.toks) (fun _ _ q=>yai _ q) (yaa _) (zj7 s.heap I.big)
  refine wpAny_Dict_walk (knd:=za1 X.prog X.w) hall hl h0 h15 (thn (h pins _ σ _ _ I1 (q _ hn)) fun ws s2 ⟨ps,H2,I2,rel,e,kvs,ep,lk,q2⟩=>?_)
  subst ep
  obtain ⟨rs,c,rk⟩:=zgI (P:=X.prog) (w:=X.w) rel
  obtain ⟨z,hd,vs0,r0,dd⟩:=zp0 I2.hok e
  cases r0
  refine ⟨rs,c,dd,fun h' dd' hs=>⟨.ref s.heap.objs.size,_,?_,rfl,q2⟩⟩
  have hz : (zeX [] kvs).length≤sizeLine:=by
    have h1:=zen kvs []
    rw [ybo] at h1
    rw [sizeLine_eq]; omega
  have he : ∃ q,h'.get? s.heap.objs.size = some q:=let ⟨q,_,_,hq,_⟩:=dd'; ⟨q,hq⟩
  exact ziZ I2 (by rw [e]; exact True.intro) hs he (zoT hz hd (rk.merge .nil) dd')
end L2
namespace Att
open PySem PySem.W PySem.Calls PyProof.Rows
theorem zfV {P : Params} {h : Heap} : ∀ (ns : List Int) (vs : List Value),WellAll P h vs (ns.map WData.int)→IntsAre vs ns:=by
  intro ns
  induction ns with
  | nil=>
    intro vs w
    rw [ybL] at w
    cases w
    exact .nil
  | cons n ns ih=>
    intro vs w
    rw [yao] at w
    cases w with
    | cons a b=>
      cases a
      exact .cons _ _ (ih _ b)
theorem zlI {l : OpenLaw} {n : Nat} (hn : l.most = some n) {P : Params} {h : Heap} {args : List WData} {vals : List Value}
    (hpre : l.row.toRowW.claim.pre args = true) (hwl : WellAll P h vals args) :
    ∃ a vs ns,vals = [Value.ref a]∧args = [WData.list (ns.map WData.int)]∧h.get? a = some { cls:=.type "list",data:=.seq vs.toArray }∧IntsAre vs ns∧ns.length≤n:=by
  have hsh : WShape.hasAll [] args [.list .int] = true:=(pre_splitW hpre).1
  have hc : l.pre.holds [] { args:=args } = true:=(pre_splitW hpre).2
  obtain ⟨d,r,rfl,h1,h2⟩:=hasAllW_cons hsh
  obtain rfl:=hasAllW_nil h2
  obtain ⟨xs,rfl,h3⟩:=hasW_list h1
  obtain ⟨ns,rfl⟩:=items_int h3
  have hlen : ns.length≤n:=by
    unfold OpenLaw.pre at hc
    have h4 : (WTm.not (.lt (.lit (.int (n : Int))) (.len (.arg 0)))).holds [] { args:=[.list (ns.map .int)] } = true:=by
      have h4:=(holds_andW hc).1
      rw [hn] at h4
      exact h4
    have h5:=condW_of h4 (w_not (w_lt w_lit (w_len_list (w_arg rfl))))
    rw [yab] at h5
    refine Nat.le_of_not_lt fun q=>?_
    have q' : (n : Int) < ((ns.length : Nat) : Int):=by omega
    first
      | (rw [yag q'] at h5; exact absurd h5 (by decide))
      | (simp at h5; omega)
  cases hwl with
  | cons w1 w2=>
    cases w2
    cases w1 with
    | list ho hall=>exact ⟨_,_,ns,rfl,rfl,ho,zfV ns _ hall,hlen⟩
theorem zlP (l : OpenLaw) (args : List WData) : l.row.toRowW.claim.post args (.bool true) args = true:=
  postW_of (r:=l.row.toRowW) (X:=(true == true))
    (show WShape.has [] (.bool true) .bool = true by first | rfl | decide | simp [WShape.has,WShape.arms,WShape.armsAll])
    (show (WTm.eq .res (.lit (.bool true))).value [] { args:=args,res:=some (.bool true),after:=args } = some (.bool (true == true)) from w_eq_bool (w_res rfl) w_lit) rfl
theorem attach_call {l : OpenLaw} {n : Nat} {q : Program} {loose : List Str} {XP : (Str→Option Value)→Heap→Prop} {YP : World→Heap→Prop} {d : DefRec}
    (hn : l.most = some n) (hdf : d.params.defaults = [])
    (call : ∀ (w : World) (s₀ s₁ : Shared) (mg mb : Str→Option Value) (fa : Addr) (o : Obj) (pm cd doc : Value) (a : Addr) (vs : List Value) (ns : List Int),
      Ground q loose [] XP w s₀ mg mb s₁.heap→YP w s₁.heap→
      s₁.heap.get? fa = some o→o.data = .func (docDef d.name d.params d.body d.scope pm cd doc)→s₁.heap.CodeRec cd d.name→mg d.name = some (.ref fa)→
      s₁.heap.get? a = some { cls:=.type "list",data:=.seq vs.toArray }→IntsAre vs ns→ns.length≤n→s₁.gens = #[]→
      codeAny (model l.prog w) callerA (.call (.ref fa) ⟨[.ref a],[]⟩) (fun r s'=>r = .ok (.ret (.bool true))∧OldK s₁.heap s'.heap∧s'.os = s₁.os∧AllBare s'.gens) s₁) :
    WalkO q loose XP YP l.row.toRowW d [] (fun f vs=>PySem.call f vs):=by
  intro w s₀ s₁ mg mb G Y fa o pm cd doc dV kV ho hd hcd hD hmg hg args vals as hpre hlay hrd hwl hlo
  obtain rfl : dV = .none:=Dflts.none hD hdf
  obtain rfl : kV = .none:=Dflts.noKw hD
  obtain ⟨a,vs,ns,rfl,rfl,hobj,hints,hlen⟩:=zlI hn hpre hwl
  refine enter_call (codeAny_mono (call w s₀ s₁ mg mb fa o pm cd doc a vs ns G Y ho (fd_plain hd) hcd hmg hobj hints hlen hg) fun r s' hq=>?_)
  obtain ⟨rfl,h2,h3,h4⟩:=hq
  exact ⟨.inl ⟨.bool true,.bool true,[],rfl,fun _=>rfl,.bool true,zlP l _,fun _=>⟨List.Pairwise.nil,fun _ hm=>(nomatch hm)⟩⟩,h2,h3,h4⟩
end Att
namespace L2
open PySem PySem.Spec PyProof.Rows
theorem zhB : ∀ {vs : List Value} {ns : List Int},IntsAre vs ns→Vals (ns.map V.int) vs
  | _,_,.nil=>.nil
  | _,_,.cons n t h=>.cons ⟨t,rfl⟩ (zhB h)
end L2
namespace L2
open PySem PySem.Spec PyProof.Rows
def zdQ (s : Stmt) (j : Nat) : Stmt:=match s with
  | .ClassDef _ _ _ body _ _ _ _ _ _ _=>body.getD j (.Pass ⟨0,0,0,0⟩)
  | _=>.Pass ⟨0,0,0,0⟩
def zbC (s : Stmt) : Arguments:=match s with
  | .FunctionDef _ a _ _ _ _ _ _ _ _=>a
  | _=>{ posonlyargs:=[],args:=[],vararg:=none,kwonlyargs:=[],kw_defaults:=[],kwarg:=none,defaults:=[] }
def za2 (s : Stmt) : List Stmt:=match s with
  | .FunctionDef _ _ b _ _ _ _ _ _ _=>b
  | _=>[]
def zag (s : Stmt) : Scope:=match s with
  | .FunctionDef _ _ _ _ _ _ sc _ _ _=>sc
  | _=>{ kind:=.function,names:=[],isGenerator:=false,isCoroutine:=false }
abbrev CX0 : CXT:=fun _ _ _ _ _ _=>False
abbrev E0 : XK:=fun _ _ _=>False
theorem zlT {X : Cx} : zgd CX0 X E0:=fun _ _ _ _ _ _ _ h=>h.elim
structure Fun (K : Frag) (x qual : Str) (st : Stmt) (f : Addr) (fd : FuncData) : Prop where
  ex : ∃ (oc : Value) (od : Option Addr) (kV doc pm : Value) (an : Option Addr) (cdv ct : Value) (osl : Array (Option Value)),
    fd = fnOf x qual (zbC st) (za2 st) (zag st) .none kV doc pm an cdv ct∧K.lookup f = some ⟨oc,od,.func fd,osl⟩∧codeIn K cdv qual = true
  kp : keepIn K (.ref f) = true
section
variable {P : Program} {w : World} {K : Frag} {mg : Str→Option Value} {base : Heap}
theorem Fun.ok {x qual : Str} {st : Stmt} {f : Addr} {fd : FuncData} {N ps : List Str} {k : Nat} {sp : Sp} (F : Fun K x qual st f fd) (S : zan N ps (zag st)) (len : ∀ vs H Q E,sp vs H Q E→vs.length = ps.length)
    (hbody : ∀ (cdv : Value) (A : Around) (outer : List Env) (s : Shared) (H : Hp) (vs : List V) (Q : VK) (E : XK),Room k (A.deeper (envOfC qual (zag st) s.heap.objs.size f cdv))→sp vs H Q E→
      ∃ t,PSs (cxOf CX0 P w K mg base N qual (zag st) f cdv A outer s H E).nox (za2 st) t∧t { nx:=fun _ H'=>Q .non H',rt:=Q } (start N vs) H) : FnOk P w K mg base CX0 (k + 1) f fd ps sp:=by
  obtain ⟨oc,od,kV,doc,pm,an,cdv,ct,osl,rfl,lk,hcd⟩:=F.ex
  refine zrh lk hcd S len fun A outer s H vs Q E hr hsp=>?_
  obtain ⟨t,h,q⟩:=hbody cdv A outer s H vs Q E hr hsp
  exact ⟨t,h.nox,q⟩
theorem Fun.binds {x qual : Str} {st : Stmt} {f : Addr} {fd : FuncData} {ps : List Str} (F : Fun K x qual st f fd)
    (h : ∀ (kV doc pm : Value) (an : Option Addr) (cdv ct : Value) (us : List Value),us.length = ps.length→bindArgs (fnOf x qual (zbC st) (za2 st) (zag st) .none kV doc pm an cdv ct) ⟨us,[]⟩ = pure (ps.zip us)) : zdm K fd ps []:=by
  obtain ⟨oc,od,kV,doc,pm,an,cdv,ct,osl,rfl,lk,hcd⟩:=F.ex
  exact .all (h kV doc pm an cdv ct)
theorem zfW {x qual : Str} {st : Stmt} {f : Addr} {oc : Value} {od an : Option Addr} {osl : Array (Option Value)} {kV doc pm cdv ct : Value} (l : K.lookup f = some ⟨oc,od,.func (fnOf x qual (zbC st) (za2 st) (zag st) .none kV doc pm an cdv ct),osl⟩)
    (c : codeIn K cdv qual = true) (k : keepIn K (.ref f) = true) : Fun K x qual st f (fnOf x qual (zbC st) (za2 st) (zag st) .none kV doc pm an cdv ct):=⟨⟨oc,od,kV,doc,pm,an,cdv,ct,osl,rfl,l,c⟩,k⟩
end
theorem zer {A : Around} {k : Nat} (hr : Room k A) : A.units + 1 < cLine:=yaX (ycq (by decide : 1≤64) _) hr.units
theorem zaq {n : Nat} (h : n≤1000) : n < sizeLine:=yaX h (by decide)
section
variable {X : Cx}
theorem pv (i : Nat) {x : Str} {pos : Pos} (hN : X.N[i]? = some x:=by rfl) (hv : Vis X.env.scope x:=by first | exact Or.inl rfl | exact Or.inr (Or.inl rfl) | exact Or.inr (Or.inr rfl)) (hd : (x == ("__debug__" : Str)) = false:=by decide)
    (hcd : (x == ("__classdict__" : Str)) = false:=by decide) : PE X (.Name x pos) (tVar i):=zqD hN hv hd hcd
end
theorem iteF {A B : Prop} (h : B) : if false = true then A else B:=by
  rw [if_neg yax]
  exact h
theorem iteT {A B : Prop} (h : A) : if true = true then A else B:=by
  rw [if_pos rfl]
  exact h
theorem ite2 {c A B : Prop} [Decidable c] (h1 : c→A) (h2 : ¬ c→B) : if c then A else B:=by
  by_cases h : c
  · rw [if_pos h]
    exact h1 h
  · rw [if_neg h]
    exact h2 h
theorem zkL {c A B : Prop} [Decidable c] (hc : c) (h : B) : if (!decide c) = true then A else B:=by
  rw [yag hc]
  exact iteF h
def Same (H H' : Hp) : Prop:=∀ b o,H b = some o→H' b = some o
theorem Same.trans {H H1 H2 : Hp} (a : Same H H1) (b : Same H1 H2) : Same H H2:=fun c o h=>b c o (a c o h)
theorem Same.free {H H' : Hp} (e : Same H H') {l : Addr} (h : H' l = Option.none) : H l = Option.none:=by
  cases q : H l with
  | none=>rfl
  | some o=>
    rw [e l o q] at h
    cases h
theorem Same.seq {K : Frag} {H H' : Hp} {a : Addr} {xs : List V} (e : Same H H') (h : SqL K H a xs) : SqL K H' a xs:=by
  rcases h with (h | ⟨o,h⟩) | h
  · exact .inl (.inl (e _ _ h))
  · exact .inl (.inr ⟨o,e _ _ h⟩)
  · exact .inr h
end L2
namespace Tim
open PySem PyProof.Rows
set_option autoImplicit false
section
variable {prog : Program} {w : World} {A : Around} {E : Value→Shared→Prop} {s : Shared} {κ : KeyKind} {kd : SortKind} {a₀ : Array Keyed}
def LtG (prog : Program) (w : World) (A : Around) (s : Shared) (κ : KeyKind) (kd : SortKind) : Prop:=
 ∀ (E : Value→Shared→Prop) (x y : Value) (a b : κ.α) (Q : Bool→Shared→Prop),κ.keyOf x = some a→κ.keyOf y = some b→Q (κ.blt a b) s→wpAny (model prog w) A (keyLt' kd x y) Q E s
def ky (κ : KeyKind) (p : Keyed) : κ.α:=(κ.keyOf p.1).getD κ.dflt
def Keyd (κ : KeyKind) (p : Keyed) : Prop:=∃ a,κ.keyOf p.1 = some a
theorem Keyd.eq {p : Keyed} (h : Keyd κ p) : κ.keyOf p.1 = some (ky κ p):=by
 obtain ⟨a,e⟩:=h
 unfold ky
 rw [e]
 rfl
theorem lt_G {x y : Keyed} {st : SortSt} {Q : Option Bool→SortSt→Prop} (hO : LtG prog w A s κ kd) (hk : kindOf st = kd) (hx : Keyd κ x) (hy : Keyd κ y) (h : Q (some (κ.blt (ky κ x) (ky κ y))) st) : wpS (model prog w) A E s (lt' x y) Q st:=by
 rw [lt'_eq]
 refine wpS_bind (wpS_get ?_)
 rw [hk]
 refine wpS_bind (wpS_lift (wpAny_attempt (hO _ x.1 y.1 _ _ _ hx.eq hy.eq ⟨rfl,?_⟩)))
 exact wpS_pure h
theorem za6 {xs : Array Keyed} {i : Nat} {st : SortSt} {Q : Keyed→SortSt→Prop} (hi : i < xs.size) (h : Q xs[i] st) : wpS (model prog w) A E s (elem' xs i) Q st:=by
 rw [elem'_eq,yaY hi]
 exact wpS_pure h
structure TB (κ : KeyKind) (kd : SortKind) (n : Nat) (st : SortSt) : Prop where
 kind : kindOf st = kd
 keys : ∀ p∈(arrOf st).toList,Keyd κ p
 failed : failedOf st = none
 size : (arrOf st).size = n
def kAt (κ : KeyKind) (xs : Array Keyed) (i : Nat) : κ.α:=match xs[i]? with
 | some p=>ky κ p
 | none=>κ.dflt
theorem za7 {xs : Array Keyed} {i : Nat} (h : i < xs.size) : kAt κ xs i = ky κ xs[i]:=by
 unfold kAt
 rw [yaY h]
theorem zbg {xs ys : Array Keyed} {i j : Nat} (h : xs[i]? = ys[j]?) : kAt κ xs i = kAt κ ys j:=by
 unfold kAt
 rw [h]
theorem zh4 {i j n : Nat} {st : SortSt} {Q : Option Bool→SortSt→Prop} (hO : LtG prog w A s κ kd) (hB : TB κ kd n st) (hi : i < n) (hj : j < n) (h : Q (some (κ.blt (kAt κ (arrOf st) i) (kAt κ (arrOf st) j))) st) : wpS (model prog w) A E s (ltAt' i j) Q st:=by
 have hi' : i < (arrOf st).size:=by rw [hB.size]; exact hi
 have hj' : j < (arrOf st).size:=by rw [hB.size]; exact hj
 rw [ltAt'_eq]
 refine wpS_bind (wpS_get ?_)
 refine wpS_bind (za6 hi' (wpS_bind (za6 hj' ?_)))
 refine lt_G hO hB.kind (hB.keys _ (by simp)) (hB.keys _ (by simp)) ?_
 rw [za7 hi',za7 hj'] at h
 exact h
def Up (κ : KeyKind) (xs : Array Keyed) (lo hi : Nat) : Prop:=∀ i j,lo≤i→i≤j→j < hi→κ.kle (kAt κ xs i) (kAt κ xs j)
def Dn (κ : KeyKind) (xs : Array Keyed) (lo hi : Nat) : Prop:=∀ i j,lo≤i→i≤j→j < hi→κ.kle (kAt κ xs j) (kAt κ xs i)
structure Off (xs ys : Array Keyed) (lo hi : Nat) : Prop where
 perm : ys.Perm xs
 out : ∀ k,k < lo∨hi≤k→ys[k]? = xs[k]?
theorem Off.refl (xs : Array Keyed) (lo hi : Nat) : Off xs xs lo hi:=⟨Array.Perm.refl _,fun _ _=>rfl⟩
theorem Off.trans {xs ys zs : Array Keyed} {lo hi : Nat} (a : Off xs ys lo hi) (b : Off ys zs lo hi) : Off xs zs lo hi:=⟨b.perm.trans a.perm,fun k h=>(b.out k h).trans (a.out k h)⟩
theorem Off.wide {xs ys : Array Keyed} {lo hi lo' hi' : Nat} (a : Off xs ys lo hi) (h1 : lo'≤lo) (h2 : hi≤hi') : Off xs ys lo' hi':=⟨a.perm,fun k h=>a.out k (by omega)⟩
theorem Off.size {xs ys : Array Keyed} {lo hi : Nat} (a : Off xs ys lo hi) : ys.size = xs.size:=a.perm.size_eq
theorem TB.off {n lo hi : Nat} {st : SortSt} {ys : Array Keyed} (hB : TB κ kd n st) (h : Off (arrOf st) ys lo hi) : TB κ kd n (setArr st ys):=
 ⟨hB.kind,fun p hp=>hB.keys p ((ycr.mp h.perm).mem_iff.mp hp),hB.failed,h.size.trans hB.size⟩
theorem zcE {xs : Array Keyed} {i j : Nat} (hj : j≤xs.size) : Off xs (mirror xs i j ((j - i) / 2)) i j:=⟨mirror_perm _ _ _ _,fun k hk=>by rw [getElem?_mirror_all hj,if_neg (by omega)]⟩
theorem zeH {xs : Array Keyed} {i j k : Nat} (hj : j≤xs.size) (hk : i≤k∧k < j) : kAt κ (mirror xs i j ((j - i) / 2)) k = kAt κ xs (i + j - 1 - k):=by
 apply zbg
 rw [getElem?_mirror_all hj,if_pos hk]
theorem ziR {xs ys : Array Keyed} {lo hi k : Nat} (h : Off xs ys lo hi) (hk : k < lo∨hi≤k) : kAt κ ys k = kAt κ xs k:=zbg (h.out k hk)
theorem zhq {xs : Array Keyed} {i j : Nat} (hj : j≤xs.size) (he : ∀ k,i≤k→k < j→kAt κ xs k = kAt κ xs (j - 1)) (k : Nat) : kAt κ (mirror xs i j ((j - i) / 2)) k = kAt κ xs k:=by
 by_cases hk : i≤k∧k < j
 ·rw [zeH hj hk,he _ (by omega) (by omega),he k hk.1 hk.2]
 ·exact ziR (zcE hj) (by omega)
theorem zgO {i j : Nat} {st : SortSt} {Q : Unit→SortSt→Prop} (h : Q () (setArr st (mirror (arrOf st) i j ((j - i) / 2)))) : wpS (model prog w) A E s (reverseSlice' i j) Q st:=by
 rw [reverseSlice'_eq]
 exact wpS_modify h
theorem zcI {σ : Type} {n : String} {Q : Unit→σ→Prop} {st : σ} (h : Q () st) : wpS (model prog w) A E s (liftM (rule n) : StateT σ Sem Unit) Q st:=wpS_lift (wpAny_rule ⟨rfl,h⟩)
end
end Tim
namespace Tim
open PySem PyProof.Rows
set_option autoImplicit false
section
variable {prog : Program} {w : World} {A : Around} {E : Value→Shared→Prop} {s : Shared} {κ : KeyKind} {kd : SortKind}
def zja (κ : KeyKind) (st : SortSt) (lo least nrem : Nat) (r : Option Nat) (st' : SortSt) : Prop:=
 ∃ n ys,r = some n∧least≤n∧n≤nrem∧st' = setArr st ys∧Off (arrOf st) ys lo (lo + n)∧Up κ ys lo (lo + n)
theorem zqe {xs : Array Keyed} {lo : Nat} : Up κ xs lo (lo + 1):=fun i j h1 h2 h3=>by
 have : i = j:=by omega
 subst this
 exact KeyOrd.kle_refl _
theorem Up.more {xs : Array Keyed} {lo hi : Nat} (h : Up κ xs lo hi) (hlo : lo < hi) (hn : κ.kle (kAt κ xs (hi - 1)) (kAt κ xs hi)) : Up κ xs lo (hi + 1):=fun i j h1 h2 h3=>by
 by_cases hj : j < hi
 ·exact h i j h1 h2 hj
 ·have e : j = hi:=by omega
  subst e
  by_cases hi' : i = j
  ·subst hi'; exact KeyOrd.kle_refl _
  ·exact KeyOrd.kle_trans (h i (j - 1) h1 (by omega) (by omega)) hn
theorem Dn.more {xs : Array Keyed} {lo hi : Nat} (h : Dn κ xs lo hi) (hlo : lo < hi) (hn : κ.kle (kAt κ xs hi) (kAt κ xs (hi - 1))) : Dn κ xs lo (hi + 1):=fun i j h1 h2 h3=>by
 by_cases hj : j < hi
 ·exact h i j h1 h2 hj
 ·have e : j = hi:=by omega
  subst e
  by_cases hi' : i = j
  ·subst hi'; exact KeyOrd.kle_refl _
  ·exact KeyOrd.kle_trans hn (h i (j - 1) h1 (by omega) (by omega))
theorem zow {st : SortSt} {N lo n nrem : Nat} {Q : Option (Option Nat)×Nat→SortSt→Prop} (hO : LtG prog w A s κ kd) (hB : TB κ kd N st) (hlo : lo + nrem≤N) (h1 : 1≤n) (hn : n≤nrem) (hU : Up κ (arrOf st) lo (lo + n))
  (h : ∀ m,n≤m→m≤nrem→Up κ (arrOf st) lo (lo + m)→(m < nrem→κ.klt (kAt κ (arrOf st) (lo + m)) (kAt κ (arrOf st) (lo + m - 1)))→Q (none,m) st) :
  wpS (model prog w) A E s (forIn [n:nrem] ((none,n) : Option (Option Nat)×Nat) fun _ __s=>do
   let __x ← ltAt' (lo + __s.snd) (lo + __s.snd - 1)
   match __x with
   | some smaller=>if smaller = true then pure (ForInStep.done (none,__s.snd)) else pure (ForInStep.yield (none,__s.snd + 1))
   | _=>pure (ForInStep.done (some none,__s.snd))) Q st:=by
 refine wpS_forRange (I:=fun i c st'=>st' = st∧c = (none,i)∧n≤i∧i≤nrem∧Up κ (arrOf st) lo (lo + i)) ?_ ?_ ⟨rfl,rfl,yaa _,hn,hU⟩
 ·rintro i c st' hi1 hi2 ⟨rfl,rfl,h3,h4,hU'⟩
  refine wpS_bind (zh4 hO hB (by omega) (by omega) ?_)
  dsimp only
  cases e : κ.blt (kAt κ (arrOf st') (lo + i)) (kAt κ (arrOf st') (lo + i - 1)) with
  | true=>exact wpS_pure (h i h3 h4 hU' fun _=>e)
  | false=>exact wpS_pure ⟨rfl,rfl,by omega,by omega,hU'.more (by omega) e⟩
 ·rintro c st' ⟨rfl,rfl,h3,h4,hU'⟩
  exact h _ h3 h4 hU' fun z=>absurd z (by omega)
theorem zk4 {st : SortSt} {N lo n nrem : Nat} {Q : Option Nat→SortSt→Prop} {k : Option (Option Nat)×Nat→StateT SortSt Sem (Option Nat)} (hk : ∀ m,k (none,m) = pure (some m)) (hO : LtG prog w A s κ kd) (hB : TB κ kd N st) (hlo : lo + nrem≤N) (h1 : 1≤n) (hn : n≤nrem) (hD : Dn κ (arrOf st) lo (lo + n))
  (h : ∀ r st',zja κ st lo n nrem r st'→Q r st') :
  wpS (model prog w) A E s (do
   reverseSlice' lo (lo + n)
   let c ← forIn [n:nrem] ((none,n) : Option (Option Nat)×Nat) fun _ __s=>do
    let __x ← ltAt' (lo + __s.snd) (lo + __s.snd - 1)
    match __x with
    | some smaller=>if smaller = true then pure (ForInStep.done (none,__s.snd)) else pure (ForInStep.yield (none,__s.snd + 1))
    | _=>pure (ForInStep.done (some none,__s.snd))
   k c) Q st:=by
 have hz : lo + n≤(arrOf st).size:=by rw [hB.size]; omega
 have hoff:=zcE (xs:=arrOf st) (i:=lo) (j:=lo + n) hz
 refine wpS_bind (zgO ?_)
 refine wpS_bind (zow hO (hB.off hoff) hlo h1 hn (fun i j q1 q2 q3=>?_) fun m m1 m2 hU _=>?_)
 ·rw [zeH hz (by omega),zeH hz (by omega)]
  exact hD _ _ (by omega) (by omega) (by omega)
 ·rw [hk]
  exact wpS_pure (h _ _ ⟨m,_,rfl,m1,m2,rfl,hoff.wide (yaa _) (by omega),hU⟩)
theorem zk5 {st : SortSt} {N lo n nrem : Nat} {Q : Option (Option Nat)×Nat×Nat→SortSt→Prop} (hO : LtG prog w A s κ kd) (hB : TB κ kd N st) (hlo : lo + nrem≤N) (h1 : 1≤n) (hn : n≤nrem) (hD : Dn κ (arrOf st) lo (lo + n))
  (h : ∀ m neq ys,n≤m→m≤nrem→neq < m→Off (arrOf st) ys lo (lo + m)→Dn κ ys lo (lo + m)→(∀ k,lo + m - (neq + 1)≤k→k < lo + m→kAt κ ys k = kAt κ ys (lo + m - 1))→Q (none,m,neq) (setArr st ys)) :
  wpS (model prog w) A E s (forIn [n:nrem] ((none,n,0) : Option (Option Nat)×Nat×Nat) fun _ __s=>do
   let __x ← ltAt' (lo + __s.snd.fst) (lo + __s.snd.fst - 1)
   match __x with
   | some smaller=>
    if smaller = true then
     if __s.snd.snd > 0 then do
      let _ ← reverseSlice' (lo + __s.snd.fst - (__s.snd.snd + 1)) (lo + __s.snd.fst)
      pure (ForInStep.yield (none,__s.snd.fst + 1,0))
     else pure (ForInStep.yield (none,__s.snd.fst + 1,0))
    else do
     let __x ← ltAt' (lo + __s.snd.fst - 1) (lo + __s.snd.fst)
     match __x with
     | some larger=>
      if larger = true then pure (ForInStep.done (none,__s.snd.fst,__s.snd.snd))
      else pure (ForInStep.yield (none,__s.snd.fst + 1,__s.snd.snd + 1))
     | _=>pure (ForInStep.done (some none,__s.snd.fst,__s.snd.snd))
   | _=>pure (ForInStep.done (some none,__s.snd.fst,__s.snd.snd))) Q st:=by
 refine wpS_forRange (I:=fun i c st'=>∃ neq ys,st' = setArr st ys∧c = (none,i,neq)∧n≤i∧i≤nrem∧neq < i∧Off (arrOf st) ys lo (lo + i)∧Dn κ ys lo (lo + i)∧∀ k,lo + i - (neq + 1)≤k→k < lo + i→kAt κ ys k = kAt κ ys (lo + i - 1)) ?_ ?_ ⟨0,arrOf st,rfl,rfl,yaa _,hn,h1,Off.refl _ _ _,hD,fun k q1 q2=>by rw [show k = lo + n - 1 by omega]⟩
 ·rintro i c st' hi1 hi2 ⟨neq,ys,rfl,rfl,h3,h4,h5,ho,hD',he⟩
  have hB' : TB κ kd N (setArr st ys):=hB.off ho
  have hz : lo + i≤ys.size:=by rw [ho.size,hB.size]; omega
  dsimp only
  refine wpS_bind (zh4 hO hB' (by omega) (by omega) ?_)
  dsimp only
  cases e : κ.blt (kAt κ ys (lo + i)) (kAt κ ys (lo + i - 1)) with
  | true=>
   simp only [if_true]
   by_cases hq : neq > 0
   ·rw [if_pos hq]
    have hoff:=zcE (xs:=ys) (i:=lo + i - (neq + 1)) (j:=lo + i) hz
    have hk:=zhq (κ:=κ) hz he
    refine wpS_bind (zgO (wpS_pure ⟨0,_,rfl,rfl,by omega,by omega,by omega,ho.wide (yaa _) (by omega) |>.trans (hoff.wide (by omega) (by omega)),?_,fun k q1 q2=>by rw [show k = lo + (i + 1) - 1 by omega]⟩))
    have : Dn κ (mirror ys (lo + i - (neq + 1)) (lo + i) ((lo + i - (lo + i - (neq + 1))) / 2)) lo (lo + i):=fun a b q1 q2 q3=>by rw [hk,hk]; exact hD' a b q1 q2 q3
    exact this.more (by omega) (by rw [hk,hk]; exact KeyOrd.kle_of_klt e)
   ·rw [if_neg hq]
    exact wpS_pure ⟨0,ys,rfl,rfl,by omega,by omega,by omega,ho.wide (yaa _) (by omega),hD'.more (by omega) (KeyOrd.kle_of_klt e),fun k q1 q2=>by rw [show k = lo + (i + 1) - 1 by omega]⟩
  | false=>
   simp only [yaQ,if_false]
   refine wpS_bind (zh4 hO hB' (by omega) (by omega) ?_)
   dsimp only
   cases e2 : κ.blt (kAt κ ys (lo + i - 1)) (kAt κ ys (lo + i)) with
   | true=>exact wpS_pure (h i neq ys h3 h4 h5 ho hD' he)
   | false=>
    have eq : kAt κ ys (lo + i) = kAt κ ys (lo + i - 1):=κ.total _ _ e e2
    refine wpS_pure ⟨neq + 1,ys,rfl,rfl,by omega,by omega,by omega,ho.wide (yaa _) (by omega),hD'.more (by omega) (by rw [eq]; exact KeyOrd.kle_refl _),fun k q1 q2=>?_⟩
    rw [show lo + (i + 1) - 1 = lo + i by omega,eq]
    by_cases hk : k = lo + i
    ·rw [hk]; exact eq
    ·exact he k (by omega) (by omega)
 ·rintro c st' ⟨neq,ys,rfl,rfl,h3,h4,h5,ho,hD',he⟩
  exact h _ neq ys h3 h4 h5 ho hD' he
theorem zjf {st : SortSt} {N lo n nrem m neq : Nat} {ys : Array Keyed} {Q : Option Nat→SortSt→Prop} {t : StateT SortSt Sem (Option Nat)} (hB : TB κ kd N st) (hlo : lo + nrem≤N) (m1 : n + 1≤m) (m2 : m≤nrem) (m3 : neq < m)
  (ho : Off (arrOf st) ys lo (lo + m)) (hD : Dn κ ys lo (lo + m)) (he : ∀ k,lo + m - (neq + 1)≤k→k < lo + m→kAt κ ys k = kAt κ ys (lo + m - 1)) (h : ∀ r st',zja κ st lo (n + 1) nrem r st'→Q r st')
  (ht : ∀ st',TB κ kd N st'→Dn κ (arrOf st') lo (lo + m)→(∀ r st'',zja κ st' lo m nrem r st''→Q r st'')→wpS (model prog w) A E s t Q st') :
  wpS (model prog w) A E s (if neq > 0 then do
   let _ ← reverseSlice' (lo + m - (neq + 1)) (lo + m)
   t else t) Q (setArr st ys):=by
 have hz : lo + m≤ys.size:=by rw [ho.size,hB.size]; omega
 have back : ∀ zs,Off (arrOf st) zs lo (lo + m)→∀ r st',zja κ (setArr st zs) lo m nrem r st'→Q r st':=fun zs hz r st' hr=>by
  obtain ⟨q,vs,e1,e2,e3,e4,e5,e6⟩:=hr
  exact h r st' ⟨q,vs,e1,by omega,e3,e4,(hz.wide (yaa _) (by omega)).trans e5,e6⟩
 by_cases hq : neq > 0
 ·rw [if_pos hq]
  have hoff:=zcE (xs:=ys) (i:=lo + m - (neq + 1)) (j:=lo + m) hz
  have hk:=zhq (κ:=κ) hz he
  have ho2:=ho.trans (hoff.wide (by omega) (yaa _))
  refine wpS_bind (zgO ?_)
  refine ht _ (hB.off ho2) (fun a b q1 q2 q3=>?_) (back _ ho2)
  show κ.kle (kAt κ (mirror ys (lo + m - (neq + 1)) (lo + m) ((lo + m - (lo + m - (neq + 1))) / 2)) b) (kAt κ (mirror ys (lo + m - (neq + 1)) (lo + m) ((lo + m - (lo + m - (neq + 1))) / 2)) a)
  rw [hk,hk]
  exact hD a b q1 q2 q3
 ·rw [if_neg hq]
  exact ht _ (hB.off ho) hD (back _ ho)
theorem zir {st : SortSt} {N lo nrem : Nat} {Q : Option Nat→SortSt→Prop} (hO : LtG prog w A s κ kd) (hB : TB κ kd N st) (hlo : lo + nrem≤N) (h1 : 1≤nrem) (h : ∀ r st',zja κ st lo 1 nrem r st'→Q r st') :
  wpS (model prog w) A E s (countRun' lo nrem) Q st:=by
 rw [countRun'_eq]
 refine wpS_bind (zow hO hB hlo (yaa 1) h1 zqe fun m m1 m2 hU hnext=>?_)
 dsimp only
 by_cases hm : m = nrem
 ·rw [if_pos (by simpa using hm)]
  exact wpS_pure (h _ _ ⟨m,arrOf st,rfl,m1,m2,rfl,Off.refl _ _ _,hU⟩)
 ·rw [if_neg (by simpa using hm)]
  have hnx:=hnext (by omega)
  by_cases hm1 : m > 1
  ·rw [if_pos hm1]
   refine wpS_bind (zh4 hO hB (by omega) (by omega) ?_)
   cases e : κ.blt (kAt κ (arrOf st) lo) (kAt κ (arrOf st) (lo + m - 1)) with
   | true=>
    simp only [if_true]
    exact wpS_pure (h _ _ ⟨m,arrOf st,rfl,m1,m2,rfl,Off.refl _ _ _,hU⟩)
   | false=>
    simp only [yaQ,if_false]
    have hz : lo + m≤(arrOf st).size:=by rw [hB.size]; omega
    have hoff:=zcE (xs:=arrOf st) (i:=lo) (j:=lo + m) hz
    have all : ∀ k,lo≤k→k < lo + m→kAt κ (arrOf st) k = kAt κ (arrOf st) (lo + m - 1):=fun k q1 q2=>
     KeyOrd.kle_antisymm (hU k (lo + m - 1) q1 (by omega) (by omega)) (KeyOrd.kle_trans (show κ.kle (kAt κ (arrOf st) (lo + m - 1)) (kAt κ (arrOf st) lo) from e) (hU lo k (yaa _) q1 q2))
    have hk:=zhq (κ:=κ) hz all
    refine wpS_bind (zgO ?_)
    have fin : ∀ r st',zja κ (setArr st (mirror (arrOf st) lo (lo + m) ((lo + m - lo) / 2))) lo (m + 1) nrem r st'→Q r st':=fun r st' hr=>by
     obtain ⟨q,vs,e1,e2,e3,e4,e5,e6⟩:=hr
     exact h r st' ⟨q,vs,e1,by omega,e3,e4,(hoff.wide (yaa _) (by omega)).trans e5,e6⟩
    refine wpS_bind (zcI (wpS_bind (zk5 hO (hB.off hoff) hlo (by omega) (by omega) ?_ fun m' neq ys p1 p2 p3 ho hD' he=>?_)))
    rotate_left
    ·dsimp only
     exact zjf (n:=m) (hB.off hoff) hlo p1 p2 p3 ho hD' he fin fun st' hB' hDD hh=>zk4 (fun _=>rfl) hO hB' hlo (by omega) p2 hDD hh
    ·have d0 : Dn κ (arrOf st) lo (lo + m):=fun a b q1 q2 q3=>by rw [all a q1 (by omega),all b (by omega) q3]; exact KeyOrd.kle_refl _
     have d1:=d0.more (by omega) (KeyOrd.kle_of_klt hnx)
     intro a b q1 q2 q3
     show κ.kle (kAt κ (mirror (arrOf st) lo (lo + m) ((lo + m - lo) / 2)) b) (kAt κ (mirror (arrOf st) lo (lo + m) ((lo + m - lo) / 2)) a)
     rw [hk,hk]
     exact d1 a b q1 q2 (by omega)
  ·rw [if_neg hm1]
   have e1 : m = 1:=by omega
   subst e1
   have fin : ∀ r st',zja κ st lo (1 + 1) nrem r st'→Q r st':=fun r st' hr=>by
    obtain ⟨q,vs,e1,e2,e3,e4,e5,e6⟩:=hr
    exact h r st' ⟨q,vs,e1,by omega,e3,e4,e5,e6⟩
   refine wpS_bind (zcI (wpS_bind (zk5 hO hB hlo (by omega) (by omega) ?_ fun m' neq ys p1 p2 p3 ho hD' he=>?_)))
   rotate_left
   ·dsimp only
    exact zjf (n:=1) hB hlo p1 p2 p3 ho hD' he fin fun st' hB' hDD hh=>zk4 (fun _=>rfl) hO hB' hlo (by omega) p2 hDD hh
   ·intro a b q1 q2 q3
    by_cases hab : a = b
    ·subst hab; exact KeyOrd.kle_refl _
    ·have ea : a = lo + 1 - 1:=by omega
     have eb : b = lo + 1:=by omega
     rw [ea,eb]
     exact KeyOrd.kle_of_klt hnx
end
end Tim
namespace Tim
open PySem PyProof.Rows
set_option autoImplicit false
section
variable {prog : Program} {w : World} {A : Around} {E : Value→Shared→Prop} {s : Shared} {κ : KeyKind} {kd : SortKind}
theorem zkD {xs : Array Keyed} {src dst hi : Nat} (hs : src < xs.size) (hd : dst≤src) (hh : src < hi) : Off xs (bubble xs src (src - dst)) dst hi:=
 ⟨bubble_perm _ _ _,fun k hk=>by
  rw [getElem?_bubble hs _ (by omega)]
  rw [if_neg (by omega),if_neg (by omega)]⟩
theorem zgx {xs : Array Keyed} {src dst : Nat} (hs : src < xs.size) (hd : dst≤src) (k : Nat) : kAt κ (bubble xs src (src - dst)) k = if k = dst then kAt κ xs src else if dst < k∧k≤src then kAt κ xs (k - 1) else kAt κ xs k:=by
 have e:=getElem?_bubble hs (src - dst) (by omega) k
 rw [show src - (src - dst) = dst by omega] at e
 by_cases h1 : k = dst
 ·rw [if_pos h1] at e ⊢; exact zbg e
 ·rw [if_neg h1] at e ⊢
  by_cases h2 : dst < k∧k≤src
  ·rw [if_pos h2] at e ⊢; exact zbg e
  ·rw [if_neg h2] at e ⊢; exact zbg e
theorem zgN {st : SortSt} {N lo n ok : Nat} {Q : Bool→SortSt→Prop} (hO : LtG prog w A s κ kd) (hB : TB κ kd N st) (hlo : lo + n≤N) (hok : ok≤n) (hU : Up κ (arrOf st) lo (lo + ok))
  (h : ∀ ys,Off (arrOf st) ys lo (lo + n)→Up κ ys lo (lo + n)→Q true (setArr st ys)) : wpS (model prog w) A E s (binarySort' lo n ok) Q st:=by
 rw [binarySort'_eq]
 refine wpS_bind (wpS_mono (wpS_forRange (I:=fun k c st'=>c = (none,())∧∃ ys,st' = setArr st ys∧Off (arrOf st) ys lo (lo + n)∧Up κ ys lo (lo + min k n))
  (Q:=fun c st'=>c = (none,())∧∃ ys,st' = setArr st ys∧Off (arrOf st) ys lo (lo + n)∧Up κ ys lo (lo + n)) ?step ?fin ?init) ?post)
 case post=>
  rintro c st' ⟨rfl,ys,rfl,ho,hu⟩
  exact wpS_pure (h ys ho hu)
 case init=>
  refine ⟨rfl,arrOf st,rfl,Off.refl _ _ _,fun i j h1 h2 h3=>?_⟩
  by_cases hz : j < lo + ok
  ·exact hU i j h1 h2 hz
  ·have : i = j:=by omega
   subst this
   exact KeyOrd.kle_refl _
 case fin=>
  rintro c st' ⟨rfl,ys,rfl,ho,hu⟩
  refine ⟨rfl,ys,rfl,ho,?_⟩
  rwa [show min (max (max ok 1) n) n = n by omega] at hu
 case step=>
  rintro k c st' hk1 hk2 ⟨rfl,ys,rfl,ho,hu⟩
  rw [show min k n = k by omega] at hu
  have hB' : TB κ kd N (setArr st ys):=hB.off ho
  have hz : ys.size = N:=by rw [ho.size,hB.size]
  refine wpS_bind (wpS_mono (wpS_forRange (I:=fun x c st''=>st'' = setArr st ys∧∃ l r,c = (none,l,r)∧l≤r∧r≤k∧r - l≤k - x∧
    (∀ i,i < l→κ.kle (kAt κ ys (lo + i)) (kAt κ ys (lo + k)))∧(∀ i,r≤i→i < k→κ.klt (kAt κ ys (lo + k)) (kAt κ ys (lo + i))))
   (Q:=fun c st''=>st'' = setArr st ys∧∃ l r,c = (none,l,r)∧l≤k∧
    (∀ i,i < l→κ.kle (kAt κ ys (lo + i)) (kAt κ ys (lo + k)))∧(∀ i,l≤i→i < k→κ.klt (kAt κ ys (lo + k)) (kAt κ ys (lo + i)))) ?istep ?ifin ?iinit) ?ipost)
  case iinit=>exact ⟨rfl,0,k,rfl,by omega,by omega,by omega,fun i hi=>by omega,fun i h1 h2=>by omega⟩
  case ifin=>
   rintro c st'' ⟨rfl,l,r,rfl,hlr,hrk,hm,a1,a2⟩
   have : l = r:=by omega
   subst this
   exact ⟨rfl,l,l,rfl,hrk,a1,a2⟩
  case istep=>
   rintro x c st'' _ hxk ⟨rfl,l,r,rfl,hlr,hrk,hm,a1,a2⟩
   dsimp only
   by_cases hge : l ≥ r
   ·rw [if_pos hge]
    have : l = r:=by omega
    subst this
    exact wpS_pure ⟨rfl,l,l,rfl,hrk,a1,a2⟩
   ·rw [if_neg hge]
    refine wpS_bind (zh4 hO hB' (by omega) (by omega) ?_)
    dsimp only
    cases e : κ.blt (kAt κ ys (lo + k)) (kAt κ ys (lo + (l + r) / 2)) with
    | true=>
     refine wpS_pure ⟨rfl,l,(l + r) / 2,rfl,by omega,by omega,by omega,a1,fun i h1 h2=>?_⟩
     exact KeyOrd.klt_of_klt_of_kle e (hu _ _ (by omega) (by omega) (by omega))
    | false=>
     refine wpS_pure ⟨rfl,(l + r) / 2 + 1,r,rfl,by omega,by omega,by omega,fun i h1=>?_,a2⟩
     exact KeyOrd.kle_trans (hu (lo + i) (lo + (l + r) / 2) (by omega) (by omega) (by omega)) (show κ.kle (kAt κ ys (lo + (l + r) / 2)) (kAt κ ys (lo + k)) from e)
  case ipost=>
   rintro c st'' ⟨rfl,l,r,rfl,hlk,a1,a2⟩
   dsimp only
   rw [moveDown'_eq]
   refine wpS_bind (wpS_modify (wpS_pure ⟨rfl,_,rfl,ho.trans ((zkD (hi:=lo + n) (by rw [hz]; omega) (by omega) (by omega)).wide (by omega) (yaa _)),?_⟩))
   rw [show min (k + 1) n = k + 1 by omega]
   intro i j h1 h2 h3
   show κ.kle (kAt κ (bubble ys (lo + k) (lo + k - (lo + l))) i) (kAt κ (bubble ys (lo + k) (lo + k - (lo + l))) j)
   rw [zgx (by rw [hz]; omega) (by omega),zgx (by rw [hz]; omega) (by omega)]
   have lowS : ∀ i,lo≤i→i < lo + l→κ.kle (kAt κ ys i) (kAt κ ys (lo + k)):=fun i q1 q2=>by
    have:=a1 (i - lo) (by omega)
    rw [show lo + (i - lo) = i by omega] at this
    exact this
   have highS : ∀ i,lo + l≤i→i < lo + k→κ.kle (kAt κ ys (lo + k)) (kAt κ ys i):=fun i q1 q2=>by
    have:=a2 (i - lo) (by omega) (by omega)
    rw [show lo + (i - lo) = i by omega] at this
    exact KeyOrd.kle_of_klt this
   by_cases i1 : i = lo + l
   ·rw [if_pos i1]
    by_cases j1 : j = lo + l
    ·rw [if_pos j1]; exact KeyOrd.kle_refl _
    ·rw [if_neg j1,if_pos (by omega)]
     exact highS _ (by omega) (by omega)
   ·rw [if_neg i1]
    by_cases i2 : lo + l < i∧i≤lo + k
    ·rw [if_pos i2,if_neg (by omega),if_pos (by omega)]
     exact hu _ _ (by omega) (by omega) (by omega)
    ·rw [if_neg i2]
     by_cases j1 : j = lo + l
     ·rw [if_pos j1]
      exact lowS i h1 (by omega)
     ·rw [if_neg j1]
      by_cases j2 : lo + l < j∧j≤lo + k
      ·rw [if_pos j2]
       exact hu _ _ h1 (by omega) (by omega)
      ·rw [if_neg j2]
       exact hu _ _ h1 h2 (by omega)
end
end Tim
namespace Tim
open PySem PyProof.Rows
set_option autoImplicit false
section
variable {M : Model} {A : Around} {E : Value→Shared→Prop} {s : Shared} {st : SortSt} {n hint : Nat} {p : Nat→Bool}
abbrev C2:=Option (Option Nat)×Nat×Nat
theorem zna {Q : C2→SortSt→Prop} {f : Nat→C2→StateT SortSt Sem (ForInStep C2)} (hn : hint < n) (hp : p hint = true)
  (f1 : ∀ x l o,o ≥ n - hint→f x (none,l,o) = pure (.done (none,l,o)))
  (f2 : ∀ x l o (R : ForInStep C2→SortSt→Prop),o < n - hint→(p (hint + o) = true→R (.yield (none,o,2 * o + 1)) st)→(p (hint + o) = false→R (.done (none,l,o)) st)→wpS M A E s (f x (none,l,o)) R st)
  (h : ∀ l o,l < o→hint + l < n→p (hint + l) = true→(o < n - hint→p (hint + o) = false)→Q (none,l,o) st) : wpS M A E s (forIn [:n] ((none,0,1) : C2) f) Q st:=by
 refine wpS_forRange (I:=fun i c st'=>st' = st∧∃ l o,c = (none,l,o)∧l < o∧i + 1≤o∧hint + l < n∧p (hint + l) = true) ?_ ?_ ⟨rfl,0,1,rfl,by omega,by omega,by omega,hp⟩
 ·rintro i c st' _ hi ⟨rfl,l,o,rfl,h1,h2,h3,h4⟩
  by_cases ho : o ≥ n - hint
  ·rw [f1 i l o ho]
   exact wpS_pure (h l o h1 h3 h4 fun z=>absurd z (by omega))
  ·refine f2 i l o _ (by omega) (fun e=>?_) fun e=>?_
   ·exact ⟨rfl,o,2 * o + 1,rfl,by omega,by omega,by omega,e⟩
   ·exact h l o h1 h3 h4 fun _=>e
 ·rintro c st' ⟨rfl,l,o,rfl,h1,h2,h3,h4⟩
  exact h l o h1 h3 h4 fun z=>absurd z (by omega)
theorem zoX {Q : C2→SortSt→Prop} {f : Nat→C2→StateT SortSt Sem (ForInStep C2)} (hn : hint < n) (hp : p hint = false)
  (f1 : ∀ x l o,o ≥ hint + 1→f x (none,l,o) = pure (.done (none,l,o)))
  (f2 : ∀ x l o (R : ForInStep C2→SortSt→Prop),o < hint + 1→(p (hint - o) = false→R (.yield (none,o,2 * o + 1)) st)→(p (hint - o) = true→R (.done (none,l,o)) st)→wpS M A E s (f x (none,l,o)) R st)
  (h : ∀ l o,l < o→l≤hint→p (hint - l) = false→(o < hint + 1→p (hint - o) = true)→Q (none,l,o) st) : wpS M A E s (forIn [:n] ((none,0,1) : C2) f) Q st:=by
 refine wpS_forRange (I:=fun i c st'=>st' = st∧∃ l o,c = (none,l,o)∧l < o∧i + 1≤o∧l≤hint∧p (hint - l) = false) ?_ ?_ ⟨rfl,0,1,rfl,by omega,by omega,by omega,hp⟩
 ·rintro i c st' _ hi ⟨rfl,l,o,rfl,h1,h2,h3,h4⟩
  by_cases ho : o ≥ hint + 1
  ·rw [f1 i l o ho]
   exact wpS_pure (h l o h1 h3 h4 fun z=>absurd z (by omega))
  ·refine f2 i l o _ (by omega) (fun e=>?_) fun e=>?_
   ·exact ⟨rfl,o,2 * o + 1,rfl,by omega,by omega,by omega,e⟩
   ·exact h l o h1 h3 h4 fun _=>e
 ·rintro c st' ⟨rfl,l,o,rfl,h1,h2,h3,h4⟩
  exact h l o h1 h3 h4 fun z=>absurd z (by omega)
theorem zje {Q : Option Nat→SortSt→Prop} {lo hi : Nat} {f : Nat→C2→StateT SortSt Sem (ForInStep C2)} {k : C2→StateT SortSt Sem (Option Nat)}
  (anti : ∀ i j,i≤j→j < n→p j = true→p i = true) (h1 : lo≤hi) (h2 : hi≤n) (hl : ∀ i,i < lo→p i = true) (hh : ∀ i,hi≤i→i < n→p i = false)
  (f1 : ∀ x l r,l ≥ r→f x (none,l,r) = pure (.done (none,l,r)))
  (f2 : ∀ x l r (R : ForInStep C2→SortSt→Prop),l < r→r≤n→(p (l + (r - l) / 2) = true→R (.yield (none,l + (r - l) / 2 + 1,r)) st)→(p (l + (r - l) / 2) = false→R (.yield (none,l,l + (r - l) / 2)) st)→wpS M A E s (f x (none,l,r)) R st)
  (hk : ∀ l r,k (none,l,r) = pure (some r))
  (h : ∀ m,m≤n→(∀ i,i < m→p i = true)→(∀ i,m≤i→i < n→p i = false)→Q (some m) st) : wpS M A E s (do let c ← forIn [:n] ((none,lo,hi) : C2) f; k c) Q st:=by
 refine wpS_bind (wpS_mono (wpS_forRange (I:=fun x c st'=>st' = st∧∃ l r,c = (none,l,r)∧l≤r∧r≤n∧r - l≤n - x∧(∀ i,i < l→p i = true)∧∀ i,r≤i→i < n→p i = false)
  (Q:=fun c st'=>st' = st∧∃ m,c = (none,m,m)∧m≤n∧(∀ i,i < m→p i = true)∧∀ i,m≤i→i < n→p i = false) ?_ ?_ ⟨rfl,lo,hi,rfl,h1,h2,by omega,hl,hh⟩) ?_)
 ·rintro x c st' _ hx ⟨rfl,l,r,rfl,a1,a2,a3,a4,a5⟩
  by_cases hge : l ≥ r
  ·rw [f1 x l r hge]
   have : l = r:=by omega
   subst this
   exact wpS_pure ⟨rfl,l,rfl,a2,a4,a5⟩
  ·refine f2 x l r _ (by omega) a2 (fun e=>?_) fun e=>?_
   ·exact ⟨rfl,_,r,rfl,by omega,a2,by omega,fun i hi=>anti i _ (by omega) (by omega) e,a5⟩
   ·refine ⟨rfl,l,_,rfl,by omega,by omega,by omega,a4,fun i q1 q2=>?_⟩
    cases z : p i with
    | false=>rfl
    | true=>rw [anti _ i q1 q2 z] at e; cases e
 ·rintro c st' ⟨rfl,l,r,rfl,a1,a2,a3,a4,a5⟩
  have : l = r:=by omega
  subst this
  exact ⟨rfl,l,rfl,a2,a4,a5⟩
 ·rintro c st' ⟨rfl,m,rfl,a2,a4,a5⟩
  rw [hk]
  exact wpS_pure (h m a2 a4 a5)
end
def ziU : Bool→Keyed→Array Keyed→Nat→Nat→Nat→StateT SortSt Sem (Option Nat):=sortPriv% PySem.Builtin.gallop
section
variable {prog : Program} {w : World} {A : Around} {E : Value→Shared→Prop} {s : Shared} {κ : KeyKind} {kd : SortKind}
def bey (κ : KeyKind) (left : Bool) (key : Keyed) (arr : Array Keyed) (base i : Nat) : Bool:=if left = true then κ.blt (kAt κ arr (base + i)) (ky κ key) else !κ.blt (ky κ key) (kAt κ arr (base + i))
theorem zcz {st : SortSt} {left : Bool} {key : Keyed} {arr : Array Keyed} {base n hint : Nat} {Q : Option Nat→SortSt→Prop} (hO : LtG prog w A s κ kd) (hkd : kindOf st = kd) (hkey : Keyd κ key) (hks : ∀ q∈arr.toList,Keyd κ q)
  (hz : base + n≤arr.size) (hn : hint < n) (hU : Up κ arr base (base + n))
  (h : ∀ m,m≤n→(∀ i,i < m→bey κ left key arr base i = true)→(∀ i,m≤i→i < n→bey κ left key arr base i = false)→Q (some m) st) : wpS (model prog w) A E s (ziU left key arr base n hint) Q st:=by
 have anti : ∀ i j,i≤j→j < n→bey κ left key arr base j = true→bey κ left key arr base i = true:=by
  intro i j hij hj
  have hle:=hU (base + i) (base + j) (by omega) (by omega) (by omega)
  unfold bey
  cases left with
  | true=>
   simp only [if_true]
   intro e
   exact KeyOrd.klt_of_kle_of_klt hle e
  | false=>
   simp only [yaQ,if_false]
   intro e
   cases z : κ.blt (ky κ key) (kAt κ arr (base + i)) with
   | false=>rfl
   | true=>
    have : κ.blt (ky κ key) (kAt κ arr (base + j)) = true:=KeyOrd.klt_of_klt_of_kle z hle
    rw [this] at e
    cases e
 have hb : ∀ i (R : Option Bool→SortSt→Prop),i < n→R (some (bey κ left key arr base i)) st→wpS (model prog w) A E s (do
   let x ← elem' arr (base + i)
   if left = true then lt' x key else do
    let r ← lt' key x
    pure (Option.map (fun b=>!b) r)) R st:=fun i R hi hR=>by
  have hi' : base + i < arr.size:=by omega
  refine wpS_bind (za6 hi' ?_)
  have hkx : Keyd κ arr[base + i]:=hks _ (by simp)
  unfold bey at hR
  rw [za7 hi'] at hR
  cases left with
  | true=>
   rw [if_pos rfl] at hR ⊢
   exact lt_G hO hkd hkx hkey hR
  | false=>
   rw [if_neg (by decide)] at hR ⊢
   exact wpS_bind (lt_G hO hkd hkey hkx (wpS_pure hR))
 refine wpS_bind (hb hint _ hn ?_)
 dsimp only
 generalize bey κ left key arr base = p at *
 cases e0 : p hint with
 | true=>
  simp only [if_true]
  refine wpS_bind (zna (p:=p) hn e0 (fun x l o ho=>?_) (fun x l o R ho r1 r2=>?_) fun l o a1 a2 a3 a4=>?_)
  ·dsimp only
   rw [if_pos ho]
  ·dsimp only
   rw [if_neg (by omega)]
   refine wpS_bind (hb (hint + o) _ (by omega) ?_)
   dsimp only
   cases e : p (hint + o) with
   | true=>exact wpS_pure (r1 e)
   | false=>exact wpS_pure (r2 e)
  ·dsimp only
   refine zje (p:=p) anti (by omega) (by omega) (fun i hi=>anti i (hint + l) (by omega) a2 a3) (fun i q1 q2=>?_) (fun x l r hge=>?_) (fun x l r R q1 q2 r1 r2=>?_) (fun _ _=>rfl) h
   ·by_cases ho : o < n - hint
    ·cases z : p i with
     | false=>rfl
     | true=>
      have:=anti (hint + o) i (by omega) q2 z
      rw [a4 ho] at this
      cases this
    ·exact absurd q2 (by omega)
   ·dsimp only
    rw [if_pos hge]
   ·dsimp only
    rw [if_neg (by omega)]
    refine wpS_bind (hb _ _ (by omega) ?_)
    dsimp only
    cases e : p (l + (r - l) / 2) with
    | true=>exact wpS_pure (r1 e)
    | false=>exact wpS_pure (r2 e)
 | false=>
  simp only [yaQ,if_false]
  refine wpS_bind (zoX (p:=p) hn e0 (fun x l o ho=>?_) (fun x l o R ho r1 r2=>?_) fun l o a1 a2 a3 a4=>?_)
  ·dsimp only
   rw [if_pos ho]
  ·dsimp only
   rw [if_neg (by omega)]
   refine wpS_bind (hb (hint - o) _ (by omega) ?_)
   dsimp only
   cases e : p (hint - o) with
   | true=>exact wpS_pure (r2 e)
   | false=>exact wpS_pure (r1 e)
  ·dsimp only
   refine zje (p:=p) anti (by omega) (by omega) (fun i hi=>?_) (fun i q1 q2=>?_) (fun x l r hge=>?_) (fun x l r R q1 q2 r1 r2=>?_) (fun _ _=>rfl) h
   ·by_cases ho : o < hint + 1
    ·exact anti i (hint - o) (by omega) (by omega) (a4 ho)
    ·exact absurd hi (by omega)
   ·cases z : p i with
    | false=>rfl
    | true=>
     have:=anti (hint - l) i (by omega) q2 z
     rw [a3] at this
     cases this
   ·dsimp only
    rw [if_pos hge]
   ·dsimp only
    rw [if_neg (by omega)]
    refine wpS_bind (hb _ _ (by omega) ?_)
    dsimp only
    cases e : p (l + (r - l) / 2) with
    | true=>exact wpS_pure (r1 e)
    | false=>exact wpS_pure (r2 e)
end
end Tim
namespace Tim
open PySem PyProof.Rows
set_option autoImplicit false
section
variable {κ : KeyKind}
def le (κ : KeyKind) (x y : Keyed) : Prop:=κ.kle (ky κ x) (ky κ y)
theorem le_refl (x : Keyed) : le κ x x:=KeyOrd.kle_refl _
theorem le_trans {x y z : Keyed} (h1 : le κ x y) (h2 : le κ y z) : le κ x z:=KeyOrd.kle_trans h1 h2
abbrev SL (κ : KeyKind) (l : List Keyed) : Prop:=l.Pairwise (le κ)
theorem SL.drop {l : List Keyed} (h : SL κ l) (n : Nat) : SL κ (l.drop n):=h.sublist (yb2 n l)
theorem SL.take {l : List Keyed} (h : SL κ l) (n : Nat) : SL κ (l.take n):=h.sublist (List.take_sublist n l)
theorem zes {xs : Array Keyed} {i : Nat} (h : i < xs.size) : xs.toList.drop i = xs[i] :: xs.toList.drop (i + 1):=by
 have h' : i < xs.toList.length:=by simpa using h
 rw [yb3 h']
 simp
theorem zdg {xs : Array Keyed} {i : Nat} (hs : SL κ xs.toList) (h : i < xs.size) : ∀ y∈xs.toList.drop i,le κ xs[i] y:=by
 intro y hy
 have q:=hs.drop i
 rw [zes h] at q hy
 rcases yak.mp hy with rfl | hy
 ·exact le_refl _
 ·exact (yb4.mp q).1 y hy
theorem zdW {xs : Array Keyed} {i k : Nat} {x : Keyed} (h : x∈(xs.toList.drop i).take k) : ∃ j,j < k∧i + j < xs.size∧xs[i + j]? = some x:=by
 obtain ⟨j,hj,e⟩:=List.mem_iff_getElem.mp h
 have hj':=hj
 rw [yap,yaL,yas] at hj'
 refine ⟨j,by omega,by omega,?_⟩
 rw [List.getElem_take,List.getElem_drop] at e
 rw [yaY (by omega)]
 simpa using e
theorem zcX {xs : Array Keyed} {i : Nat} {x : Keyed} (h : xs[i]? = some x) : kAt κ xs i = ky κ x:=by
 unfold kAt
 rw [h]
theorem zgR {xs : Array Keyed} (hs : SL κ xs.toList) (lo hi : Nat) (hh : hi≤xs.size) : Up κ xs lo hi:=by
 intro i j h1 h2 h3
 have hj : j < xs.size:=by omega
 have hi : i < xs.size:=by omega
 rw [za7 hi,za7 hj]
 refine zdg hs hi _ ?_
 rw [List.mem_iff_getElem]
 refine ⟨j - i,by rw [yaL,yas]; omega,?_⟩
 rw [List.getElem_drop]
 simp [show i + (j - i) = j by omega]
theorem zpJ {xs : Array Keyed} (h : Up κ xs 0 xs.size) : SL κ xs.toList:=by
 rw [SL,ybj]
 intro i j hi hj hij
 have hi' : i < xs.size:=by simpa using hi
 have hj' : j < xs.size:=by simpa using hj
 have:=h i j (yaE _) (by omega) hj'
 rw [za7 hi',za7 hj'] at this
 simpa [le] using this
structure MI (κ : KeyKind) (a b : Array Keyed) (out : Array Keyed) (ia ib : Nat) : Prop where
 perm : (out.toList ++ (a.toList.drop ia ++ b.toList.drop ib)).Perm (a.toList ++ b.toList)
 srt : SL κ out.toList
 low : ∀ x∈out.toList,∀ y∈a.toList.drop ia ++ b.toList.drop ib,le κ x y
variable {a b out : Array Keyed} {ia ib : Nat}
theorem MI.goA {out' : Array Keyed} {k : Nat} (h : MI κ a b out ia ib) (sa : SL κ a.toList) (ho : out'.toList = out.toList ++ (a.toList.drop ia).take k) (hle : ∀ x∈(a.toList.drop ia).take k,∀ y∈b.toList.drop ib,le κ x y) : MI κ a b out' (ia + k) ib:=by
 have e : a.toList.drop ia = (a.toList.drop ia).take k ++ a.toList.drop (ia + k):=by
  rw [← ybx,yaM]
 have s1:=sa.drop ia
 rw [e] at s1
 obtain ⟨p1,p2,p3⟩:=yaF.mp s1
 refine ⟨?_,?_,?_⟩
 ·have q:=h.perm
  rw [e] at q
  rw [ho]
  simpa [yaK] using q
 ·rw [ho]
  exact yaF.mpr ⟨h.srt,p1,fun x hx y hy=>h.low x hx y (yaR _ (yby hy))⟩
 ·intro x hx y hy
  rw [ho] at hx
  rcases yaj.mp hx with hx | hx
  ·refine h.low x hx y ?_
   rcases yaj.mp hy with hy | hy
   ·refine yaR _ ?_
    rw [e]
    exact yaA _ hy
   ·exact yaA _ hy
  ·rcases yaj.mp hy with hy | hy
   ·exact p3 x hx y hy
   ·exact hle x hx y hy
theorem MI.goB {out' : Array Keyed} {k : Nat} (h : MI κ a b out ia ib) (sb : SL κ b.toList) (ho : out'.toList = out.toList ++ (b.toList.drop ib).take k) (hle : ∀ x∈(b.toList.drop ib).take k,∀ y∈a.toList.drop ia,le κ x y) : MI κ a b out' ia (ib + k):=by
 have e : b.toList.drop ib = (b.toList.drop ib).take k ++ b.toList.drop (ib + k):=by
  rw [← ybx,yaM]
 have s1:=sb.drop ib
 rw [e] at s1
 obtain ⟨p1,p2,p3⟩:=yaF.mp s1
 refine ⟨?_,?_,?_⟩
 ·have q:=h.perm
  rw [e] at q
  rw [ho]
  refine List.Perm.trans ?_ q
  rw [yaK]
  refine List.Perm.append_left _ ?_
  rw [← yaK,← yaK]
  exact List.Perm.append_right _ ybN
 ·rw [ho]
  exact yaF.mpr ⟨h.srt,p1,fun x hx y hy=>h.low x hx y (yaA _ (yby hy))⟩
 ·intro x hx y hy
  rw [ho] at hx
  rcases yaj.mp hx with hx | hx
  ·refine h.low x hx y ?_
   rcases yaj.mp hy with hy | hy
   ·exact yaR _ hy
   ·refine yaA _ ?_
    rw [e]
    exact yaA _ hy
  ·rcases yaj.mp hy with hy | hy
   ·exact hle x hx y hy
   ·exact p3 x hx y hy
theorem zdV {xs : Array Keyed} {i : Nat} (h : i < xs.size) : (xs.toList.drop i).take 1 = [xs[i]]:=by
 rw [zes h]
 rfl
theorem MI.pa (h : MI κ a b out ia ib) (sa : SL κ a.toList) (hia : ia < a.size) (hle : ∀ y∈b.toList.drop ib,le κ a[ia] y) : MI κ a b (out.push a[ia]) (ia + 1) ib:=
 h.goA (k:=1) sa (by rw [zdV hia,ybO]) (by
  rw [zdV hia]
  intro x hx
  rw [yal.mp hx]
  exact hle)
theorem MI.pb (h : MI κ a b out ia ib) (sb : SL κ b.toList) (hib : ib < b.size) (hle : ∀ y∈a.toList.drop ia,le κ b[ib] y) : MI κ a b (out.push b[ib]) ia (ib + 1):=
 h.goB (k:=1) sb (by rw [zdV hib,ybO]) (by
  rw [zdV hib]
  intro x hx
  rw [yal.mp hx]
  exact hle)
structure zbY (κ : KeyKind) (a b m : Array Keyed) : Prop where
 perm : m.toList.Perm (a.toList ++ b.toList)
 srt : SL κ m.toList
theorem zeK {xs : Array Keyed} {i k : Nat} : (xs.extract i (i + k)).toList = (xs.toList.drop i).take k:=by
 rw [yb5,yb6,Nat.add_sub_cancel_left]
theorem zeL {xs : Array Keyed} {i : Nat} : (xs.extract i xs.size).toList = xs.toList.drop i:=by
 rw [yb5,yb6]
 exact yar (by rw [yaL,yas]; exact yaa _)
theorem MI.done (h : MI κ a b out ia ib) (sa : SL κ a.toList) (hib : b.size≤ib) : zbY κ a b (out ++ a.extract ia a.size ++ b.extract ib b.size):=by
 have e : b.toList.drop ib = []:=yaZ (by rw [yas]; exact hib)
 have e2 : (out ++ a.extract ia a.size ++ b.extract ib b.size).toList = out.toList ++ (a.toList.drop ia ++ b.toList.drop ib):=by
  rw [yaN,yaN,zeL,zeL,yaK]
 refine ⟨by rw [e2]; exact h.perm,?_⟩
 rw [e2,e,yaH]
 refine yaF.mpr ⟨h.srt,sa.drop ia,fun x hx y hy=>h.low x hx y (yaR _ hy)⟩
theorem MI.doneA (h : MI κ a b out ia ib) (sb : SL κ b.toList) (hia : a.size≤ia) : zbY κ a b (out ++ a.extract ia a.size ++ b.extract ib b.size):=by
 have e : a.toList.drop ia = []:=yaZ (by rw [yas]; exact hia)
 have e2 : (out ++ a.extract ia a.size ++ b.extract ib b.size).toList = out.toList ++ (a.toList.drop ia ++ b.toList.drop ib):=by
  rw [yaN,yaN,zeL,zeL,yaK]
 refine ⟨by rw [e2]; exact h.perm,?_⟩
 rw [e2,e,List.nil_append]
 refine yaF.mpr ⟨h.srt,sb.drop ib,fun x hx y hy=>h.low x hx y (yaA _ hy)⟩
theorem MI.last (h : MI κ a b out ia ib) (sa : SL κ a.toList) (sb : SL κ b.toList) (hl : ∀ y∈b.toList,∀ x∈a.toList.drop ia,le κ y x) : zbY κ a b (out ++ b.extract ib b.size ++ a.extract ia a.size):=by
 have e2 : (out ++ b.extract ib b.size ++ a.extract ia a.size).toList = out.toList ++ (b.toList.drop ib ++ a.toList.drop ia):=by
  rw [yaN,yaN,zeL,zeL,yaK]
 refine ⟨?_,?_⟩
 ·rw [e2]
  exact (List.Perm.append_left _ ybN).trans h.perm
 ·rw [e2]
  refine yaF.mpr ⟨h.srt,yaF.mpr ⟨sb.drop ib,sa.drop ia,fun x hx y hy=>hl x (ybz hx) y hy⟩,fun x hx y hy=>h.low x hx y ?_⟩
  rcases yaj.mp hy with q | q
  ·exact yaA _ q
  ·exact yaR _ q
end
end Tim
namespace Tim
open PySem PyProof.Rows
set_option autoImplicit false
def zjU : Array Keyed→Array Keyed→StateT SortSt Sem (Array Keyed):=sortPriv% PySem.Builtin.mergeLo
def zkr : Nat→StateT SortSt Sem Unit:=sortPriv% PySem.Builtin.setMinGallop
structure SG (st st' : SortSt) : Prop where
 kind : kindOf st' = kindOf st
 arr : arrOf st' = arrOf st
 pend : pendingOf st' = pendingOf st
 failed : failedOf st' = failedOf st
theorem SG.refl (st : SortSt) : SG st st:=⟨rfl,rfl,rfl,rfl⟩
theorem SG.trans {s1 s2 s3 : SortSt} (h : SG s1 s2) (g : SG s2 s3) : SG s1 s3:=⟨g.kind.trans h.kind,g.arr.trans h.arr,g.pend.trans h.pend,g.failed.trans h.failed⟩
section
variable {prog : Program} {w : World} {A : Around} {E : Value→Shared→Prop} {s : Shared} {κ : KeyKind} {kd : SortKind}
theorem zcg {g : Nat} {st st0 : SortSt} {Q : Unit→SortSt→Prop} (hg : SG st0 st) (h : ∀ st',SG st0 st'→Q () st') : wpS (model prog w) A E s (zkr g) Q st:=by
 refine wpS_modify (h _ (hg.trans ⟨rfl,rfl,rfl,rfl⟩))
theorem mp2 {P g : Prop} (k : P) (m : P→g) : g:=m k
set_option maxHeartbeats 4000000 in
theorem zki {st : SortSt} {a b : Array Keyed} {Q : Array Keyed→SortSt→Prop} (hO : LtG prog w A s κ kd) (hkd : kindOf st = kd) (ka : ∀ q∈a.toList,Keyd κ q) (kb : ∀ q∈b.toList,Keyd κ q) (sa : SL κ a.toList) (sb : SL κ b.toList)
  (ha : 0 < a.size) (hb : 0 < b.size) (h0 : ∀ y∈a.toList,le κ b[0] y) (hl : ∀ y∈b.toList,∀ i,i + 1 = a.size→∀ x∈a.toList.drop i,le κ y x)
  (h : ∀ m st',zbY κ a b m→SG st st'→Q m st') : wpS (model prog w) A E s (zjU a b) Q st:=by
 have m0 : MI κ a b #[b[0]] 0 1:=by
  have z : MI κ a b #[] 0 0:=⟨by simp,by simp,by simp⟩
  have:=z.pb sb hb (by simpa using h0)
  simpa using this
 refine wpS_bind (zcI ?_)
 dsimp only
 refine wpS_bind (za6 hb ?_)
 by_cases e1 : 1 = b.size
 ·rw [if_pos (by simpa using e1)]
  exact wpS_pure (h _ _ (m0.done sa (by omega)) (SG.refl st))
 rw [if_neg (by simpa using e1)]
 by_cases e2 : 0 + 1 = a.size
 ·rw [if_pos (by simpa using e2)]
  exact wpS_pure (h _ _ (m0.last sa sb (fun y hy x hx=>hl y hy 0 e2 x hx)) (SG.refl st))
 rw [if_neg (by simpa using e2)]
 refine wpS_bind (wpS_get ?_)
 refine wpS_bind (wpS_mono (wpS_forRange (I:=fun i c st'=>SG st st'∧∃ out ia ib g,c = (none,out,ia,ib,g)∧MI κ a b out ia ib∧ia + 1 < a.size∧ib < b.size∧i + 1≤ia + ib)
  (Q:=fun c st'=>SG st st'∧∃ m r,c = (some m,r)∧zbY κ a b m) ?step ?fin ⟨SG.refl st,_,0,1,_,rfl,m0,by omega,by omega,by omega⟩) ?post)
 case post=>
  rintro c st' ⟨g,m,r,rfl,hm⟩
  exact wpS_pure (h m st' hm g)
 case fin=>
  rintro c st' ⟨g,out,ia,ib,gg,rfl,hm,q1,q2,q3⟩
  exact absurd q3 (by omega)
 case step=>
  rintro i c st1 _ hi ⟨g1,out,ia,ib,gg,rfl,hm,q1,q2,q3⟩
  dsimp only
  refine wpS_bind (wpS_mono (wpS_forRange (I:=fun x c st'=>st' = st1∧∃ out' ia' ib' ca cb,c = (none,out',ia',ib',ca,cb)∧MI κ a b out' ia' ib'∧ia' + 1 < a.size∧ib' < b.size∧ia + ib + x≤ia' + ib')
   (Q:=fun c st'=>st' = st1∧((∃ m r,c = (some m,r)∧zbY κ a b m)∨∃ out' ia' ib' ca cb,c = (none,out',ia',ib',ca,cb)∧MI κ a b out' ia' ib'∧ia' + 1 < a.size∧ib' < b.size∧ia + ib + 1≤ia' + ib')) ?istep ?ifin ⟨rfl,out,ia,ib,0,0,rfl,hm,q1,q2,by omega⟩) ?ipost)
  case ifin=>
   rintro c st' ⟨rfl,out',ia',ib',ca,cb,rfl,hm',r1,r2,r3⟩
   exact ⟨rfl,.inr ⟨out',ia',ib',ca,cb,rfl,hm',r1,r2,by omega⟩⟩
  case istep=>
   rintro x c st' _ hx ⟨rfl,out',ia',ib',ca,cb,rfl,hm',r1,r2,r3⟩
   dsimp only
   refine wpS_bind (za6 r2 (wpS_bind (za6 (show ia' < a.size by omega) (wpS_bind (lt_G hO (by rw [g1.kind]; exact hkd) (kb _ (by simp)) (ka _ (by simp)) ?_)))))
   dsimp only
   cases e : κ.blt (ky κ b[ib']) (ky κ (a[ia']'(by omega))) with
   | true=>
    simp only [if_true]
    have hm2:=hm'.pb sb r2 (fun y hy=>le_trans (show le κ b[ib'] (a[ia']'(by omega)) from KeyOrd.kle_of_klt e) (zdg sa (by omega) y hy))
    refine wpS_bind (za6 r2 ?_)
    by_cases z : ib' + 1 = b.size
    ·rw [if_pos (by simpa using z)]
     exact wpS_pure ⟨rfl,.inl ⟨_,_,rfl,hm2.done sa (by omega)⟩⟩
    ·rw [if_neg (by simpa using z)]
     split
     ·exact wpS_pure ⟨rfl,.inr ⟨_,_,_,_,_,rfl,hm2,by omega,by omega,by omega⟩⟩
     ·exact wpS_pure ⟨rfl,_,_,_,_,_,rfl,hm2,by omega,by omega,by omega⟩
   | false=>
    simp only [yaQ,if_false]
    have hm2:=hm'.pa sa (show ia' < a.size by omega) (fun y hy=>le_trans (show le κ (a[ia']'(by omega)) b[ib'] from e) (zdg sb r2 y hy))
    refine wpS_bind (za6 (show ia' < a.size by omega) ?_)
    by_cases z : ia' + 1 + 1 = a.size
    ·rw [if_pos (by simpa using z)]
     exact wpS_pure ⟨rfl,.inl ⟨_,_,rfl,hm2.last sa sb (fun y hy x hx=>hl y hy _ z x hx)⟩⟩
    ·rw [if_neg (by simpa using z)]
     split
     ·exact wpS_pure ⟨rfl,.inr ⟨_,_,_,_,_,rfl,hm2,by omega,by omega,by omega⟩⟩
     ·exact wpS_pure ⟨rfl,_,_,_,_,_,rfl,hm2,by omega,by omega,by omega⟩
  case ipost=>
   rintro c st' ⟨rfl,⟨m,r,rfl,hmm⟩ | ⟨out,ia',ib',ca,cb,rfl,hm,q1,q2,q4⟩⟩
   ·exact wpS_pure ⟨g1,m,_,rfl,hmm⟩
   dsimp only
   refine wpS_bind (zcI ?_)
   refine wpS_bind (wpS_mono (wpS_forRange (I:=fun x c st''=>SG st st''∧∃ out1 ia1 ib1 gg ca cb,c = (none,out1,ia1,ib1,gg,ca,cb)∧MI κ a b out1 ia1 ib1∧ia1 + 1 < a.size∧ib1 < b.size∧ia + ib + 1≤ia1 + ib1)
    (Q:=fun c st''=>SG st st''∧((∃ m r,c = (some m,r)∧zbY κ a b m)∨∃ out1 ia1 ib1 gg ca cb,c = (none,out1,ia1,ib1,gg,ca,cb)∧MI κ a b out1 ia1 ib1∧ia1 + 1 < a.size∧ib1 < b.size∧ia + ib + 1≤ia1 + ib1)) ?jstep ?jfin ⟨g1,_,_,_,_,_,_,rfl,hm,q1,q2,q4⟩) ?jpost)
   case jfin=>
    rintro c st'' ⟨g2,out1,ia1,ib1,gg1,ca1,cb1,rfl,r⟩
    exact ⟨g2,.inr ⟨_,_,_,_,_,_,rfl,r⟩⟩
   case jpost=>
    rintro c st'' ⟨g2,⟨m,r,rfl,hmm⟩ | ⟨out1,ia1,ib1,gg1,ca1,cb1,rfl,hm1,t1,t2,t3⟩⟩
    ·exact wpS_pure ⟨g2,m,_,rfl,hmm⟩
    ·dsimp only
     exact wpS_bind (zcg g2 fun st3 g3=>wpS_pure ⟨g3,_,_,_,_,rfl,hm1,t1,t2,by omega⟩)
   case jstep=>
    rintro x c st'' _ hx ⟨g2,out1,ia1,ib1,gg1,ca1,cb1,rfl,hm1,t1,t2,t3⟩
    dsimp only
    apply mp2
    case m=>
     intro key
     by_cases hg : gg1 > 1
     ·rw [if_pos hg]
      generalize gg1 - 1 = gg2
      revert gg2
      exact key
     ·rw [if_neg hg]
      generalize gg1 = gg2
      revert gg2
      exact key
    intro gg2
    refine wpS_bind (zcg g2 fun st3 g3=>?_)
    refine wpS_bind (za6 t2 (wpS_bind (zcz hO (by rw [g3.kind]; exact hkd) (kb _ (by simp)) ka (by omega) (by omega) (zgR sa _ _ (by omega)) fun k k1 k2 k3=>?_)))
    dsimp only
    have hmk : MI κ a b (out1 ++ a.extract ia1 (ia1 + k)) (ia1 + k) ib1:=hm1.goA sa (by rw [yaN,zeK]) fun x hx y hy=>by
     obtain ⟨j,j1,j2,j3⟩:=zdW hx
     have q:=k2 j j1
     unfold bey at q
     rw [if_neg (by decide),zcX j3,ybP] at q
     exact le_trans (show le κ x b[ib1] from q) (zdg sb t2 y hy)
    have bk : ∀ hq : ia1 + k < a.size,∀ y∈a.toList.drop (ia1 + k),le κ b[ib1] y:=fun hq y hy=>by
     have q:=k3 k (yaa _) (by omega)
     unfold bey at q
     rw [if_neg (by decide),za7 hq,ycs] at q
     exact le_trans (show le κ b[ib1] a[ia1 + k] from KeyOrd.kle_of_klt q) (zdg sa hq y hy)
    apply mp2
    case m=>
     by_cases hk : k > 0
     ·by_cases z : ia1 + k + 1 = a.size
      ·intro h
       clear h
       rw [if_pos hk,if_pos (by simpa using z)]
       exact wpS_pure ⟨g3,.inl ⟨_,_,rfl,hmk.last sa sb (fun y hy x hx=>hl y hy _ z x hx)⟩⟩
      have z0 : ¬(ia1 + k + 1 == a.size) = true:=by simpa using z
      by_cases z' : ia1 + k = a.size
      ·intro h
       clear h
       rw [if_pos hk,if_neg z0,if_pos (by simpa using z')]
       exact wpS_pure ⟨g3,.inl ⟨_,_,rfl,hmk.doneA sb (by omega)⟩⟩
      have z1 : ¬(ia1 + k == a.size) = true:=by simpa using z'
      have u2:=bk (by omega)
      have w1 : ia1 + k + 1 < a.size:=by omega
      have w3 : ia + ib + 1≤ia1 + k + ib1:=by omega
      intro key
      rw [if_pos hk,if_neg z0,if_neg z1]
      refine (?_ : MI κ a b (out1 ++ a.extract ia1 (ia1 + k)) (ia1 + k) ib1→(∀ y∈a.toList.drop (ia1 + k),le κ (b[ib1]'t2) y)→ia1 + k + 1 < a.size→ia + ib + 1≤ia1 + k + ib1→_) hmk u2 w1 w3
      generalize out1 ++ a.extract ia1 (ia1 + k) = out2
      generalize ia1 + k = ja
      generalize k = cnt
      revert out2 ja cnt
      exact key
     ·have e0 : k = 0:=by omega
      have u2:=bk (by omega)
      rw [e0,ybp] at u2
      intro key
      rw [if_neg hk]
      refine (?_ : MI κ a b out1 ia1 ib1→(∀ y∈a.toList.drop ia1,le κ (b[ib1]'t2) y)→ia1 + 1 < a.size→ia + ib + 1≤ia1 + ib1→_) hm1 u2 t1 t3
      generalize k = cnt
      generalize ia1 = ja
      generalize out1 = out2
      exact key out2 ja cnt
    intro out2 ja cnt hm2 u2 w1 w3
    refine wpS_bind (za6 t2 ?_)
    have hm3:=hm2.pb sb t2 u2
    by_cases z2 : ib1 + 1 = b.size
    ·rw [if_pos (by simpa using z2)]
     exact wpS_pure ⟨g3,.inl ⟨_,_,rfl,hm3.done sa (by omega)⟩⟩
    ·rw [if_neg (by simpa using z2)]
     refine wpS_bind (za6 (show ja < a.size by omega) (wpS_bind (zcz hO (by rw [g3.kind]; exact hkd) (ka _ (by simp)) kb (by omega) (by omega) (zgR sb _ _ (by omega)) fun k' c1 c2 c3=>?_)))
     dsimp only
     have ge5 : ∀ hq : ib1 + 1 + k' < b.size,le κ (a[ja]'(by omega)) b[ib1 + 1 + k']:=fun hq=>by
      have q:=c3 k' (yaa _) (by omega)
      unfold bey at q
      rw [if_pos rfl,za7 hq] at q
      exact q
     have hm4 : MI κ a b (out2.push b[ib1] ++ b.extract (ib1 + 1) (ib1 + 1 + k')) ja (ib1 + 1 + k'):=hm3.goB sb (by rw [yaN (ys:=b.extract (ib1 + 1) (ib1 + 1 + k')),zeK (xs:=b)]) fun x hx y hy=>by
      obtain ⟨j,j1,j2,j3⟩:=zdW hx
      have q:=c2 j j1
      unfold bey at q
      rw [if_pos rfl,zcX j3] at q
      exact le_trans (show le κ x (a[ja]'(by omega)) from KeyOrd.kle_of_klt q) (zdg sa (by omega) y hy)
     by_cases hk' : k' > 0
     ·rw [if_pos hk']
      by_cases z3 : ib1 + 1 + k' = b.size
      ·rw [if_pos (by simpa using z3)]
       exact wpS_pure ⟨g3,.inl ⟨_,_,rfl,hm4.done sa (by omega)⟩⟩
      ·rw [if_neg (by simpa using z3)]
       refine wpS_bind (za6 (show ja < a.size by omega) ?_)
       have hm5:=hm4.pa sa (show ja < a.size by omega) fun y hy=>le_trans (show le κ (a[ja]'(by omega)) (b[ib1 + 1 + k']'(by omega)) from ge5 (by omega)) (zdg sb (by omega) y hy)
       by_cases z4 : ja + 1 + 1 = a.size
       ·rw [if_pos (by simpa using z4)]
        exact wpS_pure ⟨g3,.inl ⟨_,_,rfl,hm5.last sa sb (fun y hy x hx=>hl y hy _ z4 x hx)⟩⟩
       ·rw [if_neg (by simpa using z4)]
        split
        ·exact wpS_pure ⟨g3,.inr ⟨_,_,_,_,_,_,rfl,hm5,by omega,by omega,by omega⟩⟩
        ·exact wpS_pure ⟨g3,_,_,_,_,_,_,rfl,hm5,by omega,by omega,by omega⟩
     ·rw [if_neg hk']
      have e0 : k' = 0:=by omega
      subst e0
      replace hm4:=hm3
      refine wpS_bind (za6 (show ja < a.size by omega) ?_)
      have hm5:=hm4.pa sa (show ja < a.size by omega) fun y hy=>le_trans (show le κ (a[ja]'(by omega)) (b[ib1 + 1]'(by omega)) from ge5 (by omega)) (zdg sb (by omega) y hy)
      by_cases z4 : ja + 1 + 1 = a.size
      ·rw [if_pos (by simpa using z4)]
       exact wpS_pure ⟨g3,.inl ⟨_,_,rfl,hm5.last sa sb (fun y hy x hx=>hl y hy _ z4 x hx)⟩⟩
      ·rw [if_neg (by simpa using z4)]
       split
       ·exact wpS_pure ⟨g3,.inr ⟨_,_,_,_,_,_,rfl,hm5,by omega,by omega,by omega⟩⟩
       ·exact wpS_pure ⟨g3,_,_,_,_,_,_,rfl,hm5,by omega,by omega,by omega⟩
end
end Tim
namespace Tim
open PySem PyProof.Rows
set_option autoImplicit false
section
variable {κ : KeyKind} {a b out : Array Keyed} {na nb : Nat}
structure MH (κ : KeyKind) (a b : Array Keyed) (out : Array Keyed) (na nb : Nat) : Prop where
 perm : ((a.toList.take na ++ b.toList.take nb) ++ out.toList.reverse).Perm (a.toList ++ b.toList)
 srt : SL κ out.toList.reverse
 high : ∀ x∈out.toList.reverse,∀ y∈a.toList.take na ++ b.toList.take nb,le κ y x
theorem zez {l : List Keyed} {n m : Nat} (h : n≤m) : l.take m = l.take n ++ (l.take m).drop n:=by
 have e : (l.take m).take n = l.take n:=by rw [List.take_take,ybq h]
 rw [← e,yaM]
theorem MH.goA {out' : Array Keyed} {n : Nat} (h : MH κ a b out na nb) (sa : SL κ a.toList) (hn : n≤na) (ho : out'.toList.reverse = (a.toList.take na).drop n ++ out.toList.reverse) (hle : ∀ x∈(a.toList.take na).drop n,∀ y∈b.toList.take nb,le κ y x) : MH κ a b out' n nb:=by
 have e:=zez (l:=a.toList) hn
 have s1:=sa.take na
 rw [e] at s1
 obtain ⟨p1,p2,p3⟩:=yaF.mp s1
 refine ⟨?_,?_,?_⟩
 ·refine List.Perm.trans ?_ h.perm
  rw [ho,e,← yaK]
  refine List.Perm.append_right _ ?_
  rw [yaK,yaK,← e]
  exact List.Perm.append_left _ ybN
 ·rw [ho]
  exact yaF.mpr ⟨p2,h.srt,fun x hx y hy=>h.high y hy x (yaR _ (ybz hx))⟩
 ·intro x hx y hy
  rw [ho] at hx
  rcases yaj.mp hx with hx | hx
  ·rcases yaj.mp hy with hy | hy
   ·exact p3 y hy x hx
   ·exact hle x hx y hy
  ·refine h.high x hx y ?_
   rcases yaj.mp hy with hy | hy
   ·refine yaR _ ?_
    rw [e]
    exact yaR _ hy
   ·exact yaA _ hy
theorem MH.goB {out' : Array Keyed} {n : Nat} (h : MH κ a b out na nb) (sb : SL κ b.toList) (hn : n≤nb) (ho : out'.toList.reverse = (b.toList.take nb).drop n ++ out.toList.reverse) (hle : ∀ x∈(b.toList.take nb).drop n,∀ y∈a.toList.take na,le κ y x) : MH κ a b out' na n:=by
 have e:=zez (l:=b.toList) hn
 have s1:=sb.take nb
 rw [e] at s1
 obtain ⟨p1,p2,p3⟩:=yaF.mp s1
 refine ⟨?_,?_,?_⟩
 ·refine List.Perm.trans (List.Perm.of_eq ?_) h.perm
  rw [ho,← yaK,yaK (a.toList.take na),← e]
 ·rw [ho]
  exact yaF.mpr ⟨p2,h.srt,fun x hx y hy=>h.high y hy x (yaA _ (ybz hx))⟩
 ·intro x hx y hy
  rw [ho] at hx
  rcases yaj.mp hx with hx | hx
  ·rcases yaj.mp hy with hy | hy
   ·exact hle x hx y hy
   ·exact p3 y hy x hx
  ·refine h.high x hx y ?_
   rcases yaj.mp hy with hy | hy
   ·exact yaR _ hy
   ·refine yaA _ ?_
    rw [e]
    exact yaR _ hy
theorem zeo {xs : Array Keyed} {n : Nat} (h0 : 0 < n) (h : n≤xs.size) : (xs.toList.take n).drop (n - 1) = [xs[n - 1]'(by omega)]:=by
 have h' : n - 1 < xs.size:=by omega
 rw [yb7,show n - (n - 1) = 1 by omega,zes h']
 rfl
theorem zeA {xs : Array Keyed} {n : Nat} (hs : SL κ xs.toList) (h0 : 0 < n) (h : n≤xs.size) : ∀ y∈xs.toList.take n,le κ y (xs[n - 1]'(by omega)):=by
 intro y hy
 have q:=hs.take n
 rw [zez (l:=xs.toList) (show n - 1≤n by omega),zeo h0 h] at q hy
 rcases yaj.mp hy with hy | hy
 ·exact (yaF.mp q).2.2 y hy _ (yal.mpr rfl)
 ·rw [yal.mp hy]
  exact le_refl _
theorem MH.pa (h : MH κ a b out na nb) (sa : SL κ a.toList) (h0 : 0 < na) (hn : na≤a.size) (hle : ∀ y∈b.toList.take nb,le κ y (a[na - 1]'(by omega))) : MH κ a b (out.push (a[na - 1]'(by omega))) (na - 1) nb:=
 h.goA (n:=na - 1) sa (by omega) (by rw [zeo h0 hn,ybO,yb8]; rfl) (by
  rw [zeo h0 hn]
  intro x hx
  rw [yal.mp hx]
  exact hle)
theorem MH.pb (h : MH κ a b out na nb) (sb : SL κ b.toList) (h0 : 0 < nb) (hn : nb≤b.size) (hle : ∀ y∈a.toList.take na,le κ y (b[nb - 1]'(by omega))) : MH κ a b (out.push (b[nb - 1]'(by omega))) na (nb - 1):=
 h.goB (n:=nb - 1) sb (by omega) (by rw [zeo h0 hn,ybO,yb8]; rfl) (by
  rw [zeo h0 hn]
  intro x hx
  rw [yal.mp hx]
  exact hle)
theorem zdF {xs : Array Keyed} {n : Nat} : (xs.extract 0 n).toList = xs.toList.take n:=by
 rw [yb5,yb6,yb9,Nat.sub_zero]
theorem zmN {xs : Array Keyed} {n m : Nat} : (xs.extract n m).toList = (xs.toList.take m).drop n:=by
 rw [yb5,yb6,yb7]
theorem MH.done (h : MH κ a b out na nb) (sb : SL κ b.toList) (hna : na = 0) : zbY κ a b (a.extract 0 na ++ b.extract 0 nb ++ out.reverse):=by
 have e2 : (a.extract 0 na ++ b.extract 0 nb ++ out.reverse).toList = (a.toList.take na ++ b.toList.take nb) ++ out.toList.reverse:=by
  rw [yaN,yaN,zdF,zdF,ybQ]
 refine ⟨by rw [e2]; exact h.perm,?_⟩
 rw [e2]
 subst hna
 refine yaF.mpr ⟨?_,h.srt,fun x hx y hy=>h.high y hy x hx⟩
 rw [yca,List.nil_append]
 exact sb.take nb
theorem MH.doneB (h : MH κ a b out na nb) (sa : SL κ a.toList) (hnb : nb = 0) : zbY κ a b (a.extract 0 na ++ b.extract 0 nb ++ out.reverse):=by
 have e2 : (a.extract 0 na ++ b.extract 0 nb ++ out.reverse).toList = (a.toList.take na ++ b.toList.take nb) ++ out.toList.reverse:=by
  rw [yaN,yaN,zdF,zdF,ybQ]
 refine ⟨by rw [e2]; exact h.perm,?_⟩
 rw [e2]
 subst hnb
 refine yaF.mpr ⟨?_,h.srt,fun x hx y hy=>h.high y hy x hx⟩
 rw [yca,yaH]
 exact sa.take na
theorem MH.first (h : MH κ a b out na nb) (sa : SL κ a.toList) (sb : SL κ b.toList) (hl : ∀ y∈b.toList.take nb,∀ x∈a.toList,le κ y x) : zbY κ a b (b.extract 0 nb ++ a.extract 0 na ++ out.reverse):=by
 have e2 : (b.extract 0 nb ++ a.extract 0 na ++ out.reverse).toList = (b.toList.take nb ++ a.toList.take na) ++ out.toList.reverse:=by
  rw [yaN,yaN,zdF,zdF,ybQ]
 refine ⟨?_,?_⟩
 ·rw [e2]
  exact (List.Perm.append_right _ ybN).trans h.perm
 ·rw [e2]
  refine yaF.mpr ⟨yaF.mpr ⟨sb.take nb,sa.take na,fun x hx y hy=>hl x hx y (yby hy)⟩,h.srt,fun x hx y hy=>h.high y hy x ?_⟩
  rcases yaj.mp hx with q | q
  ·exact yaA _ q
  ·exact yaR _ q
end
def zjV : Array Keyed→Array Keyed→StateT SortSt Sem (Array Keyed):=sortPriv% PySem.Builtin.mergeHi
end Tim
namespace Tim
open PySem PyProof.Rows
set_option autoImplicit false
section
variable {prog : Program} {w : World} {A : Around} {E : Value→Shared→Prop} {s : Shared} {κ : KeyKind} {kd : SortKind}
set_option maxHeartbeats 4000000 in
theorem zkj {st : SortSt} {a b : Array Keyed} {Q : Array Keyed→SortSt→Prop} (hO : LtG prog w A s κ kd) (hkd : kindOf st = kd) (ka : ∀ q∈a.toList,Keyd κ q) (kb : ∀ q∈b.toList,Keyd κ q) (sa : SL κ a.toList) (sb : SL κ b.toList)
  (ha : 0 < a.size) (hb : 0 < b.size) (h0 : ∀ y∈a.toList,le κ b[0] y) (hl : ∀ y∈b.toList,le κ y (a[a.size - 1]'(by omega)))
  (h : ∀ m st',zbY κ a b m→SG st st'→Q m st') : wpS (model prog w) A E s (zjV a b) Q st:=by
 have fst : ∀ n,n≤1→∀ y∈b.toList.take n,∀ x∈a.toList,le κ y x:=fun n hn y hy x hx=>by
  have hy' : y∈b.toList.take 1:=by
   rcases ybA n 1 with z | z
   ·rw [show n = 0 by omega] at hy; simp at hy
   ·rwa [show n = 1 by omega] at hy
  have e : b.toList.take 1 = [b[0]]:=by
   have:=zdV hb
   rwa [yb9] at this
  rw [e] at hy'
  rw [yal.mp hy']
  exact h0 x hx
 have m0 : MH κ a b #[a[a.size - 1]'(by omega)] (a.size - 1) b.size:=by
  have z : MH κ a b #[] a.size b.size:=⟨by
   rw [yar (by simp),yar (by simp)]
   simp,by simp,by simp⟩
  have:=z.pa sa ha (yaa _) (fun y hy=>hl y (yby hy))
  simpa using this
 refine wpS_bind (zcI ?_)
 dsimp only
 refine wpS_bind (za6 (show a.size - 1 < a.size by omega) ?_)
 by_cases e1 : a.size - 1 = 0
 ·rw [if_pos (by simpa using e1)]
  exact wpS_pure (h _ _ (m0.done sb e1) (SG.refl st))
 rw [if_neg (by simpa using e1)]
 by_cases e2 : b.size = 1
 ·rw [if_pos (by simpa using e2)]
  exact wpS_pure (h _ _ (m0.first sa sb (fst _ (by omega))) (SG.refl st))
 rw [if_neg (by simpa using e2)]
 refine wpS_bind (wpS_get ?_)
 refine wpS_bind (wpS_mono (wpS_forRange (I:=fun i c st'=>SG st st'∧∃ na nb out g,c = (none,na,nb,out,g)∧MH κ a b out na nb∧0 < na∧na≤a.size∧1 < nb∧nb≤b.size∧i + 1 + (na + nb)≤a.size + b.size)
  (Q:=fun c st'=>SG st st'∧∃ m r,c = (some m,r)∧zbY κ a b m) ?step ?fin ⟨SG.refl st,_,_,_,_,rfl,m0,by omega,by omega,by omega,by omega,by omega⟩) ?post)
 case post=>
  rintro c st' ⟨g,m,r,rfl,hm⟩
  exact wpS_pure (h m st' hm g)
 case fin=>
  rintro c st' ⟨g,na,nb,out,gg,rfl,hm,q1,q2,q3,q4,q5⟩
  exact absurd q5 (by omega)
 case step=>
  rintro i c st1 _ hi ⟨g1,na,nb,out,gg,rfl,hm,q1,q2,q3,q4,q5⟩
  dsimp only
  refine wpS_bind (wpS_mono (wpS_forRange (I:=fun x c st'=>st' = st1∧∃ na' nb' out' ca cb,c = (none,na',nb',out',ca,cb)∧MH κ a b out' na' nb'∧0 < na'∧na'≤a.size∧1 < nb'∧nb'≤b.size∧x + (na' + nb')≤na + nb)
   (Q:=fun c st'=>st' = st1∧((∃ m r,c = (some m,r)∧zbY κ a b m)∨∃ na' nb' out' ca cb,c = (none,na',nb',out',ca,cb)∧MH κ a b out' na' nb'∧0 < na'∧na'≤a.size∧1 < nb'∧nb'≤b.size∧1 + (na' + nb')≤na + nb)) ?istep ?ifin ⟨rfl,na,nb,out,0,0,rfl,hm,q1,q2,q3,q4,by omega⟩) ?ipost)
  case ifin=>
   rintro c st' ⟨rfl,na',nb',out',ca,cb,rfl,hm',r1,r2,r3,r4,r5⟩
   exact ⟨rfl,.inr ⟨_,_,_,ca,cb,rfl,hm',r1,r2,r3,r4,by omega⟩⟩
  case istep=>
   rintro x c st' _ hx ⟨rfl,na',nb',out',ca,cb,rfl,hm',r1,r2,r3,r4,r5⟩
   dsimp only
   refine wpS_bind (za6 (show nb' - 1 < b.size by omega) (wpS_bind (za6 (show na' - 1 < a.size by omega) (wpS_bind (lt_G hO (by rw [g1.kind]; exact hkd) (kb _ (by simp)) (ka _ (by simp)) ?_)))))
   dsimp only
   cases e : κ.blt (ky κ (b[nb' - 1]'(by omega))) (ky κ (a[na' - 1]'(by omega))) with
   | true=>
    simp only [if_true]
    have hm2:=hm'.pa sa r1 r2 (fun y hy=>le_trans (zeA sb (by omega) r4 y hy) (show le κ (b[nb' - 1]'(by omega)) (a[na' - 1]'(by omega)) from KeyOrd.kle_of_klt e))
    refine wpS_bind (za6 (show na' - 1 < a.size by omega) ?_)
    by_cases z : na' - 1 = 0
    ·rw [if_pos (by simpa using z)]
     exact wpS_pure ⟨rfl,.inl ⟨_,_,rfl,hm2.done sb z⟩⟩
    ·rw [if_neg (by simpa using z)]
     split
     ·exact wpS_pure ⟨rfl,.inr ⟨_,_,_,_,_,rfl,hm2,by omega,by omega,by omega,by omega,by omega⟩⟩
     ·exact wpS_pure ⟨rfl,_,_,_,_,_,rfl,hm2,by omega,by omega,by omega,by omega,by omega⟩
   | false=>
    simp only [yaQ,if_false]
    have hm2:=hm'.pb sb (by omega) r4 (fun y hy=>le_trans (zeA sa r1 r2 y hy) (show le κ (a[na' - 1]'(by omega)) (b[nb' - 1]'(by omega)) from e))
    refine wpS_bind (za6 (show nb' - 1 < b.size by omega) ?_)
    by_cases z : nb' - 1 = 1
    ·rw [if_pos (by simpa using z)]
     exact wpS_pure ⟨rfl,.inl ⟨_,_,rfl,hm2.first sa sb (fst _ (by omega))⟩⟩
    ·rw [if_neg (by simpa using z)]
     split
     ·exact wpS_pure ⟨rfl,.inr ⟨_,_,_,_,_,rfl,hm2,by omega,by omega,by omega,by omega,by omega⟩⟩
     ·exact wpS_pure ⟨rfl,_,_,_,_,_,rfl,hm2,by omega,by omega,by omega,by omega,by omega⟩
  case ipost=>
   rintro c st' ⟨rfl,⟨m,r,rfl,hmm⟩ | ⟨na',nb',out,ca,cb,rfl,hm,q1,q2,q3,q4,q6⟩⟩
   ·exact wpS_pure ⟨g1,m,_,rfl,hmm⟩
   dsimp only
   refine wpS_bind (zcI ?_)
   refine wpS_bind (wpS_mono (wpS_forRange (I:=fun x c st''=>SG st st''∧∃ na1 nb1 out1 gg ca cb,c = (none,na1,nb1,out1,gg,ca,cb)∧MH κ a b out1 na1 nb1∧0 < na1∧na1≤a.size∧1 < nb1∧nb1≤b.size∧1 + (na1 + nb1)≤na + nb)
    (Q:=fun c st''=>SG st st''∧((∃ m r,c = (some m,r)∧zbY κ a b m)∨∃ na1 nb1 out1 gg ca cb,c = (none,na1,nb1,out1,gg,ca,cb)∧MH κ a b out1 na1 nb1∧0 < na1∧na1≤a.size∧1 < nb1∧nb1≤b.size∧1 + (na1 + nb1)≤na + nb)) ?jstep ?jfin ⟨g1,_,_,_,_,_,_,rfl,hm,q1,q2,q3,q4,q6⟩) ?jpost)
   case jfin=>
    rintro c st'' ⟨g2,na1,nb1,out1,gg1,ca1,cb1,rfl,r⟩
    exact ⟨g2,.inr ⟨_,_,_,_,_,_,rfl,r⟩⟩
   case jpost=>
    rintro c st'' ⟨g2,⟨m,r,rfl,hmm⟩ | ⟨na1,nb1,out1,gg1,ca1,cb1,rfl,hm1,t1,t2,t3,t4,t5⟩⟩
    ·exact wpS_pure ⟨g2,m,_,rfl,hmm⟩
    ·dsimp only
     exact wpS_bind (zcg g2 fun st3 g3=>wpS_pure ⟨g3,_,_,_,_,rfl,hm1,t1,t2,t3,t4,by omega⟩)
   case jstep=>
    rintro x c st'' _ hx ⟨g2,na1,nb1,out1,gg1,ca1,cb1,rfl,hm1,t1,t2,t3,t4,t5⟩
    dsimp only
    apply mp2
    case m=>
     intro key
     by_cases hg : gg1 > 1
     ·rw [if_pos hg]
      generalize gg1 - 1 = gg2
      revert gg2
      exact key
     ·rw [if_neg hg]
      generalize gg1 = gg2
      revert gg2
      exact key
    intro gg2
    refine wpS_bind (zcg g2 fun st3 g3=>?_)
    refine wpS_bind (za6 (show nb1 - 1 < b.size by omega) (wpS_bind (zcz hO (by rw [g3.kind]; exact hkd) (kb _ (by simp)) ka (by omega) (by omega) (zgR sa _ _ (by omega)) fun at0 k1 k2 k3=>?_)))
    dsimp only
    have hmk : MH κ a b (out1 ++ (a.extract at0 na1).reverse) at0 nb1:=hm1.goA sa k1 (by
     rw [yaN,yb8,ybQ,yct,zmN]) fun x hx y hy=>by
     rw [yb7] at hx
     obtain ⟨j,j1,j2,j3⟩:=zdW hx
     have q:=k3 (at0 + j) (by omega) (by omega)
     unfold bey at q
     rw [if_neg (by decide),Nat.zero_add,zcX j3,ycs] at q
     exact le_trans (zeA sb (by omega) t4 y hy) (show le κ (b[nb1 - 1]'(by omega)) x from KeyOrd.kle_of_klt q)
    have hnb : nb1 - 1 < b.size:=by omega
    have bk : ∀ y∈a.toList.take at0,le κ y (b[nb1 - 1]'hnb):=fun y hy=>by
     have hy' : y∈(a.toList.drop 0).take at0:=by rw [yb9]; exact hy
     obtain ⟨j,j1,j2,j3⟩:=zdW hy'
     have q:=k2 j j1
     unfold bey at q
     rw [if_neg (by decide),zcX j3,ybP] at q
     exact q
    apply mp2
    case m=>
     by_cases hk : na1 - at0 > 0
     ·by_cases z : at0 = 0
      ·intro h
       clear h
       rw [if_pos hk,if_pos (by simpa using z)]
       exact wpS_pure ⟨g3,.inl ⟨_,_,rfl,hmk.done sb z⟩⟩
      have w1 : 0 < at0:=by omega
      have w2 : at0≤a.size:=by omega
      have w3 : 1 + (at0 + nb1)≤na + nb:=by omega
      have z0 : ¬(at0 == 0) = true:=by simpa using z
      intro key
      rw [if_pos hk,if_neg z0]
      refine (?_ : MH κ a b (out1 ++ (a.extract at0 na1).reverse) at0 nb1→(∀ y∈a.toList.take at0,le κ y (b[nb1 - 1]'hnb))→0 < at0→at0≤a.size→1 + (at0 + nb1)≤na + nb→_) hmk bk w1 w2 w3
      generalize out1 ++ (a.extract at0 na1).reverse = out2
      generalize na1 - at0 = cnt
      generalize at0 = na2
      revert out2 cnt na2
      exact key
     ·have e0 : at0 = na1:=by omega
      rw [e0] at bk
      intro key
      rw [if_neg hk]
      refine (?_ : MH κ a b out1 na1 nb1→(∀ y∈a.toList.take na1,le κ y (b[nb1 - 1]'hnb))→0 < na1→na1≤a.size→1 + (na1 + nb1)≤na + nb→_) hm1 bk t1 t2 t5
      generalize na1 - at0 = cnt
      generalize na1 = na2
      generalize out1 = out2
      exact key out2 cnt na2
    intro out2 cnt na2 hm2 u2 w1 w2 w3
    refine wpS_bind (za6 (show nb1 - 1 < b.size by omega) ?_)
    have hm3:=hm2.pb sb (by omega) (by omega) u2
    by_cases z2 : nb1 - 1 = 1
    ·rw [if_pos (by simpa using z2)]
     exact wpS_pure ⟨g3,.inl ⟨_,_,rfl,hm3.first sa sb (fst _ (by omega))⟩⟩
    ·rw [if_neg (by simpa using z2)]
     refine wpS_bind (za6 (show na2 - 1 < a.size by omega) (wpS_bind (zcz hO (by rw [g3.kind]; exact hkd) (ka _ (by simp)) kb (by omega) (by omega) (zgR sb _ _ (by omega)) fun at' c1 c2 c3=>?_)))
     dsimp only
     have lt5 : ∀ hq : 0 < at',le κ (b[at' - 1]'(by omega)) (a[na2 - 1]'(by omega)):=fun hq=>by
      have q:=c2 (at' - 1) (by omega)
      unfold bey at q
      rw [if_pos rfl,Nat.zero_add,za7 (by omega)] at q
      exact KeyOrd.kle_of_klt q
     have hm4 : MH κ a b (out2.push (b[nb1 - 1]'(by omega)) ++ (b.extract at' (nb1 - 1)).reverse) na2 at':=hm3.goB sb c1 (by
      rw [yaN (ys:=(b.extract at' (nb1 - 1)).reverse),yb8,ybQ,yct,zmN]) fun x hx y hy=>by
      rw [yb7] at hx
      obtain ⟨j,j1,j2,j3⟩:=zdW hx
      have q:=c3 (at' + j) (by omega) (by omega)
      unfold bey at q
      rw [if_pos rfl,Nat.zero_add,zcX j3] at q
      exact le_trans (zeA sa (by omega) (by omega) y hy) (show le κ (a[na2 - 1]'(by omega)) x from q)
     by_cases hk' : nb1 - 1 - at' > 0
     ·rw [if_pos hk']
      by_cases z3 : at' = 1
      ·rw [if_pos (by simpa using z3)]
       exact wpS_pure ⟨g3,.inl ⟨_,_,rfl,hm4.first sa sb (fst _ (by omega))⟩⟩
      rw [if_neg (by simpa using z3)]
      by_cases z3' : at' = 0
      ·rw [if_pos (by simpa using z3')]
       exact wpS_pure ⟨g3,.inl ⟨_,_,rfl,hm4.doneB sa z3'⟩⟩
      rw [if_neg (by simpa using z3')]
      refine wpS_bind (za6 (show na2 - 1 < a.size by omega) ?_)
      have hm5:=hm4.pa sa (by omega) (by omega) fun y hy=>le_trans (zeA sb (by omega) (by omega) y hy) (lt5 (by omega))
      by_cases z4 : na2 - 1 = 0
      ·rw [if_pos (by simpa using z4)]
       exact wpS_pure ⟨g3,.inl ⟨_,_,rfl,hm5.done sb z4⟩⟩
      ·rw [if_neg (by simpa using z4)]
       split
       ·exact wpS_pure ⟨g3,.inr ⟨_,_,_,_,_,_,rfl,hm5,by omega,by omega,by omega,by omega,by omega⟩⟩
       ·exact wpS_pure ⟨g3,_,_,_,_,_,_,rfl,hm5,by omega,by omega,by omega,by omega,by omega⟩
     ·rw [if_neg hk']
      have e0 : at' = nb1 - 1:=by omega
      subst e0
      replace hm4:=hm3
      refine wpS_bind (za6 (show na2 - 1 < a.size by omega) ?_)
      have hm5:=hm4.pa sa (by omega) (by omega) fun y hy=>le_trans (zeA sb (by omega) (by omega) y hy) (lt5 (by omega))
      by_cases z4 : na2 - 1 = 0
      ·rw [if_pos (by simpa using z4)]
       exact wpS_pure ⟨g3,.inl ⟨_,_,rfl,hm5.done sb z4⟩⟩
      ·rw [if_neg (by simpa using z4)]
       split
       ·exact wpS_pure ⟨g3,.inr ⟨_,_,_,_,_,_,rfl,hm5,by omega,by omega,by omega,by omega,by omega⟩⟩
       ·exact wpS_pure ⟨g3,_,_,_,_,_,_,rfl,hm5,by omega,by omega,by omega,by omega,by omega⟩
end
end Tim
namespace Tim
open PySem PyProof.Rows
set_option autoImplicit false
section
variable {κ : KeyKind}
def seg (xs : Array Keyed) (lo n : Nat) : List Keyed:=(xs.toList.drop lo).take n
theorem zfC {xs : Array Keyed} {lo n i : Nat} (h : lo + n≤xs.size) (hi : i < n) : (seg xs lo n)[i]? = xs[lo + i]?:=by
 unfold seg
 rw [ybR,if_pos hi,ycb,yaT]
theorem zb7 {xs : Array Keyed} {lo n : Nat} (h : lo + n≤xs.size) : (seg xs lo n).length = n:=by
 unfold seg
 rw [yap,yaL,yas]
 omega
theorem zoL {xs : Array Keyed} {lo n : Nat} (h : lo + n≤xs.size) (hU : Up κ xs lo (lo + n)) : SL κ (seg xs lo n):=by
 rw [SL,ybj]
 intro i j hi hj hij
 have hi':=hi
 have hj':=hj
 rw [zb7 h] at hi' hj'
 have e1 : (seg xs lo n)[i] = xs[lo + i]'(by omega):=by
  have:=zfC h hi'
  rw [yac hi,yaY (by omega)] at this
  exact yad this
 have e2 : (seg xs lo n)[j] = xs[lo + j]'(by omega):=by
  have:=zfC h hj'
  rw [yac hj,yaY (by omega)] at this
  exact yad this
 rw [e1,e2]
 have:=hU (lo + i) (lo + j) (by omega) (by omega) (by omega)
 rw [za7 (by omega),za7 (by omega)] at this
 exact this
theorem zks {xs : Array Keyed} {lo n m : Nat} : seg xs lo (n + m) = seg xs lo n ++ seg xs (lo + n) m:=by
 unfold seg
 rw [List.take_add,ybx]
theorem zgZ {xs : Array Keyed} {lo n : Nat} : (xs.extract lo (lo + n)).toList = seg xs lo n:=zeK
theorem zlH {xs : Array Keyed} {lo n : Nat} (h : lo + n≤xs.size) : xs.toList = xs.toList.take lo ++ (seg xs lo n ++ xs.toList.drop (lo + n)):=by
 unfold seg
 rw [← ybx,yaM,yaM]
def back (xs : Array Keyed) (lo : Nat) (m : Array Keyed) : Array Keyed:=m.toList.zipIdx.foldl (fun a (q : Keyed×Nat)=>a.setIfInBounds (lo + q.2) q.1) xs
theorem zi8 (lo : Nat) : ∀ (l : List Keyed) (k : Nat) (xs : Array Keyed),lo + k + l.length≤xs.size→∀ i : Nat,
  ((l.zipIdx k).foldl (fun a (q : Keyed×Nat)=>a.setIfInBounds (lo + q.2) q.1) xs)[i]? = if lo + k≤i∧i < lo + k + l.length then l[i - (lo + k)]? else xs[i]?
 | [],k,xs,h,i=>by
  rw [if_neg (by simp only [ybo]; omega)]
  rfl
 | x :: l,k,xs,h,i=>by
  rw [yaI] at h
  rw [List.zipIdx_cons,ycc,zi8 lo l (k + 1) (xs.setIfInBounds (lo + k) x) (by rw [Array.size_setIfInBounds]; omega) i,yaI]
  by_cases h1 : lo + (k + 1)≤i∧i < lo + (k + 1) + l.length
  ·rw [if_pos h1,if_pos (by omega),show i - (lo + k) = (i - (lo + (k + 1))) + 1 by omega,ycu]
  ·rw [if_neg h1,Array.getElem?_setIfInBounds]
   by_cases h2 : lo + k = i
   ·rw [if_pos h2,if_pos (by omega),if_pos (by omega)]
    subst h2
    simp
   ·rw [if_neg h2,if_neg (by omega)]
theorem zm7 {xs m : Array Keyed} {lo : Nat} (h : lo + m.size≤xs.size) : (back xs lo m).toList = xs.toList.take lo ++ (m.toList ++ xs.toList.drop (lo + m.size)):=by
 apply ya6
 intro i
 have q:=zi8 lo m.toList 0 xs (by rw [yas]; omega) i
 unfold back
 rw [yaT,q,yas,ybp]
 have l1 : (xs.toList.take lo).length = lo:=by rw [yap,yas]; omega
 by_cases h1 : i < lo
 ·rw [if_neg (by omega),ybi (by rw [l1]; exact h1),ybR,if_pos h1,yaT]
 ·rw [ya4 (by rw [l1]; omega),l1]
  by_cases h2 : i < lo + m.size
  ·rw [if_pos (by omega),ybi (by rw [yas]; omega)]
  ·rw [if_neg (by omega),ya4 (by rw [yas]; omega),yas,ycb,show lo + m.size + (i - lo - m.size) = i by omega,yaT]
theorem zew {xs m : Array Keyed} {lo : Nat} (h : lo + m.size≤xs.size) (i : Nat) : (back xs lo m)[i]? = if lo≤i∧i < lo + m.size then m[i - lo]? else xs[i]?:=by
 have q:=zi8 lo m.toList 0 xs (by rw [yas]; omega) i
 rw [yas,ybp,yaT] at q
 exact q
theorem zgY {xs : Array Keyed} {lo n : Nat} {p : Keyed} (h : lo + n≤xs.size) (hp : p∈seg xs lo n) : ∃ q,lo≤q∧q < lo + n∧xs[q]? = some p:=by
 obtain ⟨i,hi,e⟩:=ya3 hp
 have hi':=hi
 rw [zb7 h] at hi'
 refine ⟨lo + i,by omega,by omega,?_⟩
 rw [← zfC h hi',yac hi,e]
theorem zkG {xs m : Array Keyed} {sa na nb k nb' : Nat} (hz : sa + na + nb≤xs.size) (ua : Up κ xs sa (sa + na)) (ub : Up κ xs (sa + na) (sa + na + nb)) (hk : k < na) (hnb : nb'≤nb) (hb0 : 0 < nb')
  (k2 : ∀ i,i < k→κ.kle (kAt κ xs (sa + i)) (kAt κ xs (sa + na))) (c3 : ∀ i,nb'≤i→i < nb→κ.kle (kAt κ xs (sa + na - 1)) (kAt κ xs (sa + na + i)))
  (hm : zbY κ (xs.extract (sa + k) (sa + na)) (xs.extract (sa + na) (sa + na + nb')) m) :
  Off xs (back xs (sa + k) m) sa (sa + (na + nb))∧Up κ (back xs (sa + k) m) sa (sa + (na + nb)):=by
 have ex : (xs.extract (sa + k) (sa + na)).toList = seg xs (sa + k) (na - k):=by
  have:=zgZ (xs:=xs) (lo:=sa + k) (n:=na - k)
  rwa [show sa + k + (na - k) = sa + na by omega] at this
 have ey : (xs.extract (sa + na) (sa + na + nb')).toList = seg xs (sa + na) nb':=zgZ
 have hp:=hm.perm
 rw [ex,ey] at hp
 have ms : m.size = na - k + nb':=by
  have:=hp.length_eq
  rw [yas,yam,zb7 (by omega),zb7 (by omega)] at this
  exact this
 have hzm : sa + k + m.size≤xs.size:=by omega
 have bl:=zm7 hzm
 have mid : seg xs (sa + k) m.size = seg xs (sa + k) (na - k) ++ seg xs (sa + na) nb':=by
  rw [ms,zks,show sa + k + (na - k) = sa + na by omega]
 have perm : (back xs (sa + k) m).toList.Perm xs.toList:=by
  have e:=zlH hzm
  rw [mid] at e
  refine (List.Perm.of_eq bl).trans (List.Perm.trans ?_ (List.Perm.of_eq e.symm))
  exact List.Perm.append_left _ (List.Perm.append_right _ hp)
 have inm : ∀ i,sa + k≤i→i < sa + k + m.size→∃ q,sa + k≤q∧q < sa + na + nb'∧kAt κ (back xs (sa + k) m) i = kAt κ xs q:=by
  intro i h1 h2
  have g:=zew hzm i
  rw [if_pos ⟨h1,h2⟩,yaY (show i - (sa + k) < m.size by omega)] at g
  have hmem : m[i - (sa + k)]'(by omega)∈m.toList:=by simp
  rcases yaj.mp (hp.mem_iff.mp hmem) with z | z
  ·obtain ⟨q,q1,q2,e⟩:=zgY (by omega) z
   exact ⟨q,q1,by omega,zbg (g.trans e.symm)⟩
  ·obtain ⟨q,q1,q2,e⟩:=zgY (by omega) z
   exact ⟨q,by omega,q2,zbg (g.trans e.symm)⟩
 have outm : ∀ i,(i < sa + k∨sa + k + m.size≤i)→kAt κ (back xs (sa + k) m) i = kAt κ xs i:=fun i h=>zbg (by rw [zew hzm,if_neg (by omega)])
 have am : ∀ i q,sa≤i→i < sa + k→sa + k≤q→q < sa + na + nb→κ.kle (kAt κ xs i) (kAt κ xs q):=fun i q h1 h2 h3 h4=>by
  by_cases z : q < sa + na
  ·exact ua i q h1 (by omega) z
  ·have t:=k2 (i - sa) (by omega)
   rw [show sa + (i - sa) = i by omega] at t
   exact KeyOrd.kle_trans t (ub _ q (yaa _) (by omega) h4)
 have mc : ∀ q j,sa + k≤q→q < sa + na + nb'→sa + na + nb'≤j→j < sa + na + nb→κ.kle (kAt κ xs q) (kAt κ xs j):=fun q j h1 h2 h3 h4=>by
  by_cases z : q < sa + na
  ·have t:=c3 (j - (sa + na)) (by omega) (by omega)
   rw [show sa + na + (j - (sa + na)) = j by omega] at t
   exact KeyOrd.kle_trans (ua q (sa + na - 1) (by omega) (by omega) (by omega)) t
  ·exact ub q j (by omega) (by omega) h4
 refine ⟨⟨ycr.mpr perm,fun i hi=>by rw [zew hzm,if_neg (by omega)]⟩,fun i j h1 h2 h3=>?_⟩
 by_cases i1 : i < sa + k
 ·rw [outm i (.inl i1)]
  by_cases j1 : j < sa + k
  ·rw [outm j (.inl j1)]; exact ua i j h1 h2 (by omega)
  ·by_cases j2 : j < sa + k + m.size
   ·obtain ⟨q,q1,q2,e⟩:=inm j (by omega) j2
    rw [e]; exact am i q h1 i1 q1 (by omega)
   ·rw [outm j (.inr (by omega))]; exact am i j h1 i1 (by omega) (by omega)
 ·by_cases i2 : i < sa + k + m.size
  ·by_cases j2 : j < sa + k + m.size
   ·by_cases e : i = j
    ·subst e; exact KeyOrd.kle_refl _
    ·have gi:=zew hzm i
     have gj:=zew hzm j
     rw [if_pos ⟨by omega,i2⟩] at gi
     rw [if_pos ⟨by omega,j2⟩] at gj
     rw [zbg gi,zbg gj,za7 (show i - (sa + k) < m.size by omega),za7 (show j - (sa + k) < m.size by omega)]
     have:=ybj.mp hm.srt (i - (sa + k)) (j - (sa + k)) (by rw [yas]; omega) (by rw [yas]; omega) (by omega)
     simpa [le] using this
   ·obtain ⟨q,q1,q2,e⟩:=inm i (by omega) i2
    rw [e,outm j (.inr (by omega))]; exact mc q j q1 q2 (by omega) (by omega)
  ·rw [outm i (.inr (by omega)),outm j (.inr (by omega))]; exact ub i j (by omega) h2 (by omega)
theorem zla {xs : Array Keyed} {sa na nb : Nat} (ua : Up κ xs sa (sa + na)) (ub : Up κ xs (sa + na) (sa + na + nb)) (hna : 0 < na) (hle : κ.kle (kAt κ xs (sa + na - 1)) (kAt κ xs (sa + na))) : Up κ xs sa (sa + (na + nb)):=by
 intro i j h1 h2 h3
 by_cases z : j < sa + na
 ·exact ua i j h1 h2 z
 ·by_cases y : i < sa + na
  ·exact KeyOrd.kle_trans (ua i (sa + na - 1) h1 (by omega) (by omega)) (KeyOrd.kle_trans hle (ub (sa + na) j (yaa _) (by omega) (by omega)))
  ·exact ub i j (by omega) h2 (by omega)
end
end Tim
namespace Tim
open PySem PyProof.Rows
set_option autoImplicit false
theorem ziK (i : Nat) : mergeAt' i = (do
 let s ← get
 let (some (sa,na,power),some (sb,nb,_)):=((pendingOf s)[i]?,(pendingOf s)[i + 1]?) | unsupported "internal:list.sort.pending"
 set (setPending s (((pendingOf s).setIfInBounds i (sa,na + nb,power)).eraseIdxIfInBounds (i + 1)))
 let some k ← ziU false (← elem' (arrOf s) sb) (arrOf s) sa na 0 | return false
 let (sa,na):=(sa + k,na - k)
 if na == 0 then return true
 let some nb ← ziU true (← elem' (arrOf s) (sa + na - 1)) (arrOf s) sb nb (nb - 1) | return false
 if nb == 0 then return true
 let x:=(arrOf s).extract sa sb
 let y:=(arrOf s).extract sb (sb + nb)
 let merged ← if na≤nb then zjU x y else zjV x y
 modify fun s=>setArr s (merged.toList.zipIdx.foldl (fun a (p,j)=>a.setIfInBounds (sa + j) p) (arrOf s))
 return (failedOf (← get)).isNone):=rfl
section
variable {prog : Program} {w : World} {A : Around} {E : Value→Shared→Prop} {s : Shared} {κ : KeyKind} {kd : SortKind}
theorem zoY {σ : Type} {x : σ} {Q : PUnit→σ→Prop} {st : σ} (h : Q ⟨⟩ x) : wpS (model prog w) A E s (set x : StateT σ Sem PUnit) Q st:=by
 unfold wpS; rw [StateT.run_set]; exact wpAny_pure ⟨rfl,h⟩
set_option maxHeartbeats 4000000 in
theorem zkk {st : SortSt} {N i sa na pa nb pb : Nat} {Q : Bool→SortSt→Prop} (hO : LtG prog w A s κ kd) (hB : TB κ kd N st)
  (h1 : (pendingOf st)[i]? = some (sa,na,pa)) (h2 : (pendingOf st)[i + 1]? = some (sa + na,nb,pb)) (hna : 0 < na) (hnb : 0 < nb) (hz : sa + na + nb≤N)
  (ua : Up κ (arrOf st) sa (sa + na)) (ub : Up κ (arrOf st) (sa + na) (sa + na + nb))
  (h : ∀ st',TB κ kd N st'→Off (arrOf st) (arrOf st') sa (sa + (na + nb))→Up κ (arrOf st') sa (sa + (na + nb))→pendingOf st' = ((pendingOf st).setIfInBounds i (sa,na + nb,pa)).eraseIdxIfInBounds (i + 1)→Q true st') :
  wpS (model prog w) A E s (mergeAt' i) Q st:=by
 have hsz:=hB.size
 rw [ziK]
 refine wpS_bind (wpS_get ?_)
 rw [h1,h2]
 dsimp only
 refine wpS_bind (zoY ?_)
 generalize hp : ((pendingOf st).setIfInBounds i (sa,na + nb,pa)).eraseIdxIfInBounds (i + 1) = pend at h
 have same : ∀ st',SG (setPending st pend) st'→TB κ kd N st'∧arrOf st' = arrOf st∧pendingOf st' = pend:=fun st' g=>by
  have ga : arrOf st' = arrOf st:=g.arr
  refine ⟨⟨g.kind.trans hB.kind,by rw [ga]; exact hB.keys,g.failed.trans hB.failed,by rw [ga]; exact hB.size⟩,ga,g.pend⟩
 obtain ⟨B0,_,_⟩:=same _ (SG.refl _)
 have hbz : sa + na < (arrOf st).size:=by omega
 refine wpS_bind (za6 hbz ?_)
 refine wpS_bind (zcz hO B0.kind (hB.keys _ (by simp)) hB.keys (by omega) hna ua fun k k1 k2 k3=>?_)
 dsimp only
 have kk : kAt κ (arrOf st) (sa + na) = ky κ (arrOf st)[sa + na]:=za7 hbz
 have k2' : ∀ i,i < k→κ.kle (kAt κ (arrOf st) (sa + i)) (kAt κ (arrOf st) (sa + na)):=fun i hi=>by
  have:=k2 i hi
  unfold bey at this
  simp only [yaQ,if_false,ybP] at this
  rw [kk]
  exact this
 have k3' : ∀ i,k≤i→i < na→κ.klt (kAt κ (arrOf st) (sa + na)) (kAt κ (arrOf st) (sa + i)):=fun i hi hj=>by
  have:=k3 i hi hj
  unfold bey at this
  simp only [yaQ,if_false,ycs] at this
  rw [kk]
  exact this
 by_cases e1 : na - k = 0
 ·rw [if_pos (by simpa using e1)]
  obtain ⟨b1,b2,b3⟩:=same _ (SG.refl _)
  refine wpS_pure (h _ b1 (by rw [b2]; exact Off.refl _ _ _) ?_ b3)
  rw [b2]
  refine zla ua ub hna ?_
  have:=k2' (na - 1) (by omega)
  rwa [show sa + (na - 1) = sa + na - 1 by omega] at this
 rw [if_neg (by simpa using e1)]
 have e2 : sa + k + (na - k) - 1 = sa + na - 1:=by omega
 have hlz : sa + k + (na - k) - 1 < (arrOf st).size:=by omega
 refine wpS_bind (za6 hlz ?_)
 refine wpS_bind (zcz hO B0.kind (hB.keys _ (by simp)) hB.keys (by omega) (by omega) ub fun c c1 c2 c3=>?_)
 dsimp only
 have ck : ky κ ((arrOf st)[sa + k + (na - k) - 1]'hlz) = kAt κ (arrOf st) (sa + na - 1):=by
  rw [← za7 hlz,e2]
 have c2' : ∀ i,i < c→κ.klt (kAt κ (arrOf st) (sa + na + i)) (kAt κ (arrOf st) (sa + na - 1)):=fun i hi=>by
  have:=c2 i hi
  unfold bey at this
  simp only [if_true] at this
  rw [← ck]
  exact this
 have c3' : ∀ i,c≤i→i < nb→κ.kle (kAt κ (arrOf st) (sa + na - 1)) (kAt κ (arrOf st) (sa + na + i)):=fun i hi hj=>by
  have:=c3 i hi hj
  unfold bey at this
  simp only [if_true] at this
  rw [← ck]
  exact this
 by_cases e3 : c = 0
 ·rw [if_pos (by simpa using e3)]
  obtain ⟨b1,b2,b3⟩:=same _ (SG.refl _)
  refine wpS_pure (h _ b1 (by rw [b2]; exact Off.refl _ _ _) ?_ b3)
  rw [b2]
  exact zla ua ub hna (c3' 0 (by omega) hnb)
 rw [if_neg (by simpa using e3)]
 generalize hX : (arrOf st).extract (sa + k) (sa + na) = X
 generalize hY : (arrOf st).extract (sa + na) (sa + na + c) = Y
 have xl : X.toList = seg (arrOf st) (sa + k) (na - k):=by
  have:=zgZ (xs:=arrOf st) (lo:=sa + k) (n:=na - k)
  rw [← hX]
  rwa [show sa + k + (na - k) = sa + na by omega] at this
 have yl : Y.toList = seg (arrOf st) (sa + na) c:=by rw [← hY]; exact zgZ
 have xz : X.size = na - k:=by
  have:=congrArg List.length xl
  rwa [yas,zb7 (by omega)] at this
 have yz : Y.size = c:=by
  have:=congrArg List.length yl
  rwa [yas,zb7 (by omega)] at this
 have xg : ∀ i (hi : i < X.size),X[i] = (arrOf st)[sa + k + i]'(by omega):=fun i hi=>by
  have e : X[i]? = (arrOf st)[sa + k + i]?:=by
   rw [← yaT,xl]
   exact zfC (by omega) (by omega)
  rw [yaY hi,yaY (by omega)] at e
  exact yad e
 have yg : ∀ i (hi : i < Y.size),Y[i] = (arrOf st)[sa + na + i]'(by omega):=fun i hi=>by
  have e : Y[i]? = (arrOf st)[sa + na + i]?:=by
   rw [← yaT,yl]
   exact zfC (by omega) (by omega)
  rw [yaY hi,yaY (by omega)] at e
  exact yad e
 have xm : ∀ q∈X.toList,∃ i,k≤i∧i < na∧ky κ q = kAt κ (arrOf st) (sa + i)∧q∈(arrOf st).toList:=fun q hq=>by
  rw [xl] at hq
  obtain ⟨j,j1,j2,e⟩:=zgY (by omega) hq
  refine ⟨j - sa,by omega,by omega,?_,?_⟩
  ·rw [show sa + (j - sa) = j by omega,zcX e]
  ·rw [← yaT] at e
   exact yaJ e
 have ym : ∀ q∈Y.toList,∃ i,i < c∧ky κ q = kAt κ (arrOf st) (sa + na + i)∧q∈(arrOf st).toList:=fun q hq=>by
  rw [yl] at hq
  obtain ⟨j,j1,j2,e⟩:=zgY (by omega) hq
  refine ⟨j - (sa + na),by omega,?_,?_⟩
  ·rw [show sa + na + (j - (sa + na)) = j by omega,zcX e]
  ·rw [← yaT] at e
   exact yaJ e
 have kX : ∀ q∈X.toList,Keyd κ q:=fun q hq=>by obtain ⟨_,_,_,_,z⟩:=xm q hq; exact hB.keys q z
 have kY : ∀ q∈Y.toList,Keyd κ q:=fun q hq=>by obtain ⟨_,_,_,z⟩:=ym q hq; exact hB.keys q z
 have sX : SL κ X.toList:=by
  rw [xl]
  exact zoL (by omega) (fun i j q1 q2 q3=>ua i j (by omega) q2 (by omega))
 have sY : SL κ Y.toList:=by
  rw [yl]
  exact zoL (by omega) (fun i j q1 q2 q3=>ub i j q1 q2 (by omega))
 have y0 : ∀ (hb : 0 < Y.size),ky κ Y[0] = kAt κ (arrOf st) (sa + na):=fun hb=>by
  rw [yg 0 hb,← za7]
  rfl
 have lo0 : ∀ (hb : 0 < Y.size),∀ q∈X.toList,le κ Y[0] q:=fun hb q hq=>by
  obtain ⟨i,i1,i2,e,_⟩:=xm q hq
  unfold le
  rw [y0 hb,e]
  exact KeyOrd.kle_of_klt (k3' i i1 i2)
 have xlast : ∀ (ha : X.size - 1 < X.size),ky κ X[X.size - 1] = kAt κ (arrOf st) (sa + na - 1):=fun ha=>by
  rw [xg _ ha,← za7]
  congr 1
  omega
 have hi0 : ∀ (ha : X.size - 1 < X.size),∀ q∈Y.toList,le κ q X[X.size - 1]:=fun ha q hq=>by
  obtain ⟨i,i1,e,_⟩:=ym q hq
  unfold le
  rw [xlast ha,e]
  exact KeyOrd.kle_of_klt (c2' i i1)
 have fin : ∀ m st',zbY κ X Y m→SG (setPending st pend) st'→wpS (model prog w) A E s (do
   modify fun s=>setArr s (m.toList.zipIdx.foldl (fun a (q : Keyed×Nat)=>a.setIfInBounds (sa + k + q.2) q.1) (arrOf s))
   return (failedOf (← get)).isNone) Q st':=fun m st' hm g=>by
  obtain ⟨b1,b2,b3⟩:=same _ g
  refine wpS_bind (wpS_modify ?_)
  refine wpS_bind (wpS_get ?_)
  have hf : failedOf (setArr st' (m.toList.zipIdx.foldl (fun a (q : Keyed×Nat)=>a.setIfInBounds (sa + k + q.2) q.1) (arrOf st'))) = none:=b1.failed
  rw [hf]
  rw [← hX,← hY] at hm
  obtain ⟨o1,o2⟩:=zkG (by omega) ua ub (by omega) c1 (by omega) k2' c3' hm
  refine wpS_pure (h _ ?_ ?_ ?_ b3)
  ·refine b1.off (lo:=sa) (hi:=sa + (na + nb)) ?_
   rw [b2]
   exact o1
  ·show Off (arrOf st) (back (arrOf st') (sa + k) m) _ _
   rw [b2]
   exact o1
  ·show Up κ (back (arrOf st') (sa + k) m) _ _
   rw [b2]
   exact o2
 by_cases e4 : na - k≤c
 ·rw [if_pos e4]
  refine wpS_bind ?_
  refine zki hO B0.kind kX kY sX sY (by omega) (by omega) (lo0 _) ?_ fun m st' hm g=>fin m st' hm g
  intro q hq i hi x hx
  have : x = X[X.size - 1]'(by omega):=by
   rw [show i = X.size - 1 by omega,zes (by omega),yaZ (by rw [yas]; omega)] at hx
   exact yal.mp hx
  rw [this]
  exact hi0 _ q hq
 ·rw [if_neg e4]
  refine wpS_bind ?_
  exact zkj hO B0.kind kX kY sX sY (by omega) (by omega) (lo0 _) (hi0 (by omega)) fun m st' hm g=>fin m st' hm g
end
end Tim
namespace Tim
open PySem PyProof.Rows
set_option autoImplicit false
section
variable {κ : KeyKind} {xs ys : Array Keyed}
def Runs (κ : KeyKind) (xs : Array Keyed) : List (Nat×Nat×Nat)→Nat→Nat→Prop
 | [],a,b=>a = b
 | (s,n,_) :: r,a,b=>s = a∧0 < n∧Up κ xs a (a + n)∧Runs κ xs r (a + n) b
theorem Runs.le : ∀ {l : List (Nat×Nat×Nat)} {a b : Nat},Runs κ xs l a b→a + l.length≤b
 | [],_,_,h=>by rw [show _ = _ from h]; simp
 | (s,n,p) :: r,a,b,⟨_,h1,_,h2⟩=>by
  have:=Runs.le h2
  rw [yaI]
  omega
theorem Runs.split : ∀ {l m : List (Nat×Nat×Nat)} {a b : Nat},Runs κ xs (l ++ m) a b→∃ c,Runs κ xs l a c∧Runs κ xs m c b
 | [],m,a,b,h=>⟨a,rfl,h⟩
 | (s,n,p) :: r,m,a,b,⟨h0,h1,h2,h3⟩=>by
  obtain ⟨c,c1,c2⟩:=Runs.split (l:=r) h3
  exact ⟨c,⟨h0,h1,h2,c1⟩,c2⟩
theorem Runs.glue : ∀ {l m : List (Nat×Nat×Nat)} {a b c : Nat},Runs κ xs l a c→Runs κ xs m c b→Runs κ xs (l ++ m) a b
 | [],m,a,b,c,h,g=>by rw [show a = c from h]; exact g
 | (s,n,p) :: r,m,a,b,c,⟨h0,h1,h2,h3⟩,g=>⟨h0,h1,h2,Runs.glue h3 g⟩
theorem Up.off {lo hi a b : Nat} (h : Up κ xs a b) (o : Off xs ys lo hi) (d : b≤lo∨hi≤a) : Up κ ys a b:=fun i j h1 h2 h3=>by
 rw [ziR o (by omega),ziR o (by omega)]
 exact h i j h1 h2 h3
theorem Runs.off {lo hi : Nat} (o : Off xs ys lo hi) : ∀ {l : List (Nat×Nat×Nat)} {a b : Nat},Runs κ xs l a b→(b≤lo∨hi≤a)→Runs κ ys l a b
 | [],_,_,h,_=>h
 | (s,n,p) :: r,a,b,⟨h0,h1,h2,h3⟩,d=>by
  have:=Runs.le h3
  exact ⟨h0,h1,h2.off o (by omega),Runs.off o h3 (by omega)⟩
theorem zhS {α : Type} {x y v : α} {post : List α} : ∀ pre : List α,((pre ++ x :: y :: post).set pre.length v).eraseIdx (pre.length + 1) = pre ++ v :: post
 | []=>rfl
 | p :: pre=>by
  rw [List.cons_append,yaI,List.set_cons_succ,List.eraseIdx_cons_succ,zhS pre,List.cons_append]
end
section
variable {prog : Program} {w : World} {A : Around} {E : Value→Shared→Prop} {s : Shared} {κ : KeyKind} {kd : SortKind}
structure SI (κ : KeyKind) (kd : SortKind) (a₀ : Array Keyed) (lo : Nat) (st : SortSt) : Prop where
 tb : TB κ kd a₀.size st
 perm : (arrOf st).Perm a₀
 le : lo≤a₀.size
 runs : Runs κ (arrOf st) (pendingOf st).toList 0 lo
theorem zc4 {a₀ : Array Keyed} {st : SortSt} {lo i : Nat} {Q : Bool→SortSt→Prop} (hO : LtG prog w A s κ kd) (hI : SI κ kd a₀ lo st) (hi : i + 1 < (pendingOf st).size)
  (h : ∀ st',SI κ kd a₀ lo st'→Off (arrOf st) (arrOf st') 0 lo→(pendingOf st').size + 1 = (pendingOf st).size→Q true st') : wpS (model prog w) A E s (mergeAt' i) Q st:=by
 have hl : (pendingOf st).toList.length = (pendingOf st).size:=yas
 obtain ⟨pre,x,y,post,e,hp⟩ : ∃ pre x y post,(pendingOf st).toList = pre ++ x :: y :: post∧pre.length = i:=by
  refine ⟨(pendingOf st).toList.take i,(pendingOf st).toList[i]'(by omega),(pendingOf st).toList[i + 1]'(by omega),(pendingOf st).toList.drop (i + 2),?_,?_⟩
  ·rw [← yb3,← yb3,yaM]
  ·rw [yap]
   omega
 obtain ⟨sa,na,pa⟩:=x
 obtain ⟨sb,nb,pb⟩:=y
 have hr:=hI.runs
 rw [e] at hr
 obtain ⟨c,r1,h0,h1,ua,h2,h3,ub,r2⟩:=hr.split
 subst h0 h2
 have l1:=r2.le
 have l0:=hI.le
 have g1 : (pendingOf st)[i]? = some (sa,na,pa):=by
  rw [← yaT,e,← hp]
  simp
 have g2 : (pendingOf st)[i + 1]? = some (sa + na,nb,pb):=by
  rw [← yaT,e,← hp,ya4 (by omega),show pre.length + 1 - pre.length = 1 by omega]
  rfl
 refine zkk hO hI.tb g1 g2 h1 h3 (by omega) ua ub fun st' b1 b2 b3 b4=>?_
 have e' : (pendingOf st').toList = pre ++ (sa,na + nb,pa) :: post:=by
  rw [b4,Array.toList_eraseIdxIfInBounds,Array.toList_setIfInBounds,e,← hp]
  exact zhS pre
 refine h st' ⟨b1,b2.perm.trans hI.perm,hI.le,?_⟩ (b2.wide (yaE _) (by omega)) ?_
 ·rw [e']
  refine (r1.off b2 (.inl (yaa _))).glue ⟨rfl,by omega,b3,?_⟩
  have:=r2.off b2 (.inr (by omega))
  rwa [show sa + na + nb = sa + (na + nb) by omega] at this
 ·have z1:=congrArg List.length e
  have z2:=congrArg List.length e'
  rw [yas,yam,yaI] at z1 z2
  rw [yaI] at z1
  omega
end
end Tim
namespace Tim
open PySem PyProof.Rows
set_option autoImplicit false
section
variable {prog : Program} {w : World} {A : Around} {E : Value→Shared→Prop} {s : Shared} {κ : KeyKind} {kd : SortKind}
theorem Runs.modify {xs : Array Keyed} {p : Nat} : ∀ {l : List (Nat×Nat×Nat)} {a b : Nat} (i : Nat),Runs κ xs l a b→Runs κ xs (l.modify i fun x=>(x.fst,x.2.fst,p)) a b
 | [],_,_,i,h=>by
  cases i <;> exact h
 | (s,n,q) :: r,a,b,0,h=>h
 | (s,n,q) :: r,a,b,i + 1,⟨h0,h1,h2,h3⟩=>⟨h0,h1,h2,Runs.modify i h3⟩
theorem SI.setp {a₀ : Array Keyed} {lo hi : Nat} {st : SortSt} {p : Array (Nat×Nat×Nat)} (hI : SI κ kd a₀ lo st) (hz : hi≤a₀.size) (hr : Runs κ (arrOf st) p.toList 0 hi) : SI κ kd a₀ hi (setPending st p):=
 ⟨⟨hI.tb.kind,hI.tb.keys,hI.tb.failed,hI.tb.size⟩,hI.perm,hz,hr⟩
theorem SI.pushed {a₀ : Array Keyed} {st : SortSt} {lo n : Nat} (hI : SI κ kd a₀ lo st) (hn : 0 < n) (hz : lo + n≤a₀.size) (hU : Up κ (arrOf st) lo (lo + n)) : SI κ kd a₀ (lo + n) (setPending st ((pendingOf st).push (lo,n,0))):=by
 refine hI.setp hz ?_
 rw [ybO]
 exact hI.runs.glue ⟨rfl,hn,hU,rfl⟩
theorem SI.marked {a₀ : Array Keyed} {st : SortSt} {lo p : Nat} (hI : SI κ kd a₀ lo st) : SI κ kd a₀ lo (setPending st ((pendingOf st).modify ((pendingOf st).size - 1) fun x=>(x.fst,x.2.fst,p))):=by
 refine hI.setp hI.le ?_
 rw [Array.toList_modify]
 exact hI.runs.modify _
theorem znf {c : Prop} [Decidable c] {n : Nat} (h : 2≤n) : (if c then n - 2 - 1 else n - 2) + 1 < n:=by
 split <;> omega
theorem ziq {a₀ : Array Keyed} {st : SortSt} {Q : Unit→SortSt→Prop} (hO : LtG prog w A s κ kd) (hI : SI κ kd a₀ 0 st) (h2 : 2≤a₀.size)
  (h : ∀ st',(arrOf st').Perm a₀→failedOf st' = none→Up κ (arrOf st') 0 a₀.size→Q () st') : wpS (model prog w) A E s sortRuns' Q st:=by
 rw [sortRuns'_eq]
 refine wpS_bind (wpS_get ?_)
 dsimp only
 simp only [hI.tb.size]
 generalize minRun' a₀.size a₀.size 0 = mr
 refine wpS_bind (wpS_mono (wpS_forRange (I:=fun x c st'=>∃ lo,c = (none,lo)∧x≤lo∧SI κ kd a₀ lo st') (Q:=fun c st'=>c = (none,a₀.size)∧SI κ kd a₀ a₀.size st') ?step ?fin ⟨0,rfl,yaa _,hI⟩) ?post)
 case fin=>
  rintro c st' ⟨lo,rfl,hx,hI'⟩
  have e : lo = a₀.size:=by
   have:=hI'.le
   omega
  subst e
  exact ⟨rfl,hI'⟩
 case step=>
  rintro x c st' _ hx ⟨lo,rfl,hxl,hI'⟩
  have hle:=hI'.le
  dsimp only
  by_cases hlo : lo ≥ a₀.size
  ·rw [if_pos hlo]
   have e : lo = a₀.size:=by omega
   subst e
   exact wpS_pure ⟨rfl,hI'⟩
  ·rw [if_neg hlo]
   refine wpS_bind (zir hO hI'.tb (by omega) (by omega) fun r st2 hr=>?_)
   obtain ⟨n,ys,rfl,n1,n2,rfl,ho,hU⟩:=hr
   have hI2 : SI κ kd a₀ lo (setArr st' ys):=⟨hI'.tb.off ho,ho.perm.trans hI'.perm,hle,hI'.runs.off ho (.inl (yaa _))⟩
   dsimp only
   by_cases hmr : n < mr
   ·rw [if_pos hmr]
    refine wpS_bind (zcI (wpS_bind (zgN hO hI2.tb (by omega) (by omega) hU fun zs oz uz=>?_)))
    simp only [ycd,yaQ,if_false]
    have hI3 : SI κ kd a₀ lo (setArr st' zs):=⟨hI2.tb.off oz,oz.perm.trans hI2.perm,hle,hI2.runs.off oz (.inl (yaa _))⟩
    refine wpS_bind (wpS_get ?_)
    cases hb : (pendingOf (setArr st' zs)).back? with
    | none=>
     dsimp only
     exact wpS_bind (wpS_modify (wpS_pure ⟨_,rfl,by omega,hI3.pushed (by omega) (by omega) uz⟩))
    | some x1=>
     obtain ⟨s1,n1',p1⟩:=x1
     dsimp only
     refine wpS_bind (wpS_mono (wpS_forRange (I:=fun _ c st5=>c = (none,())∧SI κ kd a₀ lo st5∧Up κ (arrOf st5) lo (lo + (min (a₀.size - lo) mr))) (Q:=fun c st5=>c = (none,())∧SI κ kd a₀ lo st5∧Up κ (arrOf st5) lo (lo + (min (a₀.size - lo) mr))) ?_ (fun _ _ z=>z) ⟨rfl,hI3,uz⟩) ?_)
     ·rintro i c st5 _ _ ⟨rfl,hI5,hU5⟩
      refine wpS_bind (wpS_get ?_)
      by_cases h1 : (pendingOf st5).size > 1
      ·rw [if_pos h1,yaY (by omega)]
       obtain ⟨q1,q2,q3⟩:=(pendingOf st5)[(pendingOf st5).size - 2]'(by omega)
       dsimp only
       split
       ·exact wpS_pure ⟨rfl,hI5,hU5⟩
       ·refine wpS_bind (zc4 hO hI5 (by omega) fun st6 h3 h4 _=>?_)
        simp only [ycd,yaQ,if_false]
        exact wpS_pure ⟨rfl,h3,hU5.off h4 (.inr (yaa _))⟩
      ·rw [if_neg h1]
       exact wpS_pure ⟨rfl,hI5,hU5⟩
     ·rintro c st5 ⟨rfl,hI5,hU5⟩
      dsimp only
      exact wpS_bind (wpS_modify (wpS_bind (wpS_modify (wpS_pure ⟨_,rfl,by omega,SI.pushed (SI.marked hI5) (by omega) (by omega) hU5⟩))))
   ·rw [if_neg hmr]
    refine wpS_bind (wpS_get ?_)
    cases hb : (pendingOf (setArr st' ys)).back? with
    | none=>
     dsimp only
     exact wpS_bind (wpS_modify (wpS_pure ⟨_,rfl,by omega,hI2.pushed (by omega) (by omega) hU⟩))
    | some x1=>
     obtain ⟨s1,n1',p1⟩:=x1
     dsimp only
     refine wpS_bind (wpS_mono (wpS_forRange (I:=fun _ c st5=>c = (none,())∧SI κ kd a₀ lo st5∧Up κ (arrOf st5) lo (lo + n)) (Q:=fun c st5=>c = (none,())∧SI κ kd a₀ lo st5∧Up κ (arrOf st5) lo (lo + n)) ?_ (fun _ _ z=>z) ⟨rfl,hI2,hU⟩) ?_)
     ·rintro i c st5 _ _ ⟨rfl,hI5,hU5⟩
      refine wpS_bind (wpS_get ?_)
      by_cases h1 : (pendingOf st5).size > 1
      ·rw [if_pos h1,yaY (by omega)]
       obtain ⟨q1,q2,q3⟩:=(pendingOf st5)[(pendingOf st5).size - 2]'(by omega)
       dsimp only
       split
       ·exact wpS_pure ⟨rfl,hI5,hU5⟩
       ·refine wpS_bind (zc4 hO hI5 (by omega) fun st6 h3 h4 _=>?_)
        simp only [ycd,yaQ,if_false]
        exact wpS_pure ⟨rfl,h3,hU5.off h4 (.inr (yaa _))⟩
      ·rw [if_neg h1]
       exact wpS_pure ⟨rfl,hI5,hU5⟩
     ·rintro c st5 ⟨rfl,hI5,hU5⟩
      dsimp only
      exact wpS_bind (wpS_modify (wpS_bind (wpS_modify (wpS_pure ⟨_,rfl,by omega,SI.pushed (SI.marked hI5) (by omega) (by omega) hU5⟩))))
 case post=>
  rintro c st' ⟨rfl,hI'⟩
  dsimp only
  refine wpS_bind (wpS_mono (wpS_forRange (I:=fun x c st''=>c = (none,())∧SI κ kd a₀ a₀.size st''∧(pendingOf st'').size + x≤a₀.size + 1) (Q:=fun c st''=>c = (none,())∧SI κ kd a₀ a₀.size st''∧(pendingOf st'').size≤1) ?_ ?_ ⟨rfl,hI',?_⟩) ?_)
  ·rintro x c st'' _ hx ⟨rfl,hJ,hz⟩
   refine wpS_bind (wpS_get ?_)
   by_cases h1 : (pendingOf st'').size≤1
   ·rw [if_pos h1]
    exact wpS_pure ⟨rfl,hJ,h1⟩
   ·rw [if_neg h1]
    refine wpS_bind (zc4 hO hJ ?_ fun st3 h3 _ h4=>?_)
    ·exact znf (by omega)
    ·simp only [ycd,yaQ,if_false]
     exact wpS_pure ⟨rfl,h3,by omega⟩
  ·rintro c st'' ⟨rfl,hJ,hz⟩
   exact ⟨rfl,hJ,by omega⟩
  ·have:=hI'.runs.le
   rw [yas] at this
   omega
  ·rintro c st'' ⟨rfl,hJ,hz⟩
   dsimp only
   refine wpS_pure (h _ hJ.perm hJ.tb.failed ?_)
   have hr:=hJ.runs
   rw [← yas] at hz
   match e : (pendingOf st'').toList,hz,hr with
   | [],_,hr=>
    have : 0 = a₀.size:=hr
    omega
   | [(s1,n1,p1)],_,hr=>
    obtain ⟨_,_,u,z⟩:=hr
    have z : 0 + n1 = a₀.size:=z
    rw [z] at u
    exact u
end
end Tim
namespace Tim
open PySem PyProof.Rows
set_option autoImplicit false
section
variable {prog : Program} {w : World} {A : Around} {E : Value→Shared→Prop} {s : Shared} {κ : KeyKind} {kd : SortKind}
def zeS (a : Addr) (h h' : Heap) : Prop:=∀ b o,b≠a→h.get? b = some o→h'.get? b = some o
def keyV (κ : KeyKind) (v : Value) : κ.α:=(κ.keyOf v).getD κ.dflt
theorem zin : ∀ vs : List Value,vs.zip vs = vs.map fun v=>(v,v)
 | []=>rfl
 | v :: vs=>by rw [ycv,zin vs,yao]
theorem zhe {vs : List Value} {p : Keyed} (h : p∈(pairsOf vs).toList) : p.1 = p.2∧p.1∈vs:=by
 have e : (pairsOf vs).toList = vs.zip vs:=by
  unfold pairsOf
  simp
 rw [e] at h
 rw [zin] at h
 obtain ⟨v,hv,rfl⟩:=yaB.mp h
 exact ⟨rfl,hv⟩
theorem zlW (vs : List Value) : (pairsOf vs).toList.map (·.2) = vs:=by
 have e : (pairsOf vs).toList = vs.zip vs:=by
  unfold pairsOf
  simp
 rw [e,zin,ybd]
 have z : ((fun x : Keyed=>x.2) ∘ fun v : Value=>(v,v)) = id:=rfl
 first
  | rw [z,List.map_id]
  | exact List.map_id vs
theorem zqH {vs : List Value} {xs : Array Keyed} (hp : xs.Perm (pairsOf vs)) (hU : Up κ xs 0 (pairsOf vs).size) :
  (xs.toList.map (·.2)).Perm vs∧(xs.toList.map (·.2)).Pairwise (fun x y=>κ.kle (keyV κ x) (keyV κ y)):=by
 have hpl:=ycr.mp hp
 refine ⟨?_,?_⟩
 ·have:=hpl.map (·.2)
  rwa [zlW] at this
 ·have hs : SL κ xs.toList:=zpJ (by rw [hp.size_eq]; exact hU)
  refine ybB.mpr (hs.imp_of_mem fun {a b} ha hb hab=>?_)
  have ea:=(zhe (hpl.mem_iff.mp ha)).1
  have eb:=(zhe (hpl.mem_iff.mp hb)).1
  unfold le ky at hab
  unfold keyV
  rw [← ea,← eb]
  exact hab
theorem zoJ {a : Addr} {vs : List Value} {n : Nat} {P : Fin→Shared→Prop} (ho : s.heap.get? a = some (seqObj "list" vs.toArray n)) (hz : vs.length≤sizeLine) (keys : ∀ v∈vs,∃ k,κ.keyOf v = some k)
  (hlt : ∀ h',zeS a s.heap h'→LtG prog w A { s with heap:=h' } κ kd)
  (hkd : ∀ (h' : Heap) (E : Value→Shared→Prop) (Q : SortKind→Shared→Prop),zeS a s.heap h'→2≤vs.length→Q kd { s with heap:=h' }→wpAny (model prog w) A (keyKind' vs.toArray) Q E { s with heap:=h' })
  (h : ∀ out : List Value,out.Perm vs→out.Pairwise (fun x y=>κ.kle (keyV κ x) (keyV κ y))→P (.done (.ret .none)) { s with heap:=sortedHeap s.heap a vs out.toArray }) :
  wpAny (model prog w) A (Builtin.«list.sort» ⟨[.ref a],[]⟩) P E s:=by
 rw [list_sort_plain]
 have hlt0 : a < s.heap.objs.size:=yae ho
 refine wpAny_bind (listItems_at ho rfl ?_)
 refine wpAny_bind (listUpdate_at ho rfl ?_ (by simpa using hz) (yaE _))
 obtain ⟨m,ho1⟩ : ∃ m,(s.heap.update a (Obj.mapSeq fun _=>#[])).get? a = some (seqObj "list" #[] m):=⟨_,get?_update_seq ho (fun _=>#[])⟩
 refine wpAny_bind (seqEpoch_at ho1 rfl ?_)
 refine wpAny_bind (wpAny_newTuple ?_ (by simpa using hz))
 refine wpAny_bind (wpAny_newList ?_)
 refine wpAny_holding ?_
 have z1 : (s.heap.update a (Obj.mapSeq fun _=>#[])).objs.size = s.heap.objs.size:=by rw [Heap.size_update]
 have hk : zeS a s.heap (((s.heap.update a (Obj.mapSeq fun _=>#[])).push (seqObj "tuple" vs.toArray 0)).push (seqObj "list" #[] 0)):=fun b o hb e=>
  yai _ (yai _ ((ybn _ _ (Ne.symm hb)).trans e))
 have ho6 : (((s.heap.update a (Obj.mapSeq fun _=>#[])).push (seqObj "tuple" vs.toArray 0)).push (seqObj "list" #[] 0)).get? a = some (seqObj "list" #[] m):=yai _ (yai _ ho1)
 show wpAny (model prog w) A _ P E { s with heap:=((s.heap.update a (Obj.mapSeq fun _=>#[])).push (seqObj "tuple" vs.toArray 0)).push (seqObj "list" #[] 0) }
 dsimp only
 have fin : ∀ st' : SortSt,(arrOf st').Perm (pairsOf vs)→failedOf st' = none→Up κ (arrOf st') 0 (pairsOf vs).size→wpAny (model prog w) A (do
   let touched:=(← seqEpoch a) != m
   Builtin.List.listUpdate (.ref a) fun _=>(arrOf st').map (·.2)
   if let some e:=failedOf st' then rule "list.sort.comparison-raised"; throw e
   if touched then rule "list.sort.modified"; raiseError "ValueError" "list modified during sort"
   ret .none) P E { s with heap:=((s.heap.update a (Obj.mapSeq fun _=>#[])).push (seqObj "tuple" vs.toArray 0)).push (seqObj "list" #[] 0) }:=fun st' hp hf hU=>by
  refine wpAny_bind (seqEpoch_at ho6 rfl ?_)
  refine wpAny_bind (listUpdate_at ho6 rfl ?_ (yaE _) (by
   refine yay (Nat.le_of_eq ((Array.size_map ..).trans (hp.size_eq.trans (pairsOf_size _)))) ?_
   omega))
  rw [hf]
  simp only [bne_self_eq_false,yaQ,if_false]
  obtain ⟨o1,o2⟩:=zqH hp hU
  have:=h _ o1 o2
  have e : ((arrOf st').toList.map (·.2)).toArray = (arrOf st').map (·.2):=by rw [← Array.toList_map,Array.toArray_toList]
  rw [e] at this
  exact wpAny_pure this
 by_cases h2 : vs.toArray.size < 2
 ·rw [if_pos h2,if_pos h2]
  refine wpAny_bind (wpAny_pure ?_)
  rw [StateT.run_pure]
  refine wpAny_bind (wpAny_pure ?_)
  refine fin (SortSt.mk' general' (vs.toArray.zip vs.toArray) #[] 7 none) (Array.Perm.refl _) rfl ?_
  intro i j q1 q2 q3
  have : i = j:=by
   rw [pairsOf_size] at q3
   simp at h2
   omega
  subst this
  exact KeyOrd.kle_refl _
 ·rw [if_neg h2,if_neg h2]
  have h2' : 2≤vs.length:=by
   simp at h2
   omega
  refine wpAny_bind (hkd _ _ _ hk h2' ?_)
  refine wpAny_bind (wpAny_mono (ziq (κ:=κ) (hlt _ hk) (a₀:=pairsOf vs) (st:=SortSt.mk' kd (vs.toArray.zip vs.toArray) #[] 7 none)
   (Q:=fun _ st'=>(arrOf st').Perm (pairsOf vs)∧failedOf st' = none∧Up κ (arrOf st') 0 (pairsOf vs).size)
   ⟨⟨rfl,fun p hp=>keys _ (zhe hp).2,rfl,rfl⟩,Array.Perm.refl _,yaE _,rfl⟩ (by rw [pairsOf_size]; omega) fun st' a1 a2 a3=>⟨a1,a2,a3⟩) ?_ fun _ _ e=>e)
  rintro ⟨⟨⟩,st'⟩ s' ⟨rfl,hp,hf,hs⟩
  exact fin st' hp hf hs
theorem zfT {h : Heap} {a : Addr} {vs out : List Value} {n : Nat} (ho : h.get? a = some (seqObj "list" vs.toArray n)) : zeS a h (sortedHeap h a vs out.toArray)∧∃ c,(sortedHeap h a vs out.toArray).get? a = some (seqObj "list" out.toArray c):=by
 unfold sortedHeap
 refine ⟨fun b o hb e=>(ybn _ _ (Ne.symm hb)).trans (yai _ (yai _ ((ybn _ _ (Ne.symm hb)).trans e))),?_⟩
 exact ⟨_,get?_update_seq (yai _ (yai _ (get?_update_seq ho (fun _=>#[])))) fun _=>out.toArray⟩
theorem znq {l : Addr} {vs : List Value} {Q : Value→Shared→Prop} (hl : s.heap.IsList l vs.toArray) (hz : vs.length≤sizeLine) (keys : ∀ v∈vs,∃ k,κ.keyOf v = some k)
  (hlt : ∀ h',(∀ b o,s.heap.get? b = some o→h'.get? b = some o)→LtG prog w A.in1.in1 { s with heap:=h' } κ kd)
  (hkd : ∀ (h' : Heap) (E : Value→Shared→Prop) (Q : SortKind→Shared→Prop),(∀ b o,s.heap.get? b = some o→h'.get? b = some o)→2≤vs.length→Q kd { s with heap:=h' }→wpAny (model prog w) A.in1.in1 (keyKind' vs.toArray) Q E { s with heap:=h' })
  (h : ∀ (out : List Value) (h' : Heap) (c : Nat),out.Perm vs→out.Pairwise (fun x y=>κ.kle (keyV κ x) (keyV κ y))→(∀ b o,s.heap.get? b = some o→h'.get? b = some o)→
   h'.get? (s.heap.objs.size + 1) = some (seqObj "list" out.toArray c)→Q (.ref (s.heap.objs.size + 1)) { s with heap:=h' }) :
  wpAny (model prog w) A (call (.builtin "sorted") [.ref l]) Q E s:=by
 refine Calls.call_function_entry kind_sorted plain_sorted entry_sorted (args_sorted1 _) ?_
 unfold Builtin.«sorted»
 refine wpAny_bind (m:=checkCount "sorted" 1 1 _) (wpAny_pure ?_)
 refine wpAny_bind (collect_list hl ?_ hz)
 refine wpAny_bind (wpAny_newList ?_ (by simpa using hz))
 have z1 : ((s.heap.push (seqObj "list" #[] 0)).update s.heap.objs.size (Obj.mapSeq (· ++ vs.toArray))).objs.size = s.heap.objs.size + 1:=by
  rw [Heap.size_update,size_push']
 have hn : (((s.heap.push (seqObj "list" #[] 0)).update s.heap.objs.size (Obj.mapSeq (· ++ vs.toArray))).push (seqObj "list" vs.toArray 0)).get? (s.heap.objs.size + 1) = some (seqObj "list" vs.toArray 0):=by
  rw [← z1]
  exact yaz _ rfl
 have hk : ∀ b o,s.heap.get? b = some o→(((s.heap.push (seqObj "list" #[] 0)).update s.heap.objs.size (Obj.mapSeq (· ++ vs.toArray))).push (seqObj "list" vs.toArray 0)).get? b = some o:=fun b o e=>
  yai _ ((ybn _ _ (ybh (yae e))).trans (yai _ e))
 show wpAny _ _ _ _ _ { s with heap:=((s.heap.push (seqObj "list" #[] 0)).update s.heap.objs.size (Obj.mapSeq (· ++ vs.toArray))).push (seqObj "list" vs.toArray 0) }
 rw [z1]
 generalize ((s.heap.push (seqObj "list" #[] 0)).update s.heap.objs.size (Obj.mapSeq (· ++ vs.toArray))).push (seqObj "list" vs.toArray 0) = h1 at hn hk ⊢
 have up : ∀ h',zeS (s.heap.objs.size + 1) h1 h'→∀ b o,s.heap.get? b = some o→h'.get? b = some o:=fun h' kb b o e=>kb b o (fun z=>by
  have:=yae e
  rw [z] at this
  exact absurd this (Nat.not_lt.mpr (yba _))) (hk b o e)
 refine wpAny_bind (wpAny_holding (wpAny_call_entry slot_list_sort ⟨_,hn,rfl⟩ entry_list_sort (zoJ (s:={ s with heap:=h1 }) hn hz keys (fun h' kb=>hlt h' (up h' kb)) (fun h' E Q kb h2 q=>hkd h' E Q (up h' kb) h2 q) fun out p1 p2=>⟨_,rfl,?_⟩) (args_list_sort _)))
 obtain ⟨kb,c,hc⟩:=zfT (out:=out) hn
 exact wpAny_pure ⟨_,rfl,h out _ c p1 p2 (up _ kb) hc⟩
end
end Tim
namespace L2
open PySem PySem.Spec PyProof.Rows
structure DF (K : Frag) (mg : Str→Option Value) (x : Str) (st : Stmt) (ps : List Str) : Prop where
 ex : ∃ f fd,Fun K x x st f fd∧zdm K fd ps []∧mg x = some (.ref f)
structure FC (P : Program) (w : World) (K : Frag) (mg : Str→Option Value) (base : Heap) (k : Nat) (x : Str) (ps : List Str) (sp : Sp) : Prop where
 ex : ∃ f fd,FnOk P w K mg base CX0 k f fd ps sp∧zdm K fd ps []∧keepIn K (.ref f) = true∧mg x = some (.ref f)∧∃ oc od osl,K.lookup f = some ⟨oc,od,.func fd,osl⟩
theorem FC.at {P : Program} {w : World} {K : Frag} {mg : Str→Option Value} {base : Heap} {k : Nat} {x : Str} {ps : List Str} {sp : Sp} {f : Addr} {fd : FuncData} {oc : Value} {od : Option Addr} {osl : Array (Option Value)} (F : FC P w K mg base k x ps sp) (m : mg x = some (.ref f)) (l : K.lookup f = some ⟨oc,od,.func fd,osl⟩) : FnOk P w K mg base CX0 k f fd ps sp:=by
 obtain ⟨f',fd',ok,_,_,m',oc',od',osl',l'⟩:=F.ex
 rw [m] at m'
 cases m'
 rw [l] at l'
 cases l'
 exact ok
theorem DF.ok {P : Program} {w : World} {K : Frag} {mg : Str→Option Value} {base : Heap} {x : Str} {st : Stmt} {N ps : List Str} {k : Nat} {sp : Sp} (D : DF K mg x st ps) (S : zan N ps (zag st)) (len : ∀ vs H Q E,sp vs H Q E→vs.length = ps.length)
  (hbody : ∀ (f : Addr) (cdv : Value) (A : Around) (outer : List Env) (s : Shared) (H : Hp) (vs : List V) (Q : VK) (E : XK),Room k (A.deeper (envOfC x (zag st) s.heap.objs.size f cdv))→sp vs H Q E→
   ∃ t,PSs (cxOf CX0 P w K mg base N x (zag st) f cdv A outer s H E).nox (za2 st) t∧t { nx:=fun _ H'=>Q .non H',rt:=Q } (start N vs) H) : FC P w K mg base (k + 1) x ps sp:=by
 obtain ⟨f,fd,F,b,m⟩:=D.ex
 exact ⟨f,fd,F.ok S len fun cdv A outer s H vs Q E hr h=>hbody f cdv A outer s H vs Q E hr h,b,F.kp,m,by
  obtain ⟨oc,od,kV,doc,pm,an,cdv,ct,osl,rfl,lk,hcd⟩:=F.ex
  exact ⟨oc,od,osl,lk⟩⟩
theorem zau {X : Cx} {j k : Nat} {x : Str} {ps : List Str} {sp : Sp} {e : Expr} {es : List Expr} {t : TA} {p pos : Pos} (F : FC X.prog X.w X.K X.mg X.base j x ps sp) (hr : Room k X.A) (ha : PA X (e :: es) t) (hjk : j≤k:=by decide) (hg : Gl X x:=by rfl)
  (hdb : (x == ("__debug__" : Str)) = false:=by decide) (he : starEach (e :: es) X.env = (false,eval e X.env) :: starEach es X.env:=by rfl) (hpl : (backTo pos (starEach es X.env)).any (·.1) = false:=by rfl) : PE X (.Call (.Name x p) (e :: es) [] pos) (zqn sp [] E0 t):=by
 obtain ⟨f,fd,ok,b,kp,m,_⟩:=F.ex
 exact zpp ok (hr.mono hjk) hg m kp b .nil zlT ha hdb he hpl
def zrq (t u : TS) : TS:=fun D σ H=>∃ M : St→Hp→Prop,t { D with nx:=M } σ H∧∀ σ' H',M σ' H'→u D σ' H'
theorem zaD {X : Cx} {st : Stmt} {rest : List Stmt} {t u : TS} (h1 : PS X st t) (h2 : PSs X rest u) : PSs X (st :: rest) (zrq t u):=by
 intro pins s σ H D I h
 obtain ⟨M,h,hM⟩:=h
 refine wpAny_execs_cons (thn (h1 pins s σ H { D with nx:=M } I h) fun f s1 q=>?_)
 cases f with
 | next=>
  obtain ⟨σ',H',I',q⟩:=q
  exact h2 pins s1 σ' H' D I' (hM σ' H' q)
 | ret v=>exact q
 | brk=>exact q
 | cont=>exact q
def zrM (i j : Int) : Prop:=0 < j∧j < 2 ^ 4000
section
variable {X : Cx}
def kitO (a b : String) : Option Bool:=if (Value.type a == Value.type b) = true then some true else if PySem.W.kitMeta b = true then (PySem.fastBuiltinMro a).map (·.contains (.type b)) else none
theorem zpM {K : Frag} {a b : String} : kitOne K (.type a) (.type b) = kitO a b:=rfl
def rIsi (K : Frag) : List V→Hp→VK→Prop:=fun xs H Q=>∃ x n t b,xs = [x,.ty n]∧TyOf K H x (.type t)∧kitO t n = some b∧Q (.bl b) H
theorem zkd : zdl X (.builtin "isinstance") (rIsi X.K):=by
 intro pins s σ H xs us Q I r h
 obtain ⟨x,n,t,b,e,ty,ki,q⟩:=h
 subst e
 obtain ⟨u,w',e,r1,r2⟩:=zgP r
 subst e
 cases r2
 exact zmx I r1 ty (zpM.trans ki) fun tk=>⟨.bl b,H,I.tok tk,rfl,q⟩
theorem zq5 : kitO "int" "int" = some true:=by decide +kernel
theorem zq6 : kitO "int" "bool" = some false:=by decide +kernel
theorem zq7 : kitO "bool" "bool" = some true:=by decide +kernel
def zpf : V→List V→Hp→VK→Prop:=fun x xs H Q=>∃ i,x = .int i∧xs = []∧Q (.int (Builtin.Int.intBits i : Nat)) H
theorem zhk : MtR X "int.bit_length" zpf:=by
 intro pins s σ H x xs v us Q I rx rv h
 obtain ⟨i,rfl,rfl,q⟩:=h
 obtain ⟨t,rfl⟩:=rx
 cases rv
 exact call_int_bit_length ⟨.int _,H,I.tok _,⟨_,rfl⟩,q⟩
end
theorem zmw {c A B : Prop} [Decidable c] (hc : ¬ c) (h : B) : if decide c = true then A else B:=by
 rw [yaf hc]
 exact iteF h
theorem zrd {c A B : Prop} [Decidable c] (hc : c) (h : A) : if decide c = true then A else B:=by
 rw [yag hc]
 exact iteT h
def zcW (L : Addr) (a l : Int) : HO:=.dK [(.inr "script",.ref L),(.inr "at",.int a),(.inr "left",.int l)]
def Keep (d : Addr) (H H' : Hp) : Prop:=∀ b o,b≠d→H b = some o→H' b = some o
theorem Keep.refl (d : Addr) (H : Hp) : Keep d H H:=fun _ _ _ h=>h
theorem Keep.trans {d : Addr} {H H1 H2 : Hp} (a : Keep d H H1) (b : Keep d H1 H2) : Keep d H H2:=fun c o n h=>b c o n (a c o n h)
theorem Same.keep {d : Addr} {H H' : Hp} (s : Same H H') : Keep d H H':=fun b o _ h=>s b o h
structure LS (K : Frag) (L d : Addr) (H : Hp) : Prop where
 ex : ∃ (ns : List Int) (a l : Int),H d = some (zcW L a l)∧SqL K H L (ns.map V.int)
theorem zfb {K : Frag} {H H' : Hp} {L d : Addr} {xs : List V} {L' : Addr} {a l : Int} (hd : H d = some (zcW L' a l)) (k : Keep d H H') (h : SqL K H L xs) : SqL K H' L xs:=by
 have ne : ∀ o,H L = some o→(∀ kvs,o≠.dK kvs)→L≠d:=fun o e n z=>by
  rw [z,hd] at e
  cases e
  exact n _ rfl
 rcases h with (h | ⟨o,h⟩) | h
 ·exact .inl (.inl (k L _ (ne _ h (fun _ z=>nomatch z)) h))
 ·exact .inl (.inr ⟨o,k L _ (ne _ h (fun _ z=>nomatch z)) h⟩)
 ·exact .inr h
theorem LS.set {K : Frag} {d L : Addr} {H : Hp} {ns : List Int} {a l a' l' : Int} (hd : H d = some (zcW L a l)) (h : SqL K H L (ns.map V.int)) : LS K L d (upd H d (zcW L a' l'))∧Keep d H (upd H d (zcW L a' l')):=by
 have k : Keep d H (upd H d (zcW L a' l')):=fun b o n e=>by rw [zah n]; exact e
 exact ⟨⟨ns,a',l',zab,zfb hd k h⟩,k⟩
theorem LS.same {K : Frag} {L d : Addr} {H H' : Hp} (s : LS K L d H) (k : Same H H') : LS K L d H':=by
 obtain ⟨ns,a,l,e,q⟩:=s.ex
 exact ⟨ns,a,l,k _ _ e,k.seq q⟩
theorem zai {H : Hp} {p : Addr} (h : H p = none) (o : HO) : Same H (upd H p o):=fun b u q=>by rw [zah (zad q h)]; exact q
theorem LS.put {K : Frag} {L d p : Addr} {H0 H2 : Hp} {o : HO} (s : LS K L d H0) (hp : H0 p = none) (k : ∀ b o,b≠d→b≠p→H0 b = some o→H2 b = some o) (s2 : LS K L d H2) : LS K L d (upd H2 p o):=by
 obtain ⟨ns,a,l,e,q⟩:=s.ex
 obtain ⟨ns2,a2,l2,e2,_⟩:=s2.ex
 have hdp : d≠p:=zad e hp
 have go : ∀ u,H0 L = some u→(∀ kvs,u≠.dK kvs)→upd H2 p o L = some u:=fun u hu hn=>by
  have h1 : L≠p:=zad hu hp
  have h2 : L≠d:=fun z=>by
   rw [z,e] at hu
   cases hu
   exact hn _ rfl
  rw [zah h1]
  exact k L u h2 h1 hu
 refine ⟨ns,a2,l2,by rw [zah hdp]; exact e2,?_⟩
 rcases q with (h | ⟨ob,h⟩) | h
 ·exact .inl (.inl (go _ h (fun _ z=>nomatch z)))
 ·exact .inl (.inr ⟨ob,go _ h (fun _ z=>nomatch z)⟩)
 ·exact .inr h
section
variable {H : Hp} {d L : Addr} {a l : Int}
theorem zdI {x y : Str} (h : x≠y) : (Sum.inr x : Key)≠Sum.inr y:=fun z=>h (Sum.inr.inj z)
theorem zkN (h : H d = some (zcW L a l)) : DGet H d (.str "script") (some (.ref L)):=.inl ⟨_,.inr "script",.inl h,rfl,by rw [zci rfl]⟩
theorem zrf (h : H d = some (zcW L a l)) : DGet H d (.str "at") (some (.int a)):=.inl ⟨_,.inr "at",.inl h,rfl,by rw [zbi (zdI (show ("script" : Str) ≠ "at" by decide +kernel)),zci rfl]⟩
theorem zhs (h : H d = some (zcW L a l)) : DGet H d (.str "left") (some (.int l)):=.inl ⟨_,.inr "left",.inl h,rfl,by rw [zbi (zdI (show ("script" : Str) ≠ "left" by decide +kernel)),zbi (zdI (show ("at" : Str) ≠ "left" by decide +kernel)),zci rfl]⟩
theorem zoM {k : Key} {v : V} {kvs kvs' : List (Key×V)} (h : H d = some (.dK kvs)) (hl : kvs.length < sizeLine) (e : putK kvs k v = kvs') : DPut H d (kV k) v (upd H d (.dK kvs')):=by
 subst e
 exact DPut.k h hl
theorem zqA {a' : Int} (h : H d = some (zcW L a l)) : DPut H d (.str "at") (.int a') (upd H d (zcW L a' l)):=
 zoM (k:=.inr "at") h (by show 3 < sizeLine; decide) (by
  unfold putK
  rw [if_pos (by simp)]
  simp only [yao,ybL,if_neg (zdI (show ("script" : Str) ≠ "at" by decide +kernel)),if_neg (zdI (show ("left" : Str) ≠ "at" by decide +kernel)),if_true])
theorem zjC {l' : Int} (h : H d = some (zcW L a l)) : DPut H d (.str "left") (.int l') (upd H d (zcW L a l')):=
 zoM (k:=.inr "left") h (by show 3 < sizeLine; decide) (by
  unfold putK
  rw [if_pos (by simp)]
  simp only [yao,ybL,if_neg (zdI (show ("script" : Str) ≠ "left" by decide +kernel)),if_neg (zdI (show ("at" : Str) ≠ "left" by decide +kernel)),if_true])
end
def zfB (K : Frag) : Sp:=fun vs H Q _=>∃ (d L : Addr) (m : Int),vs = [.ref d,.int m]∧(0 < m∧m < 1073741824)∧LS K L d H∧∀ (v : Int) (H' : Hp),0≤v→v < m→Keep d H H'→LS K L d H'→Q (.int v) H'
def zlx : Sp:=fun vs H Q _=>∃ c k : Int,vs = [.int c,.int k]∧∀ v : Int,Q (.int v) H
def zlE (K : Frag) : Sp:=fun vs H Q _=>∃ (L : Addr) (ns : List Int),vs = [.ref L]∧SqL K H L (ns.map V.int)∧∀ (d : Addr) (H' : Hp),H d = none→Same H H'→LS K L d H'→Q (.ref d) H'
theorem zrn {ns : List Int} {k : Int} (h : 0 < ns.length) : ∃ v : Int,atI (ns.map V.int) (k % (((ns.map V.int).length : Nat) : Int)) = some (.int v):=by
 have e : (ns.map V.int).length = ns.length:=yab _
 have h1 : (0 : Int) < (((ns.map V.int).length : Nat) : Int):=by rw [e]; omega
 have z0:=yce k (Int.ne_of_gt h1)
 have z1:=ycf k h1
 generalize hj : k % (((ns.map V.int).length : Nat) : Int) = j at z0 z1
 rw [e] at z1
 have hk : j.toNat < ns.length:=by omega
 obtain ⟨n,rfl⟩ : ∃ n : Nat,j = (n : Int):=⟨j.toNat,by omega⟩
 have hn : n < ns.length:=by omega
 exact ⟨ns[n],zeQ (by rw [yau,yac hn]; rfl)⟩
end L2
namespace L2
open PySem PySem.Spec PyProof.Rows PySem.SeqAt
def Ext (H H' : Hp) : Prop:=∀ b o,H b = some o→(∀ kvs,o≠.dK kvs)→H' b = some o
theorem Same.ext {H H' : Hp} (s : Same H H') : Ext H H':=fun b o h _=>s b o h
theorem Keep.ext {d L : Addr} {a l : Int} {H H' : Hp} (k : Keep d H H') (h : H d = some (zcW L a l)) : Ext H H':=fun b o e n=>k b o (fun z=>by
 rw [z,h] at e
 cases e
 exact n _ rfl) e
theorem LS.ext {K : Frag} {L d : Addr} {H H' : Hp} (s : LS K L d H) (k : Keep d H H') : Ext H H':=by
 obtain ⟨ns,a,l,e,_⟩:=s.ex
 exact k.ext e
theorem LS.of_new {K : Frag} {L d : Addr} {H : Hp} (s : LS K L d H) {p : Addr} (hp : H p = none) (o : HO) : LS K L d (upd H p o):=s.same (zai hp o)
theorem SqL.ext {K : Frag} {H H' : Hp} {a : Addr} {xs : List V} (e : Ext H H') (h : SqL K H a xs) : SqL K H' a xs:=by
 rcases h with (h | ⟨o,h⟩) | h
 ·exact .inl (.inl (e _ _ h (fun _ z=>nomatch z)))
 ·exact .inl (.inr ⟨o,e _ _ h (fun _ z=>nomatch z)⟩)
 ·exact .inr h
theorem SqT.ext {K : Frag} {H H' : Hp} {a : Addr} {xs : List V} (e : Ext H H') (h : SqT K H a xs) : SqT K H' a xs:=by
 rcases h with (h | ⟨o,h⟩) | h
 ·exact .inl (.inl (e _ _ h (fun _ z=>nomatch z)))
 ·exact .inl (.inr ⟨o,e _ _ h (fun _ z=>nomatch z)⟩)
 ·exact .inr h
class Rep (α : Type) where
 dec : DecidableEq α
 depth : Nat
 has : Frag→Hp→α→V→Prop
 mono : ∀ {K : Frag} {H H' : Hp} {a : α} {v : V},Ext H H'→has K H a v→has K H' a v
 inj : ∀ {X : Cx} {pins : List (Addr×Obj)} {σ : St} {H : Hp} {s : Shared} {a b : α} {v : V},Inv X pins σ H s→has X.K H a v→has X.K H b v→a = b
 rc : ∀ {X : Cx} {pins : List (Addr×Obj)} {σ : St} {H : Hp} {s : Shared} {A : Around} {a b : α} {x y : V} {u v : Value},Inv X pins σ H s→A.units + depth < cLine→has X.K H a x→has X.K H b y→RelV x u→RelV y v→RcAt A s u v (dec a b).decide
 rn : ∀ {X : Cx} {pins : List (Addr×Obj)} {σ : St} {H : Hp} {s : Shared} {A : Around} {a b : α} {x y : V} {u v : Value},Inv X pins σ H s→A.units + depth < cLine→has X.K H a x→has X.K H b y→RelV x u→RelV y v→RcNeAt A s u v (!(dec a b).decide)
 eq : ∀ {X : Cx} {pins : List (Addr×Obj)} {σ : St} {H : Hp} {s : Shared} {A : Around} {a b : α} {x y : V} {u v : Value},Inv X pins σ H s→A.units + depth < cLine→has X.K H a x→has X.K H b y→RelV x u→RelV y v→EqAt A s u v (dec a b).decide
instance (priority:=low) repDec {α : Type} [Rep α] : DecidableEq α:=Rep.dec
theorem zi5 {i j : Int} : (i == j) = (Int.instDecidableEq i j).decide:=by
 by_cases h : i = j
 ·subst h; simp
 ·rw [beq_eq_false_iff_ne.mpr h]; exact (yaf h).symm
instance : Rep Int where
 dec:=Int.instDecidableEq
 depth:=0
 has:=fun _ _ i v=>v = .int i
 mono:=fun _ h=>h
 inj:=fun _ h1 h2=>V.int.inj (h1.symm.trans h2)
 rc:=fun _ _ h1 h2 r1 r2=>by
  subst h1 h2
  obtain ⟨t,rfl⟩:=r1
  obtain ⟨t',rfl⟩:=r2
  rw [← zi5]
  exact RcAt.int_int _ _ _ _
 rn:=fun _ _ h1 h2 r1 r2=>by
  subst h1 h2
  obtain ⟨t,rfl⟩:=r1
  obtain ⟨t',rfl⟩:=r2
  rw [← zi5]
  exact RcNeAt.int_int _ _ _ _
 eq:=fun _ _ h1 h2 r1 r2=>by
  subst h1 h2
  obtain ⟨t,rfl⟩:=r1
  obtain ⟨t',rfl⟩:=r2
  rw [← zi5]
  exact EqAt.int_int _ _ _ _
instance : Rep Bool where
 dec:=instDecidableEqBool
 depth:=0
 has:=fun _ _ i v=>v = .bl i
 mono:=fun _ h=>h
 inj:=fun _ h1 h2=>V.bl.inj (h1.symm.trans h2)
 rc:=fun {_ _ _ _ _ _ a b _ _ _ _} _ _ h1 h2 r1 r2=>by
  subst h1 h2
  cases r1
  cases r2
  have e : (a == b) = (instDecidableEqBool a b).decide:=by cases a <;> cases b <;> rfl
  rw [← e]
  exact RcAt.bool_bool _ _
 rn:=fun {_ _ _ _ _ _ a b _ _ _ _} _ _ h1 h2 r1 r2=>by
  subst h1 h2
  cases r1
  cases r2
  have e : (a == b) = (instDecidableEqBool a b).decide:=by cases a <;> cases b <;> rfl
  rw [← e]
  exact RcNeAt.bool_bool _ _
 eq:=fun {_ _ _ _ _ _ a b _ _ _ _} _ _ h1 h2 r1 r2=>by
  subst h1 h2
  cases r1
  cases r2
  have e : (a == b) = (instDecidableEqBool a b).decide:=by cases a <;> cases b <;> rfl
  rw [← e]
  exact EqAt.bool_bool _ _
def zal {α : Type} [Rep α] (K : Frag) (H : Hp) : List α→List V→Prop:=Paired (Rep.has K H)
section
variable {α : Type} [Rep α] {K : Frag} {H H' : Hp}
theorem zal.mono (e : Ext H H') : ∀ {as : List α} {xs : List V},zal K H as xs→zal K H' as xs
 | _,_,.nil=>.nil
 | _,_,.cons h t=>.cons (Rep.mono e h) (zal.mono e t)
theorem zal.length {as : List α} {xs : List V} (h : zal K H as xs) : as.length = xs.length:=Paired.length h
theorem zal.get : ∀ {as : List α} {xs : List V} {i : Nat} {x : V},zal K H as xs→xs[i]? = some x→∃ a,as[i]? = some a∧Rep.has K H a x
 | _,_,_,_,.nil,e=>by simp at e
 | _,_,0,_,.cons h _,e=>by simp at e; subst e; exact ⟨_,rfl,h⟩
 | _,_,i + 1,x,.cons _ t,e=>by
  obtain ⟨a,h1,h2⟩:=zal.get (i:=i) (x:=x) t (by simpa using e)
  exact ⟨a,by simpa using h1,h2⟩
theorem zal.append : ∀ {as bs : List α} {xs ys : List V},zal K H as xs→zal K H bs ys→zal K H (as ++ bs) (xs ++ ys)
 | _,_,_,_,.nil,s=>s
 | _,_,_,_,.cons r t,s=>.cons r (zal.append t s)
theorem zal.one {a : α} {x : V} (h : Rep.has K H a x) : zal K H [a] [x]:=.cons h .nil
theorem zal.ints : ∀ {ns : List Int},zal K H ns (ns.map V.int)
 | []=>.nil
 | _ :: _=>.cons rfl zal.ints
theorem zal.toInts : ∀ {ns : List Int} {xs : List V},zal K H ns xs→xs = ns.map V.int
 | [],_,.nil=>rfl
 | n :: ns,_,.cons h t=>by
  have e : _ = V.int n:=h
  rw [e,zal.toInts t]
  rfl
theorem zal.inj {X : Cx} {pins : List (Addr×Obj)} {σ : St} {s : Shared} (I : Inv X pins σ H s) : ∀ {as bs : List α} {xs : List V},zal X.K H as xs→zal X.K H bs xs→as = bs
 | _,_,_,.nil,.nil=>rfl
 | _,_,_,.cons h t,.cons h' t'=>by rw [Rep.inj I h h',zal.inj I t t']
end
theorem zeR {α : Type} [DecidableEq α] : ∀ (as bs : List α),as.length = bs.length→((List.range as.length).all fun j=>decide (as[j]? = bs[j]?)) = decide (as = bs):=by
 intro as bs hl
 by_cases h : as = bs
 ·subst h
  simp
 ·rw [yaf h,List.all_eq_false]
  false_or_by_contra
  rename_i z
  apply h
  apply ya6
  intro i
  by_cases hi : i < as.length
  ·false_or_by_contra
   rename_i q
   exact z ⟨i,ya9.mpr hi,by simpa using q⟩
  ·rw [yaU (by omega),yaU (by omega)]
section
variable {α : Type} [r : Rep α]
theorem zbS {A : Around} : A.in1.units≤A.units + 1:=by
 first
  | exact yaa _
  | (unfold Around.in1; simp)
theorem zfs {X : Cx} {pins : List (Addr×Obj)} {σ : St} {H : Hp} {s : Shared} {A : Around} {as bs : List α} {xs ys : List V} {us vs : List Value} (I : Inv X pins σ H s) (hu : A.units + Rep.depth α < cLine)
  (h1 : zal X.K H as xs) (h2 : zal X.K H bs ys) (r1 : Vals xs us) (r2 : Vals ys vs) : ∀ j (q1 : j < us.toArray.size) (q2 : j < vs.toArray.size),EqAt A s us.toArray[j] vs.toArray[j] (decide (as[j]? = bs[j]?)):=by
 intro j q1 q2
 have l1:=r1.length
 have l2:=r2.length
 have m1:=h1.length
 have m2:=h2.length
 have j1 : j < us.length:=by simpa using q1
 have j2 : j < vs.length:=by simpa using q2
 obtain ⟨a,ea,ha⟩:=h1.get (i:=j) (yac (by omega))
 obtain ⟨b,eb,hb⟩:=h2.get (i:=j) (yac (by omega))
 obtain ⟨u,eu,ru⟩:=r1.get (i:=j) (yac (by omega))
 obtain ⟨v,ev,rv⟩:=r2.get (i:=j) (yac (by omega))
 have gu : us.toArray[j] = u:=by
  have : us[j]? = some us[j]:=yac j1
  rw [eu] at this
  simpa using (yad this).symm
 have gv : vs.toArray[j] = v:=by
  have : vs[j]? = some vs[j]:=yac j2
  rw [ev] at this
  simpa using (yad this).symm
 rw [gu,gv,ea,eb]
 have e : decide (some a = some b) = (Rep.dec a b).decide:=by
  by_cases z : a = b
  ·subst z; simp
  ·rw [yaf (fun q=>z (yad q))]; exact (yaf z).symm
 rw [e]
 exact Rep.eq I hu ha hb ru rv
end
def hasL {α : Type} [Rep α] (K : Frag) (H : Hp) (as : List α) (v : V) : Prop:=∃ a xs,v = .ref a∧SqL K H a xs∧zal K H as xs
section
variable {α : Type} [r : Rep α] {X : Cx} {pins : List (Addr×Obj)} {σ : St} {H : Hp} {s : Shared} {A : Around} {as bs : List α} {x y : V} {u v : Value}
theorem zn7 (I : Inv X pins σ H s) (h1 : hasL X.K H as x) (h2 : hasL X.K H bs x) : as = bs:=by
 obtain ⟨a,xs,rfl,q1,h1⟩:=h1
 obtain ⟨b,ys,e,q2,h2⟩:=h2
 cases e
 rw [I.list_inj q2 q1] at h2
 exact h1.inj I h2
theorem zmC (I : Inv X pins σ H s) (hu : A.units + (Rep.depth α + 1) < cLine) (h1 : hasL X.K H as x) (h2 : hasL X.K H bs y) (r1 : RelV x u) (r2 : RelV y v) : RcAt A s u v (decide (as = bs)):=by
 obtain ⟨a,xs,rfl,q1,h1⟩:=h1
 obtain ⟨b,ys,rfl,q2,h2⟩:=h2
 cases r1
 cases r2
 obtain ⟨us,ru,pu,_⟩:=I.list q1
 obtain ⟨vs,rv,pv,_⟩:=I.list q2
 have l1:=ru.length
 have l2:=rv.length
 have m1:=h1.length
 have m2:=h2.length
 have hin : A.in1.units + Rep.depth α < cLine:=yaX (ybk zbS _) (by omega)
 by_cases hl : as.length = bs.length
 ·have e:=zeR as bs hl
  rw [← e]
  have z : as.length = us.toArray.size:=by simp; omega
  rw [z]
  exact RcAt.lists pu.isList pv.isList (by simp; omega) (by omega) (zfs I hin h1 h2 ru rv)
 ·rw [yaf (fun z=>hl (by rw [z]))]
  exact RcAt.lists_lengths pu.isList pv.isList (by simp; omega) (by omega)
theorem zpR (I : Inv X pins σ H s) (hu : A.units + (Rep.depth α + 1) < cLine) (h1 : hasL X.K H as x) (h2 : hasL X.K H bs y) (r1 : RelV x u) (r2 : RelV y v) : RcNeAt A s u v (!decide (as = bs)):=by
 obtain ⟨a,xs,rfl,q1,h1⟩:=h1
 obtain ⟨b,ys,rfl,q2,h2⟩:=h2
 cases r1
 cases r2
 obtain ⟨us,ru,pu,_⟩:=I.list q1
 obtain ⟨vs,rv,pv,_⟩:=I.list q2
 have l1:=ru.length
 have l2:=rv.length
 have m1:=h1.length
 have m2:=h2.length
 have hin : A.in1.units + Rep.depth α < cLine:=yaX (ybk zbS _) (by omega)
 by_cases hl : as.length = bs.length
 ·have e:=zeR as bs hl
  rw [← e]
  have z : as.length = us.toArray.size:=by simp; omega
  rw [z]
  exact RcNeAt.lists pu.isList pv.isList (by simp; omega) (by omega) (zfs I hin h1 h2 ru rv)
 ·rw [yaf (fun z=>hl (by rw [z])),Bool.not_false]
  exact RcNeAt.lists_lengths pu.isList pv.isList (by simp; omega) (by omega)
theorem zpS (I : Inv X pins σ H s) (hu : A.units + (Rep.depth α + 1) < cLine) (h1 : hasL X.K H as x) (h2 : hasL X.K H bs y) (r1 : RelV x u) (r2 : RelV y v) : EqAt A s u v (decide (as = bs)):=by
 have rc:=zmC (A:=A) I hu h1 h2 r1 r2
 obtain ⟨a,xs,rfl,q1,h1⟩:=h1
 obtain ⟨b,ys,rfl,q2,h2⟩:=h2
 cases r1
 cases r2
 by_cases hab : a = b
 ·subst hab
  rw [I.list_inj q2 q1] at h2
  rw [yag (h1.inj I h2)]
  exact EqAt.same _
 ·exact EqAt.of_refs hab rc
end
instance {α : Type} [Rep α] : Rep (List α) where
 dec:=inferInstance
 depth:=Rep.depth α + 1
 has:=hasL
 mono:=fun e ⟨a,xs,h1,h2,h3⟩=>⟨a,xs,h1,h2.ext e,h3.mono e⟩
 inj:=fun I h1 h2=>zn7 I h1 h2
 rc:=fun I hu h1 h2 r1 r2=>zmC I hu h1 h2 r1 r2
 rn:=fun I hu h1 h2 r1 r2=>zpR I hu h1 h2 r1 r2
 eq:=fun I hu h1 h2 r1 r2=>zpS I hu h1 h2 r1 r2
def hasP {α β : Type} [Rep α] [Rep β] (K : Frag) (H : Hp) (p : α×β) (v : V) : Prop:=∃ a x y,v = .ref a∧H a = some (.tup [x,y])∧Rep.has K H p.1 x∧Rep.has K H p.2 y
section
variable {α β : Type} [ra : Rep α] [rb : Rep β] {X : Cx} {pins : List (Addr×Obj)} {σ : St} {H : Hp} {s : Shared} {A : Around} {p q : α×β} {x y : V} {u v : Value}
theorem zj4 (I : Inv X pins σ H s) (h1 : hasP X.K H p x) (h2 : hasP X.K H q x) : p = q:=by
 obtain ⟨a,x1,x2,rfl,q1,e1,e2⟩:=h1
 obtain ⟨b,y1,y2,e,q2,f1,f2⟩:=h2
 cases e
 have z:=I.tuple_inj (SqT.of q2) (SqT.of q1)
 cases z
 have g1:=Rep.inj I e1 f1
 have g2:=Rep.inj I e2 f2
 obtain ⟨p1,p2⟩:=p
 obtain ⟨s1,s2⟩:=q
 cases g1
 cases g2
 rfl
theorem zmB (I : Inv X pins σ H s) (hu : A.units + (Rep.depth α + Rep.depth β + 1) < cLine) (h1 : hasP X.K H p x) (h2 : hasP X.K H q y) (r1 : RelV x u) (r2 : RelV y v) : RcAt A s u v (decide (p = q)):=by
 obtain ⟨a,x1,x2,rfl,q1,e1,e2⟩:=h1
 obtain ⟨b,y1,y2,rfl,q2,f1,f2⟩:=h2
 cases r1
 cases r2
 obtain ⟨us,ru,pu,_⟩:=I.tuple (SqT.of q1)
 obtain ⟨vs,rv,pv,_⟩:=I.tuple (SqT.of q2)
 obtain ⟨u1,u2,rfl,ru1,ru2⟩:=zgP ru
 obtain ⟨v1,v2,rfl,rv1,rv2⟩:=zgP rv
 have hin : ∀ n,n≤Rep.depth α + Rep.depth β→A.in1.units + n < cLine:=fun n hn=>yaX (ybk zbS _) (by omega)
 have c1:=Rep.eq (A:=A.in1) I (hin _ (by omega)) e1 f1 ru1 rv1
 have c2:=Rep.eq (A:=A.in1) I (hin _ (by omega)) e2 f2 ru2 rv2
 have:=RcAt.tuples (A:=A) (s:=s) (l:=a) (b:=b) (items:=#[u1,u2]) (items2:=#[v1,v2]) (e:=fun j=>if j = 0 then (Rep.dec p.1 q.1).decide else (Rep.dec p.2 q.2).decide) pu pv (by omega) (by
  intro j h1 h2
  have h1' : j < 2:=h1
  have z : j = 0∨j = 1:=by omega
  rcases z with rfl | rfl
  ·exact c1
  ·exact c2)
 have e : ((List.range (min (#[u1,u2] : Array Value).size (#[v1,v2] : Array Value).size)).all (fun j=>if j = 0 then (Rep.dec p.1 q.1).decide else (Rep.dec p.2 q.2).decide) && (#[u1,u2] : Array Value).size == (#[v1,v2] : Array Value).size) = decide (p = q):=by
  obtain ⟨p1,p2⟩:=p
  obtain ⟨s1,s2⟩:=q
  show (((List.range 2).all fun j=>if j = 0 then (Rep.dec p1 s1).decide else (Rep.dec p2 s2).decide) && true) = _
  rw [show List.range 2 = [0,1] from rfl]
  simp only [ybK,List.all_nil,ycg,if_true]
  rw [if_neg (by decide)]
  by_cases z1 : p1 = s1
  ·by_cases z2 : p2 = s2
   ·subst z1 z2; simp
   ·subst z1; simp [z2]
  ·simp [z1]
 rw [e] at this
 exact this
theorem zpP (I : Inv X pins σ H s) (hu : A.units + (Rep.depth α + Rep.depth β + 1) < cLine) (h1 : hasP X.K H p x) (h2 : hasP X.K H q y) (r1 : RelV x u) (r2 : RelV y v) : RcNeAt A s u v (!decide (p = q)):=by
 obtain ⟨a,x1,x2,rfl,q1,e1,e2⟩:=h1
 obtain ⟨b,y1,y2,rfl,q2,f1,f2⟩:=h2
 cases r1
 cases r2
 obtain ⟨us,ru,pu,_⟩:=I.tuple (SqT.of q1)
 obtain ⟨vs,rv,pv,_⟩:=I.tuple (SqT.of q2)
 obtain ⟨u1,u2,rfl,ru1,ru2⟩:=zgP ru
 obtain ⟨v1,v2,rfl,rv1,rv2⟩:=zgP rv
 have hin : ∀ n,n≤Rep.depth α + Rep.depth β→A.in1.units + n < cLine:=fun n hn=>yaX (ybk zbS _) (by omega)
 have c1:=Rep.eq (A:=A.in1) I (hin _ (by omega)) e1 f1 ru1 rv1
 have c2:=Rep.eq (A:=A.in1) I (hin _ (by omega)) e2 f2 ru2 rv2
 have:=RcNeAt.tuples (A:=A) (s:=s) (l:=a) (b:=b) (items:=#[u1,u2]) (items2:=#[v1,v2]) (e:=fun j=>if j = 0 then (Rep.dec p.1 q.1).decide else (Rep.dec p.2 q.2).decide) pu pv (by omega) (by
  intro j h1 h2
  have h1' : j < 2:=h1
  have z : j = 0∨j = 1:=by omega
  rcases z with rfl | rfl
  ·exact c1
  ·exact c2)
 have e : ((List.range (min (#[u1,u2] : Array Value).size (#[v1,v2] : Array Value).size)).all (fun j=>if j = 0 then (Rep.dec p.1 q.1).decide else (Rep.dec p.2 q.2).decide) && (#[u1,u2] : Array Value).size == (#[v1,v2] : Array Value).size) = decide (p = q):=by
  obtain ⟨p1,p2⟩:=p
  obtain ⟨s1,s2⟩:=q
  show (((List.range 2).all fun j=>if j = 0 then (Rep.dec p1 s1).decide else (Rep.dec p2 s2).decide) && true) = _
  rw [show List.range 2 = [0,1] from rfl]
  simp only [ybK,List.all_nil,ycg,if_true]
  rw [if_neg (by decide)]
  by_cases z1 : p1 = s1
  ·by_cases z2 : p2 = s2
   ·subst z1 z2; simp
   ·subst z1; simp [z2]
  ·simp [z1]
 rw [e] at this
 exact this
theorem zpQ (I : Inv X pins σ H s) (hu : A.units + (Rep.depth α + Rep.depth β + 1) < cLine) (h1 : hasP X.K H p x) (h2 : hasP X.K H q y) (r1 : RelV x u) (r2 : RelV y v) : EqAt A s u v (decide (p = q)):=by
 have rc:=zmB (A:=A) I hu h1 h2 r1 r2
 have h1':=id h1
 have h2':=id h2
 obtain ⟨a,x1,x2,rfl,q1,e1,e2⟩:=h1
 obtain ⟨b,y1,y2,rfl,q2,f1,f2⟩:=h2
 cases r1
 cases r2
 by_cases hab : a = b
 ·subst hab
  rw [yag (zj4 I h1' h2')]
  exact EqAt.same _
 ·exact EqAt.of_refs hab rc
end
instance {α β : Type} [Rep α] [Rep β] : Rep (α×β) where
 dec:=inferInstance
 depth:=Rep.depth α + Rep.depth β + 1
 has:=hasP
 mono:=fun e ⟨a,x,y,h1,h2,h3,h4⟩=>⟨a,x,y,h1,e _ _ h2 (fun _ z=>nomatch z),Rep.mono e h3,Rep.mono e h4⟩
 inj:=fun I h1 h2=>zj4 I h1 h2
 rc:=fun I hu h1 h2 r1 r2=>zmB I hu h1 h2 r1 r2
 rn:=fun I hu h1 h2 r1 r2=>zpP I hu h1 h2 r1 r2
 eq:=fun I hu h1 h2 r1 r2=>zpQ I hu h1 h2 r1 r2
theorem huD {A : Around} {k : Nat} {α : Type} [Rep α] (hr : Room k A) (h : Rep.depth α≤64:=by decide) : A.units + Rep.depth α < cLine:=yaX (ycq h _) hr.units
def rEqD (α : Type) [Rep α] (K : Frag) : R2:=fun x y H Q=>∃ a b : α,Rep.has K H a x∧Rep.has K H b y∧Q (.bl (decide (a = b))) H
def rNeD (α : Type) [Rep α] (K : Frag) : R2:=fun x y H Q=>∃ a b : α,Rep.has K H a x∧Rep.has K H b y∧Q (.bl (!decide (a = b))) H
section
variable {X : Cx}
theorem zjQ (α : Type) [Rep α] (hu : X.A.units + Rep.depth α < cLine) : OpR X (compareOp .Eq) (rEqD α X.K):=by
 intro pins s σ H x y v u Q I rx ry h
 obtain ⟨a,b,ha,hb,q⟩:=h
 refine Rep.rc I hu ha hb rx ry X.prog X.w X.xe _ ⟨.bl _,H,I,rfl,?_⟩
 have e : (Rep.dec a b).decide = decide (a = b):=rfl
 rw [e]
 exact q
theorem zjP (α : Type) [Rep α] (hu : X.A.units + Rep.depth α < cLine) : OpR X (compareOp .NotEq) (rNeD α X.K):=by
 intro pins s σ H x y v u Q I rx ry h
 obtain ⟨a,b,ha,hb,q⟩:=h
 refine Rep.rn I hu ha hb rx ry X.prog X.w X.xe _ ⟨.bl _,H,I,rfl,?_⟩
 have e : (Rep.dec a b).decide = decide (a = b):=rfl
 rw [e]
 exact q
end
end L2
namespace L2
open PySem PySem.Spec PyProof.Rows
section
variable {X : Cx} {pins : List (Addr×Obj)} {σ : St} {H : Hp} {s : Shared} {h' : Heap}
theorem Inv.turnedNew {t' : Nat} {fp : List Addr} {p : Addr} {o : HO} (I : Inv X pins σ H s) (k : ∀ b ob,b∉fp→s.heap.get? b = some ob→h'.get? b = some ob) (hf : ∀ b∈fp,FpOk X pins H b)
  (hp : s.heap.objs.size≤p) (new : zbe X.prog X.w (upd H p o) h' p o) : Inv X pins σ (upd H p o) { s with heap:=h',toks:=t' }:=by
 have hn : H p = none:=I.hok.fresh hp
 have nfp : ∀ b u,H b = some u→b∉fp:=fun b u e z=>by rw [(hf b z).1] at e; cases e
 have nep : ∀ b ob,s.heap.get? b = some ob→b≠p:=fun b ob e=>yaq (yaw (yae e) hp)
 refine I.step (g':=s.gens) (d':=s.drawn) (ch:=fp) (fun b hb=>?_) (fun b ob _ _ hc e _=>k b ob hc e) (fun b ob _ _ hc e _=>⟨ob.slots,k b ob hc e⟩) (fun b ob _ e n=>by rw [zah (nep b ob e)]; exact n)
  (fun b ob hc e=>⟨ob,k b ob hc e⟩) (fun b xs e=>by rw [zah (zad e hn)]; exact e) (fun b ob u e=>by rw [zah (zad e hn)]; exact e) (fun b ps e=>⟨#[],by rw [zah (zad e hn),e]; simp⟩) (fun m hm=>?_) (fun b u e=>?_) I.bare
 ·obtain ⟨_,h2,_,h4,h5,h6⟩:=hf b hb
  exact ⟨h4,h2,h5,h6⟩
 ·obtain ⟨ob,es,ep,ho,r⟩:=hm
  exact ⟨ob,es,ep,k _ ob (fun z=>(hf _ z).2.1 rfl) ho,r⟩
 ·by_cases hb : b = p
  ·subst hb; rw [zab] at e; cases e; exact new
  ·rw [zah hb] at e
   refine (I.hok b u e).stay (fun c v hc q=>k c v ?_ q) (fun c q=>by rw [zah (zad q hn)]; exact q) fun c xs q=>by rw [zah (zad q hn)]; exact q
   rcases hc with z | z
   ·rw [z]; exact nfp b u e
   ·exact nfp c _ z
theorem zlg {P : Program} {w : World} {H : Hp} {h : Heap} {p : Addr} {x y : V} {u v : Value} (rx : RelV x u) (ry : RelV y v) (e : h.get? p = some { cls:=.type "tuple",data:=.seq #[u,v] }) : zbe P w H h p (.tup [x,y]):=
 ⟨by show 2≤sizeLine; decide,[u,v],.cons rx (.cons ry .nil),_,e,rfl,0,rfl⟩
end
def Ite (K : Frag) (a : Addr) : It:=
 ⟨fun i H=>∃ xs x,SqL K H a xs∧xs[i]? = some x,fun i H x H'=>∃ p y,x = .ref p∧H p = none∧(∀ xs,SqL K H a xs→xs[i]? = some y)∧H' = upd H p (.tup [.int i,y]),fun i H=>∃ xs,SqL K H a xs∧xs.length≤i⟩
theorem zld {P : Program} {w : World} {K : Frag} {es : List Expr} {k0} {pos : Pos} (a it e : Addr) (hne : e≠it) : Turn P w K (.Tuple es k0 pos) (Ite K a) [e,it] e (fun i h=>(∃ old,IsEnum h e it i old)∧h.IsListIter it a i) where
 mem:=by simp
 obj:=fun i h st b hb=>by
  obtain ⟨⟨old,he⟩,o,ho,c,d⟩:=st
  rcases yak.mp hb with z | z
  ·subst z
   exact ⟨_,he,fun v z=>by cases z⟩
  ·have z:=yal.mp z
   subst z
   exact ⟨o,ho,fun v z=>by rw [d] at z; cases z⟩
 keep:=fun i h h' st k=>by
  obtain ⟨⟨old,he⟩,hi⟩:=st
  exact ⟨⟨old,k e (by simp) _ he⟩,hi.at fun o q=>k it (by simp) o q⟩
 item:=by
  intro X hP hw hK hc i pins s σ H E I hf st hg
  subst hP hw hK
  obtain ⟨⟨old,he⟩,hi⟩:=st
  obtain ⟨xs,x,hq,hx⟩:=hg
  obtain ⟨its,rv,p,hz⟩:=I.list hq
  obtain ⟨u,hu,ru⟩:=rv.get hx
  refine wpAny_pyNext_enum_item he hi p.isList (x:=u) (by simpa using hu) hne fun h1 he1 hi1 ht1 _ k1=>?_
  refine ⟨_,rfl,wpAny_letOwnedTupleGo_enum (s:={ s with heap:=h1,toks:=s.toks + 1 }) he1 fun h2 he2 sb=>?_⟩
  have np : s.heap.objs.size≠e:=ybh (yae he)
  have ht2 : h2.get? s.heap.objs.size = some { cls:=.type "tuple",data:=.seq #[.int i s.toks,u] }:=(sb.2 _ np).trans ht1
  have I2 : Inv X pins σ (upd H s.heap.objs.size (.tup [.int i,x])) { s with heap:=h2,toks:=s.toks + 1 }:=
   I.turnedNew (fp:=[e,it]) (fun b ob hb q=>(sb.2 b (fun z=>hb (by simp [z]))).trans (k1 b ob (fun z=>hb (by simp [z])) (fun z=>hb (by simp [z])) q)) hf (yaa _) (zlg ⟨_,rfl⟩ ru ht2)
  refine ⟨.ref s.heap.objs.size,_,I2,rfl,⟨_,x,rfl,I.hok.fresh (yaa _),fun ys hy=>by rw [I.list_inj hy hq]; exact hx,rfl⟩,⟨⟨u,?_⟩,?_⟩,fun b hb=>?_⟩
  ·have z : IsEnum h2 e it ((i : Int) + 1) u:=he2
   exact z
  ·exact hi1.at fun o q=>(sb.2 it (Ne.symm hne)).trans q
  ·have z:=(hf b hb).1
   rw [zah ?_]
   ·exact z
   ·rcases yak.mp hb with q | q
    ·rw [q]; exact Ne.symm np
    ·rw [yal.mp q]
     obtain ⟨o,ho,_⟩:=hi
     exact yaq (yae ho)
 done:=by
  intro X hP hw hK hc i pins s σ H E I hf st hg
  subst hP hw hK
  obtain ⟨⟨old,he⟩,hi⟩:=st
  obtain ⟨xs,hq,hx⟩:=hg
  obtain ⟨its,rv,p,hz⟩:=I.list hq
  obtain ⟨f0,f1,f2,f3,f4,f5⟩:=hf it (by simp)
  have hl:=rv.length
  exact wpAny_pyNext_enum_end (I.ok.hd hc) he hi p.isList (by simp; omega) fun h' eb=>⟨rfl,I.turned (t':=s.toks) (fun b o hb q=>eb b o hb q) f0 f1 f3 f4 f5⟩
 self:=fun _ _ _ _ _ st h=>by
  obtain ⟨⟨old,he⟩,_⟩:=st
  exact wpAny_pyIter_enum he h
def zrH (K : Frag) (ta : TA) : TI:=fun σ H R=>ta σ H fun vs H1=>∃ a,vs = [.ref a]∧(∃ xs,SqL K H1 a xs)∧R (Ite K a) H1
section
variable {X : Cx}
theorem zhW {es : List Expr} {k0} {tp : Pos} {a : Expr} {ta : TA} {p pos : Pos} (hg : Gl X "enumerate") (hm : X.mg "enumerate" = none) (ha : PA X [a] ta) (hs : starEach [a] X.env = [(false,eval a X.env)]:=by rfl) : PI X (.Tuple es k0 tp) (.Call (.Name "enumerate" p) [a] [] pos) (zrH X.K ta):=by
 intro pins s σ H R I h
 refine Call_ (ze0 I hg hm boot_enumerate (PyProof.Rows.callWith_type1 (thn (ha pos pins s σ H _ I h) fun us s1 ⟨vs,H1,I1,r1,q1⟩=>?_) hs rfl))
 obtain ⟨l,e,⟨xs,hq⟩,q⟩:=q1
 subst e
 cases r1 with
 | cons r rr=>
  cases rr
  cases r
  obtain ⟨its,rv,pl,hz⟩:=I1.list hq
  refine call_enumerate_list pl.isList fun h' he hi _ hk=>?_
  have I2 : Inv X pins σ H1 { s1 with heap:=h' }:=I1.kept (t':=s1.toks) hk
  refine wpAny_pyIter_enum (s:={ s1 with heap:=h' }) he ⟨_,[s1.heap.objs.size + 1,s1.heap.objs.size],_,_,H1,rfl,I2,zld l s1.heap.objs.size (s1.heap.objs.size + 1) (Nat.succ_ne_self _),⟨⟨_,he⟩,hi⟩,fun b hb=>?_,q⟩
  have hb' : s1.heap.objs.size≤b:=by
   rcases yak.mp hb with z | z
   ·rw [z]; exact yba _
   ·rw [yal.mp z]; exact yaa _
  exact I1.fpOk hb' (I1.hok.fresh hb')
end
theorem zod {K : Frag} {a : Addr} {xs : List V} {g : TG} {tb : TS} {D : Ends} {σ : St} {H : Hp} (Pv : Nat→St→Hp→Prop) (h0 : Pv 0 σ H) (hl : ∀ i σ H,i≤xs.length→Pv i σ H→SqL K H a xs)
  (hs : ∀ i x σ H p,xs[i]? = some x→Pv i σ H→H p = none→g (.ref p) σ (upd H p (.tup [.int i,x])) fun σ2 H2=>tb { D with nx:=Pv (i + 1),ct:=Pv (i + 1),bk:=D.nx } σ2 H2) (hd : ∀ σ H,Pv xs.length σ H→D.nx σ H) :
  ∃ W : Nat→Nat→St→Hp→Prop,(∃ m,W 0 m σ H)∧∀ i m σ H,W i m σ H→((Ite K a).stop i H∧D.nx σ H)∨((Ite K a).go i H∧∃ N : St→Hp→Prop,(∀ σ' H',N σ' H'→∃ m',m' < m∧W (i + 1) m' σ' H')∧∀ x H',(Ite K a).yld i H x H'→g x σ H' fun σ2 H2=>tb { D with nx:=N,ct:=N,bk:=D.nx } σ2 H2):=by
 refine ⟨fun i m σ H=>i + m = xs.length∧Pv i σ H,⟨xs.length,by omega,h0⟩,fun i m σ H ⟨e,pv⟩=>?_⟩
 have hS:=hl i σ H (by omega) pv
 by_cases hi : i < xs.length
 ·refine .inr ⟨⟨xs,xs[i],hS,yac hi⟩,Pv (i + 1),fun σ' H' q=>⟨m - 1,by omega,by omega,q⟩,fun x H' y=>?_⟩
  obtain ⟨p,z,rfl,hp,hz,rfl⟩:=y
  exact hs i z σ H p (hz xs hS) pv hp
 ·have : i = xs.length:=by omega
  subst this
  exact .inl ⟨⟨xs,hS,yaa _⟩,hd σ H pv⟩
def Itz (K : Frag) (a b : Addr) : It:=
 ⟨fun i H=>∃ xs ys x y,SqL K H a xs∧SqL K H b ys∧xs[i]? = some x∧ys[i]? = some y,fun i H x H'=>∃ p y z,x = .ref p∧H p = none∧(∀ xs,SqL K H a xs→xs[i]? = some y)∧(∀ xs,SqL K H b xs→xs[i]? = some z)∧H' = upd H p (.tup [y,z]),fun i H=>∃ xs ys,SqL K H a xs∧SqL K H b ys∧(xs.length≤i∨ys.length≤i)⟩
theorem zng {P : Program} {w : World} {K : Frag} {es : List Expr} {k0} {pos : Pos} {a b z TI TO i1 i2 : Addr} (D : ZipApart z TI TO i1 i2 a b) : Turn P w K (.Tuple es k0 pos) (Itz K a b) [z,TI,TO,i1,i2] z
  (fun i h=>IsZip h z TI TO .none∧IsPair h TI (.ref i1) (.ref i2)∧(∃ u v,IsPair h TO u v)∧h.IsListIter i1 a i∧h.IsListIter i2 b i) where
 mem:=by simp
 obj:=fun i h st c hc=>by
  obtain ⟨hz,hTI,⟨u,v,hTO⟩,⟨o1,e1,_,d1⟩,⟨o2,e2,_,d2⟩⟩:=st
  simp only [yak,yaV,or_false] at hc
  rcases hc with rfl | rfl | rfl | rfl | rfl
  ·exact ⟨_,hz,fun v q=>by cases q⟩
  ·exact ⟨_,hTI,fun v q=>by cases q⟩
  ·exact ⟨_,hTO,fun v q=>by cases q⟩
  ·exact ⟨o1,e1,fun v q=>by rw [d1] at q; cases q⟩
  ·exact ⟨o2,e2,fun v q=>by rw [d2] at q; cases q⟩
 keep:=fun i h h' st k=>by
  obtain ⟨hz,hTI,⟨u,v,hTO⟩,h1,h2⟩:=st
  exact ⟨k z (by simp) _ hz,k TI (by simp) _ hTI,⟨u,v,k TO (by simp) _ hTO⟩,h1.at fun o q=>k i1 (by simp) o q,h2.at fun o q=>k i2 (by simp) o q⟩
 item:=by
  intro X hP hw hK hc i pins s σ H E I hf st hg
  subst hP hw hK
  obtain ⟨hz,hTI,⟨u0,v0,hTO⟩,h1,h2⟩:=st
  obtain ⟨xs,ys,x,y,hqa,hqb,hx,hy⟩:=hg
  obtain ⟨its,rv,p,_⟩:=I.list hqa
  obtain ⟨jts,rw',p',_⟩:=I.list hqb
  obtain ⟨u,hu,ru⟩:=rv.get hx
  obtain ⟨v,hv,rv'⟩:=rw'.get hy
  refine wpAny_pyNext_zip_item D hz hTI hTO h1 h2 p.isList p'.isList (x:=u) (y:=v) (by simpa using hu) (by simpa using hv) fun h1' hz1 hTO1 hi1 hi2 ht1 _ k1=>?_
  refine ⟨_,rfl,wpAny_letOwnedTupleGo_zip (s:={ s with heap:=h1' }) hz1 fun h2' hz2 sb=>?_⟩
  have np : s.heap.objs.size≠z:=ybh (yae hz)
  have ht2 : h2'.get? s.heap.objs.size = some { cls:=.type "tuple",data:=.seq #[u,v] }:=(sb.2 _ np).trans ht1
  have I2 : Inv X pins σ (upd H s.heap.objs.size (.tup [x,y])) { s with heap:=h2',toks:=s.toks }:=
   I.turnedNew (fp:=[z,TI,TO,i1,i2]) (fun c ob hb q=>(sb.2 c (fun r=>hb (by simp [r]))).trans (k1 c ob (fun r=>hb (by simp [r])) (fun r=>hb (by simp [r])) (fun r=>hb (by simp [r])) (fun r=>hb (by simp [r])) q)) hf (yaa _) (zlg ru rv' ht2)
  refine ⟨.ref s.heap.objs.size,_,I2,rfl,⟨_,x,y,rfl,I.hok.fresh (yaa _),fun ys hy'=>by rw [I.list_inj hy' hqa]; exact hx,fun ys hy'=>by rw [I.list_inj hy' hqb]; exact hy,rfl⟩,⟨hz2,(sb.2 _ D.TIz).trans (k1 TI _ D.TIz D.TITO D.TIi1 D.TIi2 hTI),⟨_,_,(sb.2 _ D.TOz).trans hTO1⟩,hi1.at fun o q=>(sb.2 i1 D.i1z).trans q,hi2.at fun o q=>(sb.2 i2 D.i2z).trans q⟩,fun c hb=>?_⟩
  have zf:=(hf c hb).1
  have lt : c < s.heap.objs.size:=by
   simp only [yak,yaV,or_false] at hb
   obtain ⟨o1,e1,_⟩:=h1
   obtain ⟨o2,e2,_⟩:=h2
   rcases hb with rfl | rfl | rfl | rfl | rfl
   ·exact yae hz
   ·exact yae hTI
   ·exact yae hTO
   ·exact yae e1
   ·exact yae e2
  rw [zah (yaq lt)]
  exact zf
 done:=by
  intro X hP hw hK hc i pins s σ H E I hf st hg
  subst hP hw hK
  obtain ⟨hz,hTI,⟨u0,v0,hTO⟩,h1,h2⟩:=st
  obtain ⟨xs,ys,hqa,hqb,hend⟩:=hg
  obtain ⟨its,rv,p,_⟩:=I.list hqa
  obtain ⟨jts,rw',p',_⟩:=I.list hqb
  have l1:=rv.length
  have l2:=rw'.length
  refine wpAny_pyNext_zip_end (I.ok.hd hc) D hz hTI hTO h1 h2 p.isList p'.isList (by
   rcases hend with q | q
   ·left; simp; omega
   ·right; simp; omega) fun h' kk=>⟨rfl,?_⟩
  refine I.step (g':=s.gens) (d':=s.drawn) (t':=s.toks) (ch:=[z,TI,TO,i1,i2]) (fun c hb=>?_) (fun c ob _ _ hn q _=>kk c ob (fun r=>hn (by simp [r])) (fun r=>hn (by simp [r])) (fun r=>hn (by simp [r])) (fun r=>hn (by simp [r])) q)
   (fun c ob _ _ hn q _=>⟨ob.slots,kk c ob (fun r=>hn (by simp [r])) (fun r=>hn (by simp [r])) (fun r=>hn (by simp [r])) (fun r=>hn (by simp [r])) q⟩) (fun _ _ _ _ n=>n)
   (fun c ob hn q=>⟨ob,kk c ob (fun r=>hn (by simp [r])) (fun r=>hn (by simp [r])) (fun r=>hn (by simp [r])) (fun r=>hn (by simp [r])) q⟩) (fun _ _ q=>q) (fun _ _ _ q=>q) (fun c ps q=>⟨#[],by rw [q]; simp⟩) (fun m hm=>?_) (fun c u e=>?_) I.bare
  ·obtain ⟨_,q2,_,q4,q5,q6⟩:=hf c hb
   exact ⟨q4,q2,q5,q6⟩
  ·obtain ⟨ob,es,ep,ho,r⟩:=hm
   have nL : ∀ c∈[z,TI,TO,i1,i2],X.env.locals≠c:=fun c hc=>Ne.symm (hf c hc).2.1
   exact ⟨ob,es,ep,kk _ ob (nL z (by simp)) (nL TO (by simp)) (nL i1 (by simp)) (nL i2 (by simp)) ho,r⟩
  ·have nf : ∀ c' u,H c' = some u→∀ q∈[z,TI,TO,i1,i2],c'≠q:=fun c' u e q hq r=>by rw [r,(hf q hq).1] at e; cases e
   refine (I.hok c u e).stay (fun c' v hc' q=>?_) (fun _ q=>q) fun _ _ q=>q
   have go : ∀ u',H c' = some u'→h'.get? c' = some v:=fun u' e'=>kk c' v (nf c' _ e' z (by simp)) (nf c' _ e' TO (by simp)) (nf c' _ e' i1 (by simp)) (nf c' _ e' i2 (by simp)) q
   rcases hc' with r | r
   ·exact go u (by rw [r]; exact e)
   ·exact go _ r
 self:=fun _ _ _ _ _ st h=>wpAny_pyIter_zip st.1 h
theorem zk1 {l l' n : Nat} (hl : l < n) (hl' : l' < n) : ZipApart (n + 4) (n + 2) (n + 3) n (n + 1) l l':=by
 constructor <;> (intro z; have z' : (_ : Nat) = _:=z; omega)
theorem zqc {n c : Nat} (h : c∈[n + 4,n + 2,n + 3,n,n + 1]) : n≤c:=by
 simp only [yak,yaV,or_false] at h
 omega
def iZip (K : Frag) (ta : TA) : TI:=fun σ H R=>ta σ H fun vs H1=>∃ a b,vs = [.ref a,.ref b]∧(∃ xs,SqL K H1 a xs)∧(∃ xs,SqL K H1 b xs)∧R (Itz K a b) H1
section
variable {X : Cx}
theorem zqB {es : List Expr} {k0} {tp : Pos} {a b : Expr} {ta : TA} {p pos : Pos} (hg : Gl X "zip") (hm : X.mg "zip" = none) (ha : PA X [a,b] ta) (hs : starEach [a,b] X.env = [(false,eval a X.env),(false,eval b X.env)]:=by rfl) (hs2 : starEach [b] X.env = [(false,eval b X.env)]:=by rfl) : PI X (.Tuple es k0 tp) (.Call (.Name "zip" p) [a,b] [] pos) (iZip X.K ta):=by
 intro pins s σ H R I h
 refine Call_ (ze0 I hg hm boot_zip (PyProof.Rows.callWith_type1 (thn (ha pos pins s σ H _ I h) fun us s1 ⟨vs,H1,I1,r1,q1⟩=>?_) (by rw [hs,hs2]) (by rw [hs2]; rfl)))
 obtain ⟨l,l',e,⟨xs,hq⟩,⟨ys,hq'⟩,q⟩:=q1
 subst e
 cases r1 with
 | cons r rr=>
  cases rr with
  | cons r' rr=>
   cases rr
   cases r
   cases r'
   obtain ⟨its,rv,pl,hz⟩:=I1.list hq
   obtain ⟨jts,rv',pl',hz'⟩:=I1.list hq'
   have hl : l < s1.heap.objs.size:=by obtain ⟨o,_,e,_⟩:=pl; exact yae e
   have hl' : l' < s1.heap.objs.size:=by obtain ⟨o,_,e,_⟩:=pl'; exact yae e
   refine call_zip_2 pl.isList pl'.isList fun h' hz hTI hTO hi hi' _ hk=>?_
   have I2 : Inv X pins σ H1 { s1 with heap:=h' }:=I1.kept (t':=s1.toks) hk
   refine wpAny_pyIter_zip (s:={ s1 with heap:=h' }) hz ⟨_,[s1.heap.objs.size + 4,s1.heap.objs.size + 2,s1.heap.objs.size + 3,s1.heap.objs.size,s1.heap.objs.size + 1],_,_,H1,rfl,I2,zng (zk1 hl hl'),⟨hz,hTI,⟨_,_,hTO⟩,hi,hi'⟩,fun c hb=>?_,q⟩
   have hb' : s1.heap.objs.size≤c:=zqc hb
   exact I1.fpOk hb' (I1.hok.fresh hb')
end
end L2
namespace L2
open PySem PySem.Spec PyProof.Rows
def zbD (X : Cx) (N : List Str) (scope : Scope) (cl : List (Str×Addr)) (C : Addr) (s₂ : Shared) (H₂ : Hp) (fp : List Addr) : Cx:=
 { X with N:=N,s₀:=s₂,H₀:=H₂,env:=compEnvC scope cl C X.env,outer:=X.stack,stack:=X.stack,ex:=fp,fn:=fun _=>false,xe:=fun _ _=>False }
structure zim (scope : Scope) (env : Env) (cl : List (Str×Addr)) : Prop where
 eq : closureFor scope env = pure cl
 sub : ∀ x c,cl.lookup x = some c→env.cells.lookup x = some c
 has : ∀ x,(x,NameKind.free)∈scope.names→∃ c,cl.lookup x = some c
theorem zf7 {env : Env} : ∀ (names : List (Str×NameKind)) (cs : List (Str×Addr)),(∀ x,(x,NameKind.free)∈names→∃ c,env.cells.lookup x = some c)→(∀ x c,cs.lookup x = some c→env.cells.lookup x = some c)→
  ∃ cl : List (Str×Addr),(forIn names cs (fun (x : Str×NameKind) (r : List (Str×Addr))=>if (x.2 == NameKind.free) = true then (do let c ← cellOf env x.1; pure (ForInStep.yield ((x.1,c) :: r))) else pure (ForInStep.yield r)) : Sem (List (Str×Addr))) = pure cl∧
   (∀ x c,cl.lookup x = some c→env.cells.lookup x = some c)∧(∀ x c,cs.lookup x = some c→∃ c',cl.lookup x = some c')∧∀ x,(x,NameKind.free)∈names→∃ c,cl.lookup x = some c
 | [],cs,_,h2=>⟨cs,by rw [List.forIn_nil],h2,fun x c e=>⟨c,e⟩,fun _ z=>nomatch z⟩
 | (n,k) :: r,cs,h1,h2=>by
  by_cases hk : k = .free
  ·subst hk
   obtain ⟨c,hc⟩:=h1 n yaC
   have hn : ∀ x c',((n,c) :: cs).lookup x = some c'→env.cells.lookup x = some c':=fun x c' e=>by
    rw [ya0] at e
    cases hx : x == n with
    | true=>
     rw [hx] at e
     cases e
     rw [eq_of_beq hx]
     exact hc
    | false=>
     rw [hx] at e
     exact h2 x c' e
   obtain ⟨cl,e,s1,s2,s3⟩:=zf7 r ((n,c) :: cs) (fun x hx=>h1 x (yaD _ hx)) hn
   have here : ∃ c',cl.lookup n = some c':=s2 n c (by rw [ya0,beq_self_eq_true])
   refine ⟨cl,?_,s1,fun x c' q=>?_,fun x hx=>?_⟩
   ·rw [List.forIn_cons,if_pos (by rfl)]
    have q : cellOf env n = pure c:=by unfold cellOf; rw [hc]
    rw [q]
    simp only [pure_bind]
    exact e
   ·cases hxn : x == n with
    | true=>rw [eq_of_beq hxn]; exact here
    | false=>exact s2 x c' (by rw [ya0,hxn]; exact q)
   ·rcases yak.mp hx with z | z
    ·cases z; exact here
    ·exact s3 x z
  ·obtain ⟨cl,e,s1,s2,s3⟩:=zf7 r cs (fun x hx=>h1 x (yaD _ hx)) h2
   refine ⟨cl,?_,s1,s2,fun x hx=>?_⟩
   ·have hb : (k == NameKind.free) = false:=by simpa using hk
    rw [List.forIn_cons,if_neg (by rw [hb]; exact yax)]
    simp only [pure_bind]
    exact e
   ·rcases yak.mp hx with z | z
    ·cases z; exact absurd rfl hk
    ·exact s3 x z
theorem zf6 {scope : Scope} {env : Env} (h : ∀ x,(x,NameKind.free)∈scope.names→∃ c,env.cells.lookup x = some c) : ∃ cl,zim scope env cl:=by
 obtain ⟨cl,e,s1,_,s3⟩:=zf7 scope.names [] h (fun _ _ z=>nomatch z)
 refine ⟨cl,?_,s1,s3⟩
 unfold closureFor
 exact (by simpa using e)
theorem zcd {env : Env} : ∀ {names : List (Str×NameKind)} {x : Str},names.lookup x = some .free→
  (names.map fun (n,k)=>if (k == NameKind.free && env.scope.kind == .function && env.kindOf n == some .cell) then (n,NameKind.cell) else (n,k)).lookup x = some .cell∨
  (names.map fun (n,k)=>if (k == NameKind.free && env.scope.kind == .function && env.kindOf n == some .cell) then (n,NameKind.cell) else (n,k)).lookup x = some .free
 | [],_,h=>by simp at h
 | (n,k) :: r,x,h=>by
  have ih:=@zcd env r x
  show List.lookup x ((if (k == NameKind.free && env.scope.kind == .function && env.kindOf n == some .cell) = true then (n,NameKind.cell) else (n,k)) :: _) = _∨List.lookup x ((if (k == NameKind.free && env.scope.kind == .function && env.kindOf n == some .cell) = true then (n,NameKind.cell) else (n,k)) :: _) = _
  cases hx : x == n with
  | true=>
   simp only [ya0,hx] at h
   cases h
   by_cases hc : (NameKind.free == NameKind.free && env.scope.kind == .function && env.kindOf n == some .cell) = true
   ·rw [if_pos hc]; left; simp only [ya0,hx]
   ·rw [if_neg hc]; right; simp only [ya0,hx]
  | false=>
   simp only [ya0,hx] at h
   by_cases hc : (k == NameKind.free && env.scope.kind == .function && env.kindOf n == some .cell) = true
   ·rw [if_pos hc]; simp only [ya0,hx]; exact ih h
   ·rw [if_neg hc]; simp only [ya0,hx]; exact ih h
theorem zdM {env : Env} : ∀ {names : List (Str×NameKind)} {x : Str} {k' : NameKind},(names.map fun (n,k)=>if (k == NameKind.free && env.scope.kind == .function && env.kindOf n == some .cell) then (n,NameKind.cell) else (n,k)).lookup x = some k'→k' = .cell∨k' = .free→
  (∀ y∈names,y.2≠.cell)→(x,NameKind.free)∈names
 | [],_,_,h,_,_=>by simp at h
 | (n,k) :: r,x,k',h,hk,hc=>by
  have ih:=@zdM env r x k'
  have h' : List.lookup x ((if (k == NameKind.free && env.scope.kind == .function && env.kindOf n == some .cell) = true then (n,NameKind.cell) else (n,k)) :: r.map fun (n,k)=>if (k == NameKind.free && env.scope.kind == .function && env.kindOf n == some .cell) then (n,NameKind.cell) else (n,k)) = some k':=h
  cases hx : x == n with
  | true=>
   have e:=eq_of_beq hx
   subst e
   by_cases hf : k = .free
   ·subst hf; exact yaC
   ·have hb : (k == NameKind.free) = false:=by simpa using hf
    rw [if_neg (by rw [hb]; simp),ya0,hx] at h'
    cases h'
    rcases hk with z | z
    ·exact absurd z (hc (x,k) yaC)
    ·exact absurd z hf
  | false=>
   refine yaD _ (ih ?_ hk fun y hy=>hc y (yaD _ hy))
   by_cases hcd : (k == NameKind.free && env.scope.kind == .function && env.kindOf n == some .cell) = true
   ·rw [if_pos hcd,ya0,hx] at h'; exact h'
   ·rw [if_neg hcd,ya0,hx] at h'; exact h'
def zeT (own : Nat) (cap : List Nat) (σ : St) : St:=List.replicate own none ++ cap.map fun i=>(σ[i]?).getD none
structure zkh (X : Cx) (scope : Scope) (N : List Str) (own : Nat) (cap : List Nat) : Prop where
 kind : scope.kind = .function
 nocell : (scope.names.all fun y=>y.2 != .cell) = true
 locs : (scope.names.all fun y=>y.2 != .local || scope.names.lookup y.1 == some .local) = true
 frees : (scope.names.all fun y=>y.2 != .free || (X.env.kindOf y.1 == some .cell || X.env.kindOf y.1 == some .free)) = true
 len : N.length = own + cap.length
 caps : ((List.range cap.length).all fun j=>(N[own + j]? == X.N[cap[j]!]?) && (match N[own + j]? with | some x=>scope.names.lookup x == some .free && (X.env.kindOf x == some .cell || X.env.kindOf x == some .free) | none=>false)) = true
section
variable {prog : Program} {w : World} {A : Around} {R : Result→Shared→Prop} {s : Shared}
theorem zi0 {elt target iter : Expr} {ifs : List Expr} {scope : Scope} {pos : Pos} {it acc : Value} {env : Env} (I : Nat→Shared→Prop)
  (turn : ∀ n s,I n s→wpAny (model prog w) A (pyNext it) (fun r s₁=>match r with
   | none=>R (.ok .next) s₁
   | some v=>wpAny (model prog w) A (letOwnedTupleGo target it v) (fun _ s₁'=>wpAny (model prog w) A (assign target env v) (fun _ s₂=>
     wpAny (model prog w) A (forIn ifs true fun c r=>if r = true then do let ok ← isTrue c env (eval c env); pure (ForInStep.yield ok) else pure (ForInStep.yield r)) (fun ok s₃=>
      if ok = true then wpAny (model prog w) A (eval elt env) (fun x s₄=>
       wpAny (model prog w) A (call (.builtin "list.append") [acc,x]) (fun _ s₅=>∃ m,m < n∧I m s₅) (fun _ _=>False) s₄) (fun _ _=>False) s₃
      else ∃ m,m < n∧I m s₃) (fun _ _=>False) s₂) (fun _ _=>False) s₁') (fun _ _=>False) s₁) (fun _ _=>False) s)
  (n : Nat) (h : I n s) :
  codeAny (model prog w) A (.compLoop (.ListComp elt [⟨target,iter,ifs,0⟩] scope pos) 0 it acc env) R s:=by
 refine codeAny_loop rfl I (fun n s hI=>?_) n h
 show wpAny _ A ((compTurn (.ListComp elt [⟨target,iter,ifs,0⟩] scope pos) 0 it acc env).onRaise (fun x=>do noteFrame x env; theTreesLotGoes x)) _ _ s
 refine wpAny_noted ?_
 rw [compTurn_list]
 refine wpAny_bind (wpAny_standAt (wpAny_bind (wpAny_mono (turn n s hI) (fun r s₁ h₁=>?_) fun _ _ h'=>h'.elim)))
 cases r with
 | none=>exact wpAny_pure h₁
 | some v=>
  refine wpAny_bind (wpAny_mono h₁ (fun _ s₁' h₁'=>?_) fun _ _ h'=>h'.elim)
  refine wpAny_bind (wpAny_mono h₁' (fun _ s₂ h₂=>wpAny_bind (wpAny_mono h₂ (fun ok s₃ h₃=>?_) fun _ _ h'=>h'.elim)) fun _ _ h'=>h'.elim)
  cases ok with
  | true=>
   simp only [if_true] at h₃ ⊢
   exact wpAny_bind (wpAny_bind (wpAny_mono h₃ (fun x s₄ h₄=>wpAny_bind (wpAny_mono h₄ (fun _ s₅ h₅=>wpAny_pure (wpAny_pure ⟨rfl,h₅⟩)) fun _ _ h'=>h'.elim)) fun _ _ h'=>h'.elim))
  | false=>
   simp only [yaQ,if_false] at h₃ ⊢
   exact wpAny_pure ⟨rfl,h₃⟩
end
section
variable {X : Cx}
def PTs (X : Cx) (ifs : List Expr) (t : TT) : Prop:=
 ∀ (pins : List (Addr×Obj)) (s : Shared) (σ : St) (H : Hp) (Q : Bool→Hp→Prop),Inv X pins σ H s→t σ H Q→
  wpAny (model X.prog X.w) X.A (forIn ifs true fun c r=>if r = true then do let ok ← isTrue c X.env (eval c X.env); pure (ForInStep.yield ok) else pure (ForInStep.yield r)) (TP X pins σ Q) X.xe s
def tYes : TT:=fun _ H Q=>Q true H
theorem zcQ : PTs X [] tYes:=fun _ _ _ H _ I h=>wpAny_tests_nil ⟨H,I,h⟩
theorem zfG {c : Expr} {t : TT} (h : PT X c t) : PTs X [c] t:=fun pins s σ H Q I q=>wpAny_tests_one (h pins s σ H Q I q)
theorem zn4 {pins : List (Addr×Obj)} {σ : St} {H : Hp} {s : Shared} {N : List Str} {own : Nat} {cap : List Nat} {scope : Scope} {cl : List (Str×Addr)} {C : Addr} {fp : List Addr} {h₁ : Heap} {tk : Nat} {D : Addr}
  (I : Inv X pins σ H s) (c : zkh X scope N own cap) (hcl : zim scope X.env cl) (f : ∀ b∈fp,FpOk X pins H b) (hD : s.heap.objs.size≤D) (hC : s.heap.objs.size≤C) (hCD : D≠C)
  (kp : ∀ b o,s.heap.get? b = some o→h₁.get? b = some o) (hnew : h₁.get? D = some { cls:=.type "list",data:=.seq #[] }) (hns : ∃ m,h₁.Ns C m) (hfp : ∀ b∈fp,b < s.heap.objs.size) (hcalm : X.calm = true) :
  Inv (zbD X N scope cl C s H fp) pins (zeT own cap σ) (upd H D (.lst [])) { s with heap:=h₁,toks:=tk }:=by
 have hfr : H D = none:=I.hok.fresh hD
 have hfrC : H C = none:=I.hok.fresh hC
 have sz : ∀ b o,s.heap.get? b = some o→b≠D∧b≠C:=fun b o e=>⟨yaq (yaw (yae e) hD),yaq (yaw (yae e) hC)⟩
 have cells : ∀ x cc,cl.lookup x = some cc→∃ v,s.heap.IsCell cc v:=fun x cc e=>I.cell x cc (hcl.sub x cc e)
 have cellne : ∀ x cc,cl.lookup x = some cc→cc≠D∧cc≠C:=fun x cc e=>by
  obtain ⟨v,o,ho,_⟩:=cells x cc e
  exact sz cc o ho
 have ok : (zbD X N scope cl C s H fp).Ok:=by
  refine ⟨I.ok.mod,c.kind,I.ok.glob,I.ok.blt,hC,fun x y cc e1 e2=>I.ok.inj x y cc (hcl.sub x cc e1) (hcl.sub y cc e2),fun x hx=>?_,(fun x cc z _=>nomatch z),I.ok.hd,I.ok.frames,.inl rfl,fun b hb=>?_,fun b o e=>I.bs b o e,?_,fun b o e hb=>?_,fun b hb z=>?_,I.stack,fun b hb=>I.stkFree b hb⟩
  ·have hm : (x,NameKind.free)∈scope.names:=by
    rcases hx with z | z
    ·exact zdM (env:=X.env) (names:=scope.names) (x:=x) (k':=.cell) z (.inl rfl) fun y hy q=>by
      have:=yaW.mp c.nocell y hy
      rw [q] at this
      exact absurd this (by decide)
    ·exact zdM (env:=X.env) (names:=scope.names) (x:=x) (k':=.free) z (.inr rfl) fun y hy q=>by
      have:=yaW.mp c.nocell y hy
      rw [q] at this
      exact absurd this (by decide)
   exact hcl.has x hm
  ·exact ⟨yaq (yaw (hfp b hb) hC),fun x cc e z=>(f b hb).2.2.2.2.1 x cc (hcl.sub x cc e) z⟩
  ·exact yay I.ok.bsz I.sz
  ·obtain ⟨_,_,_,h4,_⟩:=f b hb
   rcases h4 with z | z
   ·exact I.ok.noex b o e z
   ·exact absurd (yaw (yae e) (yay I.ok.bsz z)) (ybg _)
  ·obtain ⟨_,h2,h3,_⟩:=f b hb
   rcases yak.mp (I.stkSub b z) with q | q
   ·exact h2 q
   ·exact h3 q
 have hokN : zbe X.prog X.w (upd H D (.lst [])) h₁ D (.lst []):=⟨yaE _,[],0,.nil,hnew⟩
 refine ⟨ok,I.os.symm ▸ rfl,I.bare,Un.laid kp hD hfr,?_,fun x cc e=>?_,?_,fun x cc e=>?_,fun p hp=>?_,I.hok.laid kp hD hokN,?_⟩
 ·obtain ⟨m,hm⟩:=hns
  refine ⟨m,hm,fun i x v e1 e2 e3=>?_⟩
  have hi : own≤i:=by
   false_or_by_contra
   rename_i z
   unfold zeT at e2
   rw [ybi (by rw [ybs]; omega),List.getElem?_replicate] at e2
   split at e2 <;> cases e2
  obtain ⟨j,rfl⟩ : ∃ j,i = own + j:=⟨i - own,by omega⟩
  have hj : j < cap.length:=by
   have:=(yan.mp e1).1
   have z:=c.len
   have this' : own + j < N.length:=this
   omega
  have hc:=yaW.mp c.caps j (ya9.mpr hj)
  have e1' : N[own + j]? = some x:=e1
  rw [e1'] at hc
  simp only [ybt,beq_iff_eq,Bool.or_eq_true] at hc
  obtain ⟨hN,hf,hk⟩:=hc
  have e2' : σ[cap[j]!]? = some (some v):=by
   unfold zeT at e2
   rw [ya4 (by rw [ybs]; omega),ybs,show own + j - own = j by omega,yau] at e2
   have g : cap[j]! = cap[j]:=by simp [hj]
   rw [yac hj,Option.map_some] at e2
   rw [g]
   have e2:=yad e2
   cases q : σ[cap[j]]? with
   | none=>rw [q] at e2; cases e2
   | some z=>rw [q] at e2; exact congrArg some e2
  obtain ⟨m0,_,hl⟩:=I.loc
  obtain ⟨u,ru,lk⟩:=hl (cap[j]!) x v hN.symm e2' (by
   rcases hk with z | z
   ·exact .inr (.inl z)
   ·exact .inr (.inr z))
  refine ⟨u,ru,.inr ⟨zcd (env:=X.env) hf,?_⟩⟩
  rcases lk with ⟨z,_⟩ | ⟨_,cc,ec,ic⟩
  ·rcases hk with q | q
   ·rw [q] at z; cases z
   ·rw [q] at z; cases z
  ·obtain ⟨c',hc'⟩:=hcl.has x (by
    have : (x,NameKind.free)∈scope.names:=by
     have hlk:=hf
     obtain ⟨l1,l2,hs,hno⟩:=List.lookup_eq_some_iff.mp hlk
     rw [hs]
     exact yaA _ yaC
    exact this)
   have:=hcl.sub x c' hc'
   rw [ec] at this
   cases this
   obtain ⟨o,ho,hd⟩:=ic
   exact ⟨cc,hc',o,kp cc o ho,hd⟩
 ·obtain ⟨v,o,ho,hd⟩:=cells x cc e
  exact ⟨v,o,kp cc o ho,hd⟩
 ·show upd H D (.lst []) C = none
  rw [zah (Ne.symm hCD)]
  exact hfrC
 ·show upd H D (.lst []) cc = none
  rw [zah (cellne x cc e).1]
  exact I.freeC x cc (hcl.sub x cc e)
 ·obtain ⟨e,n,ne,nf,d⟩:=I.pin p hp
  refine ⟨kp _ _ e,?_,(sz _ _ e).2,fun z=>?_,d⟩
  ·show upd H D (.lst []) p.1 = none
   rw [zah (sz _ _ e).1]
   exact n
  ·rcases yak.mp (I.stkSub p.1 z) with q | q
   ·exact ne q
   ·exact nf q
 ·show (zeT own cap σ).length = N.length
  unfold zeT
  rw [yam,ybs,yab,c.len]
def zql (own : Nat) (cap : List Nat) (wi : TI) (g : TG) (ts : TT) (te : TE) : TE:=fun σ H Q=>wi σ H fun J H1=>∀ D,H1 D = none→∃ W : Nat→Nat→St→Hp→Prop,(∃ m,W 0 m (zeT own cap σ) (upd H1 D (.lst [])))∧∀ i m σ H,W i m σ H→
 (J.stop i H∧Q (.ref D) H)∨(J.go i H∧∀ x H',J.yld i H x H'→g x σ H' fun σ2 H2=>ts σ2 H2 fun b H3=>if b = true then te σ2 H3 fun y H4=>∃ xs,H4 D = some (.lst xs)∧xs.length < sizeLine∧∃ m',m' < m∧W (i + 1) m' σ2 (upd H4 D (.lst (xs ++ [y]))) else ∃ m',m' < m∧W (i + 1) m' σ2 H3)
theorem zic {pins : List (Addr×Obj)} {σ : St} {H2 : Hp} {s2 : Shared} {N : List Str} {own : Nat} {cap : List Nat} {scope : Scope} {cl : List (Str×Addr)} {fp : List Addr} {tg elt iter : Expr} {ifs : List Expr} {pos : Pos} {J : It} {it : Addr} {tn : Nat→Heap→Prop} {g : TG} {ts : TT} {te : TE} {Q : VK}
  {E : Value→Shared→Prop} {RR : Value→Addr→Result→Shared→Prop}
  (hcalm : X.calm = true) (c : zkh X scope N own cap) (hcl : zim scope X.env cl)
  (hg : ∀ cl C s₂ H₂ fp,PG (zbD X N scope cl C s₂ H₂ fp) tg g) (hts : ∀ cl C s₂ H₂ fp,PTs (zbD X N scope cl C s₂ H₂ fp) ifs ts) (he : ∀ cl C s₂ H₂ fp,PE (zbD X N scope cl C s₂ H₂ fp) elt te)
  (I2 : Inv X pins σ H2 s2) (T : Turn X.prog X.w X.K tg J fp it tn) (st2 : tn 0 s2.heap) (f2 : ∀ b∈fp,FpOk X pins H2 b)
  (rd : ∀ D,H2 D = none→∃ W : Nat→Nat→St→Hp→Prop,(∃ m,W 0 m (zeT own cap σ) (upd H2 D (.lst [])))∧∀ i m σ H,W i m σ H→
   (J.stop i H∧Q (.ref D) H)∨(J.go i H∧∀ x H',J.yld i H x H'→g x σ H' fun σ2 H2=>ts σ2 H2 fun b H3=>if b = true then te σ2 H3 fun y H4=>∃ xs,H4 D = some (.lst xs)∧xs.length < sizeLine∧∃ m',m' < m∧W (i + 1) m' σ2 (upd H4 D (.lst (xs ++ [y]))) else ∃ m',m' < m∧W (i + 1) m' σ2 H3))
  (hRR : ∀ D C s' H',Inv X pins σ H' s'→(∃ m,s'.heap.Ns C m)→FpOk X pins H' C→Q (.ref D) H'→RR (.ref D) C (.ok .next) s') :
  wpAny (model X.prog X.w) X.A (newList []) (fun acc s₃=>wpAny (model X.prog X.w) X.A (newFunctionEnv scope X.env.globals cl [] X.env.qual none .none (some X.env)) (fun cenv s₄=>
   codeAny (model X.prog X.w) X.A (.compStart (.ListComp elt [⟨tg,iter,ifs,0⟩] scope pos) 0 (.ref it) acc { cenv with scope:=relabel scope X.env }) (RR acc cenv.locals) s₄) E s₃) E s2:=by
 have hcell : ∀ y∈scope.names,y.2≠.cell:=fun y hy q=>by
  have:=yaW.mp c.nocell y hy
  rw [q] at this
  exact absurd this (by decide)
 have hfp : ∀ b∈fp,b < s2.heap.objs.size:=fun b hb=>by
  obtain ⟨o,e,_⟩:=T.obj 0 _ st2 b hb
  exact yae e
 refine wpAny_newObj_type (wpAny_newFunctionEnv hcell (by intro y hy; simp at hy) (fun h₁ hns₁ hsb₁=>?_) c.kind)
 dsimp only at hns₁ hsb₁ ⊢
 generalize hHH : s2.heap.push { cls:=.type "list",dict:=none,data:=.seq ([] : List Value).toArray } = HH at hns₁ hsb₁ ⊢
 have hC : HH.objs.size = s2.heap.objs.size + 1:=by rw [← hHH,yb0]
 have hDC : s2.heap.objs.size≠HH.objs.size:=by rw [hC]; exact yaq (yb1 _)
 have hCle : s2.heap.objs.size≤HH.objs.size:=by rw [hC]; exact yba _
 have old : ∀ b o,s2.heap.get? b = some o→h₁.get? b = some o:=fun b o e=>hsb₁.extBut b o (yaq (by rw [hC]; exact Nat.lt_succ_of_lt (yae e))) (yai _ (hHH ▸ yai _ e))
 have hnew : h₁.get? s2.heap.objs.size = some { cls:=.type "list",data:=.seq #[] }:=hsb₁.extBut _ _ hDC (yai _ (hHH ▸ yaz _ rfl))
 have I3 : ∀ tk,Inv (zbD X N scope cl HH.objs.size s2 H2 fp) pins (zeT own cap σ) (upd H2 s2.heap.objs.size (.lst [])) { s2 with heap:=h₁,toks:=tk }:=fun tk=>
  zn4 I2 c hcl f2 (yaa _) hCle hDC old hnew ⟨_,hns₁⟩ hfp hcalm
 obtain ⟨W,⟨m0,w0⟩,turn⟩:=rd s2.heap.objs.size (I2.hok.fresh (yaa _))
 have st3 : tn 0 h₁:=T.keep _ _ _ st2 fun b _ o e=>old b o e
 have fr3 : ∀ b∈fp,upd H2 s2.heap.objs.size (.lst []) b = none:=fun b hb=>by rw [zah (yaq (hfp b hb))]; exact (f2 b hb).1
 have stat : ∀ {H' : Hp},(∀ b∈fp,H' b = none)→∀ b∈fp,FpOk (zbD X N scope cl HH.objs.size s2 H2 fp) pins H' b:=fun hn b hb=>by
  obtain ⟨_,h2,h3,_,h5,h6⟩:=f2 b hb
  refine ⟨hn b hb,yaq (yaw (hfp b hb) hCle),fun z=>?_,.inl hb,fun x cc e=>h5 x cc (hcl.sub x cc e),h6⟩
  rcases yak.mp (I2.stkSub b z) with q | q
  ·exact h2 q
  ·exact h3 q
 have loop : ∀ s₃ : Shared,s₃ = { s2 with heap:=h₁,toks:=s2.toks + ([] : List (Str×Value)).length }→
   codeAny (model X.prog X.w) X.A (.compLoop (.ListComp elt [⟨tg,iter,ifs,0⟩] scope pos) 0 (.ref it) (.ref s2.heap.objs.size) (compEnvC scope cl HH.objs.size X.env)) (RR (.ref s2.heap.objs.size) HH.objs.size) s₃:=by
  rintro s₃ rfl
  refine zi0 (fun n s'=>∃ i σ' H',Inv (zbD X N scope cl HH.objs.size s2 H2 fp) pins σ' H' s'∧tn i s'.heap∧(∀ b∈fp,H' b = none)∧W i n σ' H') ?_ m0 ⟨0,_,_,I3 _,st3,fr3,w0⟩
  rintro n s3 ⟨i,σ3,H3,J3,t3,fr,w3⟩
  rcases turn i n σ3 H3 w3 with ⟨stop,qn⟩ | ⟨go,step⟩
  ·refine thn (T.done (zbD X N scope cl HH.objs.size s2 H2 fp) rfl rfl rfl hcalm i pins s3 σ3 H3 (fun _ _=>False) J3 (stat fr) t3 stop) fun r s4 ⟨hr,I4⟩=>?_
   subst hr
   obtain ⟨mm,hmm,_⟩:=I4.loc
   refine hRR _ _ s4 H3 (I2.call' I4.os I4.base I4.hok I4.bare fun b hb=>?_) ⟨mm,hmm⟩ (I2.fpOk hCle I4.free) qn
   obtain ⟨_,h2,_,h4,h5,h6⟩:=f2 b hb
   exact ⟨h4,h2,h5,h6⟩
  ·refine thn (T.item (zbD X N scope cl HH.objs.size s2 H2 fp) rfl rfl rfl hcalm i pins s3 σ3 H3 (fun _ _=>False) J3 (stat fr) t3 go) fun r s4 ⟨u,hr,h4⟩=>?_
   subst hr
   refine thn h4 fun _ s5 ⟨x,H5,I5,r5,y5,st5,fr5⟩=>?_
   have I5':=I5.pinned (stat fr5) (T.obj _ _ st5)
   have back : ∀ {σ7 : St} {H7 : Hp} {s7 : Shared} {m' : Nat},Inv (zbD X N scope cl HH.objs.size s2 H2 fp) (pins ++ zhV fp s5.heap) σ7 H7 s7→W (i + 1) m' σ7 H7→∃ i σ' H',Inv (zbD X N scope cl HH.objs.size s2 H2 fp) pins σ' H' s7∧tn i s7.heap∧(∀ b∈fp,H' b = none)∧W i m' σ' H':=fun {σ7 H7 s7 m'} I7 w7=>by
    refine ⟨i + 1,σ7,H7,I7.unpinned,T.keep _ _ _ st5 fun b hb o e=>(I7.pin (b,o) (yaA _ (yaA _ (zdD hb e)))).1,fun b hb=>?_,w7⟩
    obtain ⟨o,e,d⟩:=T.obj _ _ st5 b hb
    exact (I7.pin (b,o) (yaA _ (yaA _ (zdD hb e)))).2.1
   refine thn (hg cl HH.objs.size s2 H2 fp _ s5 σ3 H5 x u _ I5' r5 (step x H5 y5)) fun _ s6 ⟨σ6,H6,I6,q6⟩=>?_
   refine thn (hts cl HH.objs.size s2 H2 fp _ s6 σ6 H6 _ I6 q6) fun b s7 ⟨H7,I7,q7⟩=>?_
   cases b with
   | false=>
    rw [if_neg yax] at q7 ⊢
    obtain ⟨m',hm,w7⟩:=q7
    exact ⟨m',hm,back I7 w7⟩
   | true=>
    rw [if_pos rfl] at q7 ⊢
    refine thn (he cl HH.objs.size s2 H2 fp _ s7 σ6 H7 _ I7 q7) fun v s8 ⟨y,H8,I8,r8,q8⟩=>?_
    obtain ⟨xs,hx,hz,m',hm,w8⟩:=q8
    refine thn (zbz (X:=zbD X N scope cl HH.objs.size s2 H2 fp) _ s8 σ6 H8 (.ref s2.heap.objs.size) [y] (.ref s2.heap.objs.size) [v] (fun _ H9=>H9 = upd H8 s2.heap.objs.size (.lst (xs ++ [y]))) I8 rfl (.cons r8 .nil) ⟨_,xs,y,rfl,rfl,hx,hz,rfl⟩) fun _ s9 ⟨_,H9,I9,_,e9⟩=>?_
    subst e9
    exact ⟨m',hm,back I9 w8⟩
 refine codeAny_compStart_list (loop _ rfl) ?_
 exact T.self _ 0 _ _ _ st3 (loop _ rfl)
theorem zcw {N : List Str} {own : Nat} {cap : List Nat} {scope : Scope} {tg elt iter : Expr} {ifs : List Expr} {pos : Pos} {wi : TI} {g : TG} {ts : TT} {te : TE} (hcalm : X.calm = true) (hi : PI X tg iter wi) (c : zkh X scope N own cap)
  (hg : ∀ cl C s₂ H₂ fp,PG (zbD X N scope cl C s₂ H₂ fp) tg g) (hts : ∀ cl C s₂ H₂ fp,PTs (zbD X N scope cl C s₂ H₂ fp) ifs ts) (he : ∀ cl C s₂ H₂ fp,PE (zbD X N scope cl C s₂ H₂ fp) elt te)
  (hs : ∀ x,foldedSetIterable iter X.env x = pure x:=by intro _; rfl) : PE X (.ListComp elt [⟨tg,iter,ifs,0⟩] scope pos) (zql own cap wi g ts te):=by
 intro pins s σ H Q I h
 obtain ⟨cl,hcl⟩:=zf6 (scope:=scope) (env:=X.env) fun x hx=>I.ok.has x (by
  have:=yaW.mp c.frees _ hx
  simpa using this)
 rw [eval_ListComp]
 refine wpAny_comprehension_free (use:=none) rfl hs hcl.eq c.kind (fun x hx hl=>by
  have:=yaW.mp c.locs x hx
  rw [hl] at this
  simpa using this) (thn (hi pins s σ H _ I h) fun v s1 h1=>thn h1 fun itv s2 h2=>?_)
 obtain ⟨it,fp,tn,J,H2,e,I2,T,st2,f2,rd⟩:=h2
 subst e
 refine zic (RR:=fun acc C=>compPost (model X.prog X.w) X.A X.xe none (EP X pins σ Q) acc C) hcalm c hcl hg hts he I2 T st2 f2 rd ?_
 intro D C s' H' I' hm fC q
 obtain ⟨m,hm⟩:=hm
 obtain ⟨f0,f1,f2,f3,f4,f5⟩:=fC
 exact ⟨m,hm,fun h' hsb=>⟨.ref D,H',I'.turned (t':=s'.toks) (fun b o hb e=>(hsb.2 b hb).trans e) f0 f1 f3 f4 f5,rfl,q⟩⟩
theorem zg7 {i : Nat} {x : Str} {N : List Str} {own : Nat} {cap : List Nat} {scope : Scope} {tg elt iter : Expr} {ifs : List Expr} {pos pos' spos : Pos} {wi : TI} {g : TG} {ts : TT} {te : TE} (hN : X.N.Nodup) (hxi : X.N[i]? = some x) (hx : X.env.scope.names.lookup x = some .local) (hcalm : X.calm = true) (hi : PI X tg iter wi) (c : zkh X scope N own cap)
  (hg : ∀ cl C s₂ H₂ fp,PG (zbD X N scope cl C s₂ H₂ fp) tg g) (hts : ∀ cl C s₂ H₂ fp,PTs (zbD X N scope cl C s₂ H₂ fp) ifs ts) (he : ∀ cl C s₂ H₂ fp,PE (zbD X N scope cl C s₂ H₂ fp) elt te)
  (hsw : swapsWith (.ListComp elt [⟨tg,iter,ifs,0⟩] scope pos) (some (.Name x pos')) spos.line X.env = pure true:=by rfl)
  (hs : ∀ x,foldedSetIterable iter X.env x = pure x:=by intro _; rfl) : PS X (.Assign [.Name x pos'] (.ListComp elt [⟨tg,iter,ifs,0⟩] scope pos) spos) (tAsg (zql own cap wi g ts te) (zmH i)):=by
 intro pins s σ H D I h
 obtain ⟨cl,hcl⟩:=zf6 (scope:=scope) (env:=X.env) fun x hx=>I.ok.has x (by
  have:=yaW.mp c.frees _ hx
  simpa using this)
 rw [exec_Assign_Name_used _ _ _ _ hsw]
 refine wpAny_bind (wpAny_standAt (wpAny_bind ?_))
 show wpAny _ X.A (do let _ ← comprehension (.ListComp elt [⟨tg,iter,ifs,0⟩] scope pos) scope X.env _ (newList []) false (eval iter X.env) (some (assign (.Name x pos') X.env))) _ _ s
 refine wpAny_bind (wpAny_mono (wpAny_comprehension_free (use:=some (assign (.Name x pos') X.env)) (Q:=fun _ s'=>SP X pins D .next s') rfl hs hcl.eq c.kind (fun x hx hl=>by
  have:=yaW.mp c.locs x hx
  rw [hl] at this
  simpa using this) (thn (hi pins s σ H _ I h) fun v s1 h1=>thn h1 fun itv s2 h2=>?_)) (fun _ s' hq=>wpAny_pure (wpAny_pure hq)) fun _ _ e=>e)
 obtain ⟨it,fp,tn,J,H2,e,I2,T,st2,f2,rd⟩:=h2
 subst e
 refine zic (RR:=fun acc C=>compPost (model X.prog X.w) X.A X.xe (some (assign (.Name x pos') X.env)) (fun _ s'=>SP X pins D .next s') acc C) (Q:=fun x H1=>zmH i x σ H1 D.nx) hcalm c hcl hg hts he I2 T st2 f2 rd ?_
 intro Dd C s' H' I' hm fC q
 obtain ⟨m,hm⟩:=hm
 have hne : ∀ a,(a = X.env.locals∨X.env.cells.lookup x = some a)→a≠C:=fun a z=>by
  obtain ⟨f0,f1,f2,f3,f4,f5⟩:=fC
  rcases z with z | z
  ·rw [z]; exact Ne.symm f1
  ·exact f4 x a z
 show wpAny _ X.A (assign (.Name x pos') X.env (.ref Dd)) _ _ _
 refine wpAny_assign_Name (zhK I' hN hxi (.inl hx) (v:=.ref Dd) rfl (fun s'' I'' hch=>?_) (.inr hx))
 obtain ⟨a,hsb,ha⟩:=hch
 refine ⟨m,hm.sameBut hsb (Ne.symm (hne a ha)),fun h' hs'=>?_⟩
 obtain ⟨f0,f1,f2,f3,f4,f5⟩:=fC
 exact ⟨_,H',I''.turned (t':=s''.toks) (fun b o hb e=>(hs'.2 b hb).trans e) f0 f1 f3 f4 f5,q⟩
end
end L2
namespace L2
open PySem PySem.Spec PyProof.Rows PySem.SeqAt
class Srt (α : Type) [Rep α] where
 blt : α→α→Bool
 irrefl : ∀ a,blt a a = false
 trans : ∀ a b c,blt a b = true→blt b c = true→blt a c = true
 negTrans : ∀ a b c,blt a c = true→blt a b = true∨blt b c = true
 total : ∀ a b,blt a b = false→blt b a = false→a = b
 kd : SortKind
 one : α
 lt : ∀ {X : Cx} {pins : List (Addr×Obj)} {σ : St} {H : Hp} {s : Shared} {A : Around} {a b : α} {x y : V} {u v : Value} {Q : Bool→Shared→Prop} {E : Value→Shared→Prop},Inv X pins σ H s→Rep.has X.K H a x→Rep.has X.K H b y→RelV x u→RelV y v→Q (blt a b) s→wpAny (model X.prog X.w) A (keyLt' kd u v) Q E s
 kind : ∀ {X : Cx} {pins : List (Addr×Obj)} {σ : St} {H : Hp} {s : Shared} {A : Around} {as : List α} {xs : List V} {us : List Value} {Q : SortKind→Shared→Prop} {E : Value→Shared→Prop},Inv X pins σ H s→zal X.K H as xs→Vals xs us→2≤us.length→Q kd s→wpAny (model X.prog X.w) A (keyKind' us.toArray) Q E s
section
variable {α : Type} [Rep α] [Srt α]
noncomputable def srtKind (α : Type) [Rep α] [Srt α] (K : Frag) (H : Hp) : PyProof.Rows.KeyKind where
 α:=α
 blt:=Srt.blt
 irrefl:=Srt.irrefl
 trans:=Srt.trans
 negTrans:=Srt.negTrans
 total:=Srt.total
 keyOf:=fun u=>open Classical in if h : ∃ a : α,∃ x,RelV x u∧Rep.has K H a x then some (Classical.choose h) else none
 dflt:=Srt.one
theorem zn2 {X : Cx} {pins : List (Addr×Obj)} {σ : St} {H : Hp} {s : Shared} {a : α} {x : V} {u : Value} (I : Inv X pins σ H s) (r : RelV x u) (h : Rep.has X.K H a x) : (srtKind α X.K H).keyOf u = some a:=by
 have e : ∃ a : α,∃ x,RelV x u∧Rep.has X.K H a x:=⟨a,x,r,h⟩
 unfold srtKind
 dsimp only
 rw [dif_pos e]
 obtain ⟨y,ry,hy⟩:=Classical.choose_spec e
 have z:=ry.inj r
 subst z
 exact congrArg some (Rep.inj I hy h)
theorem zdE {K : Frag} {H : Hp} {a : α} {u : Value} (h : (srtKind α K H).keyOf u = some a) : ∃ x,RelV x u∧Rep.has K H a x:=by
 unfold srtKind at h
 dsimp only at h
 split at h
 ·rename_i e
  cases h
  exact Classical.choose_spec e
 ·cases h
def zcJ (as : List α) : List α:=as.mergeSort fun a b=>!Srt.blt b a
theorem zb6 (as : List α) : (zcJ as).Perm as:=List.mergeSort_perm _ _
theorem zdX {as : List α} {a : α} : a∈zcJ as↔a∈as:=(zb6 as).mem_iff
theorem zc5 (as : List α) : (zcJ as).length = as.length:=(zb6 as).length_eq
theorem zm4 {a b : α} (h : Srt.blt a b = true) : Srt.blt b a = false:=by
 cases e : Srt.blt b a with
 | false=>rfl
 | true=>
  have:=Srt.trans _ _ _ h e
  rw [Srt.irrefl] at this
  cases this
theorem zjt (as : List α) : (zcJ as).Pairwise fun a b=>Srt.blt b a = false:=by
 have h:=List.pairwise_mergeSort (le:=fun a b : α=>!Srt.blt b a) (fun a b c h1 h2=>by
  simp only [ybP] at h1 h2 ⊢
  cases e : Srt.blt c a with
  | false=>rfl
  | true=>
   rcases Srt.negTrans c b a e with z | z
   ·rw [h2] at z; cases z
   ·rw [h1] at z; cases z) (fun a b=>by
  cases e : Srt.blt b a with
  | false=>rfl
  | true=>rw [zm4 e]; rfl) as
 exact h.imp fun {a b} z=>by simpa using z
theorem zdY {as bs : List α} (hp : bs.Perm as) (hs : bs.Pairwise fun a b=>Srt.blt b a = false) : bs = zcJ as:=
 List.Perm.eq_of_pairwise (fun a b _ _ h1 h2=>Srt.total a b h2 h1) hs (zjt as) (hp.trans (zb6 as).symm)
theorem zhQ {as : List α} (hs : as.Pairwise fun a b=>Srt.blt b a = false) : zcJ as = as:=(zdY (List.Perm.refl _) hs).symm
theorem zeB {as : List α} (hn : as.Nodup) : (zcJ as).Pairwise fun a b=>Srt.blt a b = true:=by
 have h1:=zjt as
 have h2 : (zcJ as).Nodup:=(zb6 as).nodup_iff.mpr hn
 refine (h1.and h2).imp fun {a b} z=>?_
 cases e : Srt.blt a b with
 | true=>rfl
 | false=>exact absurd (Srt.total a b e z.1) z.2
theorem zfQ {K : Frag} {H : Hp} : ∀ {out : List Value},(∀ v∈out,∃ a : α,∃ x,RelV x v∧Rep.has K H a x∧(srtKind α K H).keyOf v = some a)→
  ∃ (ws : List V) (bs : List α),Vals ws out∧zal K H bs ws∧bs = out.map (Tim.keyV (srtKind α K H))
 | [],_=>⟨[],[],.nil,.nil,rfl⟩
 | v :: out,h=>by
  obtain ⟨ws,bs,h1,h2,h3⟩:=zfQ (out:=out) fun u hu=>h u (yaD _ hu)
  obtain ⟨a,x,r,e,k⟩:=h v yaC
  refine ⟨x :: ws,a :: bs,.cons r h1,.cons e h2,?_⟩
  rw [yao,← h3]
  have z : Tim.keyV (srtKind α K H) v = a:=by
   unfold Tim.keyV
   rw [k]
   rfl
  rw [z]
  rfl
theorem ziP {X : Cx} {pins : List (Addr×Obj)} {σ : St} {H : Hp} {s : Shared} (I : Inv X pins σ H s) : ∀ {as : List α} {xs : List V} {us : List Value},zal X.K H as xs→Vals xs us→us.map (Tim.keyV (srtKind α X.K H)) = as∧∀ v∈us,∃ a : α,∃ x,RelV x v∧Rep.has X.K H a x∧(srtKind α X.K H).keyOf v = some a
 | _,_,_,.nil,.nil=>⟨rfl,fun _ z=>nomatch z⟩
 | _,_,_,.cons e t,.cons r q=>by
  obtain ⟨h1,h2⟩:=ziP I t q
  have k:=zn2 I r e
  refine ⟨?_,fun v hv=>?_⟩
  ·rw [yao,h1]
   unfold Tim.keyV
   rw [k]
   rfl
  ·rcases yak.mp hv with z | z
   ·subst z
    exact ⟨_,_,r,e,k⟩
   ·exact h2 v z
end
def zqx (α : Type) [Rep α] [Srt α] (K : Frag) : List V→Hp→VK→Prop:=fun xs H Q=>∃ (p : Addr) (vs : List V) (as : List α),xs = [.ref p]∧SqL K H p vs∧zal K H as vs∧
 ∀ l ws,H l = none→zal K H (zcJ as) ws→Q (.ref l) (upd H l (.lst ws))
section
variable {X : Cx}
theorem zgK (α : Type) [Rep α] [Srt α] : zdl X (.builtin "sorted") (zqx α X.K):=by
 intro pins s σ H xs us Q I r h
 obtain ⟨p,vs,as,rfl,hq,ha,q⟩:=h
 obtain ⟨u,rfl,rx⟩:=zfy r
 cases rx
 obtain ⟨its,rv,pl,hz⟩:=I.list hq
 have hlen:=rv.length
 obtain ⟨km,kk⟩:=ziP I ha rv
 refine Tim.znq (κ:=srtKind α X.K H) (kd:=Srt.kd α) pl.isList (by omega) (fun v hv=>?_) (fun h' k E x y a b Q hx hy q=>?_) (fun h' E Q k h2 q=>Srt.kind (Inv.kept (t':=s.toks) I k) ha rv h2 q) fun out h' c p1 p2 k hc=>?_
 ·obtain ⟨a,_,_,_,e⟩:=kk v hv
  exact ⟨a,e⟩
 ·obtain ⟨x1,r1,e1⟩:=zdE hx
  obtain ⟨y1,r2,e2⟩:=zdE hy
  exact Srt.lt (Inv.kept (t':=s.toks) I k) e1 e2 r1 r2 q
 ·obtain ⟨ws,bs,w1,w2,w3⟩:=zfQ (α:=α) (K:=X.K) (H:=H) (out:=out) fun v hv=>kk v (p1.mem_iff.mp hv)
  have eb : bs = zcJ as:=by
   refine zdY ?_ ?_
   ·rw [w3,← km]
    exact p1.map _
   ·rw [w3]
    exact ybB.mpr p2
  rw [eb] at w2
  have hw : ws.length≤sizeLine:=by
   have:=w1.length
   have:=p1.length_eq
   omega
  exact ⟨.ref (s.heap.objs.size + 1),_,I.laid (a:=s.heap.objs.size + 1) (o:=.lst ws) (t':=s.toks) k (yba _) ⟨hw,out,c,w1,hc⟩,rfl,q _ ws (I.hok.fresh (yba _)) w2⟩
end
instance : Srt Int where
 blt:=fun a b=>decide (a < b)
 irrefl:=fun a=>by simp
 trans:=fun a b c h1 h2=>by
  simp only [decide_eq_true_eq] at *
  omega
 negTrans:=fun a b c h=>by
  simp only [decide_eq_true_eq] at *
  omega
 total:=fun a b h1 h2=>by
  simp only [decide_eq_false_iff_not] at *
  omega
 kd:=oneType'
 one:=0
 lt:=fun {X pins σ H s A a b x y u v Q E} _ h1 h2 r1 r2 q=>by
  have h1 : x = .int a:=h1
  have h2 : y = .int b:=h2
  subst h1 h2
  obtain ⟨t,rfl⟩:=r1
  obtain ⟨t',rfl⟩:=r2
  exact PySem.W.kat_lt_int q
 kind:=fun {X pins σ H s A as xs us Q E} _ h r hl q=>by
  have e:=zal.toInts h
  subst e
  have hi : IntsAre us as:=by
   clear q hl
   induction as generalizing us with
   | nil=>cases r; exact .nil
   | cons a as ih=>
    cases r with
    | cons r1 r2=>
     obtain ⟨t,rfl⟩:=r1
     exact .cons a t (ih (by first | exact zal.ints | assumption) r2)
  match us,hl,hi with
  | v₁ :: v₂ :: rest,_,hi=>
   rw [keyKind_ints hi]
   exact wpAny_pure q
def pLt (a b : Int×Int) : Bool:=decide (a.1 < b.1) || (decide (a.1 = b.1) && decide (a.2 < b.2))
theorem zcx {a b : Int×Int} : pLt a b = true↔a.1 < b.1∨(a.1 = b.1∧a.2 < b.2):=by
 unfold pLt
 simp
theorem ziB {a b : Int×Int} : pLt a b = false↔¬ (a.1 < b.1∨(a.1 = b.1∧a.2 < b.2)):=by
 rw [← zcx]
 simp
theorem zhd {X : Cx} {pins : List (Addr×Obj)} {σ : St} {H : Hp} {s : Shared} {a : Int×Int} {x : V} {u : Value} (I : Inv X pins σ H s) (h : Rep.has X.K H a x) (r : RelV x u) :
  ∃ (p : Addr) (o : Obj) (n : Nat) (t t' : Tok),u = .ref p∧s.heap.get? p = some o∧o.cls = .type "tuple"∧o.data = .seq #[.int a.1 t,.int a.2 t'] n:=by
 obtain ⟨p,x1,x2,rfl,q,e1,e2⟩:=(show hasP X.K H a x from h)
 have e1 : x1 = .int a.1:=e1
 have e2 : x2 = .int a.2:=e2
 subst e1 e2
 cases r
 obtain ⟨us,ru,pu,_⟩:=I.tuple (SqT.of q)
 obtain ⟨u1,u2,rfl,⟨t,rfl⟩,⟨t',rfl⟩⟩:=zgP ru
 obtain ⟨o,ho,hc,n,hd⟩:=pu
 exact ⟨p,o,n,t,t',rfl,ho,hc,hd⟩
theorem zoO {prog : Program} {w : World} {A : Around} {E : Value→Shared→Prop} {s : Shared} {x y : Int} {t u : Tok} {Q : Bool→Shared→Prop} (b : Bool) (h : Q (decide (x < y)) s) : wpAny (model prog w) A (oneLt' b (.int x t) (.int y u)) Q E s:=by
 cases b with
 | true=>
  rw [← keyLt'_oneType]
  exact PySem.W.kat_lt_int h
 | false=>exact PySem.W.kat_one _ _ (lt_int h)
instance : Srt (Int×Int) where
 blt:=pLt
 irrefl:=fun a=>by rw [ziB]; omega
 trans:=fun a b c h1 h2=>by
  rw [zcx] at *
  omega
 negTrans:=fun a b c h=>by
  rw [zcx] at *
  rw [zcx]
  omega
 total:=fun a b h1 h2=>by
  rw [ziB] at *
  obtain ⟨a1,a2⟩:=a
  obtain ⟨b1,b2⟩:=b
  have : a1 = b1∧a2 = b2:=by dsimp only at *; omega
  rw [this.1,this.2]
 kd:=tuples' true
 one:=(0,0)
 lt:=fun {X pins σ H s A a b x y u v Q E} I h1 h2 r1 r2 q=>by
  obtain ⟨p,o,n,t1,t2,rfl,ho,hc,hd⟩:=zhd I h1 r1
  obtain ⟨p',o',n',t3,t4,rfl,ho',hc',hd'⟩:=zhd I h2 r2
  refine PySem.W.kat_lt ho hd ho' hd' ?_
  show PySem.W.KatLex X.prog X.w A true _ Q [(.int a.1 t1,.int b.1 t3),(.int a.2 t2,.int b.2 t4)] 0 s
  refine PySem.W.kat_cons (EqAt.int_int a.1 t1 b.1 t3 _ _ _ _ (PySem.W.kat_go (fun e=>PySem.W.kat_yes ?_) (fun e=>PySem.W.kat_no ?_)))
  ·have e1 : a.1 = b.1:=eq_of_beq e
   refine PySem.W.kat_cons (EqAt.int_int a.2 t2 b.2 t4 _ _ _ _ (PySem.W.kat_go (fun e=>PySem.W.kat_yes (PySem.W.kat_nil ?_)) (fun e=>PySem.W.kat_no (zoO _ ?_))))
   ·have e2 : a.2 = b.2:=eq_of_beq e
    have z : pLt a b = false:=by rw [ziB]; omega
    rw [z] at q
    exact q
   ·have z : pLt a b = decide (a.2 < b.2):=by
     unfold pLt
     rw [yaf (by omega : ¬ a.1 < b.1),yag e1]
     rfl
    rw [z] at q
    exact q
  ·have e1 : ¬ a.1 = b.1:=fun z=>by rw [z] at e; simp at e
   refine zoO _ ?_
   have z : pLt a b = decide (a.1 < b.1):=by
    unfold pLt
    rw [yaf e1]
    simp
   rw [z] at q
   exact q
 kind:=fun {X pins σ H s A as xs us Q E} I h r hl q=>by
  have go : ∀ {as : List (Int×Int)} {xs : List V} {us : List Value},zal X.K H as xs→Vals xs us→∃ fs,PySem.W.KatTups s.heap us fs∧fs.length = us.length∧∀ v∈fs,∃ i t,v = Value.int i t:=by
   intro as
   induction as with
   | nil=>
    intro xs us h r
    cases h
    cases r
    exact ⟨[],.nil,rfl,fun _ z=>nomatch z⟩
   | cons a as ih=>
    intro xs us h r
    cases h with
    | cons h1 h2=>
     cases r with
     | cons r1 r2=>
      obtain ⟨fs,f1,f2,f3⟩:=ih h2 r2
      obtain ⟨p,o,n,t,t',rfl,ho,hc,hd⟩:=zhd I h1 r1
      refine ⟨.int a.1 t :: fs,PySem.W.KatTups.cons ho hc hd rfl f1,by rw [yaI,yaI,f2],fun v hv=>?_⟩
      rcases yak.mp hv with z | z
      ·exact ⟨_,_,z⟩
      ·exact f3 v z
  obtain ⟨fs,f1,f2,f3⟩:=go h r
  refine PySem.W.kat_kind (T:=.type "int") f1 (by omega) (fun v hv=>?_) (by decide) ?_
  ·obtain ⟨i,t,rfl⟩:=f3 v hv
   exact PySem.W.Looks.of_pure rfl
  ·exact q
end L2
namespace L2
open PySem PySem.Spec PyProof.Rows
section
variable {X : Cx}
theorem zei {x : Str} {i : Int} {pos : Pos} (hg : Gl X x) (hm : ∃ t,X.mg x = some (.int i t)) (hd : (x == ("__debug__" : Str)) = false:=by decide) : PE X (.Name x pos) (tC (.int i)):=by
 obtain ⟨t,e⟩:=hm
 exact zpn hg e ⟨t,rfl⟩ hd
end
theorem zcG {K : Frag} {a D : Addr} {xs : List V} {g : TG} {ts : TT} {te : TE} {σ : St} {H : Hp} {Q : Hp→Prop} (Pv : Nat→St→Hp→Prop) (h0 : Pv 0 σ H) (hl : ∀ i σ H,i≤xs.length→Pv i σ H→SqL K H a xs)
  (hs : ∀ i m x σ H,xs[i]? = some x→i + m = xs.length→Pv i σ H→g x σ H fun σ2 H2=>ts σ2 H2 fun b H3=>if b = true then te σ2 H3 fun y H4=>∃ zs,H4 D = some (.lst zs)∧zs.length < sizeLine∧∃ m',m' < m∧(i + 1 + m' = xs.length∧Pv (i + 1) σ2 (upd H4 D (.lst (zs ++ [y])))) else ∃ m',m' < m∧(i + 1 + m' = xs.length∧Pv (i + 1) σ2 H3))
  (hd : ∀ σ H,Pv xs.length σ H→Q H) :
  ∃ W : Nat→Nat→St→Hp→Prop,(∃ m,W 0 m σ H)∧∀ i m σ H,W i m σ H→((Itl K a).stop i H∧Q H)∨((Itl K a).go i H∧∀ x H',(Itl K a).yld i H x H'→g x σ H' fun σ2 H2=>ts σ2 H2 fun b H3=>if b = true then te σ2 H3 fun y H4=>∃ xs,H4 D = some (.lst xs)∧xs.length < sizeLine∧∃ m',m' < m∧W (i + 1) m' σ2 (upd H4 D (.lst (xs ++ [y]))) else ∃ m',m' < m∧W (i + 1) m' σ2 H3):=by
 refine ⟨fun i m σ H=>i + m = xs.length∧Pv i σ H,⟨xs.length,by omega,h0⟩,fun i m σ H ⟨e,pv⟩=>?_⟩
 have hS:=hl i σ H (by omega) pv
 by_cases hi : i < xs.length
 ·refine .inr ⟨⟨xs,xs[i],hS,yac hi⟩,fun x H' y=>?_⟩
  obtain ⟨e1,y⟩:=y
  subst e1
  exact hs i m x σ _ (y xs hS) e pv
 ·have : i = xs.length:=by omega
  subst this
  exact .inl ⟨⟨xs,hS,yaa _⟩,hd σ H pv⟩
theorem zeM {lo : Int} {n : Nat} {D : Addr} {g : TG} {ts : TT} {te : TE} {σ : St} {H : Hp} {Q : Hp→Prop} (Pv : Nat→St→Hp→Prop) (h0 : Pv 0 σ H)
  (hs : ∀ i m σ H,i + m = n→i < n→Pv i σ H→g (.int (lo + i)) σ H fun σ2 H2=>ts σ2 H2 fun b H3=>if b = true then te σ2 H3 fun y H4=>∃ zs,H4 D = some (.lst zs)∧zs.length < sizeLine∧∃ m',m' < m∧(i + 1 + m' = n∧Pv (i + 1) σ2 (upd H4 D (.lst (zs ++ [y])))) else ∃ m',m' < m∧(i + 1 + m' = n∧Pv (i + 1) σ2 H3))
  (hd : ∀ σ H,Pv n σ H→Q H) :
  ∃ W : Nat→Nat→St→Hp→Prop,(∃ m,W 0 m σ H)∧∀ i m σ H,W i m σ H→((Itr lo n).stop i H∧Q H)∨((Itr lo n).go i H∧∀ x H',(Itr lo n).yld i H x H'→g x σ H' fun σ2 H2=>ts σ2 H2 fun b H3=>if b = true then te σ2 H3 fun y H4=>∃ xs,H4 D = some (.lst xs)∧xs.length < sizeLine∧∃ m',m' < m∧W (i + 1) m' σ2 (upd H4 D (.lst (xs ++ [y]))) else ∃ m',m' < m∧W (i + 1) m' σ2 H3):=by
 refine ⟨fun i m σ H=>i + m = n∧Pv i σ H,⟨n,by omega,h0⟩,fun i m σ H ⟨e,pv⟩=>?_⟩
 by_cases hi : i < n
 ·refine .inr ⟨hi,fun x H' y=>?_⟩
  obtain ⟨e1,y⟩:=y
  subst e1 y
  exact hs i m σ _ e hi pv
 ·have : i = n:=by omega
  subst this
  exact .inl ⟨yaa _,hd σ H pv⟩
end L2
namespace L2
open PySem PySem.Spec PyProof.Rows
def metI (ns : List Int) : List Int:=firstMet (fun i=>ns.getD i 0) ns.length
theorem zkt : ∀ ns : List Int,(List.range ns.length).map (fun i=>ns.getD i 0) = ns:=fun ns=>by
 apply ya6
 intro i
 rw [yau]
 by_cases h : i < ns.length
 ·rw [ych h,Option.map_some,yah,yac h]
  rfl
 ·rw [yaU (by rw [ya7]; omega),yaU (by omega)]
  rfl
theorem zf1 : ∀ (ns σ : List Int),(σ ++ ns).Nodup→ns.foldl step_dedup σ = σ ++ ns
 | [],σ,_=>by simp
 | n :: ns,σ,h=>by
  have hn : ¬ (σ.any (· == n)) = true:=fun z=>by
   obtain ⟨x,hx,e⟩:=List.any_eq_true.mp z
   have e:=eq_of_beq e
   subst e
   rw [ybe] at h
   exact h.2.2 x hx x yaC rfl
  rw [ycc]
  have e : step_dedup σ n = σ ++ [n]:=by
   unfold step_dedup
   rw [if_neg hn]
  rw [e,zf1 ns (σ ++ [n]) (by rw [yaK]; exact h),yaK]
  rfl
theorem zgu {ns : List Int} (h : ns.Nodup) : metI ns = ns:=by
 unfold metI firstMet
 rw [zkt]
 exact zf1 ns [] h
theorem zch : ∀ {ns : List Int} {us : List Value},Vals (ns.map V.int) us→IntsAre us ns
 | [],_,.nil=>.nil
 | n :: _,_,.cons ⟨t,e⟩ q=>by
  subst e
  exact .cons n t (zch q)
section
variable {X : Cx}
theorem zkX : zdl X (.builtin "len") (fun xs H Q=>∃ p S n,xs = [.ref p]∧H p = some (.set S n)∧n≤1000∧Q (.int (n : Nat)) H):=by
 intro pins s σ H xs us Q I r h
 obtain ⟨p,S,n,rfl,hp,hn,q⟩:=h
 obtain ⟨u,rfl,rx⟩:=zfy r
 cases rx
 have ok : s.heap.SetOf (intKind X.prog X.w) p S n:=I.hok p _ hp
 obtain ⟨o,ho,hex,es,ep,t,hd,_,_,hm,hf⟩:=ok.objOf
 subst hm
 exact call_len_set ho hex hd hf (by omega) ⟨.int _,H,I.tok _,⟨_,rfl⟩,q⟩
end
end L2
namespace L2
theorem zeq {i : Nat} {x : V} {σ : St} {H : Hp} {A B : St→Hp→Prop} (h : A (σ.set i (some x)) H) : zmH i x σ H fun σ2 H2=>tYes σ2 H2 fun b H3=>if b = true then A σ2 H3 else B σ2 H3:=by
 show (if true = true then A (σ.set i (some x)) H else B (σ.set i (some x)) H)
 rw [if_pos rfl]
 exact h
end L2
namespace L2
open PySem PySem.Spec PyProof.Rows
section
variable {X : Cx}
theorem zm1 (hc : X.calm = true) : zdl X (.builtin "sum") (fun xs H Q=>∃ (p : Addr) (ns : List Int),xs = [.ref p]∧SqL X.K H p (ns.map V.int)∧Q (.int ns.sum) H):=by
 intro pins s σ H xs us Q I r h
 obtain ⟨p,ns,rfl,hq,q⟩:=h
 obtain ⟨u,rfl,rx⟩:=zfy r
 cases rx
 obtain ⟨its,rv,pl,_⟩:=I.list hq
 have hi:=zch rv
 obtain ⟨xs,hx⟩:=hi.allInts.items
 have hl' : s.heap.IsList p (intItems xs):=hx ▸ pl.isList
 refine sum_intListG (I.ok.hd hc) hl' fun h' tk t' hk=>?_
 have e1 : ns = xs.toList.map (·.1):=by
  rw [← nums_intItems,← hx]
  exact (show numsOf its.toArray.toList = ns from hi.numsOf).symm
 have e2 : preSum (numAt xs) xs.size = ns.sum:=by
  rw [preSum_eq,yar (by simp),e1]
 rw [e2]
 exact ⟨.int _,H,Inv.kept (t':=tk) I hk,⟨t',rfl⟩,q⟩
end
end L2
namespace L2
open PySem PySem.Spec PyProof.Rows
section
variable {X : Cx} {K : Frag}
theorem zhv (h : X.K = K:=by rfl) : zdl X (.builtin "len") (fun xs H Q=>∃ p ys,xs = [.ref p]∧(SqL K H p ys∨SqT K H p ys)∧Q (.int ys.length) H):=by
 subst h
 exact zao
theorem zmu (h : X.K = K:=by rfl) : IxR X (rIxT K):=by
 subst h
 exact za8
end
end L2
namespace L2
open PySem PySem.Spec PyProof.Rows
theorem zhz {c : TT} {tb : TS} {D : Ends} {σ : St} {H : Hp} (Pv Pe : St→Hp→Prop) (μ : St→Hp→Nat) (h0 : Pv σ H)
  (hs : ∀ σ H,Pv σ H→c σ H fun b H1=>if b = true then tb { D with nx:=fun σ' H'=>Pv σ' H'∧μ σ' H' < μ σ H,ct:=fun σ' H'=>Pv σ' H'∧μ σ' H' < μ σ H,bk:=D.nx } σ H1 else Pe σ H1)
  (mono : ∀ σ H Q Q',(∀ b H1,Q b H1→Q' b H1)→c σ H Q→c σ H Q') (he : ∀ σ H,Pe σ H→D.nx σ H) : zlk c tb D σ H:=by
 refine znb Pv μ h0 (fun σ H p=>mono σ H _ _ (fun b H1 q=>?_) (hs σ H p)) mono
 cases b with
 | true=>exact q
 | false=>exact he _ _ q
def zqa (c : TT) : Prop:=∀ σ H Q Q',(∀ b H1,Q b H1→Q' b H1)→c σ H Q→c σ H Q'
theorem zlm {a b : TT} (ha : zqa a) (hb : zqa b) : zqa (tAnd a b):=fun σ H Q Q' m h=>ha σ H _ _ (fun c H1 q=>by
 cases c with
 | false=>exact m _ _ q
 | true=>exact hb σ H1 Q Q' m q) h
section
variable {X : Cx} {K : Frag}
theorem zhf (h : X.K = K:=by rfl) : OpR X (compareOp .NotIn) (rIn K true):=by
 subst h
 exact zcs
theorem zlQ {es : List Expr} {k : Nat} {t : TGs} {n : Nat} {pos : Pos} (hc : X.calm = true) (h : PGs X es t) (hK : X.K = K:=by rfl)
  (hn : (assignEach es X.env).length = n:=by rfl) (hst : (assignEach es X.env).findIdx? (·.1) = none:=by rfl) : PG X (.Tuple es k pos) (gTup K n t):=by
 subst hK
 exact zjI hc h hn hst
end
theorem zoi {K : Frag} {a b D : Addr} {xs ys : List V} {g : TG} {ts : TT} {te : TE} {σ : St} {H : Hp} {Q : Hp→Prop} (hlen : xs.length = ys.length) (Pv : Nat→St→Hp→Prop) (h0 : Pv 0 σ H) (hl : ∀ i σ H,i≤xs.length→Pv i σ H→SqL K H a xs∧SqL K H b ys)
  (hs : ∀ i m x y σ H r,xs[i]? = some x→ys[i]? = some y→i + m = xs.length→Pv i σ H→H r = none→g (.ref r) σ (upd H r (.tup [x,y])) fun σ2 H2=>ts σ2 H2 fun b H3=>if b = true then te σ2 H3 fun y H4=>∃ zs,H4 D = some (.lst zs)∧zs.length < sizeLine∧∃ m',m' < m∧(i + 1 + m' = xs.length∧Pv (i + 1) σ2 (upd H4 D (.lst (zs ++ [y])))) else ∃ m',m' < m∧(i + 1 + m' = xs.length∧Pv (i + 1) σ2 H3))
  (hd : ∀ σ H,Pv xs.length σ H→Q H) :
  ∃ W : Nat→Nat→St→Hp→Prop,(∃ m,W 0 m σ H)∧∀ i m σ H,W i m σ H→((Itz K a b).stop i H∧Q H)∨((Itz K a b).go i H∧∀ x H',(Itz K a b).yld i H x H'→g x σ H' fun σ2 H2=>ts σ2 H2 fun b H3=>if b = true then te σ2 H3 fun y H4=>∃ xs,H4 D = some (.lst xs)∧xs.length < sizeLine∧∃ m',m' < m∧W (i + 1) m' σ2 (upd H4 D (.lst (xs ++ [y]))) else ∃ m',m' < m∧W (i + 1) m' σ2 H3):=by
 refine ⟨fun i m σ H=>i + m = xs.length∧Pv i σ H,⟨xs.length,by omega,h0⟩,fun i m σ H ⟨e,pv⟩=>?_⟩
 obtain ⟨hS,hS'⟩:=hl i σ H (by omega) pv
 by_cases hi : i < xs.length
 ·refine .inr ⟨⟨xs,ys,xs[i],ys[i]'(by omega),hS,hS',yac hi,yac (by omega)⟩,fun x H' y=>?_⟩
  obtain ⟨p,z,z',rfl,hp,hz,hz',rfl⟩:=y
  exact hs i m z z' σ H p (hz xs hS) (hz' ys hS') e pv hp
 ·have : i = xs.length:=by omega
  subst this
  exact .inl ⟨⟨xs,ys,hS,hS',.inl (yaa _)⟩,hd σ H pv⟩
end L2
namespace L2
open PySem PySem.Spec PyProof.Rows
section
variable {X : Cx}
theorem zm3 (hc : X.calm = true) : zdl X (.builtin "min") (fun xs H Q=>∃ (p : Addr) (ns : List Int),xs = [.ref p]∧SqL X.K H p (ns.map V.int)∧0 < ns.length∧∀ M,M∈ns→(∀ a,a∈ns→M≤a)→Q (.int M) H):=by
 intro pins s σ H xs us Q I r h
 obtain ⟨p,ns,rfl,hq,hne,q⟩:=h
 obtain ⟨u,rfl,rx⟩:=zfy r
 cases rx
 obtain ⟨its,rv,pl,_⟩:=I.list hq
 have hi:=zch rv
 obtain ⟨xs,hx⟩:=hi.allInts.items
 have hl' : s.heap.IsList p (intItems xs):=hx ▸ pl.isList
 have e1 : ns = xs.toList.map (·.1):=by
  rw [← nums_intItems,← hx]
  exact (show numsOf its.toArray.toList = ns from hi.numsOf).symm
 have hsz : 0 < xs.size:=by
  rw [e1,yab,yas] at hne
  exact hne
 refine min_intList (I.ok.hd hc) hl' hsz fun v h' tk hv hk=>?_
 obtain ⟨t,rfl⟩:=intItems_at hv
 obtain ⟨h1,h2⟩:=argBest_lt (numAt xs) (xs.size - 1)
 refine ⟨.int _,H,Inv.kept (t':=tk) I hk,⟨t,rfl⟩,q _ ?_ fun a ha=>?_⟩
 ·rw [e1,numAt_eq]
  rw [yah,yac (by rw [yab,yas]; omega)]
  exact ya1 _
 ·rw [e1] at ha
  obtain ⟨j,hj,rfl⟩:=mem_getD ha
  rw [yab,yas] at hj
  rw [← numAt_eq]
  exact h2 j (by omega)
end
theorem zet {K : Frag} {a D : Addr} {xs : List V} {g : TG} {ts : TT} {te : TE} {σ : St} {H : Hp} {Q : Hp→Prop} (Pv : Nat→St→Hp→Prop) (h0 : Pv 0 σ H) (hl : ∀ i σ H,i≤xs.length→Pv i σ H→SqT K H a xs)
  (hs : ∀ i m x σ H,xs[i]? = some x→i + m = xs.length→Pv i σ H→g x σ H fun σ2 H2=>ts σ2 H2 fun b H3=>if b = true then te σ2 H3 fun y H4=>∃ zs,H4 D = some (.lst zs)∧zs.length < sizeLine∧∃ m',m' < m∧(i + 1 + m' = xs.length∧Pv (i + 1) σ2 (upd H4 D (.lst (zs ++ [y])))) else ∃ m',m' < m∧(i + 1 + m' = xs.length∧Pv (i + 1) σ2 H3))
  (hd : ∀ σ H,Pv xs.length σ H→Q H) :
  ∃ W : Nat→Nat→St→Hp→Prop,(∃ m,W 0 m σ H)∧∀ i m σ H,W i m σ H→((Itt K a).stop i H∧Q H)∨((Itt K a).go i H∧∀ x H',(Itt K a).yld i H x H'→g x σ H' fun σ2 H2=>ts σ2 H2 fun b H3=>if b = true then te σ2 H3 fun y H4=>∃ xs,H4 D = some (.lst xs)∧xs.length < sizeLine∧∃ m',m' < m∧W (i + 1) m' σ2 (upd H4 D (.lst (xs ++ [y]))) else ∃ m',m' < m∧W (i + 1) m' σ2 H3):=by
 refine ⟨fun i m σ H=>i + m = xs.length∧Pv i σ H,⟨xs.length,by omega,h0⟩,fun i m σ H ⟨e,pv⟩=>?_⟩
 have hS:=hl i σ H (by omega) pv
 by_cases hi : i < xs.length
 ·refine .inr ⟨⟨xs,xs[i],hS,yac hi⟩,fun x H' y=>?_⟩
  obtain ⟨e1,y⟩:=y
  subst e1
  exact hs i m x σ _ (y xs hS) e pv
 ·have : i = xs.length:=by omega
  subst this
  exact .inl ⟨⟨xs,hS,yaa _⟩,hd σ H pv⟩
end L2
namespace L2
open PySem PySem.Spec PyProof.Rows
def Itv (K : Frag) (a : Addr) (n : Nat) : It:=
 ⟨fun i H=>i < n∧∃ xs,SqL K H a xs∧xs.length = n,fun i H x H'=>H' = H∧∀ xs,SqL K H a xs→xs.length = n→xs.reverse[i]? = some x,fun i _=>i = n⟩
theorem znh {P : Program} {w : World} {K : Frag} {tg : Expr} (a it : Addr) (n : Nat) : Turn P w K tg (Itv K a n) [it] it (fun i h=>h.IsRevIter it a ((n : Int) - 1 - (i : Int))) where
 mem:=by simp
 obj:=fun i h st b hb=>by
  have e : b = it:=by simpa using hb
  subst e
  obtain ⟨o,e,c,d⟩:=st
  exact ⟨o,e,fun v z=>by rw [d] at z; cases z⟩
 keep:=fun i h h' st k=>st.at fun o e=>k it (by simp) o e
 item:=by
  intro X hP hw hK hc i pins s σ H E I hf st hg
  subst hP hw hK
  obtain ⟨hi,xs,hq,hn⟩:=hg
  obtain ⟨its,rv,p,hz⟩:=I.list hq
  have hx : xs[n - 1 - i]? = some (xs[n - 1 - i]'(by omega)):=yac (by omega)
  obtain ⟨u,hu,ru⟩:=rv.get hx
  obtain ⟨f0,f1,f2,f3,f4,f5⟩:=hf it (by simp)
  have e1 : (n : Int) - 1 - (i : Int) = ((n - 1 - i : Nat) : Int):=by omega
  rw [e1] at st
  refine wpAny_pyNext_rev_item st p.isList (x:=u) (by simpa using hu) fun h' st' sb=>?_
  have e2 : ((n - 1 - i : Nat) : Int) - 1 = (n : Int) - 1 - ((i + 1 : Nat) : Int):=by omega
  rw [e2] at st'
  have I1 : Inv X pins σ H { s with heap:=h' }:=I.turned (t':=s.toks) (fun b o hb e=>(sb.2 b hb).trans e) f0 f1 f3 f4 f5
  obtain ⟨o,e,c,d⟩:=id st'
  refine ⟨u,rfl,zoa (s:={ s with heap:=h' }) e c d (by decide) ⟨xs[n - 1 - i]'(by omega),H,I1,ru,⟨rfl,fun ys hy hyn=>?_⟩,st',fun b hb=>(hf b hb).1⟩⟩
  rw [I.list_inj hy hq,yci (by omega),show xs.length - 1 - i = n - 1 - i by omega]
  exact hx
 done:=by
  intro X hP hw hK hc i pins s σ H E I hf st hg
  subst hP hw hK
  have hi : i = n:=hg
  subst hi
  obtain ⟨f0,f1,f2,f3,f4,f5⟩:=hf it (by simp)
  have e1 : (i : Int) - 1 - (i : Int) = -1:=by omega
  rw [e1] at st
  exact wpAny_pyNext_rev_end (I.ok.hd hc) st fun h' eb=>⟨rfl,I.turned (t':=s.toks) (fun b o hb e=>eb b o hb e) f0 f1 f3 f4 f5⟩
 self:=fun _ _ _ _ _ st h=>wpAny_pyIter_revIter st h
def iRev (K : Frag) (ta : TA) : TI:=fun σ H R=>ta σ H fun vs H1=>∃ a xs,vs = [.ref a]∧SqL K H1 a xs∧R (Itv K a xs.length) H1
section
variable {X : Cx}
theorem zfI {tg : Expr} {a : Expr} {ta : TA} {p pos : Pos} (hg : Gl X "reversed") (hm : X.mg "reversed" = none) (ha : PA X [a] ta) (hs : starEach [a] X.env = [(false,eval a X.env)]:=by rfl) : PI X tg (.Call (.Name "reversed" p) [a] [] pos) (iRev X.K ta):=by
 intro pins s σ H R I h
 refine Call_ (ze0 I hg hm boot_reversed (PyProof.Rows.callWith_type1 (thn (ha pos pins s σ H _ I h) fun us s1 ⟨vs,H1,I1,r1,q1⟩=>?_) hs rfl))
 obtain ⟨l,xs,e,hq,q⟩:=q1
 subst e
 cases r1 with
 | cons r rr=>
  cases rr
  cases r
  obtain ⟨its,rv,pl,hz⟩:=I1.list hq
  have hl:=rv.length
  refine call_reversed_list pl.isList ?_
  have I2 : Inv X pins σ H1 { s1 with heap:=s1.heap.push (revObj l ((its.toArray.size : Int) - 1)) }:=I1.kept (t':=s1.toks) fun b o e=>yai _ e
  have hr : (s1.heap.push (revObj l ((its.toArray.size : Int) - 1))).IsRevIter s1.heap.objs.size l (((xs.length : Nat) : Int) - 1 - ((0 : Nat) : Int)):=by
   refine ⟨_,yaz _ rfl,rfl,?_⟩
   have : (its.toArray.size : Int) - 1 = ((xs.length : Nat) : Int) - 1 - ((0 : Nat) : Int):=by
    rw [yat,hl]
    omega
   rw [this]
   rfl
  refine wpAny_pyIter_revIter (s:={ s1 with heap:=s1.heap.push (revObj l ((its.toArray.size : Int) - 1)) }) hr ⟨_,[s1.heap.objs.size],_,_,H1,rfl,I2,znh l s1.heap.objs.size xs.length,hr,fun b hb=>?_,q⟩
  have e : b = s1.heap.objs.size:=by simpa using hb
  subst e
  exact I1.fpOk (yaa _) (I1.hok.fresh (yaa _))
end
theorem zmL {K : Frag} {a : Addr} {xs : List V} {g : TG} {tb : TS} {D : Ends} {σ : St} {H : Hp} (Pv : Nat→St→Hp→Prop) (h0 : Pv 0 σ H) (hl : ∀ i σ H,i≤xs.length→Pv i σ H→SqL K H a xs)
  (hs : ∀ i x σ H,xs.reverse[i]? = some x→Pv i σ H→g x σ H fun σ2 H2=>tb { D with nx:=Pv (i + 1),ct:=Pv (i + 1),bk:=D.nx } σ2 H2) (hd : ∀ σ H,Pv xs.length σ H→D.nx σ H) :
  ∃ W : Nat→Nat→St→Hp→Prop,(∃ m,W 0 m σ H)∧∀ i m σ H,W i m σ H→((Itv K a xs.length).stop i H∧D.nx σ H)∨((Itv K a xs.length).go i H∧∃ N : St→Hp→Prop,(∀ σ' H',N σ' H'→∃ m',m' < m∧W (i + 1) m' σ' H')∧∀ x H',(Itv K a xs.length).yld i H x H'→g x σ H' fun σ2 H2=>tb { D with nx:=N,ct:=N,bk:=D.nx } σ2 H2):=by
 refine ⟨fun i m σ H=>i + m = xs.length∧Pv i σ H,⟨xs.length,by omega,h0⟩,fun i m σ H ⟨e,pv⟩=>?_⟩
 have hS:=hl i σ H (by omega) pv
 by_cases hi : i < xs.length
 ·refine .inr ⟨⟨hi,xs,hS,rfl⟩,Pv (i + 1),fun σ' H' q=>⟨m - 1,by omega,by omega,q⟩,fun x H' y=>?_⟩
  obtain ⟨e1,y⟩:=y
  subst e1
  exact hs i x σ _ (y xs hS rfl) pv
 ·have : i = xs.length:=by omega
  subst this
  exact .inl ⟨rfl,hd σ H pv⟩
end L2
namespace L2
open PySem PySem.Spec PyProof.Rows
theorem zlK {P : Program} {w : World} {k : Key} {u : Value} (h : (za1 P w).is k u = true) : RelV (kV k) u:=by
 rw [zkF] at h
 rcases zaR h with ⟨i,t,rfl,rfl⟩ | ⟨x,t,rfl,rfl⟩
 ·exact ⟨t,rfl⟩
 ·exact ⟨t,rfl⟩
section
variable {X : Cx}
theorem zkW (hc : X.calm = true) : zdl X (.type "list") (fun xs H Q=>∃ (p : Addr) (kvs : List (Key×V)),xs = [.ref p]∧H p = some (.dK kvs)∧∀ l,H l = none→Q (.ref l) (upd H l (.lst (kvs.map fun kv=>kV kv.1)))):=by
 intro pins s σ H xs us Q I r h
 obtain ⟨p,kvs,rfl,hq,q⟩:=h
 obtain ⟨u,rfl,rx⟩:=zfy r
 cases rx
 obtain ⟨hz,hne,vs,rel,o,es,ep,h1,h2,h3,h4,h5,h6⟩:=zp0 I.hok hq
 have hlen : kvs.length = vs.length:=rel.length
 refine PySem.W.kdl_call (PySem.W.kdl_dict (knd:=za1 X.prog X.w) (kvs:=vs) (ep:=ep) hne) (I.ok.hd hc) ⟨o,es,h1,h2,h3,h4,h5,h6⟩ (by omega) fun h' tk acc c k e hi=>?_
 have hv : Vals (kvs.map fun kv=>kV kv.1) acc.toList:=by
  obtain ⟨g1,g2⟩:=hi
  have key : ∀ (m : Nat) (kvs : List (Key×V)) (vs : List (Key×Value)) (us : List Value),KV kvs vs→us.length = vs.length→(∀ (i : Nat) (v : Value),us[i]? = some v→∃ k x,vs[i]? = some (k,x)∧(za1 X.prog X.w).is k v = true)→Vals (kvs.map fun kv=>kV kv.1) us:=by
   intro m kvs
   induction kvs with
   | nil=>
    intro vs us r hl _
    cases r
    have : us = []:=ycw hl
    subst this
    exact .nil
   | cons kv kvs ih=>
    intro vs us r hl hh
    cases r with
    | cons a b=>
     cases us with
     | nil=>cases hl
     | cons v us=>
      refine .cons ?_ (ih _ us b (Nat.succ.inj hl) fun i v e=>?_)
      ·obtain ⟨k,x,e1,e2⟩:=hh 0 v rfl
       cases e1
       have h9:=zlK e2
       have a1 : kv.1 = k:=a.1
       rw [← a1] at h9
       exact h9
      ·have:=hh (i + 1) v (by simpa using e)
       simpa using this
  refine key 0 kvs vs acc.toList rel (by rw [yas]; exact g1) fun i v e=>?_
  exact g2 i v (by rw [← yaT]; exact e)
 refine ⟨.ref s.heap.objs.size,_,I.laid (a:=s.heap.objs.size) (o:=.lst (kvs.map fun kv=>kV kv.1)) (t':=tk) k (yaa _) ⟨?_,acc.toList,c,hv,by rw [Array.toArray_toList]; exact e⟩,rfl,q _ (I.hok.fresh (yaa _))⟩
 rw [yab]
 omega
end
end L2
namespace L2
open PySem PySem.Spec PyProof.Rows
def iSeq (K : Frag) (tl : TE) : TI:=fun σ H R=>tl σ H fun x H1=>∃ a,x = .ref a∧((∃ xs,SqL K H1 a xs)∧R (Itl K a) H1∨(∃ xs,SqT K H1 a xs)∧R (Itt K a) H1)
section
variable {X : Cx} {tg : Expr}
theorem zqC {l : Expr} {tl : TE} (hl : PE X l tl) : PI X tg l (iSeq X.K tl):=by
 intro pins s σ H R I h
 refine thn (hl pins s σ H _ I h) fun v s1 ⟨x,H1,I1,r1,a,e,q1⟩=>?_
 subst e
 cases r1
 have new : ∀ b∈[s1.heap.objs.size],FpOk X pins H1 b:=fun b hb=>by
  rw [yal.mp hb]
  exact I1.fpOk (yaa _) (I1.hok.fresh (yaa _))
 rcases q1 with ⟨⟨xs,hq⟩,q⟩ | ⟨⟨xs,hq⟩,q⟩
 ·obtain ⟨its,rv,p,hz⟩:=I1.list hq
  exact wpAny_pyIter_list p.isList ⟨s1.heap.objs.size,[s1.heap.objs.size],_,_,H1,rfl,Inv.kept (t':=s1.toks) I1 (fun b o e=>yai _ e),zhD a _,⟨_,yaz _ rfl,rfl,rfl⟩,new,q⟩
 ·obtain ⟨its,rv,p,hz⟩:=I1.tuple hq
  exact wpAny_pyIter_tuple (show s1.heap.IsTuple a its.toArray from p) ⟨s1.heap.objs.size,[s1.heap.objs.size],_,_,H1,rfl,Inv.kept (t':=s1.toks) I1 (fun b o e=>yai _ e),zgj a _,⟨_,yaz _ rfl,rfl,rfl⟩,new,q⟩
end
section
variable {prog : Program} {w : World} {A : Around} {E : Value→Shared→Prop} {s : Shared}
theorem zi1 {l : Addr} {vs : List Value} {Q : List Value→Shared→Prop} (hl : s.heap.IsTuple l vs.toArray)
  (h : Q vs { s with heap:=(s.heap.push (seqObj "list" #[] 0)).update s.heap.objs.size (Obj.mapSeq (· ++ vs.toArray)) }) (hsz : vs.length≤sizeLine) : wpAny (model prog w) A (collect (.ref l)) Q E s:=by
 obtain ⟨o,ho,hc,n,hd⟩:=id hl
 unfold collect
 refine wpAny_bind (wpAny_runValue (codeAny_builtin entry_proto_collect' ?_))
 show wpAny _ _ (do again (.builtin "list.__iadd__" ⟨[← newList [],.ref l],[]⟩)) _ _ s
 refine wpAny_bind (wpAny_newList (wpAny_pure ⟨Code.quiet_builtin _ (by decide +kernel),codeAny_builtin entry_list_iadd' ?_⟩))
 show wpAny _ _ (Builtin.List.listExtendWith (.ref s.heap.objs.size) (.ref l) (.ref s.heap.objs.size)) _ _ { s with heap:=s.heap.push (seqObj "list" #[] 0) }
 unfold Builtin.List.listExtendWith
 have there : (s.heap.push (seqObj "list" #[] 0)).get? l = some o:=yai _ ho
 refine wpAny_bind (wpAny_typeOf (T := "tuple") ⟨o,there,hc⟩ ?_)
 have ht : (Value.type "tuple" == Value.type "tuple") = true:=rfl
 rw [if_pos (by rw [ht,Bool.or_true])]
 refine wpAny_bind (listItems_at there hd ?_)
 refine wpAny_bind (listItems_at (xs:=#[]) (n:=0) (yaz _ rfl) rfl ?_)
 rw [if_neg (by simp)]
 have fits : (#[] ++ vs.toArray).size≤sizeLine + 1:=by
  simp only [Array.size_append,yat,ybo]
  omega
 refine wpAny_bind (listUpdate_at (xs:=#[]) (n:=0) (yaz _ rfl) rfl ?_ (yaE _) fits)
 refine wpAny_pure ?_
 show wpAny (model prog w) A (load s.heap.objs.size >>= fun o=>match o.data with | .seq xs _=>pure xs.toList | _=>unsupported "internal:collect") Q E { s with heap:=(s.heap.push (seqObj "list" #[] 0)).update s.heap.objs.size (Obj.mapSeq (· ++ vs.toArray)) }
 refine wpAny_bind (wpAny_load (get?_update_seq (yaz _ rfl) _) ?_)
 show wpAny _ _ (pure ((#[] : Array Value) ++ vs.toArray).toList) Q E _
 have e0 : ((#[] : Array Value) ++ vs.toArray).toList = vs:=by simp
 rw [e0]
 exact wpAny_pure h
end
end L2
namespace Tim
open PySem PyProof.Rows
section
variable {prog : Program} {w : World} {A : Around} {E : Value→Shared→Prop} {s : Shared} {κ : KeyKind} {kd : SortKind}
theorem znp {l : Addr} {vs : List Value} {Q : Value→Shared→Prop} (hl : s.heap.IsTuple l vs.toArray) (hz : vs.length≤sizeLine) (keys : ∀ v∈vs,∃ k,κ.keyOf v = some k)
  (hlt : ∀ h',(∀ b o,s.heap.get? b = some o→h'.get? b = some o)→LtG prog w A.in1.in1 { s with heap:=h' } κ kd)
  (hkd : ∀ (h' : Heap) (E : Value→Shared→Prop) (Q : SortKind→Shared→Prop),(∀ b o,s.heap.get? b = some o→h'.get? b = some o)→2≤vs.length→Q kd { s with heap:=h' }→wpAny (model prog w) A.in1.in1 (keyKind' vs.toArray) Q E { s with heap:=h' })
  (h : ∀ (out : List Value) (h' : Heap) (c : Nat),out.Perm vs→out.Pairwise (fun x y=>κ.kle (keyV κ x) (keyV κ y))→(∀ b o,s.heap.get? b = some o→h'.get? b = some o)→
   h'.get? (s.heap.objs.size + 1) = some (seqObj "list" out.toArray c)→Q (.ref (s.heap.objs.size + 1)) { s with heap:=h' }) :
  wpAny (model prog w) A (call (.builtin "sorted") [.ref l]) Q E s:=by
 refine Calls.call_function_entry kind_sorted plain_sorted entry_sorted (args_sorted1 _) ?_
 unfold Builtin.«sorted»
 refine wpAny_bind (m:=checkCount "sorted" 1 1 _) (wpAny_pure ?_)
 refine wpAny_bind (L2.zi1 hl ?_ hz)
 refine wpAny_bind (wpAny_newList ?_ (by simpa using hz))
 have z1 : ((s.heap.push (seqObj "list" #[] 0)).update s.heap.objs.size (Obj.mapSeq (· ++ vs.toArray))).objs.size = s.heap.objs.size + 1:=by
  rw [Heap.size_update,size_push']
 have hn : (((s.heap.push (seqObj "list" #[] 0)).update s.heap.objs.size (Obj.mapSeq (· ++ vs.toArray))).push (seqObj "list" vs.toArray 0)).get? (s.heap.objs.size + 1) = some (seqObj "list" vs.toArray 0):=by
  rw [← z1]
  exact yaz _ rfl
 have hk : ∀ b o,s.heap.get? b = some o→(((s.heap.push (seqObj "list" #[] 0)).update s.heap.objs.size (Obj.mapSeq (· ++ vs.toArray))).push (seqObj "list" vs.toArray 0)).get? b = some o:=fun b o e=>
  yai _ ((ybn _ _ (ybh (yae e))).trans (yai _ e))
 show wpAny _ _ _ _ _ { s with heap:=((s.heap.push (seqObj "list" #[] 0)).update s.heap.objs.size (Obj.mapSeq (· ++ vs.toArray))).push (seqObj "list" vs.toArray 0) }
 rw [z1]
 generalize ((s.heap.push (seqObj "list" #[] 0)).update s.heap.objs.size (Obj.mapSeq (· ++ vs.toArray))).push (seqObj "list" vs.toArray 0) = h1 at hn hk ⊢
 have up : ∀ h',zeS (s.heap.objs.size + 1) h1 h'→∀ b o,s.heap.get? b = some o→h'.get? b = some o:=fun h' kb b o e=>kb b o (fun z=>by
  have:=yae e
  rw [z] at this
  exact absurd this (Nat.not_lt.mpr (yba _))) (hk b o e)
 refine wpAny_bind (wpAny_holding (wpAny_call_entry slot_list_sort ⟨_,hn,rfl⟩ entry_list_sort (zoJ (s:={ s with heap:=h1 }) hn hz keys (fun h' kb=>hlt h' (up h' kb)) (fun h' E Q kb h2 q=>hkd h' E Q (up h' kb) h2 q) fun out p1 p2=>⟨_,rfl,?_⟩) (args_list_sort _)))
 obtain ⟨kb,c,hc⟩:=zfT (out:=out) hn
 exact wpAny_pure ⟨_,rfl,h out _ c p1 p2 (up _ kb) hc⟩
end
end Tim
namespace L2
open PySem PySem.Spec PyProof.Rows
section
variable {X : Cx}
def zqw (α : Type) [Rep α] [Srt α] (K : Frag) : List V→Hp→VK→Prop:=fun xs H Q=>∃ (p : Addr) (vs : List V) (as : List α),xs = [.ref p]∧SqT K H p vs∧zal K H as vs∧
 ∀ l ws,H l = none→zal K H (zcJ as) ws→Q (.ref l) (upd H l (.lst ws))
theorem zgJ (α : Type) [Rep α] [Srt α] : zdl X (.builtin "sorted") (zqw α X.K):=by
 intro pins s σ H xs us Q I r h
 obtain ⟨p,vs,as,rfl,hq,ha,q⟩:=h
 obtain ⟨u,rfl,rx⟩:=zfy r
 cases rx
 obtain ⟨its,rv,pl,hz⟩:=I.tuple hq
 have hlen:=rv.length
 obtain ⟨km,kk⟩:=ziP I ha rv
 refine Tim.znp (κ:=srtKind α X.K H) (kd:=Srt.kd α) (show s.heap.IsTuple p its.toArray from pl) (by omega) (fun v hv=>?_) (fun h' k E x y a b Q hx hy q=>?_) (fun h' E Q k h2 q=>Srt.kind (Inv.kept (t':=s.toks) I k) ha rv h2 q) fun out h' c p1 p2 k hc=>?_
 ·obtain ⟨a,_,_,_,e⟩:=kk v hv
  exact ⟨a,e⟩
 ·obtain ⟨x1,r1,e1⟩:=zdE hx
  obtain ⟨y1,r2,e2⟩:=zdE hy
  exact Srt.lt (Inv.kept (t':=s.toks) I k) e1 e2 r1 r2 q
 ·obtain ⟨ws,bs,w1,w2,w3⟩:=zfQ (α:=α) (K:=X.K) (H:=H) (out:=out) fun v hv=>kk v (p1.mem_iff.mp hv)
  have eb : bs = zcJ as:=by
   refine zdY ?_ ?_
   ·rw [w3,← km]
    exact p1.map _
   ·rw [w3]
    exact ybB.mpr p2
  rw [eb] at w2
  have hw : ws.length≤sizeLine:=by
   have:=w1.length
   have:=p1.length_eq
   omega
  exact ⟨.ref (s.heap.objs.size + 1),_,I.laid (a:=s.heap.objs.size + 1) (o:=.lst ws) (t':=s.toks) k (yba _) ⟨hw,out,c,w1,hc⟩,rfl,q _ ws (I.hok.fresh (yba _)) w2⟩
end
section
variable {prog : Program} {w : World} {A : Around} {E : Value→Shared→Prop} {s : Shared}
theorem zit : isSubtype (.type "tuple") (.type "set") = pure false:=by rw [isSubtype_type]; kernel_rfl
theorem zgg : isSubtype (.type "tuple") (.type "frozenset") = pure false:=by rw [isSubtype_type]; kernel_rfl
abbrev zhj (led : Bool) : Obj:={ cls:=.type "set",dict:=none,data:=.set #[] 0 (.fresh 0 0 led) }
set_option maxRecDepth 100000 in
set_option maxHeartbeats 3200000 in
theorem zkq {l : Addr} {items : Array Value} {ns : List Int} {Q : Value→Shared→Prop} (hh : A.handled = none) (hl : s.heap.IsTuple l items) (hi : IntsAre items.toList ns) (hb : items.size + 1 < scanBound)
  (h : ∀ (h' : Heap) (tk : Nat),h'.SetOf (intKind prog w) s.heap.objs.size (fun k'=>(firstMet (fun i=>ns.getD i 0) items.size).any (· == k')) (firstMet (fun i=>ns.getD i 0) items.size).length→
   (∀ b o,b < s.heap.objs.size→s.heap.get? b = some o→h'.get? b = some o)→Q (.ref s.heap.objs.size) { s with heap:=h',toks:=tk }) :
  wpAny (model prog w) A (call (.type "set") [.ref l]) Q E s:=by
 obtain ⟨c,tl,hmro⟩:=F.called_set.mro
 have hmade:=F.called_set.made
 have hsub:=F.called_set.sub
 refine wpAny_call (codeAny_of_tree ?_)
 show wpAny _ _ (callAny (.type "set") _) _ _ _
 refine wpAny_pure ⟨Code.quiet_builtin _ (by decide +kernel),codeAny_builtin F.entry_type_call ?_⟩
 rw [Around.under_plain (weight_type_call_type "set" [.ref l] []) rfl]
 have h1:=F.called_set.notType
 have h2:=F.called_set.canCreate
 have hct:=F.typeCall_set_1 (.ref l)
 repeat (any_goals (first | assumption | wp_step))
 refine codeAny_mono (code_set_new_1 (.ref l) (E:=E) (Q₁:=fun obj s₁=>∃ led : Bool,obj = .ref s.heap.objs.size∧s₁ = { s with heap:=s.heap.push (zhj led) }) fun led=>⟨led,rfl,rfl⟩) fun r s₁ hr=>?_
 cases r with
 | error e=>exact hr
 | ok fl=>
  cases fl with
  | ret obj=>
   obtain ⟨led,rfl,rfl⟩:=hr
   have hS : (s.heap.push (zhj led)).get? s.heap.objs.size = some (zhj led):=yaz _ rfl
   have hT : Shared.TypeIs { s with heap:=s.heap.push (zhj led) } (.ref s.heap.objs.size) "set":=⟨_,hS,rfl⟩
   have hli:=F.called_set.init.lookup
   have hbi:=F.called_set.init.bind (.ref s.heap.objs.size)
   repeat (any_goals (first | assumption | wp_step))
   refine codeAny_mono (codeAny_call_builtin (R:=wants (fun r s₂=>r = .none∧∃ h' tk,s₂ = { s with heap:=h',toks:=tk }∧
     h'.SetOf (intKind prog w) s.heap.objs.size (fun k'=>(firstMet (fun i=>ns.getD i 0) items.size).any (· == k')) (firstMet (fun i=>ns.getD i 0) items.size).length∧
     (∀ b o,b < s.heap.objs.size→s.heap.get? b = some o→h'.get? b = some o)) E) F.called_set.init.plain F.entry_set_init (check_set_init_1 hT ?_)) fun r₂ s₂ hr₂=>?_
   ·obtain ⟨ol,hol,hcl,nl,hdl⟩:=hl
    obtain ⟨ocls,odict,odata,oslots⟩:=ol
    simp only at hcl hdl
    subst hcl; subst hdl
    have there : (s.heap.push (zhj led)).get? l = some { cls:=.type "tuple",dict:=odict,data:=.seq items nl,slots:=oslots }:=yai _ hol
    have hsls:=zit
    have hslf:=zgg
    have hne : (Value.type "tuple" == Value.type "dict") = false:=by decide
    have hl1 : (s.heap.push (zhj led)).IsTuple l items:=⟨_,there,rfl,nl,rfl⟩
    unfold Builtin.«set.__init__» noKeywords Builtin.Frozenset.updateFrom
    generalize hPI : pyIter = PI
    wp_walk
    subst hPI
    refine wpAny_pyIter_tuple hl1 ?_
    refine wpAny_bind (wpAny_runValue ?_)
    have hlS : l < s.heap.objs.size:=yae hol
    have h3 : A.in1.in1.in1.handled = none:=by simp [hh]
    have hsz : (s.heap.push (zhj led)).objs.size = s.heap.objs.size + 1:=yb0 ..
    have hneI : l≠(s.heap.push (zhj led)).objs.size:=by
     rw [hsz]
     exact yaq (Nat.lt_succ_of_lt hlS)
    have hSf : s.heap.objs.size∉[(s.heap.push (zhj led)).objs.size,l]:=by
     rw [hsz]
     simp only [yak,yaV,or_false,not_or]
     exact ⟨yaq (yb1 _),ybh hlS⟩
    have hval : ∀ (i : Nat) (v : Value),items[i]? = some v→∃ t,v = .int ((fun i=>ns.getD i 0) i) t:=fun i v hv=>
     IntsAre.int_at hi i v (by rw [yaT]; exact hv)
    refine codeAny_set_update_loopS ((Walks.tuple h3 _ l hneI items).toS) s.heap.objs.size
     hSf (fun i=>ns.getD i 0) hval hb (items.size - 0) 0 _ (by omega) (yaE _)
     ⟨⟨_,yaz _ rfl,rfl,rfl⟩,(hl1.push _)⟩ ?hS0 ?hR
    case hS0=>
     exact SetOf_congr ((setObjOf_fresh (knd:=intKind prog w) led).setOf (yai _ hS) (by unfold scanBound; omega)) (fun _=>rfl) rfl
    case hR=>
     intro s' hm hS'
     obtain ⟨h',g',d',tk',os'⟩:=s'
     have eg : g' = s.gens:=hm.gens
     have ed : d' = s.drawn:=hm.drawn
     have eo : os' = s.os:=hm.os
     subst eg; subst ed; subst eo
     show wpAny _ _ _ _ _ _
     refine wpAny_pure ?_
     show wpAny _ _ (ret Value.none) _ _ _
     refine wpAny_pure ⟨rfl,h',tk',rfl,hS',fun b o hb e=>?_⟩
     refine hm.heap b o ?_ (yai _ (yai _ e))
     rw [hsz]
     simp only [yak,yaV,or_false,not_or]
     exact ⟨yaq hb,yaq (Nat.lt_succ_of_lt hb)⟩
   ·cases r₂ with
    | error e=>exact hr₂
    | ok fl₂=>
     cases fl₂ with
     | ret r=>
      obtain ⟨rfl,h',tk,rfl,hS',hk'⟩:=hr₂
      repeat (any_goals (first | assumption | wp_step))
      exact h _ _ hS' hk'
     | _=>exact hr₂.elim
  | _=>exact hr.elim
end
section
variable {X : Cx}
def zrA (K : Frag) : List V→Hp→VK→Prop:=fun xs H Q=>∃ (p : Addr) (ns : List Int),xs = [.ref p]∧SqT K H p (ns.map V.int)∧ns.length≤1000∧
 ∀ l,H l = none→Q (.ref l) (upd H l (.set (fun k=>(metI ns).any (· == k)) (metI ns).length))
theorem zm2 (hc : X.calm = true) : zdl X (.type "set") (zrA X.K):=by
 intro pins s σ H xs us Q I r h
 obtain ⟨p,ns,rfl,hq,hz,q⟩:=h
 obtain ⟨u,rfl,rx⟩:=zfy r
 cases rx
 obtain ⟨its,rv,pl,_⟩:=I.tuple hq
 have hl:=rv.length
 rw [yab] at hl
 refine zkq (ns:=ns) (I.ok.hd hc) (show s.heap.IsTuple p its.toArray from pl) (by simpa using zch rv) (by unfold scanBound; simp only [yat]; omega) fun h' tk hS hk=>?_
 have e : its.toArray.size = ns.length:=by simp only [yat]; omega
 rw [e] at hS
 exact ⟨.ref s.heap.objs.size,_,I.laid (a:=s.heap.objs.size) (o:=.set _ _) (t':=tk) (fun b o eb=>hk b o (yae eb) eb) (yaa _) hS,rfl,q _ (I.hok.fresh (yaa _))⟩
theorem zeO : zdl X (.builtin "isinstance") (fun xs H Q=>∃ a p,xs = [.ref a,.ref p]∧H p = some (.tup [.ty "list",.ty "tuple"])∧((∃ ys,H a = some (.lst ys))∨∃ ys,H a = some (.tup ys))∧Q (.bl true) H):=by
 intro pins s σ H xs us Q I r h
 obtain ⟨a,p,rfl,hp,ha,q⟩:=h
 obtain ⟨u,w',rfl,r1,r2⟩:=zgP r
 cases r1
 cases r2
 obtain ⟨_,its,rv,⟨oc,od,odt,osl⟩,h1,h2,n,h3⟩:=(show zbe X.prog X.w H s.heap p (.tup [.ty "list",.ty "tuple"]) from I.hok p _ hp)
 have h2 : oc = .type "tuple":=h2
 have h3 : odt = .seq its.toArray n:=h3
 subst h2 h3
 obtain ⟨c1,c2,rfl,e1,e2⟩:=zgP rv
 have e1 : c1 = .type "list":=e1
 have e2 : c2 = .type "tuple":=e2
 subst e1 e2
 have fin : ∀ tk,(fun v s'=>∃ x H',Inv X pins σ H' s'∧RelV x v∧Q x H') (Value.bool true) { s with toks:=tk }:=fun tk=>⟨.bl true,H,I.tok tk,rfl,q⟩
 rcases ha with ⟨ys,ha⟩ | ⟨ys,ha⟩
 ·obtain ⟨_,_,n,_,g1⟩:=(show zbe X.prog X.w H s.heap a (.lst ys) from I.hok a _ ha)
  exact PySem.W.kia_tup PySem.W.kitx_list I.kIn ⟨_,g1,rfl⟩ h1 (b:=true) (by rfl) (fun z=>nomatch z) fin
 ·obtain ⟨_,_,_,o,g1,g2,_⟩:=(show zbe X.prog X.w H s.heap a (.tup ys) from I.hok a _ ha)
  exact PySem.W.kia_tup PySem.W.kitx_tuple I.kIn ⟨o,g1,g2⟩ h1 (b:=true) (by rfl) (fun z=>nomatch z) fin
end
end L2
namespace HT
open PySem PySem.Spec PyProof.Rows
section
variable {prog : Program} {w : World} {A : Around} {E : Value→Shared→Prop} {s : Shared}
theorem getItem_tuple_all {t sl : Addr} {items : Array Value} {vl vu : Value} {lo hi : Option Int} {Q : Value→Shared→Prop} (ht : IsTup s.heap t items) (hs : s.heap.IsSliceOf sl vl vu .none) (pl : IsPart vl lo) (pu : IsPart vu hi)
  (hw : sIx items.size 0 lo = 0∧sIx items.size items.size hi = items.size) (h : Q (.ref t) s) : wpAny (model prog w) A (getItem (.ref t) (.ref sl)) Q E s:=by
 obtain ⟨os,hos,hcs,hds⟩:=id hs
 have hTs : s.TypeIs (.ref sl) "slice":=⟨os,hos,hcs⟩
 unfold getItem
 try with_reducible refine wpAny_holding ?_
 first | refine wpAny_bind (wpAny_pure ?_) | skip
 refine wpAny_bind (wpAny_sequenceKey ht.typeIs (by decide) ?_)
 refine wpAny_bind (wpAny_callSpecial?_slot (name:=Str.ofString "__getitem__") ht.typeIs PyProof.Rows.slot_tuple_getitem (wpAny_call_entry PyProof.Rows.slot_tuple_getitem ht.typeIs entry_tuple_getitem ?_ (args_tuple_getitem _ _)))
 show wpAny _ _ (Builtin.Tuple.tupleItemsOf (.ref t) >>= _) _ _ s
 refine wpAny_bind (tupleItemsOf_ ht ?_)
 refine wpAny_bind (wpAny_typeOf hTs ?_)
 rw [if_pos (by decide)]
 refine wpAny_bind (zcY hs pl pu ?_)
 have yes : (((sIx items.size 0 lo : Nat) : Int) == 0 && (1 : Int) == 1 && (sIx items.size items.size hi - sIx items.size 0 lo) == items.size) = true:=by
  rw [hw.1,hw.2]
  simp
 show wpAny _ _ (if (((sIx items.size 0 lo : Nat) : Int) == 0 && (1 : Int) == 1 && (sIx items.size items.size hi - sIx items.size 0 lo) == items.size) = true then _ else _) _ _ s
 rw [if_pos yes]
 refine wpAny_bind ?_
 unfold Builtin.Tuple.tupleIsExact
 refine wpAny_bind (wpAny_typeOf ht.typeIs ?_)
 refine wpAny_pure ?_
 rw [if_pos (by decide)]
 exact wpAny_bind (wpAny_rule (wpAny_pure ⟨_,rfl,wpAny_pure h⟩))
end
end HT
namespace L2
open PySem PySem.Spec PyProof.Rows
section
variable {X : Cx}
def rSlX (K : Frag) : V→Option Int→Option Int→Hp→VK→Prop:=fun x lo hi H Q=>∃ a xs,x = .ref a∧SqT K H a xs∧
 ((HT.sIx xs.length 0 lo = 0∧HT.sIx xs.length xs.length hi = xs.length)→Q (.ref a) H)∧(¬ (HT.sIx xs.length 0 lo = 0∧HT.sIx xs.length xs.length hi = xs.length)→∀ p,H p = none→Q (.ref p) (upd H p (.tup (cutV xs lo hi))))
theorem zeC : SlR X (rSlX X.K):=by
 intro pins s σ H x v vl vu lo hi sl Q I rx hs pl pu h
 obtain ⟨a,xs,e,hx,q1,q2⟩:=h
 by_cases hw : HT.sIx xs.length 0 lo = 0∧HT.sIx xs.length xs.length hi = xs.length
 ·subst e
  cases rx
  obtain ⟨its,r,ht,hz⟩:=I.tuple hx
  have hlen : its.toArray.size = xs.length:=by rw [yat]; exact r.length.symm
  refine ⟨"tuple",_,PyProof.Rows.slot_tuple_getitem.lookup,ht.typeIs,?_⟩
  exact HT.getItem_tuple_all ht hs pl pu (by rw [hlen]; exact hw) ⟨.ref a,H,I,rfl,q1 hw⟩
 ·exact zqt pins s σ H x v vl vu lo hi sl Q I rx hs pl pu ⟨a,xs,e,hx,hw,q2 hw⟩
def zqy (K : Frag) : R2:=fun x y H Q=>∃ a b xs ys,x = .ref a∧y = .ref b∧SqT K H a xs∧SqT K H b ys∧ys≠[]∧xs.length + ys.length≤sizeLine∧
 (xs = []→Q (.ref b) H)∧(xs≠[]→∀ p,H p = none→Q (.ref p) (upd H p (.tup (xs ++ ys))))
theorem ziE : OpR X (binaryOp .Add) (zqy X.K):=by
 intro pins s σ H x y v u Q I rx ry h
 obtain ⟨a,b,xs,ys,e1,e2,ha,hb,hy,hz,q1,q2⟩:=h
 by_cases hx : xs = []
 ·subst e1 e2
  cases rx
  cases ry
  obtain ⟨its,r1,p1,_⟩:=I.tuple ha
  obtain ⟨its2,r2,p2,_⟩:=I.tuple hb
  obtain ⟨⟨cls,dd,data,sl⟩,ho,hc,n,hd⟩:=id p1
  obtain ⟨⟨cls2,dd2,data2,sl2⟩,ho2,hc2,n2,hd2⟩:=id p2
  simp only at hc hd hc2 hd2
  subst hc hd hc2 hd2
  have hv : its = []:=r1.nil_iff.mpr hx
  exact concat_meets ⟨_,ho,rfl⟩ ⟨_,ho2,rfl⟩ noFill_tuple_add seq_tuple_add PySem.F.slot_tuple_add PySem.F.entry_tuple_add (PySem.F.args_tuple_add_2 _ _)
   (tuple_addW0 a b its.toArray its2.toArray n n2 dd dd2 sl sl2 (by simp [hv])) ⟨ho,ho2,.ref b,H,I,rfl,q1 hx⟩
 ·exact zhg pins s σ H x y v u Q I rx ry ⟨a,b,xs,ys,e1,e2,ha,hb,hx,hz,fun z=>absurd z hy,fun _=>q2 hx⟩
end
end L2
namespace L2
open PySem PySem.Spec PyProof.Rows PySem.SeqAt
def hasO (o : Option Int) (v : V) : Prop:=match o with
 | none=>v = .non
 | some i=>v = .int i
instance : Rep (Option Int) where
 dec:=inferInstance
 depth:=0
 has:=fun _ _ o v=>hasO o v
 mono:=fun _ h=>h
 inj:=fun {_ _ _ _ _ a b v} _ h1 h2=>by
  cases a <;> cases b
  ·rfl
  ·have h1 : v = .non:=h1
   have h2 : v = .int _:=h2
   rw [h1] at h2
   cases h2
  ·have h1 : v = .int _:=h1
   have h2 : v = .non:=h2
   rw [h1] at h2
   cases h2
  ·have h1 : v = .int _:=h1
   have h2 : v = .int _:=h2
   rw [V.int.inj (h1.symm.trans h2)]
 rc:=fun {_ _ _ _ _ _ a b x y u v} _ _ h1 h2 r1 r2=>by
  cases a with
  | none=>
   have h1 : x = .non:=h1
   subst h1
   obtain rfl : u = .none:=r1
   cases b with
   | none=>
    have h2 : y = .non:=h2
    subst h2
    obtain rfl : v = .none:=r2
    exact RcAt.none_none
   | some j=>
    have h2 : y = .int j:=h2
    subst h2
    obtain ⟨t,rfl⟩:=r2
    exact RcAt.none_int _ _
  | some i=>
   have h1 : x = .int i:=h1
   subst h1
   obtain ⟨t,rfl⟩:=r1
   cases b with
   | none=>
    have h2 : y = .non:=h2
    subst h2
    obtain rfl : v = .none:=r2
    exact RcAt.int_none _ _
   | some j=>
    have h2 : y = .int j:=h2
    subst h2
    obtain ⟨t',rfl⟩:=r2
    have e : decide (some i = some j) = (i == j):=by
     by_cases z : i = j
     ·subst z; simp
     ·rw [yaf (fun q=>z (yad q)),beq_eq_false_iff_ne.mpr z]
    have:=RcAt.int_int (A:=‹Around›) (s:=‹Shared›) i t j t'
    rw [← e] at this
    exact this
 rn:=fun {_ _ _ _ _ _ a b x y u v} _ _ h1 h2 r1 r2=>by
  cases a with
  | none=>
   have h1 : x = .non:=h1
   subst h1
   obtain rfl : u = .none:=r1
   cases b with
   | none=>
    have h2 : y = .non:=h2
    subst h2
    obtain rfl : v = .none:=r2
    exact RcNeAt.none_none
   | some j=>
    have h2 : y = .int j:=h2
    subst h2
    obtain ⟨t,rfl⟩:=r2
    exact RcNeAt.none_int _ _
  | some i=>
   have h1 : x = .int i:=h1
   subst h1
   obtain ⟨t,rfl⟩:=r1
   cases b with
   | none=>
    have h2 : y = .non:=h2
    subst h2
    obtain rfl : v = .none:=r2
    exact RcNeAt.int_none _ _
   | some j=>
    have h2 : y = .int j:=h2
    subst h2
    obtain ⟨t',rfl⟩:=r2
    have e : decide (some i = some j) = (i == j):=by
     by_cases z : i = j
     ·subst z; simp
     ·rw [yaf (fun q=>z (yad q)),beq_eq_false_iff_ne.mpr z]
    have:=RcNeAt.int_int (A:=‹Around›) (s:=‹Shared›) i t j t'
    rw [← e] at this
    exact this
 eq:=fun {_ _ _ _ _ _ a b x y u v} _ _ h1 h2 r1 r2=>by
  cases a with
  | none=>
   have h1 : x = .non:=h1
   subst h1
   obtain rfl : u = .none:=r1
   cases b with
   | none=>
    have h2 : y = .non:=h2
    subst h2
    obtain rfl : v = .none:=r2
    exact EqAt.same _
   | some j=>
    have h2 : y = .int j:=h2
    subst h2
    obtain ⟨t,rfl⟩:=r2
    exact EqAt.none_int _ _
  | some i=>
   have h1 : x = .int i:=h1
   subst h1
   obtain ⟨t,rfl⟩:=r1
   cases b with
   | none=>
    have h2 : y = .non:=h2
    subst h2
    obtain rfl : v = .none:=r2
    exact EqAt.int_none _ _
   | some j=>
    have h2 : y = .int j:=h2
    subst h2
    obtain ⟨t',rfl⟩:=r2
    have e : decide (some i = some j) = (i == j):=by
     by_cases z : i = j
     ·subst z; simp
     ·rw [yaf (fun q=>z (yad q)),beq_eq_false_iff_ne.mpr z]
    have:=EqAt.int_int (A:=‹Around›) (s:=‹Shared›) i t j t'
    rw [← e] at this
    exact this
structure Tup (α : Type) where
 l : List α
theorem Tup.ext' {α : Type} {a b : Tup α} (h : a.l = b.l) : a = b:=by
 cases a
 cases b
 cases h
 rfl
instance {α : Type} [DecidableEq α] : DecidableEq (Tup α):=fun a b=>if h : a.l = b.l then .isTrue (Tup.ext' h) else .isFalse fun z=>h (by rw [z])
def hasT {α : Type} [Rep α] (K : Frag) (H : Hp) (t : Tup α) (v : V) : Prop:=∃ a xs,v = .ref a∧SqT K H a xs∧zal K H t.l xs
section
variable {α : Type} [r : Rep α] {X : Cx} {pins : List (Addr×Obj)} {σ : St} {H : Hp} {s : Shared} {A : Around} {as bs : Tup α} {x y : V} {u v : Value}
theorem zj3 (I : Inv X pins σ H s) (h1 : hasT X.K H as x) (h2 : hasT X.K H bs x) : as = bs:=by
 obtain ⟨a,xs,rfl,q1,h1⟩:=h1
 obtain ⟨b,ys,e,q2,h2⟩:=h2
 cases e
 rw [I.tuple_inj q2 q1] at h2
 exact Tup.ext' (h1.inj I h2)
theorem zlf {as bs : List α} (n m : Nat) (hn : as.length = n) (hm : bs.length = m) : ((List.range (min n m)).all (fun j=>decide (as[j]? = bs[j]?)) && n == m) = decide (as = bs):=by
 by_cases hl : as.length = bs.length
 ·have e:=zeR as bs hl
  have z : min n m = as.length:=by omega
  rw [z,e,beq_iff_eq.mpr (by omega : n = m),ycg]
 ·rw [yaf (fun z=>hl (by rw [z])),beq_eq_false_iff_ne.mpr (by omega : n≠m),Bool.and_false]
theorem zmQ : decide (as = bs) = decide (as.l = bs.l):=by
 by_cases h : as.l = bs.l
 ·rw [yag h,yag (Tup.ext' h)]
 ·rw [yaf h,yaf (fun z=>h (by rw [z]))]
theorem zmA (I : Inv X pins σ H s) (hu : A.units + (Rep.depth α + 1) < cLine) (h1 : hasT X.K H as x) (h2 : hasT X.K H bs y) (r1 : RelV x u) (r2 : RelV y v) : RcAt A s u v (decide (as = bs)):=by
 obtain ⟨a,xs,rfl,q1,h1⟩:=h1
 obtain ⟨b,ys,rfl,q2,h2⟩:=h2
 cases r1
 cases r2
 obtain ⟨us,ru,pu,_⟩:=I.tuple q1
 obtain ⟨vs,rv,pv,_⟩:=I.tuple q2
 have l1:=ru.length
 have l2:=rv.length
 have m1:=h1.length
 have m2:=h2.length
 have hin : A.in1.units + Rep.depth α < cLine:=yaX (ybk zbS _) (by omega)
 have:=RcAt.tuples (A:=A) (s:=s) (l:=a) (b:=b) (items:=us.toArray) (items2:=vs.toArray) (e:=fun j=>decide (as.l[j]? = bs.l[j]?)) pu pv (by omega) (zfs I hin h1 h2 ru rv)
 rw [zlf (as:=as.l) (bs:=bs.l) us.toArray.size vs.toArray.size (by simp; omega) (by simp; omega),← zmQ] at this
 exact this
theorem zpN (I : Inv X pins σ H s) (hu : A.units + (Rep.depth α + 1) < cLine) (h1 : hasT X.K H as x) (h2 : hasT X.K H bs y) (r1 : RelV x u) (r2 : RelV y v) : RcNeAt A s u v (!decide (as = bs)):=by
 obtain ⟨a,xs,rfl,q1,h1⟩:=h1
 obtain ⟨b,ys,rfl,q2,h2⟩:=h2
 cases r1
 cases r2
 obtain ⟨us,ru,pu,_⟩:=I.tuple q1
 obtain ⟨vs,rv,pv,_⟩:=I.tuple q2
 have l1:=ru.length
 have l2:=rv.length
 have m1:=h1.length
 have m2:=h2.length
 have hin : A.in1.units + Rep.depth α < cLine:=yaX (ybk zbS _) (by omega)
 have:=RcNeAt.tuples (A:=A) (s:=s) (l:=a) (b:=b) (items:=us.toArray) (items2:=vs.toArray) (e:=fun j=>decide (as.l[j]? = bs.l[j]?)) pu pv (by omega) (zfs I hin h1 h2 ru rv)
 rw [zlf (as:=as.l) (bs:=bs.l) us.toArray.size vs.toArray.size (by simp; omega) (by simp; omega),← zmQ] at this
 exact this
theorem zpO (I : Inv X pins σ H s) (hu : A.units + (Rep.depth α + 1) < cLine) (h1 : hasT X.K H as x) (h2 : hasT X.K H bs y) (r1 : RelV x u) (r2 : RelV y v) : EqAt A s u v (decide (as = bs)):=by
 have rc:=zmA (A:=A) I hu h1 h2 r1 r2
 have h1':=id h1
 have h2':=id h2
 obtain ⟨a,xs,rfl,q1,h1⟩:=h1
 obtain ⟨b,ys,rfl,q2,h2⟩:=h2
 cases r1
 cases r2
 by_cases hab : a = b
 ·subst hab
  rw [yag (zj3 I h1' h2')]
  exact EqAt.same _
 ·exact EqAt.of_refs hab rc
end
instance {α : Type} [Rep α] : Rep (Tup α) where
 dec:=inferInstance
 depth:=Rep.depth α + 1
 has:=hasT
 mono:=fun e ⟨a,xs,h1,h2,h3⟩=>⟨a,xs,h1,h2.ext e,h3.mono e⟩
 inj:=fun I h1 h2=>zj3 I h1 h2
 rc:=fun I hu h1 h2 r1 r2=>zmA I hu h1 h2 r1 r2
 rn:=fun I hu h1 h2 r1 r2=>zpN I hu h1 h2 r1 r2
 eq:=fun I hu h1 h2 r1 r2=>zpO I hu h1 h2 r1 r2
end L2
namespace L2
open PySem PySem.Spec PyProof.Rows
structure zhy (scope : Scope) (ps caps : List Str) : Prop where
 kind : scope.kind = .function
 co : scope.isCoroutine = false
 gen : scope.isGenerator = false
 nocell : ∀ x∈scope.names,x.2≠.cell
 par : ∀ x∈ps,scope.names.lookup x = some .local
 cap : ∀ x∈caps,scope.names.lookup x = some .free
 nd : (ps ++ caps).Nodup
def zoh (P : Program) (w : World) (K : Frag) (mg : Str→Option Value) (base : Heap) (N : List Str) (qual : Str) (scope : Scope) (f : Addr) (cd : Value) (cl : List (Str×Addr)) (A : Around) (outer : List Env) (s : Shared) (H : Hp) : Cx where
 prog:=P
 w:=w
 K:=K
 mg:=mg
 base:=base
 A:=A.deeper (PySem.W.envX qual scope s.heap.objs.size f cd cl)
 N:=N
 s₀:=s
 H₀:=H
 env:=PySem.W.envX qual scope s.heap.objs.size f cd cl
 outer:=outer
 stack:=PySem.W.envX qual scope s.heap.objs.size f cd cl :: outer
 ex:=[]
 calm:=true
 fn:=fun _=>false
 pn:=[]
 xe:=fun _ _=>False
def zmZ (c : Addr) (q : Str) : Heap→Prop:=fun h=>h.CodeRec (.ref c) q
def zgM (H : Hp) (c : Addr) (q : Str) : Prop:=H c = some (.ext (zmZ c q))
theorem zkV {c : Addr} {q : Str} (h1 h2 : Heap) (x : zmZ c q h1) (k : ∀ o,h1.get? c = some o→h2.get? c = some o) : zmZ c q h2:=by
 obtain ⟨c',o,vs,t,e,ho,r⟩:=x
 cases e
 exact ⟨c,o,vs,t,rfl,k o ho,r⟩
theorem zgM.rec {P : Program} {w : World} {H : Hp} {h : Heap} {c : Addr} {q : Str} (x : zgM H c q) (ok : HOk P w H h) : h.CodeRec (.ref c) q:=(ok c _ x).1
theorem zgq {x : Str} {u : Value} : ∀ {ps : List Str} {us : List Value} {i : Nat},ps.Nodup→ps[i]? = some x→us[i]? = some u→(ps.zip us).reverse.lookup x = some u
 | [],_,_,_,e,_=>by simp at e
 | _ :: _,[],_,_,_,e=>by simp at e
 | p :: ps,v :: us,0,hn,e1,e2=>by
  have e1 : p = x:=by simpa using e1
  have e2 : v = u:=by simpa using e2
  subst e1 e2
  rw [ycv,ycj,List.lookup_append]
  have z : (ps.zip us).reverse.lookup p = none:=by
   rw [List.lookup_eq_none_iff]
   intro y hy
   have:=ybJ (ybS.mp hy)
   simp only [beq_eq_false_iff_ne,ne_eq,bne_iff_ne]
   intro q
   rw [yaS] at hn
   first
    | exact hn.1 (q ▸ this.1)
    | (rw [q] at hn; exact hn.1 this.1)
  rw [z]
  simp
 | p :: ps,v :: us,i + 1,hn,e1,e2=>by
  rw [yaS] at hn
  have ih:=zgq (ps:=ps) (us:=us) (i:=i) hn.2 (by simpa using e1) (by simpa using e2)
  rw [ycv,ycj,List.lookup_append,ih]
  rfl
def zpa (n : Nat) (tb : TE) (vcs : List V) (c : Addr) (q : Str) : Sp:=fun vs H Q _=>vs.length = n∧zgM H c q∧tb (vs.map some ++ vcs.map some) H Q
theorem zq3 {P : Program} {w : World} {K : Frag} {mg : Str→Option Value} {base : Heap} {k : Nat} {f c : Addr} {name qual : Str} {params : Arguments} {body : Expr} {scope : Scope} {cl : List (Str×Addr)} {pm ctv : Value} {ps caps : List Str} {vcs : List V} {tb : TE}
  (S : zhy scope ps caps) (hf : base.get? f = some (PySem.W.kla_obj name qual params body scope cl pm c ctv)) (hlen : vcs.length = caps.length)
  (hcap : ∀ (j : Nat) (x : Str) (v : V),caps[j]? = some x→vcs[j]? = some v→∃ a u,cl.lookup x = some a∧base.IsCell a (some u)∧RelV v u)
  (hcell : ∀ x a,cl.lookup x = some a→∃ v,base.IsCell a v) (hinj : ∀ x y a,cl.lookup x = some a→cl.lookup y = some a→x = y) (hhas : ∀ x,scope.names.lookup x = some .free→∃ a,cl.lookup x = some a)
  (hb : ∀ (A : Around) (outer : List Env) (s : Shared) (H : Hp),Room k (A.deeper (PySem.W.envX qual scope s.heap.objs.size f (.ref c) cl))→PE (zoh P w K mg base (ps ++ caps) qual scope f (.ref c) cl A outer s H) body tb) :
  FnOk P w K mg base CX0 (k + 1) f (PySem.W.kla_fn name qual params body scope cl pm (.ref c) ctv) ps (zpa ps.length tb vcs c qual):=by
 refine ⟨fun vs H Q E h=>h.1,fun A outer s H args us vs Q E hr e0 hbind r hsp=>?_⟩
 obtain ⟨hl,hc,hq⟩:=hsp
 have bk : ∀ b o,base.get? b = some o→s.heap.get? b = some o:=fun b o e=>(e0.bs b o e).1
 have hul : us.length = ps.length:=by rw [← r.length]; exact hl
 refine PySem.W.kla_callFunE hr.depth (bk _ _ hf) rfl S.co S.gen rfl (hc.rec e0.hok) ?_
 refine hbind _ _ _ _ ?_
 refine wpAny_newFunctionEnv S.nocell (fun y hy=>S.par _ (ybJ hy).1) (fun h1 hns hsb=>⟨(e0.mod.nolimit.keeps bk).fresh _ hsb,?_⟩) S.kind
 show codeAny _ _ (.expr body (PySem.W.envX qual scope s.heap.objs.size f (.ref c) cl)) _ _
 have hk : ∀ b o,s.heap.get? b = some o→h1.get? b = some o:=fun b o e=>hsb.extBut b o (yaq (yae e)) (yai _ e)
 have cellK : ∀ a v,base.IsCell a v→h1.IsCell a v∧H a = none:=fun a v ⟨o,ho,hd⟩=>⟨⟨o,hk _ _ (bk _ _ ho),hd⟩,(e0.bs _ _ ho).2⟩
 have ndps : ps.Nodup:=(ybe.mp S.nd).1
 have noA : ∀ b : Addr,b∉([] : List Addr):=fun b z=>absurd z (by simp)
 have I : Inv (zoh P w K mg base (ps ++ caps) qual scope f (.ref c) cl A outer s H) [] (vs.map some ++ vcs.map some) H { s with heap:=h1,toks:=s.toks + (ps.zip us).length }:=by
  refine ⟨⟨e0.mod,S.kind,rfl,rfl,yaa _,hinj,fun y hy=>?_,fun y a z _=>(by cases z),fun _=>hr.hd,Around.frames_deeper e0.frames,.inr ⟨rfl,rfl⟩,fun b z=>absurd z (noA b),e0.bs,e0.bsz,fun b _ _=>noA b,fun b z=>absurd z (noA b),e0.funs,e0.frf⟩,
   rfl,e0.bare,Un.kept hk,⟨_,hns,fun i y v h1' h2 h3=>?_⟩,fun y a h=>?_,e0.hok.fresh (yaa _),fun y a h=>?_,fun p hp=>absurd (show p∈([] : List (Addr×Obj)) from hp) (by simp),e0.hok.kept hk,?_⟩
  ·have hy : scope.names.lookup y = some .cell∨scope.names.lookup y = some .free:=hy
   rcases hy with hy | hy
   ·exact absurd rfl (S.nocell _ (PySem.mem_of_lookup hy))
   ·exact hhas y hy
  ·have h1' : (ps ++ caps)[i]? = some y:=h1'
   by_cases hi : i < ps.length
   ·rw [ybi hi] at h1'
    rw [ybi (by rw [yab]; omega),yau] at h2
    cases e : vs[i]? with
    | none=>rw [e] at h2; cases h2
    | some v'=>
     rw [e] at h2
     cases h2
     obtain ⟨u,hu,ru⟩:=r.get e
     exact ⟨u,ru,.inl ⟨S.par y (yaJ h1'),zgq ndps h1' hu⟩⟩
   ·rw [ya4 (by omega)] at h1'
    rw [ya4 (by rw [yab]; omega),yab,yau] at h2
    cases e : vcs[i - vs.length]? with
    | none=>rw [e] at h2; cases h2
    | some v'=>
     rw [e] at h2
     cases h2
     rw [hl] at e
     obtain ⟨a,u,e1,e2,ru⟩:=hcap _ _ _ h1' e
     exact ⟨u,ru,.inr ⟨.inr (S.cap y (yaJ h1')),a,e1,(cellK _ _ e2).1⟩⟩
  ·obtain ⟨v,z⟩:=hcell y a h
   exact ⟨v,(cellK _ _ z).1⟩
  ·obtain ⟨v,z⟩:=hcell y a h
   exact (cellK _ _ z).2
  ·show (vs.map some ++ vcs.map some).length = (ps ++ caps).length
   rw [yam,yam,yab,yab,hl,hlen]
 refine PySem.W.kla_codeExpr (wpAny_mono (hb A outer s H (hr.deeper _) [] _ _ H Q I hq) (fun u s' hu=>?_) fun _ _ z=>(show False from z).elim)
 obtain ⟨v,H',J,rv,q⟩:=hu
 exact ⟨v,H',J.os,J.bare,J.base,J.hok,rv,q⟩
end L2
namespace L2
open PySem PySem.Spec PyProof.Rows
def Gro (Pt : Addr) (H H' : Hp) : Prop:=∀ b o,b≠Pt→H b = some o→H' b = some o
theorem Gro.refl (Pt : Addr) (H : Hp) : Gro Pt H H:=fun _ _ _ h=>h
structure zbE (H : Hp) (Pt : Addr) (pos : Pos) (q : Str) : Prop where
 ex : ∃ tab : Array Value,H Pt = some (.tbl tab)∧TriplesOk tab.toList∧(codeAmong pos tab.toList = none∨∃ c,codeAmong pos tab.toList = some (.ref c)∧zgM H c q)
theorem zbE.ext {H H' : Hp} {Pt : Addr} {pos : Pos} {q : Str} (x : zbE H Pt pos q) (e : Ext H H') : zbE H' Pt pos q:=by
 obtain ⟨tab,h1,h2,h3⟩:=x.ex
 refine ⟨tab,e _ _ h1 (fun _ z=>nomatch z),h2,?_⟩
 rcases h3 with h3 | ⟨c,h3,h4⟩
 ·exact .inl h3
 ·exact .inr ⟨c,h3,e _ _ h4 (fun _ z=>nomatch z)⟩
def BMAt (mg : Str→Option Value) (base : Heap) : Prop:=∃ bm o,mg "__builtins__" = some (.ref bm)∧bm≠builtinsNs∧bm≠mainGlobals∧base.get? bm = some o∧o.cls = .type "module"∧o.dict = some builtinsNs∧o.data = .plain
section
variable {X : Cx} {pins : List (Addr×Obj)} {σ : St} {H : Hp} {s : Shared} {params : Arguments} {body : Expr} {scope : Scope} {lpos : Pos} {c Pt : Addr} {Q : Value→Shared→Prop}
theorem zn9 {c' : Addr} {q : Str} {tab more : Array Value} {h' : Heap} {tk : Nat} (I : Inv X pins σ H s) (hP : H Pt = some (.tbl tab)) (hx : ∀ b o,b≠Pt→s.heap.get? b = some o→h'.get? b = some o) (hge : s.heap.objs.size≤c')
  (hrec : h'.CodeRec (.ref c') q) (htb : h'.get? Pt = some (PySem.W.tabObj (tab ++ more))) : Inv X pins σ (upd (upd H Pt (.tbl (tab ++ more))) c' (.ext (zmZ c' q))) { s with heap:=h',toks:=tk }:=by
 have hfr : H c' = none:=I.hok.fresh hge
 have nPc : Pt≠c':=zad hP hfr
 have low : ∀ b u,H b = some u→b≠c':=fun b u e=>zad e hfr
 have lows : ∀ b o,s.heap.get? b = some o→b≠c':=fun b o e=>yaq (yaw (yae e) hge)
 have nP : ∀ b,H b = none→b≠Pt:=fun b n z=>by rw [z,hP] at n; cases n
 refine I.un (t':=tk) ⟨fun b o e n _ _=>hx b o (nP b n) e,fun b o e n _ _=>⟨o.slots,hx b o (nP b n) e⟩,fun b o e n _=>?_,fun b o e _=>?_,fun b xs e=>?_,fun b o u e=>?_,fun b ps e=>?_⟩ fun a o e=>?_
 ·rw [zah (lows b o e),zah (nP b n)]
  exact n
 ·by_cases z : b = Pt
  ·exact ⟨_,by rw [z]; exact htb⟩
  ·exact ⟨o,hx b o z e⟩
 ·rw [zah (low b _ e),zah (fun z=>by rw [z,hP] at e; cases e)]
  exact e
 ·rw [zah (low b _ e),zah (fun z=>by rw [z,hP] at e; cases e)]
  exact e
 ·by_cases z : b = Pt
  ·rw [z,hP] at e
   cases e
   exact ⟨more,by rw [z,zah nPc,zab]⟩
  ·exact ⟨#[],by rw [zah (low b _ e),zah z,e]; simp⟩
 ·by_cases z : a = c'
  ·subst z
   rw [zab] at e
   cases e
   obtain ⟨c2,o2,vs,t,e2,ho2,r2⟩:=id hrec
   cases e2
   exact ⟨hrec,⟨o2,ho2⟩,fun h1 h2 x k=>zkV h1 h2 x k⟩
  ·rw [zah z] at e
   by_cases y : a = Pt
   ·subst y
    rw [zab] at e
    cases e
    exact htb
   ·rw [zah y] at e
    refine (I.hok a o e).stay (fun b u hb q=>hx b u ?_ q) (fun b q=>?_) fun b xs q=>?_
    ·rcases hb with rfl | hb
     ·exact y
     ·intro z2
      rw [z2,hP] at hb
      cases hb
    ·rw [zah (low b _ q),zah (fun z2=>by rw [z2,hP] at q; cases q)]
     exact q
    ·rw [zah (low b _ q),zah (fun z2=>by rw [z2,hP] at q; cases q)]
     exact q
theorem zn0 (I : Inv X pins σ H s) (hdef : defaultsOf params X.env = ([],[])) (hfr : ∀ x,(x,NameKind.free)∈scope.names→(X.env.kindOf x = some .cell∨X.env.kindOf x = some .free)) (hcode : X.env.code = .ref c) (hC : codeHdIn X.K c Pt = true) (hBM : BMAt X.mg X.base)
  (hT : zbE H Pt lpos (X.env.qual ++ "<lambda>"))
  (h : ∀ (f c' : Addr) (cl : List (Str×Addr)) (pm ctv : Value) (H' : Hp) (s' : Shared),zim scope X.env cl→Inv X pins σ H' s'→s'.heap.get? f = some (PySem.W.kla_obj "<lambda>" (X.env.qual ++ "<lambda>") params body scope cl pm c' ctv)→H' f = none→s.heap.objs.size≤f→
   Gro Pt H H'→zbE H' Pt lpos (X.env.qual ++ "<lambda>")→zgM H' c' (X.env.qual ++ "<lambda>")→Q (.ref f) s') :
  wpAny (model X.prog X.w) X.A (eval (.Lambda params body scope lpos) X.env) Q X.xe s:=by
 obtain ⟨cl,hcl⟩:=zf6 (scope:=scope) (env:=X.env) fun x hx=>I.ok.has x (hfr x hx)
 obtain ⟨tab,hP,ht,hor⟩:=hT.ex
 have hPo : s.heap.get? Pt = some (PySem.W.tabObj tab):=I.hok Pt _ hP
 have C : PySem.W.CodeHd s.heap c Pt:=(PySem.W.codeHd_of_K I.ok.mod.kin hC).keeps I.bk
 have hgl:=I.mod.glob.keeps I.bk
 have hgP : mainGlobals≠Pt:=fun z=>by
  obtain ⟨o,es,ep,e,_⟩:=I.mod.glob
  have:=(I.bs _ _ e).2
  rw [z,hP] at this
  cases this
 have hb : s.heap.BuiltinsAt X.mg Pt:=by
  obtain ⟨bm,o,b1,b2,b3,b4,b5⟩:=hBM
  refine ⟨bm,o,b1,b2,b3,fun z=>?_,I.bk _ _ b4,b5⟩
  have:=(I.bs _ _ b4).2
  rw [z,hP] at this
  cases this
 refine PySem.W.kla_eval hdef ?_
 rcases hor with hnone | ⟨c',hsome,hca⟩
 ·refine PySem.W.kla_makeFunction (clos:=cl) hcl.eq I.ok.glob hgl hcode C hPo ht hnone hgP hb fun c' ctv h' tk hx hge hlt hrec htb=>?_
  have hx' : ∀ o2 b o,b≠Pt→s.heap.get? b = some o→(h'.push o2).get? b = some o:=fun o2 b o n e=>yai _ (hx b o n e)
  have I':=zn9 (c':=c') (q:=X.env.qual ++ "<lambda>") (tk:=tk) I hP (hx' _) hge (hrec.push (PySem.W.kla_obj "<lambda>" (X.env.qual ++ "<lambda>") params body scope cl ((X.mg "__name__").getD .none) c' ctv)) (yai _ htb)
  have hsz : s.heap.objs.size≤h'.objs.size:=ya2 (yaX hge hlt)
  have nPc : Pt≠c':=zad hP (I.hok.fresh hge)
  have eT : (tab ++ #[rawInt lpos.line,rawInt lpos.col,.ref c']).toList = tab.toList ++ [rawInt lpos.line,rawInt lpos.col,.ref c']:=by simp
  have hTI : zbE (upd (upd H Pt (.tbl (tab ++ #[rawInt lpos.line,rawInt lpos.col,.ref c']))) c' (.ext (zmZ c' (X.env.qual ++ "<lambda>")))) Pt lpos (X.env.qual ++ "<lambda>"):=
   ⟨_,by rw [zah nPc,zab],by rw [eT]; exact TriplesOk_snoc _ _ _ _ ht,.inr ⟨c',by rw [eT]; exact codeAmong_snoc _ ht hnone,zab⟩⟩
  refine h h'.objs.size c' cl _ ctv _ _ hcl I' (yaz _ rfl) ?_ hsz ?_ hTI zab
  ·rw [zah (ybh hlt),zah (fun z=>?_)]
   ·exact I.hok.fresh hsz
   ·have:=yae hPo
    rw [← z] at this
    exact absurd this (Nat.not_lt.mpr hsz)
  ·intro b o n e
   rw [zah (zad e (I.hok.fresh hge)),zah n]
   exact e
 ·refine PySem.W.kla_makeFunctionHit (clos:=cl) hcl.eq I.ok.glob hgl hcode C hPo ht hsome hb fun ctv h' tk hk hsz=>?_
  exact h h'.objs.size c' cl _ ctv H _ hcl (I.kept (t':=tk) fun b o e=>yai _ (hk b o e)) (yaz _ rfl) (I.hok.fresh hsz) hsz (Gro.refl _ _) hT hca
end
end L2
namespace L2
open PySem PySem.Spec PyProof.Rows
def zev (X : Cx) (s : Shared) (H : Hp) : Heap:=PySem.W.hideAll s.heap (trk s.heap H ++ frs X.stack)
theorem zfZ {h b1 b2 : Heap} : ∀ {l : List Env},h.FunFrames b1 l→(∀ b∈frs l,b2.get? b = none)→h.FunFrames b2 l
 | [],_,_=>trivial
 | env :: l,⟨h1,⟨L,o,h2,h3,h4,h5⟩,h6⟩,k=>by
  have m : ∀ b∈frs l,b∈frs (env :: l):=fun b hb=>by
   unfold frs
   rw [ybI,h2]
   exact yaD _ hb
  refine ⟨h1,⟨L,o,h2,k L ?_,h4,h5⟩,zfZ h6 fun b hb=>k b (m b hb)⟩
  unfold frs
  rw [ybI,h2]
  exact yaC
section
variable {X : Cx} {pins : List (Addr×Obj)} {σ : St} {H : Hp} {s : Shared}
theorem zeP {b : Addr} {o : Obj} (e : s.heap.get? b = some o) (n : H b = none) (hf : b∉frs X.stack) : (zev X s H).get? b = some o:=
 PySem.W.hideAll_get _ e fun hm=>by
  rcases yaj.mp hm with z | z
  ·have q : (H b).isSome = true:=(ya8.mp z).2
   rw [n] at q
   cases q
  ·exact hf z
theorem zh0 {b : Addr} {o : Obj} (e : (zev X s H).get? b = some o) : s.heap.get? b = some o∧H b = none∧b∉frs X.stack:=by
 have e1:=PySem.W.of_hideAll _ e
 have hm : b∉trk s.heap H ++ frs X.stack:=fun z=>by
  unfold zev at e
  rw [PySem.W.hideAll_none _ z] at e
  cases e
 rw [yaj,not_or] at hm
 refine ⟨e1,?_,hm.2⟩
 cases q : H b with
 | none=>rfl
 | some u=>exact absurd (ya8.mpr ⟨ya9.mpr (yae e1),by rw [q]; rfl⟩) hm.1
theorem zkY (I : Inv X pins σ H s) : ∀ b o,X.base.get? b = some o→(zev X s H).get? b = some o:=fun b o e=>by
 obtain ⟨h1,h2⟩:=I.bs b o e
 refine zeP h1 h2 fun z=>?_
 have:=(I.stack.mem z).1
 rw [e] at this
 cases this
theorem zi7 (I : Inv X pins σ H s) : Env0 X.prog X.w X.K X.mg (zev X s H) X.A X.stack s H:=by
 have sub:=zkY I
 refine ⟨I.ok.frames,⟨I.mod.kin.keeps sub,I.mod.glob.keeps sub,?_,I.mod.nolimit.keeps sub⟩,fun b o e=>⟨(zh0 e).1,(zh0 e).2.1⟩,Nat.le_of_eq (PySem.W.hideAll_size _ _),zfZ I.stack fun b hb=>PySem.W.hideAll_none _ (yaA _ hb),I.stkFree,I.hok,I.bare⟩
 obtain ⟨mb,h1,h2⟩:=I.mod.blt
 exact ⟨mb,h1.keeps sub,h2⟩
end
structure FV (P : Program) (w : World) (K : Frag) (mg : Str→Option Value) (base : Heap) (k : Nat) (f : Addr) (ps : List Str) (sp : Sp) : Prop where
 ex : ∃ fd,FnOk P w K mg base CX0 k f fd ps sp∧zdm K fd ps []∧PySem.W.FnAt f base
section
variable {X : Cx}
def zqm (X : Cx) (kr : Nat) (tf : TE) (t : TA) : TE:=fun σ H Q=>tf σ H fun x H1=>∃ f k ps sp,x = .ref f∧FV X.prog X.w X.K X.mg X.base k f ps sp∧k≤kr∧t σ H1 fun vs H2=>sp vs H2 Q E0
theorem znA {kr : Nat} {x : Str} {e : Expr} {es : List Expr} {tf : TE} {t : TA} {p pos : Pos} (hr : Room kr X.A) (hf : PE X (.Name x p) tf) (ha : PA X (e :: es) t)
  (he : starEach (e :: es) X.env = (false,eval e X.env) :: starEach es X.env:=by rfl) (hpl : (backTo pos (starEach es X.env)).any (·.1) = false:=by rfl) : PE X (.Call (.Name x p) (e :: es) [] pos) (zqm X kr tf t):=by
 intro pins s σ H Q I h
 refine wpAny_Call_Name_kw (thn (hf pins s σ H _ I h) fun u s1 ⟨x1,H1,I1,r1,q1⟩=>?_)
 obtain ⟨f,k,ps,sp,rfl,hF,hk,q⟩:=q1
 cases r1
 obtain ⟨fd,ok,bd,oc,od,fd2,sl,ho⟩:=hF.ex
 refine PySem.W.callWith_F ⟨oc,od,fd2,sl,I1.bk _ _ ho⟩ (thn (ha pos pins s1 σ H1 _ I1 q) fun us s2 ⟨vs,H2,I2,r,q2⟩=>⟨⟨oc,od,fd2,sl,I2.bk _ _ ho⟩,?_⟩) he hpl
 exact zjw ok (hr.mono hk) bd .nil zlT I2 r (by rw [yaH]; exact q2)
structure zqb (X : Cx) (params : Arguments) (body : Expr) (scope : Scope) (ps caps : List Str) (cap : List Nat) : Prop where
 sc : zhy scope ps caps
 frees : ∀ x,(x,NameKind.free)∈scope.names→(X.env.kindOf x = some .cell∨X.env.kindOf x = some .free)
 capAt : ∀ (j : Nat) (x : Str),caps[j]? = some x→∃ i : Nat,cap[j]? = some i∧X.N[i]? = some x∧(X.env.kindOf x = some .cell∨X.env.kindOf x = some .free)
 dflt : defaultsOf params X.env = ([],[])
 binds : ∀ (cl : List (Str×Addr)) (pm cdv ct : Value) (us : List Value),us.length = ps.length→bindArgs (PySem.W.kla_fn "<lambda>" (X.env.qual ++ "<lambda>") params body scope cl pm cdv ct) ⟨us,[]⟩ = pure (ps.zip us)
 own : ∀ x,X.fn x = true
theorem zrJ {pins : List (Addr×Obj)} {σ : St} {H : Hp} {s : Shared} {params : Arguments} {body : Expr} {scope : Scope} {ps caps : List Str} {cap : List Nat} {f c' : Addr} {cl : List (Str×Addr)} {pm ctv : Value} {vcs : List V} {tb : TE} {k n : Nat} (I : Inv X pins σ H s) (L : zqb X params body scope ps caps cap) (hcl : zim scope X.env cl)
  (ho : s.heap.get? f = some (PySem.W.kla_obj "<lambda>" (X.env.qual ++ "<lambda>") params body scope cl pm c' ctv)) (hn : H f = none) (hfr : ∀ b∈frs X.stack,b < n) (hge : n≤f)
  (hv : vcs.length = caps.length) (hvs : ∀ (j i : Nat) (v : V),cap[j]? = some i→vcs[j]? = some v→σ[i]? = some (some v))
  (hb : ∀ (base : Heap) (f : Addr) (cd : Value) (cl : List (Str×Addr)) (A : Around) (outer : List Env) (s : Shared) (H : Hp),Room k (A.deeper (PySem.W.envX (X.env.qual ++ "<lambda>") scope s.heap.objs.size f cd cl))→PE (zoh X.prog X.w X.K X.mg base (ps ++ caps) (X.env.qual ++ "<lambda>") scope f cd cl A outer s H) body tb) :
  FV X.prog X.w X.K X.mg (zev X s H) (k + 1) f ps (zpa ps.length tb vcs c' (X.env.qual ++ "<lambda>")):=by
 have nf : f∉frs X.stack:=fun z=>absurd (yaw (hfr f z) hge) (ybg _)
 have hbf:=zeP (X:=X) ho hn nf
 have cellB : ∀ x a v,X.env.cells.lookup x = some a→s.heap.IsCell a v→(zev X s H).IsCell a v:=fun x a v e ⟨o,h1,h2⟩=>by
  refine ⟨o,zeP h1 (I.freeC x a e) fun z=>?_,h2⟩
  rcases yak.mp (I.stkSub a z) with y | y
  ·exact I.cne x a e y
  ·obtain ⟨_,o2,h3,_⟩:=I.ok.funs.mem y
   exact absurd (yaw (yae h3) (I.ok.cab x a (L.own x) e)) (ybg _)
 refine ⟨_,zq3 L.sc hbf hv (fun j x v h1 h2=>?_) (fun x a e=>?_) (fun x y a h1 h2=>I.ok.inj x y a (hcl.sub x a h1) (hcl.sub y a h2)) (fun x e=>?_) (fun A outer s H hr=>hb _ f _ cl A outer s H hr),.all (L.binds cl pm (.ref c') ctv),⟨_,_,_,_,hbf⟩⟩
 ·obtain ⟨i,e1,e2,e3⟩:=L.capAt j x h1
  obtain ⟨m,hm,hl⟩:=I.loc
  obtain ⟨u,ru,lk⟩:=hl i x v e2 (hvs j i v e1 h2) (by
   rcases e3 with z | z
   ·exact .inr (.inl z)
   ·exact .inr (.inr z))
  rcases lk with ⟨z,_⟩ | ⟨_,a,e4,e5⟩
  ·rcases e3 with y | y
   ·rw [y] at z; cases z
   ·rw [y] at z; cases z
  ·obtain ⟨a',e6⟩:=hcl.has x (PySem.mem_of_lookup (L.sc.cap x (yaJ h1)))
   have e7:=hcl.sub x a' e6
   rw [e4] at e7
   cases e7
   exact ⟨a,u,e6,cellB x a _ e4 e5,ru⟩
 ·obtain ⟨v,z⟩:=I.cell x a (hcl.sub x a e)
  exact ⟨v,cellB x a v (hcl.sub x a e) z⟩
 ·exact hcl.has x (PySem.mem_of_lookup e)
def znm (X : Cx) (n kf : Nat) (ps : List Str) (cap : List Nat) (Pt : Addr) (lpos : Pos) (tb te : TE) (spH : Heap→Sp) : TE:=fun σ H Q=>te σ H fun x1 H1=>zbE H1 Pt lpos (X.env.qual ++ "<lambda>")∧∃ vcs : List V,vcs.length = n∧(∀ (j i : Nat) (v : V),cap[j]? = some i→vcs[j]? = some v→σ[i]? = some (some v))∧
 ∀ (base : Heap) (f c' : Addr) (H2 : Hp),Gro Pt H1 H2→zbE H2 Pt lpos (X.env.qual ++ "<lambda>")→zgM H2 c' (X.env.qual ++ "<lambda>")→FV X.prog X.w X.K X.mg base kf f ps (zpa ps.length tb vcs c' (X.env.qual ++ "<lambda>"))→spH base [x1,.ref f] H2 Q E0
theorem zkv {x q1 q2 : Str} {e1 : Expr} {params : Arguments} {body : Expr} {scope : Scope} {lpos p pos : Pos} {te tb : TE} {spH : Heap→Sp} {j k kf : Nat} {c Pt : Addr} {ps caps : List Str} {cap : List Nat}
  (F : ∀ base,FC X.prog X.w X.K X.mg base j x [q1,q2] (spH base)) (hr : Room k X.A) (h1 : PE X e1 te) (L : zqb X params body scope ps caps cap) (hcode : X.env.code = .ref c) (hC : codeHdIn X.K c Pt = true) (hBM : BMAt X.mg X.base)
  (hb : ∀ (base : Heap) (f : Addr) (cd : Value) (cl : List (Str×Addr)) (A : Around) (outer : List Env) (s : Shared) (H : Hp),Room kf (A.deeper (PySem.W.envX (X.env.qual ++ "<lambda>") scope s.heap.objs.size f cd cl))→PE (zoh X.prog X.w X.K X.mg base (ps ++ caps) (X.env.qual ++ "<lambda>") scope f cd cl A outer s H) body tb)
  (hjk : j≤k:=by decide) (hg : Gl X x:=by rfl) (hdb : (x == ("__debug__" : Str)) = false:=by decide) (he : starEach [e1,.Lambda params body scope lpos] X.env = (false,eval e1 X.env) :: starEach [.Lambda params body scope lpos] X.env:=by rfl)
  (he2 : starEach [.Lambda params body scope lpos] X.env = [(false,eval (.Lambda params body scope lpos) X.env)]:=by rfl) (hpl : (backTo pos (starEach [.Lambda params body scope lpos] X.env)).any (·.1) = false:=by rfl) :
  PE X (.Call (.Name x p) [e1,.Lambda params body scope lpos] [] pos) (znm X caps.length (kf + 1) ps cap Pt lpos tb te spH):=by
 intro pins s σ H Q I h
 obtain ⟨g,fd,_,_,kp,m,oc,od,osl,lk⟩:=(F X.base).ex
 refine wpAny_Call_Name_kw (zhp I hg m ?_ hdb)
 refine PySem.W.callWith_K (h₀:=X.base) I.ok.mod.kin kp ?_ he hpl
 rw [he]
 show wpAny _ _ (spliced ((false,eval e1 X.env) :: backTo pos (starEach [.Lambda params body scope lpos] X.env))) _ _ s
 refine Calls.spliced_cons (thn (h1 pins s σ H _ I h) fun u s1 ⟨x1,H1,I1,r1,q1⟩=>?_)
 obtain ⟨hT,vcs,hv,hvs,q⟩:=q1
 rw [he2]
 show wpAny _ _ (spliced ((false,eval (.Lambda params body scope lpos) X.env) :: [])) _ _ s1
 refine Calls.spliced_cons (zn0 I1 L.dflt L.frees hcode hC hBM hT fun f c' cl pm ctv H2 s2 hcl I2 ho hn hge hgr hT2 hca=>?_)
 refine Calls.spliced_nil ⟨I2.kIn,?_⟩
 have hF:=zrJ (k:=kf) (n:=s1.heap.objs.size) I2 L hcl ho hn (fun b hb=>by
  obtain ⟨_,o,e,_⟩:=I1.stack.mem hb
  exact yae e) hge hv hvs hb
 have hsp:=q (zev X s2 H2) f c' H2 hgr hT2 hca hF
 obtain ⟨g2,fd2,ok,bd,_,m2,_⟩:=(F (zev X s2 H2)).ex
 rw [m] at m2
 cases m2
 have r2 : Vals [x1,.ref f] [u,.ref f]:=.cons r1 (.cons rfl .nil)
 refine wpAny_call (codeAny_mono (ok.run X.A X.stack s2 H2 ⟨[u,.ref f],[]⟩ [u,.ref f] [x1,.ref f] Q E0 (hr.mono hjk) (zi7 I2) (bd s2 [u,.ref f] I2.kIn rfl) r2 hsp) fun r s' hq=>?_)
 cases r with
 | error e=>exact False.elim hq
 | ok fl=>
  cases fl with
  | ret u=>exact I2.after hq
  | next=>exact False.elim hq
  | brk=>exact False.elim hq
  | cont=>exact False.elim hq
end
end L2
namespace L2
open PySem PySem.Spec PyProof.Rows
theorem zmm {P : Program} {w : World} {K : Frag} {mg mb : Str→Option Value} {CX : CXT} {k : Nat} {fa a : Addr} {fd : FuncData} {x : Str} {sp : Sp} {s₁ : Shared} {vs : List Value} {ns : List Int} {tabs : List (Addr×Addr)}
  (KX : K.In s₁.heap) (hns : s₁.heap.Ns mainGlobals mg) (hb : s₁.heap.Ns builtinsNs mb) (hbb : ∀ x : Str,x ≠ "__name__"→mb x = bootBuiltins x) (hlim : s₁.heap.NoLimit) (hg : s₁.gens = #[]) (hBM : BMAt mg s₁.heap)
  (hT : PySem.W.TabsAt tabs s₁.heap) (hKT : ∀ q∈tabs,K.lookup q.2 = none)
  (ha : s₁.heap.get? a = some { cls:=.type "list",data:=.seq vs.toArray }) (hi : IntsAre vs ns) (hl : ns.length≤sizeLine) (hr : Room k callerA)
  (F : ∀ base : Heap,K.In base→base.Ns mainGlobals mg→BMAt mg base→FnOk P w K mg base CX k fa fd [x] sp) (hbind : ∀ (s : Shared) (u : Value),BindsTo s fd ⟨[u],[]⟩ [(x,u)])
  (hsp : ∀ H : Hp,(∀ q∈tabs,H q.2 = some (.tbl #[]))→SqL K H a (ns.map V.int)→sp [.ref a] H (fun v _=>v = .bl true) fun _ _ _=>False)
  (hCX : ∀ H e s',CX [] H s₁ (fun _ _ _=>False) e s'→False) :
  codeAny (model P w) callerA (.call (.ref fa) ⟨[.ref a],[]⟩) (fun r s'=>r = .ok (.ret (.bool true))∧OldK s₁.heap s'.heap∧s'.os = s₁.os∧AllBare s'.gens) s₁:=by
 have rv:=zhB hi
 have lenV:=hi.length
 have tabO : ∀ b,b∈tabs.map (·.2)→s₁.heap.get? b = some (PySem.W.tabObj #[])∧isCodeTable s₁.heap b∧K.lookup b = none:=fun b hm=>by
  obtain ⟨q,hq,rfl⟩:=yaB.mp hm
  exact ⟨(hT q hq).2,((hT q hq).1.tab (hT q hq).2).isCodeTable,hKT q hq⟩
 have nat : a∉tabs.map (·.2):=fun z=>by
  have:=(tabO a z).1
  rw [ha] at this
  cases this
 have core : ∀ Hs : Hp,(∀ b,Hs b = none∨(b = a∧Hs b = some (.frz { cls:=.type "list",data:=.seq vs.toArray } (.lst (ns.map V.int)))))→(∀ H : Hp,(∀ b,b∉tabs.map (·.2)→H b = Hs b)→SqL K H a (ns.map V.int))→(Hs a≠none→K.lookup a = none)→
   codeAny (model P w) callerA (.call (.ref fa) ⟨[.ref a],[]⟩) (fun r s'=>r = .ok (.ret (.bool true))∧OldK s₁.heap s'.heap∧s'.os = s₁.os∧AllBare s'.gens) s₁:=by
  intro Hs hO hS hK
  obtain ⟨H,hH⟩ : ∃ H : Hp,H = fun b=>if b∈tabs.map (·.2) then some (.tbl #[]) else Hs b:=⟨_,rfl⟩
  have H1 : ∀ b,b∈tabs.map (·.2)→H b = some (.tbl #[]):=fun b z=>by rw [hH]; exact if_pos z
  have H2 : ∀ b,b∉tabs.map (·.2)→H b = Hs b:=fun b z=>by rw [hH]; exact if_neg z
  have cases3 : ∀ b,H b = none∨(b = a∧H b = some (.frz { cls:=.type "list",data:=.seq vs.toArray } (.lst (ns.map V.int))))∨(b∈tabs.map (·.2)∧H b = some (.tbl #[])):=fun b=>by
   by_cases z : b∈tabs.map (·.2)
   ·exact .inr (.inr ⟨z,H1 b z⟩)
   ·rcases hO b with y | ⟨y1,y2⟩
    ·exact .inl ((H2 b z).trans y)
    ·exact .inr (.inl ⟨y1,(H2 b z).trans y2⟩)
  have hok : HOk P w H s₁.heap:=fun b u e=>by
   rcases cases3 b with y | ⟨y1,y2⟩ | ⟨y1,y2⟩
   ·rw [y] at e; cases e
   ·rw [y2] at e
    cases e
    subst y1
    exact ⟨ha,by rw [yab]; exact hl,vs,_,rv,ha⟩
   ·rw [y2] at e
    cases e
    exact (tabO b y1).1
  have base_of : ∀ {b : Addr} {o : Obj},s₁.heap.get? b = some o→H b = none→(hidT s₁.heap H).get? b = some o:=fun e n=>zn6 e n
  have noD : ∀ {b : Addr} {o : Obj},s₁.heap.get? b = some o→(∀ xs n,o.data≠.seq xs n)→(∀ xs,o.data≠.fields xs)→H b = none:=fun {b o} e d1 d2=>by
   rcases cases3 b with y | ⟨y1,y2⟩ | ⟨y1,y2⟩
   ·exact y
   ·subst y1
    rw [ha] at e
    cases e
    exact absurd rfl (d1 _ _)
   ·rw [(tabO b y1).1] at e
    cases e
    exact absurd rfl (d2 _)
  have nsK : ∀ {b : Addr} {m : Str→Option Value},s₁.heap.Ns b m→(hidT s₁.heap H).Ns b m:=fun {b m} ⟨o,es,ep,e,d,r⟩=>⟨o,es,ep,base_of e (noD e (fun _ _ z=>by rw [d] at z; cases z) (fun _ z=>by rw [d] at z; cases z)),d,r⟩
  have hKb : K.In (hidT s₁.heap H):=fun b o e=>base_of (KX b o e) (by
   rcases cases3 b with y | ⟨y1,y2⟩ | ⟨y1,y2⟩
   ·exact y
   ·subst y1
    rw [hK (by rw [← H2 b nat,y2]; exact fun z=>nomatch z)] at e
    cases e
   ·rw [(tabO b y1).2.2] at e
    cases e)
  have hM : Mod K mg (hidT s₁.heap H):=⟨hKb,nsK hns,⟨mb,nsK hb,hbb⟩,let ⟨mc,h1,h2⟩:=hlim; ⟨mc,nsK h1,h2⟩⟩
  have hBMb : BMAt mg (hidT s₁.heap H):=by
   obtain ⟨bm,o,b1,b2,b3,b4,b5,b6,b7⟩:=hBM
   exact ⟨bm,o,b1,b2,b3,base_of b4 (noD b4 (fun _ _ z=>by rw [b7] at z; cases z) (fun _ z=>by rw [b7] at z; cases z)),b5,b6,b7⟩
  have e0 : Env0 P w K mg (hidT s₁.heap H) callerA [] s₁ H:=⟨rfl,hM,fun b o e=>zpE e,Nat.le_of_eq (zmz _ _),trivial,fun b hb=>absurd (show b∈([] : List Addr) from hb) (by simp),hok,.of_eq hg⟩
  refine codeAny_mono ((F _ hKb (nsK hns) hBMb).run callerA [] s₁ H ⟨[.ref a],[]⟩ [.ref a] [.ref a] _ _ hr e0 (hbind s₁ (.ref a)) (.cons rfl .nil) (hsp H (fun q hq=>H1 _ (List.mem_map_of_mem hq)) (hS H H2))) fun r s' h=>?_
  cases r with
  | error e=>exact (hCX H e s' h).elim
  | ok fl=>
   cases fl with
   | next=>exact False.elim h
   | brk=>exact False.elim h
   | cont=>exact False.elim h
   | ret u=>
    obtain ⟨v,H',os,bare,un,hok',r',q⟩:=h
    have q' : v = .bl true:=q
    subst q'
    obtain rfl : u = Value.bool true:=r'
    have keep : ∀ b o,H b = none→s₁.heap.get? b = some o→s'.heap.get? b = some o:=fun b o n e=>un.keep b o e n (by intro z; exact absurd (show b∈([] : List Addr) from z) (by simp)) (by simp)
    have frz : ∀ b o,b = a→H b = some (.frz { cls:=.type "list",data:=.seq vs.toArray } (.lst (ns.map V.int)))→s₁.heap.get? b = some o→s'.heap.get? b = some o:=fun b o y1 y2 e=>by
     obtain ⟨e1,_⟩:=hok b _ y2
     obtain ⟨e2,_⟩:=hok' b _ (un.frzs b _ _ y2)
     rw [e] at e1
     cases e1
     exact e2
    have tbl : ∀ b,H b = some (.tbl #[])→∃ ps,s'.heap.get? b = some (PySem.W.tabObj ps):=fun b y=>by
     obtain ⟨more,e⟩:=un.tbls b _ y
     exact ⟨_,hok' b _ e⟩
    refine ⟨rfl,⟨fun b o e=>?_,fun b o e=>?_⟩,os,bare⟩
    ·rcases cases3 b with y | ⟨y1,y2⟩ | ⟨y1,y2⟩
     ·exact .inl (keep b o y e)
     ·exact .inl (frz b o y1 y2 e)
     ·obtain ⟨ps,hp⟩:=tbl b y2
      obtain ⟨t1,t2,_⟩:=tabO b y1
      rw [e] at t1
      cases t1
      exact .inr (.inl ⟨t2,rfl,#[],ps,rfl,by rw [Array.empty_append]; exact hp⟩)
    ·rcases cases3 b with y | ⟨y1,y2⟩ | ⟨y1,y2⟩
     ·exact ⟨o,keep b o y e⟩
     ·exact ⟨o,frz b o y1 y2 e⟩
     ·obtain ⟨ps,hp⟩:=tbl b y2
      exact ⟨_,hp⟩
 cases hk : K.lookup a with
 | some o=>
  have e:=KX a o hk
  rw [ha] at e
  cases e
  exact core (fun _=>none) (fun _=>.inl rfl) (fun H _=>.inr ⟨_,vs.toArray,_,hk,rfl,rfl,rfl,by rw [yat,lenV]; exact hl,by simpa using rv⟩) fun z=>absurd rfl z
 | none=>
  refine core (fun b=>if b = a then some (.frz { cls:=.type "list",data:=.seq vs.toArray } (.lst (ns.map V.int))) else none) (fun b=>?_) (fun H h=>.inl (.inr ⟨{ cls:=.type "list",data:=.seq vs.toArray },by rw [h a nat]; exact if_pos rfl⟩)) fun _=>hk
  by_cases z : b = a
  ·exact .inr ⟨z,if_pos z⟩
  ·exact .inl (if_neg z)
theorem znc {l : OpenLaw} {n k : Nat} {q : Program} {loose : List Str} {XP : (Str→Option Value)→Heap→Prop} {YP : World→Heap→Prop} {d : DefRec} {K : Params→Frag} {sp : World→Sp} {x : Str} {tabs : List (Addr×Addr)}
  (hn : l.most = some n) (hn2 : n≤sizeLine) (hdf : d.params.defaults = []) (hr : Room k callerA)
  (hY : ∀ (w : World) (h : Heap),YP w h→(K w.params).In h) (hYT : ∀ (w : World) (h : Heap),YP w h→∀ q∈tabs,h.get? q.2 = some (PySem.W.tabObj #[]))
  (hC : ∀ (w : World),∀ q∈tabs,codeHdIn (K w.params) q.1 q.2 = true∧(K w.params).lookup q.2 = none)
  (F : ∀ (w : World) (mg : Str→Option Value) (fa : Addr) (h : Heap),(K w.params).In h→h.Ns mainGlobals mg→mg d.name = some (.ref fa)→
   ∃ fd : FuncData,(∀ (s : Shared) (u : Value),BindsTo s fd ⟨[u],[]⟩ [(x,u)])∧
    ∀ base : Heap,(K w.params).In base→base.Ns mainGlobals mg→BMAt mg base→FnOk l.prog w (K w.params) mg base CX0 k fa fd [x] (sp w))
  (hsp : ∀ (w : World) (H : Hp) (a : Addr) (ns : List Int),ns.length≤n→(∀ q∈tabs,H q.2 = some (.tbl #[]))→SqL (K w.params) H a (ns.map V.int)→sp w [.ref a] H (fun v _=>v = .bl true) fun _ _ _=>False) :
  PySem.W.WalkO q loose XP YP l.row.toRowW d [] (fun f vs=>PySem.call f vs):=by
 refine Att.attach_call hn hdf fun w s₀ s₁ mg mb fa o pm cd doc a vs ns G Y ho hd hcd hmg hobj hints hlen hg=>?_
 have KX:=hY w _ Y
 obtain ⟨fd,hb,hF⟩:=F w mg fa _ KX G.T.g hmg
 have hBM : BMAt mg s₁.heap:=by
  obtain ⟨bm,ob,b1,b2,b3,b4,b5,b6⟩:=G.T.bmain
  refine ⟨bm,ob,b1,b2,fun z=>?_,b3,b4,b5,b6⟩
  obtain ⟨o,es,ep,e,hd,_⟩:=G.T.g
  rw [z,e] at b3
  cases b3
  rw [hd] at b6
  cases b6
 exact zmm (tabs:=tabs) KX G.T.g G.T.b G.T.builtins G.T.nolimit hg hBM (fun q hq=>⟨PySem.W.codeHd_of_K KX (hC w q hq).1,hYT w _ Y q hq⟩) (fun q hq=>(hC w q hq).2) hobj hints (yay hlen hn2) hr hF hb (fun H hO hS=>hsp w H a ns hlen hO hS) fun H e s' z=>z
structure DFT (K : Frag) (mg : Str→Option Value) (x : Str) (st : Stmt) (ps : List Str) (c Pt : Addr) : Prop where
 ex : ∃ (f : Addr) (oc : Value) (od : Option Addr) (kV dc pm : Value) (an : Option Addr) (ct : Value) (osl : Array (Option Value)),K.lookup f = some ⟨oc,od,.func (fnOf x x (zbC st) (za2 st) (zag st) .none kV dc pm an (.ref c) ct),osl⟩∧
  codeIn K (.ref c) x = true∧keepIn K (.ref f) = true∧mg x = some (.ref f)∧zdm K (fnOf x x (zbC st) (za2 st) (zag st) .none kV dc pm an (.ref c) ct) ps []
 hd : codeHdIn K c Pt = true
theorem DFT.ok {P : Program} {w : World} {K : Frag} {mg : Str→Option Value} {base : Heap} {x : Str} {st : Stmt} {N ps : List Str} {k : Nat} {sp : Sp} {c Pt : Addr} (D : DFT K mg x st ps c Pt) (S : zan N ps (zag st)) (len : ∀ vs H Q E,sp vs H Q E→vs.length = ps.length)
  (hbody : ∀ (f : Addr) (A : Around) (outer : List Env) (s : Shared) (H : Hp) (vs : List V) (Q : VK) (E : XK),Room k (A.deeper (envOfC x (zag st) s.heap.objs.size f (.ref c)))→sp vs H Q E→
   ∃ t,PSs (cxOf CX0 P w K mg base N x (zag st) f (.ref c) A outer s H E).nox (za2 st) t∧t { nx:=fun _ H'=>Q .non H',rt:=Q } (start N vs) H) : FC P w K mg base (k + 1) x ps sp:=by
 obtain ⟨f,oc,od,kV,dc,pm,an,ct,osl,lk,hcd,kp,m,bd⟩:=D.ex
 refine ⟨f,_,zrh lk hcd S len fun A outer s H vs Q E hr hsp=>?_,bd,kp,m,oc,od,osl,lk⟩
 obtain ⟨t,h,q⟩:=hbody f A outer s H vs Q E hr hsp
 exact ⟨t,h.nox,q⟩
theorem znk {K : Frag} {x : Str} {c Pt f : Addr} {oc : Value} {od : Option Addr} {fd : FuncData} {sl : Array (Option Value)} (a : nsIn K mainGlobals x = some (some (.ref f))) (l : K.lookup f = some ⟨oc,od,.func fd,sl⟩) (t : tabIn K x = some (c,Pt)) : fd.code = .ref c:=by
 unfold tabIn at t
 rw [a] at t
 dsimp only at t
 rw [l] at t
 dsimp only at t
 split at t
 ·rename_i c2 hc
  split at t
  ·split at t
   ·cases t
    exact hc
   ·cases t
  ·cases t
 ·cases t
end L2
namespace L2
open PySem PySem.Spec PyProof.Rows
theorem zq4 {X : Cx} {params : Arguments} {body : Expr} {scope osc : Scope} {N ps caps : List Str} {cap : List Nat} (sc : zhy scope ps caps)
  (h1 : ∀ p∈scope.names,p.2 = NameKind.free→osc.names.lookup p.1 = some NameKind.cell) (h2 : ∀ p∈caps.zip cap,N[p.2]? = some p.1∧osc.names.lookup p.1 = some NameKind.cell) (hl : caps.length = cap.length)
  (ho : X.env.scope = osc) (hN : X.N = N) (d : defaultsOf params X.env = ([],[]))
  (b : ∀ (cl : List (Str×Addr)) (pm cdv ct : Value) (us : List Value),us.length = ps.length→bindArgs (PySem.W.kla_fn "<lambda>" (X.env.qual ++ "<lambda>") params body scope cl pm cdv ct) ⟨us,[]⟩ = pure (ps.zip us))
  (o : ∀ x,X.fn x = true) : zqb X params body scope ps caps cap:=by
 have hk : ∀ x,X.env.kindOf x = osc.names.lookup x:=fun x=>by
  unfold Env.kindOf
  rw [ho]
 refine ⟨sc,fun x hx=>.inl ?_,fun j x hj=>?_,d,b,o⟩
 ·rw [hk]
  exact h1 (x,.free) hx rfl
 ·have hj':=(yan.mp hj).1
  have hc : cap[j]? = some (cap[j]'(by omega)):=yac _
  have hz : (caps.zip cap)[j]? = some (x,cap[j]'(by omega)):=by
   rw [List.getElem?_zip_eq_some]
   exact ⟨hj,hc⟩
  obtain ⟨a1,a2⟩:=h2 _ (yaJ hz)
  refine ⟨_,hc,?_,.inl ?_⟩
  ·rw [hN]
   exact a1
  ·rw [hk]
   exact a2
end L2
namespace L2
open PySem PySem.Spec PyProof.Rows PySem.SeqAt
structure Tri (α β γ : Type) where
 a : α
 b : β
 c : γ
theorem Tri.ext' {α β γ : Type} : ∀ {p q : Tri α β γ},p.a = q.a→p.b = q.b→p.c = q.c→p = q
 | ⟨_,_,_⟩,⟨_,_,_⟩,rfl,rfl,rfl=>rfl
instance {α β γ : Type} [DecidableEq α] [DecidableEq β] [DecidableEq γ] : DecidableEq (Tri α β γ):=fun p q=>
 if h1 : p.a = q.a then if h2 : p.b = q.b then if h3 : p.c = q.c then .isTrue (Tri.ext' h1 h2 h3) else .isFalse fun z=>h3 (by rw [z]) else .isFalse fun z=>h2 (by rw [z]) else .isFalse fun z=>h1 (by rw [z])
theorem znd {x y z : V} {us : List Value} (r : Vals [x,y,z] us) : ∃ u v w,us = [u,v,w]∧RelV x u∧RelV y v∧RelV z w:=by
 cases r with
 | cons r1 r=>
  cases r with
  | cons r2 r=>
   cases r with
   | cons r3 r=>
    cases r
    exact ⟨_,_,_,rfl,r1,r2,r3⟩
def has3 {α β γ : Type} [Rep α] [Rep β] [Rep γ] (K : Frag) (H : Hp) (p : Tri α β γ) (v : V) : Prop:=∃ a x y z,v = .ref a∧H a = some (.tup [x,y,z])∧Rep.has K H p.a x∧Rep.has K H p.b y∧Rep.has K H p.c z
section
variable {α β γ : Type} [ra : Rep α] [rb : Rep β] [rc : Rep γ] {X : Cx} {pins : List (Addr×Obj)} {σ : St} {H : Hp} {s : Shared} {A : Around} {p q : Tri α β γ} {x y : V} {u v : Value}
theorem zj5 (I : Inv X pins σ H s) (h1 : has3 X.K H p x) (h2 : has3 X.K H q x) : p = q:=by
 obtain ⟨a,x1,x2,x3,rfl,q1,e1,e2,e3⟩:=h1
 obtain ⟨b,y1,y2,y3,e,q2,f1,f2,f3⟩:=h2
 cases e
 have z:=I.tuple_inj (SqT.of q2) (SqT.of q1)
 cases z
 exact Tri.ext' (Rep.inj I e1 f1) (Rep.inj I e2 f2) (Rep.inj I e3 f3)
theorem zlh {p q : Tri α β γ} : ((List.range (min 3 3)).all (fun j=>if j = 0 then (Rep.dec p.a q.a).decide else if j = 1 then (Rep.dec p.b q.b).decide else (Rep.dec p.c q.c).decide) && (3 == 3)) = decide (p = q):=by
 rw [show List.range (min 3 3) = [0,1,2] from rfl]
 simp only [ybK,List.all_nil,ycg,if_true,beq_self_eq_true]
 rw [if_neg (by decide),if_neg (by decide),if_neg (by decide)]
 have e1 : (Rep.dec p.a q.a).decide = decide (p.a = q.a):=rfl
 have e2 : (Rep.dec p.b q.b).decide = decide (p.b = q.b):=rfl
 have e3 : (Rep.dec p.c q.c).decide = decide (p.c = q.c):=rfl
 rw [e1,e2,e3]
 by_cases z1 : p.a = q.a
 ·by_cases z2 : p.b = q.b
  ·by_cases z3 : p.c = q.c
   ·rw [yag z1,yag z2,yag z3,yag (Tri.ext' z1 z2 z3)]
    rfl
   ·have n : ¬ p = q:=fun z=>z3 (by rw [z])
    rw [yaf z3,yaf n]
    simp
  ·have n : ¬ p = q:=fun z=>z2 (by rw [z])
   rw [yaf z2,yaf n]
   simp
 ·have n : ¬ p = q:=fun z=>z1 (by rw [z])
  rw [yaf z1,yaf n]
  simp
theorem zhF (I : Inv X pins σ H s) {B : Around} {x1 x2 x3 y1 y2 y3 : V} {u1 u2 u3 v1 v2 v3 : Value} (hin : ∀ n,n≤Rep.depth α + Rep.depth β + Rep.depth γ→B.units + n < cLine)
  (e1 : Rep.has X.K H p.a x1) (e2 : Rep.has X.K H p.b x2) (e3 : Rep.has X.K H p.c x3) (f1 : Rep.has X.K H q.a y1) (f2 : Rep.has X.K H q.b y2) (f3 : Rep.has X.K H q.c y3) (r1 : RelV x1 u1) (r2 : RelV x2 u2) (r3 : RelV x3 u3) (t1 : RelV y1 v1) (t2 : RelV y2 v2) (t3 : RelV y3 v3) :
  ∀ j (h1 : j < (#[u1,u2,u3] : Array Value).size) (h2 : j < (#[v1,v2,v3] : Array Value).size),EqAt B s (#[u1,u2,u3] : Array Value)[j] (#[v1,v2,v3] : Array Value)[j] (if j = 0 then (Rep.dec p.a q.a).decide else if j = 1 then (Rep.dec p.b q.b).decide else (Rep.dec p.c q.c).decide):=by
 have c1:=Rep.eq (A:=B) I (hin _ (by omega)) e1 f1 r1 t1
 have c2:=Rep.eq (A:=B) I (hin _ (by omega)) e2 f2 r2 t2
 have c3:=Rep.eq (A:=B) I (hin _ (by omega)) e3 f3 r3 t3
 intro j h1 h2
 have h1' : j < 3:=h1
 have z : j = 0∨j = 1∨j = 2:=by omega
 rcases z with rfl | rfl | rfl
 ·exact c1
 ·exact c2
 ·exact c3
theorem zmD (I : Inv X pins σ H s) (hu : A.units + (Rep.depth α + Rep.depth β + Rep.depth γ + 1) < cLine) (h1 : has3 X.K H p x) (h2 : has3 X.K H q y) (r1 : RelV x u) (r2 : RelV y v) : RcAt A s u v (decide (p = q)):=by
 obtain ⟨a,x1,x2,x3,rfl,q1,e1,e2,e3⟩:=h1
 obtain ⟨b,y1,y2,y3,rfl,q2,f1,f2,f3⟩:=h2
 cases r1
 cases r2
 obtain ⟨us,ru,pu,_⟩:=I.tuple (SqT.of q1)
 obtain ⟨vs,rv,pv,_⟩:=I.tuple (SqT.of q2)
 obtain ⟨u1,u2,u3,rfl,ru1,ru2,ru3⟩:=znd ru
 obtain ⟨v1,v2,v3,rfl,rv1,rv2,rv3⟩:=znd rv
 have hin : ∀ n,n≤Rep.depth α + Rep.depth β + Rep.depth γ→A.in1.units + n < cLine:=fun n hn=>yaX (ybk zbS _) (by omega)
 have:=RcAt.tuples (A:=A) (s:=s) (l:=a) (b:=b) (items:=#[u1,u2,u3]) (items2:=#[v1,v2,v3]) pu pv (by omega) (zhF (p:=p) (q:=q) I hin e1 e2 e3 f1 f2 f3 ru1 ru2 ru3 rv1 rv2 rv3)
 rw [← zlh]
 exact this
theorem zpT (I : Inv X pins σ H s) (hu : A.units + (Rep.depth α + Rep.depth β + Rep.depth γ + 1) < cLine) (h1 : has3 X.K H p x) (h2 : has3 X.K H q y) (r1 : RelV x u) (r2 : RelV y v) : RcNeAt A s u v (!decide (p = q)):=by
 obtain ⟨a,x1,x2,x3,rfl,q1,e1,e2,e3⟩:=h1
 obtain ⟨b,y1,y2,y3,rfl,q2,f1,f2,f3⟩:=h2
 cases r1
 cases r2
 obtain ⟨us,ru,pu,_⟩:=I.tuple (SqT.of q1)
 obtain ⟨vs,rv,pv,_⟩:=I.tuple (SqT.of q2)
 obtain ⟨u1,u2,u3,rfl,ru1,ru2,ru3⟩:=znd ru
 obtain ⟨v1,v2,v3,rfl,rv1,rv2,rv3⟩:=znd rv
 have hin : ∀ n,n≤Rep.depth α + Rep.depth β + Rep.depth γ→A.in1.units + n < cLine:=fun n hn=>yaX (ybk zbS _) (by omega)
 have:=RcNeAt.tuples (A:=A) (s:=s) (l:=a) (b:=b) (items:=#[u1,u2,u3]) (items2:=#[v1,v2,v3]) pu pv (by omega) (zhF (p:=p) (q:=q) I hin e1 e2 e3 f1 f2 f3 ru1 ru2 ru3 rv1 rv2 rv3)
 rw [← zlh]
 exact this
theorem zpU (I : Inv X pins σ H s) (hu : A.units + (Rep.depth α + Rep.depth β + Rep.depth γ + 1) < cLine) (h1 : has3 X.K H p x) (h2 : has3 X.K H q y) (r1 : RelV x u) (r2 : RelV y v) : EqAt A s u v (decide (p = q)):=by
 have rc:=zmD (A:=A) I hu h1 h2 r1 r2
 have h1':=id h1
 have h2':=id h2
 obtain ⟨a,x1,x2,x3,rfl,q1,e1,e2,e3⟩:=h1
 obtain ⟨b,y1,y2,y3,rfl,q2,f1,f2,f3⟩:=h2
 cases r1
 cases r2
 by_cases hab : a = b
 ·subst hab
  rw [yag (zj5 I h1' h2')]
  exact EqAt.same _
 ·exact EqAt.of_refs hab rc
end
instance {α β γ : Type} [Rep α] [Rep β] [Rep γ] : Rep (Tri α β γ) where
 dec:=inferInstance
 depth:=Rep.depth α + Rep.depth β + Rep.depth γ + 1
 has:=has3
 mono:=fun e ⟨a,x,y,z,h1,h2,h3,h4,h5⟩=>⟨a,x,y,z,h1,e _ _ h2 (fun _ z=>nomatch z),Rep.mono e h3,Rep.mono e h4,Rep.mono e h5⟩
 inj:=fun I h1 h2=>zj5 I h1 h2
 rc:=fun I hu h1 h2 r1 r2=>zmD I hu h1 h2 r1 r2
 rn:=fun I hu h1 h2 r1 r2=>zpT I hu h1 h2 r1 r2
 eq:=fun I hu h1 h2 r1 r2=>zpU I hu h1 h2 r1 r2
end L2
namespace L2
open PySem PySem.Spec PyProof.Rows
structure DM (K : Frag) (C : Addr) (m q : Str) (st : Stmt) (ps : List Str) : Prop where
 ex : ∃ f fd,Fun K m q st f fd∧zdm K fd ps []∧Meth K C m f
structure FM (P : Program) (w : World) (K : Frag) (mg : Str→Option Value) (base : Heap) (C : Addr) (k : Nat) (m : Str) (ps : List Str) (sp : Sp) : Prop where
 ex : ∃ f fd,FnOk P w K mg base CX0 k f fd ps sp∧zdm K fd ps []∧Meth K C m f
structure DI (K : Frag) (C : Addr) (q : Str) (st : Stmt) (ps : List Str) : Prop where
 ex : ∃ f fd,Fun K "__init__" q st f fd∧zdm K fd ps []∧Mk K C f
structure FI (P : Program) (w : World) (K : Frag) (mg : Str→Option Value) (base : Heap) (C : Addr) (k : Nat) (ps : List Str) (sp : Sp) : Prop where
 ex : ∃ f fd,FnOk P w K mg base CX0 k f fd ps sp∧zdm K fd ps []∧Mk K C f
section
variable {P : Program} {w : World} {K : Frag} {mg : Str→Option Value} {base : Heap} {C : Addr} {m q : Str} {st : Stmt} {N ps : List Str} {k : Nat} {sp : Sp}
theorem DM.ok (D : DM K C m q st ps) (S : zan N ps (zag st)) (len : ∀ vs H Q E,sp vs H Q E→vs.length = ps.length)
  (hbody : ∀ (f : Addr) (cdv : Value) (A : Around) (outer : List Env) (s : Shared) (H : Hp) (vs : List V) (Q : VK) (E : XK),Room k (A.deeper (envOfC q (zag st) s.heap.objs.size f cdv))→sp vs H Q E→
   ∃ t,PSs (cxOf CX0 P w K mg base N q (zag st) f cdv A outer s H E).nox (za2 st) t∧t { nx:=fun _ H'=>Q .non H',rt:=Q } (start N vs) H) : FM P w K mg base C (k + 1) m ps sp:=by
 obtain ⟨f,fd,F,b,me⟩:=D.ex
 exact ⟨f,fd,F.ok S len fun cdv A outer s H vs Q E hr h=>hbody f cdv A outer s H vs Q E hr h,b,me⟩
theorem DI.ok (D : DI K C q st ps) (S : zan N ps (zag st)) (len : ∀ vs H Q E,sp vs H Q E→vs.length = ps.length)
  (hbody : ∀ (f : Addr) (cdv : Value) (A : Around) (outer : List Env) (s : Shared) (H : Hp) (vs : List V) (Q : VK) (E : XK),Room k (A.deeper (envOfC q (zag st) s.heap.objs.size f cdv))→sp vs H Q E→
   ∃ t,PSs (cxOf CX0 P w K mg base N q (zag st) f cdv A outer s H E).nox (za2 st) t∧t { nx:=fun _ H'=>Q .non H',rt:=Q } (start N vs) H) : FI P w K mg base C (k + 1) ps sp:=by
 obtain ⟨f,fd,F,b,me⟩:=D.ex
 exact ⟨f,fd,F.ok S len fun cdv A outer s H vs Q E hr h=>hbody f cdv A outer s H vs Q E hr h,b,me⟩
end
section
variable {X : Cx} {j k : Nat} {C : Addr} {m x : Str} {ps : List Str} {sp : Sp} {o e : Expr} {es : List Expr} {ta : TE} {t : TA} {p pos apos : Pos}
theorem ziA {pl : Sem Bool} (F : FM X.prog X.w X.K X.mg X.base C j m ps sp) (c : Cls X.K C) (hr : Room k X.A) (he : PE X o ta) (ha : PA X (e :: es) t) (hjk : j≤k:=by decide)
  (hst : starEach (e :: es) X.env = (false,eval e X.env) :: starEach es X.env:=by rfl) (hpl : (backTo pos (starEach es X.env)).any (·.1) = false:=by rfl)
  (ht : eval (.Call (.Attribute o m apos) (e :: es) [] pos) X.env = (do
   let ov ← eval o X.env
   standAt apos.atName
   let (f,first) ← holding [ov] (getMethod ov m pl)
   callWith pos f first (backTo pos (starEach (e :: es) X.env)) (backToKw pos (keywordEach [] X.env))):=by rfl) :
  PE X (.Call (.Attribute o m apos) (e :: es) [] pos) (znl C m sp [] E0 ta t):=by
 obtain ⟨f,fd,ok,b,me⟩:=F.ex
 exact zpl he c me ok (hr.mono hjk) b .nil zlT ha hst hpl ht
theorem zqE {pl : Sem Bool} (F : FM X.prog X.w X.K X.mg X.base C j m ps sp) (c : Cls X.K C) (hr : Room k X.A) (he : PE X o ta) (hjk : j≤k:=by decide)
  (ht : eval (.Call (.Attribute o m apos) [] [] pos) X.env = (do
   let ov ← eval o X.env
   standAt apos.atName
   let (f,first) ← holding [ov] (getMethod ov m pl)
   callWith pos f first (backTo pos (starEach [] X.env)) (backToKw pos (keywordEach [] X.env))):=by rfl) :
  PE X (.Call (.Attribute o m apos) [] [] pos) (znl C m sp [] E0 ta tNil):=by
 obtain ⟨f,fd,ok,b,me⟩:=F.ex
 exact znw he c me ok (hr.mono hjk) b .nil zlT ht
theorem zqF (F : FI X.prog X.w X.K X.mg X.base C j ps sp) (hr : Room k X.A) (hm : X.mg x = some (.ref C)) (ha : PA X (e :: es) t) (hjk : j + 1≤k:=by decide) (hg : Gl X x:=by rfl)
  (hdb : (x == ("__debug__" : Str)) = false:=by decide) (he : starEach (e :: es) X.env = (false,eval e X.env) :: starEach es X.env:=by rfl) (hpl : (backTo pos (starEach es X.env)).any (·.1) = false:=by rfl) :
  PE X (.Call (.Name x p) (e :: es) [] pos) (zqi C sp [] E0 t):=by
 obtain ⟨f,fd,ok,b,me⟩:=F.ex
 exact zpm me ok (hr.mono hjk) hg hm b .nil zlT ha hdb he hpl
end
end L2
namespace L2
open PySem PySem.Spec PyProof.Rows
section
variable {X : Cx}
theorem zl0 (hu : X.A.units + 1 < cLine) : OpR X (compareOp .NotIn) (fun x y H Q=>∃ a o,y = .ref a∧DGet H a x o∧Q (.bl (!o.isSome)) H):=by
 intro pins s σ H x y v u Q I rx ry h
 obtain ⟨a,o,rfl,g,q⟩:=h
 cases ry
 exact zp1 hu I g rx fun s' I'=>⟨.bl _,H,I',rfl,q⟩
theorem zky {A : Around} (hu : A.units + 1 < cLine) (hA : X.A = A:=by rfl) : OpR X (compareOp .NotIn) (fun x y H Q=>∃ a o,y = .ref a∧DGet H a x o∧Q (.bl (!o.isSome)) H):=by
 subst hA
 exact zl0 hu
end
end L2
namespace L2
open PySem PySem.Spec PyProof.Rows
section
variable {X : Cx}
def zqz (K : Frag) : R2:=fun x y H Q=>∃ a b xs ys,x = .ref a∧y = .ref b∧SqT K H a xs∧SqT K H b ys∧xs.length + ys.length≤sizeLine∧
 (xs = []→Q (.ref b) H)∧(xs≠[]→(ys = []→Q (.ref a) H)∧(ys≠[]→∀ p,H p = none→Q (.ref p) (upd H p (.tup (xs ++ ys)))))
theorem zps : OpR X (binaryOp .Add) (zqz X.K):=by
 intro pins s σ H x y v u Q I rx ry h
 obtain ⟨a,b,xs,ys,e1,e2,ha,hb,hz,q1,q2⟩:=h
 by_cases hx : xs = []
 ·subst e1 e2
  cases rx
  cases ry
  obtain ⟨its,r1,p1,_⟩:=I.tuple ha
  obtain ⟨its2,r2,p2,_⟩:=I.tuple hb
  obtain ⟨⟨cls,dd,data,sl⟩,ho,hc,n,hd⟩:=id p1
  obtain ⟨⟨cls2,dd2,data2,sl2⟩,ho2,hc2,n2,hd2⟩:=id p2
  simp only at hc hd hc2 hd2
  subst hc hd hc2 hd2
  have hv : its = []:=r1.nil_iff.mpr hx
  exact concat_meets ⟨_,ho,rfl⟩ ⟨_,ho2,rfl⟩ noFill_tuple_add seq_tuple_add PySem.F.slot_tuple_add PySem.F.entry_tuple_add (PySem.F.args_tuple_add_2 _ _)
   (tuple_addW0 a b its.toArray its2.toArray n n2 dd dd2 sl sl2 (by simp [hv])) ⟨ho,ho2,.ref b,H,I,rfl,q1 hx⟩
 ·exact zhg pins s σ H x y v u Q I rx ry ⟨a,b,xs,ys,e1,e2,ha,hb,hx,hz,fun z=>(q2 hx).1 z,fun z=>(q2 hx).2 z⟩
end
end L2
set_option maxHeartbeats 4000000
namespace My
open PySem PySem.Spec PyProof.Rows L2
local macro_rules | `(tactic| walk_at "side")=>`(tactic| first | omega | (dsimp only; omega) | (simp only [CDiv,zrM,CPow,CMul]; omega) | decide)
local macro_rules | `(tactic| walk_at "rd")=>`(tactic| repeat (first | (refine ⟨_,rfl,?_⟩) | (refine ⟨_,_,rfl,rfl,?_⟩) | (refine ⟨rfl,?_⟩) | (refine ⟨(by walk_at "side"),?_⟩)))
def top (i : Nat) : Stmt:=PySem.Challenge.pw_bridgefind_k72_whole_there_and_back.main.body.getD i (.Pass ⟨0,0,0,0⟩)
abbrev zds : Stmt:=top 12
abbrev zfl : Stmt:=top 13
abbrev zdq : Stmt:=top 14
abbrev zjv : Stmt:=top 15
abbrev zbj : Stmt:=top 16
abbrev zeD : Stmt:=top 17
abbrev zcL : Stmt:=top 18
abbrev zbs : Stmt:=top 21
abbrev zfc : Stmt:=top 22
abbrev zfe : Stmt:=top 23
abbrev zck : Stmt:=top 25
abbrev zcl : Stmt:=top 26
abbrev zd4 : Stmt:=top 27
abbrev zg0 : Stmt:=top 28
abbrev zfm : Stmt:=top 29
abbrev zbb : Stmt:=top 32
abbrev zd1 : Stmt:=top 33
abbrev zcK : Stmt:=top 34
abbrev zdt : Stmt:=top 35
abbrev zd5 : Stmt:=top 36
abbrev zfd : Stmt:=top 39
abbrev zbt : Stmt:=top 40
abbrev zdp : Stmt:=top 41
abbrev zdo : Stmt:=top 42
abbrev zb0 : Stmt:=top 43
abbrev zaW : Stmt:=top 44
abbrev zcM : Stmt:=top 45
abbrev zd0 : Stmt:=top 47
abbrev zd3 : Stmt:=top 50
abbrev zd2 : Stmt:=top 51
abbrev zfg : Stmt:=top 52
abbrev zg2 : Stmt:=top 53
abbrev zff : Stmt:=top 54
abbrev zg1 : Stmt:=top 55
abbrev zfj : Stmt:=top 56
abbrev zfh : Stmt:=top 57
abbrev zdr : Stmt:=top 58
abbrev zfk : Stmt:=top 59
abbrev zfi : Stmt:=top 60
abbrev zbu : Stmt:=top 61
abbrev znr : Stmt:=top 62
abbrev zbl : Stmt:=zdQ (top 48) 0
abbrev zbv : Stmt:=zdQ (top 48) 1
abbrev zbk : Stmt:=zdQ (top 48) 2
abbrev zcN : Stmt:=zdQ (top 48) 3
abbrev zcO : Stmt:=zdQ (top 48) 4
abbrev zb1 : Stmt:=zdQ (top 48) 6
abbrev zcm : Stmt:=zdQ (top 48) 7
theorem sc_is_whole : zan ["thing"] ["thing"] (zag zds):=⟨rfl,rfl,rfl,by decide +kernel,rfl,by decide +kernel,by decide +kernel⟩
theorem sc_is_key : zan ["thing"] ["thing"] (zag zfl):=⟨rfl,rfl,rfl,by decide +kernel,rfl,by decide +kernel,by decide +kernel⟩
theorem sc_need_key : zan ["thing"] ["thing"] (zag zdq):=⟨rfl,rfl,rfl,by decide +kernel,rfl,by decide +kernel,by decide +kernel⟩
theorem sc_code : zan ["entry","key","z"] ["entry"] (zag zjv):=⟨rfl,rfl,rfl,by decide +kernel,rfl,by decide +kernel,by decide +kernel⟩
theorem sc_how_many_below : zan ["length","is_below","low","high","middle"] ["length","is_below"] (zag zbj):=⟨rfl,rfl,rfl,by decide +kernel,rfl,by decide +kernel,by decide +kernel⟩
theorem sc_place : zan ["row","key"] ["row","key"] (zag zeD):=⟨rfl,rfl,rfl,by decide +kernel,rfl,by decide +kernel,by decide +kernel⟩
theorem sc_joined_up : zan ["lists","together","entries"] ["lists"] (zag zcL):=⟨rfl,rfl,rfl,by decide +kernel,rfl,by decide +kernel,by decide +kernel⟩
theorem sc_lowest_unlike : zan ["one","other","unlike"] ["one","other"] (zag zbs):=⟨rfl,rfl,rfl,by decide +kernel,rfl,by decide +kernel,by decide +kernel⟩
theorem sc_turned : zan ["numbers","told","at","number","figure"] ["numbers"] (zag zfc):=⟨rfl,rfl,rfl,by decide +kernel,rfl,by decide +kernel,by decide +kernel⟩
theorem sc_labels : zan ["entries","numbers","turn"] ["entries"] (zag zfe):=⟨rfl,rfl,rfl,by decide +kernel,rfl,by decide +kernel,by decide +kernel⟩
theorem sc_neighbours : zan ["things","at"] ["things","at"] (zag zck):=⟨rfl,rfl,rfl,by decide +kernel,rfl,by decide +kernel,by decide +kernel⟩
theorem sc_least_free : zan ["taken"] ["taken"] (zag zcl):=⟨rfl,rfl,rfl,by decide +kernel,rfl,by decide +kernel,by decide +kernel⟩
theorem sc_colours : zan ["numbers","told","label","at"] ["numbers"] (zag zd4):=⟨rfl,rfl,rfl,by decide +kernel,rfl,by decide +kernel,by decide +kernel⟩
theorem sc_marks : zan ["entries","tints","told","colour","at"] ["entries"] (zag zg0):=⟨rfl,rfl,rfl,by decide +kernel,rfl,by decide +kernel,by decide +kernel⟩
theorem sc_handed : zan ["entries"] ["entries"] (zag zfm):=⟨rfl,rfl,rfl,by decide +kernel,rfl,by decide +kernel,by decide +kernel⟩
theorem sc_is_one_of_first : zan ["many","thing"] ["many","thing"] (zag zbb):=⟨rfl,rfl,rfl,by decide +kernel,rfl,by decide +kernel,by decide +kernel⟩
theorem sc_tree_of : zan ["parents","knot"] ["parents"] (zag zd1):=⟨rfl,rfl,rfl,by decide +kernel,rfl,by decide +kernel,by decide +kernel⟩
theorem sc_need_knot : zan ["tree","thing"] ["tree","thing"] (zag zcK):=⟨rfl,rfl,rfl,by decide +kernel,rfl,by decide +kernel,by decide +kernel⟩
theorem sc_children : zan ["tree","knot"] ["tree","knot"] (zag zdt):=⟨rfl,rfl,rfl,by decide +kernel,rfl,by decide +kernel,by decide +kernel⟩
theorem sc_beneath : zan ["tree","knot","told","other"] ["tree","knot"] (zag zd5):=⟨rfl,rfl,rfl,by decide +kernel,rfl,by decide +kernel,by decide +kernel⟩
theorem sc_row_of : zan ["things","thing"] ["things"] (zag zfd):=⟨rfl,rfl,rfl,by decide +kernel,rfl,by decide +kernel,by decide +kernel⟩
theorem sc_long_together : zan ["lists"] ["lists"] (zag zbt):=⟨rfl,rfl,rfl,by decide +kernel,rfl,by decide +kernel,by decide +kernel⟩
theorem sc_stand_of : zan ["tree","rows","told"] ["tree","rows"] (zag zdp):=⟨rfl,rfl,rfl,by decide +kernel,rfl,by decide +kernel,by decide +kernel⟩
theorem sc_with_row : zan ["stand","knot","row","rows"] ["stand","knot","row"] (zag zdo):=⟨rfl,rfl,rfl,by decide +kernel,rfl,by decide +kernel,by decide +kernel⟩
theorem sc_own_entries : zan ["stand","knot"] ["stand","knot"] (zag zb0):=⟨rfl,rfl,rfl,by decide +kernel,rfl,by decide +kernel,by decide +kernel⟩
theorem sc_full_rows_beneath : zan ["stand","knot","tree","told","at","parts"] ["stand","knot"] (zag zaW):=⟨rfl,rfl,rfl,by decide +kernel,rfl,by decide +kernel,by decide +kernel⟩
theorem sc_full_rows : zan ["stand","told"] ["stand"] (zag zcM):=⟨rfl,rfl,rfl,by decide +kernel,rfl,by decide +kernel,by decide +kernel⟩
theorem sc_without : zan ["entries","others","away","entry"] ["entries","others"] (zag zd0):=⟨rfl,rfl,rfl,by decide +kernel,rfl,by decide +kernel,by decide +kernel⟩
theorem sc_l_begin : zan ["_law_script"] ["_law_script"] (zag zd3):=⟨rfl,rfl,rfl,by decide +kernel,rfl,by decide +kernel,by decide +kernel⟩
theorem sc_l_mixed : zan ["_law_cell","_law_k","_law_one","_law_two"] ["_law_cell","_law_k"] (zag zd2):=⟨rfl,rfl,rfl,by decide +kernel,rfl,by decide +kernel,by decide +kernel⟩
theorem sc_l_take : zan ["_law_state","_law_most","_law_k","_law_script","_law_cell","_law_found"] ["_law_state","_law_most"] (zag zfg):=⟨rfl,rfl,rfl,by decide +kernel,rfl,by decide +kernel,by decide +kernel⟩
theorem sc_l_key : zan ["_law_state","_law_way"] ["_law_state"] (zag zg2):=⟨rfl,rfl,rfl,by decide +kernel,rfl,by decide +kernel,by decide +kernel⟩
theorem sc_l_tree : zan ["_law_state","_law_most","_law_way","_law_parents","_law_k"] ["_law_state","_law_most"] (zag zff):=⟨rfl,rfl,rfl,by decide +kernel,rfl,by decide +kernel,by decide +kernel⟩
theorem sc_l_row : zan ["_law_state","_law_most","_law_found","_law_k"] ["_law_state","_law_most"] (zag zg1):=⟨rfl,rfl,rfl,by decide +kernel,rfl,by decide +kernel,by decide +kernel⟩
theorem sc_l_rows : zan ["_law_state","_law_many","_law_most","_law_rows_here","_law_k","_law_row_here"] ["_law_state","_law_many","_law_most"] (zag zfj):=⟨rfl,rfl,rfl,by decide +kernel,rfl,by decide +kernel,by decide +kernel⟩
theorem sc_l_step : zan ["_law_state","_law_tree_here","_law_rows_here","_law_knot","_law_key_here"] ["_law_state","_law_tree_here","_law_rows_here"] (zag zfh):=⟨rfl,rfl,rfl,by decide +kernel,rfl,by decide +kernel,by decide +kernel⟩
theorem sc_l_behind : zan ["_law_rows_here","_law_knot","_law_key_here","_law_is_put","_law_found"] ["_law_rows_here","_law_knot","_law_key_here","_law_is_put"] (zag zdr):=⟨rfl,rfl,rfl,by decide +kernel,rfl,by decide +kernel,by decide +kernel⟩
theorem sc_l_done : zan ["_law_shelf","_law_knot","_law_key_here","_law_is_put"] ["_law_shelf","_law_knot","_law_key_here","_law_is_put"] (zag zfk):=⟨rfl,rfl,rfl,by decide +kernel,rfl,by decide +kernel,by decide +kernel⟩
theorem sc_l_seen : zan ["_law_shelf","_law_tree_here","_law_fulls"] ["_law_shelf","_law_tree_here"] (zag zfi):=⟨rfl,rfl,rfl,by decide +kernel,rfl,by decide +kernel,by decide +kernel⟩
theorem sc_l_turned_back : zan ["_law_told"] ["_law_told"] (zag zbu):=⟨rfl,rfl,rfl,by decide +kernel,rfl,by decide +kernel,by decide +kernel⟩
theorem sc_law : zan ["_law_script","_law_state","_law_tree_here","_law_rows_here","_law_shelf","_law_twin","_law_start","_law_trail","_law_k","_law_ahead","_law_knot","_law_key_here","_law_is_put","_law_told"] ["_law_script"] (zag znr):=⟨rfl,rfl,rfl,by decide +kernel,rfl,by decide +kernel,by decide +kernel⟩
theorem sc_Shelf___init__ : zan ["self","stand"] ["self","stand"] (zag zbl):=⟨rfl,rfl,rfl,by decide +kernel,rfl,by decide +kernel,by decide +kernel⟩
theorem sc_Shelf_row_for : zan ["self","knot","key"] ["self","knot","key"] (zag zbv):=⟨rfl,rfl,rfl,by decide +kernel,rfl,by decide +kernel,by decide +kernel⟩
theorem sc_Shelf_carry_up : zan ["self","knot","gone","come","told","before","after"] ["self","knot","gone","come"] (zag zbk):=⟨rfl,rfl,rfl,by decide +kernel,rfl,by decide +kernel,by decide +kernel⟩
theorem sc_Shelf_put : zan ["self","knot","key","row","at"] ["self","knot","key"] (zag zcN):=⟨rfl,rfl,rfl,by decide +kernel,rfl,by decide +kernel,by decide +kernel⟩
theorem sc_Shelf_out : zan ["self","knot","key","row","at"] ["self","knot","key"] (zag zcO):=⟨rfl,rfl,rfl,by decide +kernel,rfl,by decide +kernel,by decide +kernel⟩
theorem sc_Shelf_stand : zan ["self"] ["self"] (zag zb1):=⟨rfl,rfl,rfl,by decide +kernel,rfl,by decide +kernel,by decide +kernel⟩
theorem sc_Shelf_full : zan ["self","knot"] ["self","knot"] (zag zcm):=⟨rfl,rfl,rfl,by decide +kernel,rfl,by decide +kernel,by decide +kernel⟩
abbrev zca : List Str:=["thing"]
abbrev zc8 : List Str:=["thing"]
abbrev zcS : List Str:=["thing"]
abbrev zg8 : List Str:=["entry"]
abbrev zbc : List Str:=["length","is_below"]
abbrev zd9 : List Str:=["row","key"]
abbrev zbN : List Str:=["lists"]
abbrev zbm : List Str:=["one","other"]
abbrev zd7 : List Str:=["numbers"]
abbrev zea : List Str:=["entries"]
abbrev zbw : List Str:=["things","at"]
abbrev zb2 : List Str:=["taken"]
abbrev zdz : List Str:=["numbers"]
abbrev zfo : List Str:=["entries"]
abbrev zc9 : List Str:=["entries"]
abbrev zaM : List Str:=["many","thing"]
abbrev zdw : List Str:=["parents"]
abbrev zbM : List Str:=["tree","thing"]
abbrev zcU : List Str:=["tree","knot"]
abbrev zdA : List Str:=["tree","knot"]
abbrev zd8 : List Str:=["things"]
abbrev za4 : List Str:=["lists"]
abbrev zcR : List Str:=["tree","rows"]
abbrev zb9 : List Str:=["stand","knot","row"]
abbrev zbG : List Str:=["stand","knot"]
abbrev zaT : List Str:=["stand","knot"]
abbrev zcn : List Str:=["stand"]
abbrev zdv : List Str:=["entries","others"]
abbrev zdy : List Str:=["_law_script"]
abbrev zdx : List Str:=["_law_cell","_law_k"]
abbrev zbx : List Str:=["_law_state","_law_most"]
abbrev zef : List Str:=["_law_state"]
abbrev zeb : List Str:=["_law_state","_law_most"]
abbrev zfp : List Str:=["_law_state","_law_most"]
abbrev zee : List Str:=["_law_state","_law_many","_law_most"]
abbrev zec : List Str:=["_law_state","_law_tree_here","_law_rows_here"]
abbrev zcT : List Str:=["_law_rows_here","_law_knot","_law_key_here","_law_is_put"]
abbrev zeg : List Str:=["_law_shelf","_law_knot","_law_key_here","_law_is_put"]
abbrev zed : List Str:=["_law_shelf","_law_tree_here"]
abbrev zbn : List Str:=["_law_told"]
abbrev zjG : List Str:=["_law_script"]
abbrev zbd : List Str:=["self","stand"]
abbrev za5 : List Str:=["self","knot","key"]
abbrev zaV : List Str:=["self","knot","gone","come"]
abbrev zco : List Str:=["self","knot","key"]
abbrev zcp : List Str:=["self","knot","key"]
abbrev zbH : List Str:=["self"]
abbrev zb3 : List Str:=["self","knot"]
structure Txt (K : Frag) (mg : Str→Option Value) : Prop where
 m_abs : mg "abs" = none
 m_bool : mg "bool" = none
 m_enumerate : mg "enumerate" = none
 m_int : mg "int" = none
 m_isinstance : mg "isinstance" = none
 m_len : mg "len" = none
 m_list : mg "list" = none
 m_max : mg "max" = none
 m_min : mg "min" = none
 m_range : mg "range" = none
 m_reversed : mg "reversed" = none
 m_set : mg "set" = none
 m_sorted : mg "sorted" = none
 m_sum : mg "sum" = none
 m_tuple : mg "tuple" = none
 m_zip : mg "zip" = none
 g_KNOT_NUMBERS : ∃ t,mg "KNOT_NUMBERS" = some (.int 64 t)
 g_TURNS : ∃ t,mg "TURNS" = some (.int 5 t)
 g_MOST_KNOTS : ∃ t,mg "MOST_KNOTS" = some (.int 40 t)
 g_MOST_KEYS : ∃ t,mg "MOST_KEYS" = some (.int 300 t)
structure OwnC (K : Frag) (mg : Str→Option Value) (C : Addr) : Prop where
 cl : L2.Cls K C
 mgC : mg "Shelf" = some (.ref C)
 n_kept : ze3 K C "kept"
 n_fulls : ze3 K C "fulls"
theorem ziM (m n i j : Nat) (hi : i < 2) (hj : j < 2) : (2*m+i) &&& (2*n+j) = 2*(m &&& n) + (i &&& j):=by
 apply Nat.eq_of_testBit_eq
 intro k
 cases k with
 | zero=>
  have h1 : i = 0∨i = 1:=by omega
  have h2 : j = 0∨j = 1:=by omega
  rcases h1 with rfl | rfl <;> rcases h2 with rfl | rfl <;> simp [Nat.testBit_zero] <;> omega
 | succ k=>
  have h1 : i = 0∨i = 1:=by omega
  have h2 : j = 0∨j = 1:=by omega
  have e1 : (2*m+i)/2 = m:=by omega
  have e2 : (2*n+j)/2 = n:=by omega
  have e3 : (2*(m &&& n) + (i &&& j))/2 = m &&& n:=by
   rcases h1 with rfl | rfl <;> rcases h2 with rfl | rfl <;> simp <;> omega
  rw [Nat.testBit_and,ybC,ybC,ybC,e1,e2,e3,Nat.testBit_and]
theorem zq2 (m n i j : Nat) (hi : i < 2) (hj : j < 2) : (2*m+i) ||| (2*n+j) = 2*(m ||| n) + (i ||| j):=by
 apply Nat.eq_of_testBit_eq
 intro k
 cases k with
 | zero=>
  have h1 : i = 0∨i = 1:=by omega
  have h2 : j = 0∨j = 1:=by omega
  rcases h1 with rfl | rfl <;> rcases h2 with rfl | rfl <;> simp [Nat.testBit_zero] <;> omega
 | succ k=>
  have h1 : i = 0∨i = 1:=by omega
  have h2 : j = 0∨j = 1:=by omega
  have e1 : (2*m+i)/2 = m:=by omega
  have e2 : (2*n+j)/2 = n:=by omega
  have e3 : (2*(m ||| n) + (i ||| j))/2 = m ||| n:=by
   rcases h1 with rfl | rfl <;> rcases h2 with rfl | rfl <;> simp <;> omega
  rw [Nat.testBit_or,ybC,ybC,ybC,e1,e2,e3,Nat.testBit_or]
def lu (a b : Nat) : Nat:=if a = b then 0 else if a % 2 = b % 2 then lu (a / 2) (b / 2) + 1 else 0
termination_by a + b
decreasing_by omega
theorem ziL {a b : Nat} (hab : a≠b) (h : a % 2 = b % 2) : lu a b = lu (a / 2) (b / 2) + 1:=by
 rw [lu,if_neg hab,if_pos h]
theorem zmi {a b : Nat} (h : a % 2≠b % 2) : lu a b = 0:=by
 rw [lu]; split
 ·rfl
 ·rfl
def xr (a b : Nat) : Nat:=(a ||| b) - (a &&& b)
def zeZ (n : Nat) : Nat:=n - (n &&& (n - 1))
theorem zil (a b : Nat) : a &&& b≤a ||| b:=yay Nat.and_le_left Nat.left_le_or
theorem zrp (m n i j : Nat) (hi : i < 2) (hj : j < 2) : xr (2*m+i) (2*n+j) = 2 * xr m n + (if i = j then 0 else 1):=by
 unfold xr
 rw [zq2 m n i j hi hj,ziM m n i j hi hj]
 have q:=zil m n
 have h1 : i = 0∨i = 1:=by omega
 have h2 : j = 0∨j = 1:=by omega
 rcases h1 with rfl | rfl <;> rcases h2 with rfl | rfl <;> simp <;> omega
theorem zk2 (a b : Nat) : xr a b = 2 * xr (a / 2) (b / 2) + (if a % 2 = b % 2 then 0 else 1):=by
 have e1 : 2 * (a / 2) + a % 2 = a:=by omega
 have e2 : 2 * (b / 2) + b % 2 = b:=by omega
 have q:=zrp (a / 2) (b / 2) (a % 2) (b % 2) (by omega) (by omega)
 rw [e1,e2] at q
 exact q
theorem zou : ∀ (n a b : Nat),a + b≤n→a≠b→0 < xr a b:=by
 intro n
 induction n with
 | zero=>intro a b h1 h2; omega
 | succ n ih=>
  intro a b h1 h2
  rw [zk2]
  by_cases h : a % 2 = b % 2
  ·have:=ih (a / 2) (b / 2) (by omega) (by omega)
   omega
  ·rw [if_neg h]; omega
theorem zpI (m : Nat) : zeZ (2 * m + 1) = 1:=by
 unfold zeZ
 have q:=ziM m m 1 0 (by omega) (by omega)
 have e : 2 * m + 1 - 1 = 2 * m + 0:=by omega
 rw [e,q]
 simp
theorem znZ (m : Nat) (h : 0 < m) : zeZ (2 * m) = 2 * zeZ m:=by
 unfold zeZ
 have q:=ziM m (m - 1) 0 1 (by omega) (by omega)
 have e : 2 * m - 1 = 2 * (m - 1) + 1:=by omega
 have e' : 2 * m = 2 * m + 0:=by omega
 rw [e]
 have : (2 * m &&& 2 * (m - 1) + 1) = 2 * (m &&& m - 1) + (0 &&& 1):=q
 rw [this]
 have z : m &&& (m - 1)≤m:=Nat.and_le_left
 simp
 omega
theorem zq0 : ∀ (n a b : Nat),a + b≤n→a≠b→zeZ (xr a b) = 2 ^ lu a b:=by
 intro n
 induction n with
 | zero=>intro a b h1 h2; omega
 | succ n ih=>
  intro a b h1 h2
  rw [zk2]
  by_cases h : a % 2 = b % 2
  ·rw [if_pos h,ziL h2 h,ybp,znZ _ (zou n _ _ (by omega) (by omega)),ih _ _ (by omega) (by omega),ybT]
   omega
  ·rw [if_neg h,zmi h,zpI,Nat.pow_zero]
theorem zpG : ∀ (n a b : Nat),a + b≤n→a≠b→a % 2 ^ lu a b = b % 2 ^ lu a b∧a % 2 ^ (lu a b + 1)≠b % 2 ^ (lu a b + 1):=by
 intro n
 induction n with
 | zero=>intro a b h1 h2; omega
 | succ n ih=>
  intro a b h1 h2
  by_cases h : a % 2 = b % 2
  ·rw [ziL h2 h]
   obtain ⟨q1,q2⟩:=ih (a / 2) (b / 2) (by omega) (by omega)
   have s : ∀ x k : Nat,x % 2 ^ (k + 1) = 2 * (x / 2 % 2 ^ k) + x % 2:=by
    intro x k
    rw [ybT,Nat.mul_comm,Nat.mod_mul]
    omega
   rw [s a,s b,s a,s b]
   constructor
   ·omega
   ·omega
  ·rw [zmi h]
   simp [Nat.mod_one]
   omega
theorem zrC : ∀ (k a b : Nat),a≠b→a < 2 ^ k→b < 2 ^ k→lu a b < k:=by
 intro k
 induction k with
 | zero=>intro a b h1 h2 h3; simp at h2 h3; omega
 | succ k ih=>
  intro a b h1 h2 h3
  by_cases h : a % 2 = b % 2
  ·rw [ziL h1 h]
   have:=ih (a / 2) (b / 2) (by omega) (by rw [ybT] at h2; omega) (by rw [ybT] at h3; omega)
   omega
  ·rw [zmi h]; omega
def fig (a b : Nat) : Nat:=2 * lu a b + b / 2 ^ lu a b % 2
theorem zhu (a b : Nat) : fig a b / 2 = lu a b:=by
 unfold fig
 have:=Nat.mod_lt (b / 2 ^ lu a b) (by decide : 0 < 2)
 omega
theorem ziX (a b : Nat) : fig a b % 2 = b / 2 ^ lu a b % 2:=by
 unfold fig
 have:=Nat.mod_lt (b / 2 ^ lu a b) (by decide : 0 < 2)
 omega
theorem zeW (x k : Nat) : x % 2 ^ (k + 1) = x % 2 ^ k + 2 ^ k * (x / 2 ^ k % 2):=by
 rw [ybT,Nat.mod_mul]
theorem zoP {a b : Nat} (h : a≠b) : a / 2 ^ lu a b % 2≠b / 2 ^ lu a b % 2:=by
 obtain ⟨h1,h2⟩:=zpG _ a b (yaa _) h
 intro e
 apply h2
 rw [zeW,zeW,h1,e]
theorem zri {a b c : Nat} (h2 : b≠c) : fig a b≠fig b c:=by
 intro e
 have e1 : lu a b = lu b c:=by rw [← zhu,e,zhu]
 have e2 : b / 2 ^ lu a b % 2 = c / 2 ^ lu b c % 2:=by rw [← ziX,e,ziX]
 rw [e1] at e2
 exact zoP h2 e2
theorem zpY {a b : Nat} (h : a≠b) : a % 2≠fig a b:=by
 intro e
 have l : a % 2 < 2:=Nat.mod_lt _ (by decide)
 have e1 : lu a b = 0:=by
  have:=zhu a b
  omega
 have e2:=ziX a b
 have e3:=zoP h
 rw [e1] at e2 e3
 simp at e2 e3
 omega
theorem zrj {a b k : Nat} (h : a≠b) (ha : a < 2 ^ k) (hb : b < 2 ^ k) : fig a b < 2 * k:=by
 have:=zrC k a b h ha hb
 have:=Nat.mod_lt (b / 2 ^ lu a b) (by decide : 0 < 2)
 unfold fig
 omega
def zdU (xs : List Nat) (i : Nat) : Nat:=if i = 0 then xs.getD 0 0 % 2 else fig (xs.getD (i - 1) 0) (xs.getD i 0)
def zc2 (xs : List Nat) : List Nat:=(List.range xs.length).map (zdU xs)
theorem zbq (xs : List Nat) : (zc2 xs).length = xs.length:=by unfold zc2; rw [yab,ya7]
theorem zhE {xs : List Nat} {i : Nat} (h : i < xs.length) : (zc2 xs)[i]? = some (zdU xs i):=by
 unfold zc2
 rw [yau,ych h]
 rfl
theorem zey {xs : List Nat} {i : Nat} (h : i < xs.length) : (zc2 xs).getD i 0 = zdU xs i:=by
 rw [yah,zhE h]; rfl
theorem zkn {xs : List Nat} {i : Nat} (h : i < xs.length) : (zc2 xs).take (i + 1) = (zc2 xs).take i ++ [zdU xs i]:=by
 have h' : i < (zc2 xs).length:=by rw [zbq]; exact h
 rw [yaP h']
 have:=zhE h
 rw [yac h'] at this
 rw [yad this]
def Unl (xs : List Nat) : Prop:=∀ i,i + 1 < xs.length→xs.getD i 0≠xs.getD (i + 1) 0
theorem zle {xs : List Nat} (h : Unl xs) : Unl (zc2 xs):=by
 intro i hi
 rw [zbq] at hi
 rw [zey (by omega),zey hi]
 unfold zdU
 rw [if_neg (by omega : ¬ i + 1 = 0),Nat.add_sub_cancel]
 by_cases h0 : i = 0
 ·subst h0
  rw [if_pos rfl]
  exact zpY (h 0 hi)
 ·rw [if_neg h0]
  exact zri (h i hi)
def zdn (m : Nat) (xs : List Nat) : Prop:=∀ i,i < xs.length→xs.getD i 0 < m
theorem zb8 {xs : List Nat} {k : Nat} (hk : 1≤k) (h : Unl xs) (hb : zdn (2 ^ k) xs) : zdn (2 * k) (zc2 xs):=by
 intro i hi
 rw [zbq] at hi
 rw [zey hi]
 unfold zdU
 split
 ·have : xs.getD 0 0 % 2 < 2:=Nat.mod_lt _ (by decide)
  omega
 ·have:=h (i - 1) (by omega)
  rw [show i - 1 + 1 = i by omega] at this
  exact zrj this (hb _ (by omega)) (hb _ hi)
theorem zoW (a b : Nat) : Builtin.bitXor (a : Int) (b : Int) = ((xr a b : Nat) : Int):=by
 have h1 : Builtin.bitAnd (a : Int) (b : Int) = ((a &&& b : Nat) : Int):=by
  unfold Builtin.bitAnd
  rw [yag (ybm a),yag (ybm b)]
  rfl
 have n1 : ¬ (0 : Int)≤Builtin.bitNot (a : Int):=by unfold Builtin.bitNot; omega
 have n2 : ¬ (0 : Int)≤Builtin.bitNot (b : Int):=by unfold Builtin.bitNot; omega
 have h2 : Builtin.bitOr (a : Int) (b : Int) = ((a ||| b : Nat) : Int):=by
  unfold Builtin.bitOr Builtin.bitAnd
  rw [yaf n1,yaf n2]
  have e : ∀ x : Int,Builtin.bitNot (Builtin.bitNot x) = x:=fun x=>by unfold Builtin.bitNot; omega
  show Builtin.bitNot (Builtin.bitNot _) = _
  rw [e,e,e]
  rfl
 unfold Builtin.bitXor xr
 rw [h1,h2]
 have:=zil a b
 omega
theorem zp7 (n : Nat) (h : 0 < n) : Builtin.bitAnd (n : Int) (-(n : Int)) = ((zeZ n : Nat) : Int):=by
 have n2 : ¬ (0 : Int)≤-(n : Int):=by omega
 have e : (Builtin.bitNot (-(n : Int))).toNat = n - 1:=by unfold Builtin.bitNot; omega
 unfold Builtin.bitAnd zeZ
 rw [yag (ybm n),yaf n2]
 show (n : Int) - (((n : Int).toNat &&& (Builtin.bitNot (-(n : Int))).toNat : Nat) : Int) = _
 rw [e,ybb]
 have : n &&& (n - 1)≤n:=Nat.and_le_left
 omega
theorem zq1 (a b : Nat) (h : a≠b) : ((Builtin.Int.intBits (Builtin.bitAnd (Builtin.bitXor (a : Int) (b : Int)) (-(Builtin.bitXor (a : Int) (b : Int)))) : Nat) : Int) - 1 = ((lu a b : Nat) : Int):=by
 rw [zoW,zp7 _ (zou _ a b (yaa _) h),zq0 _ a b (yaa _) h]
 unfold Builtin.Int.intBits
 have p : 0 < 2 ^ lu a b:=Nat.two_pow_pos _
 rw [if_neg (by
  intro z
  have z':=eq_of_beq z
  omega),Int.natAbs_natCast,Nat.log2_two_pow]
 omega
def atZ {α : Type} (l : List α) (i : Int) : Option α:=if 0≤i then l[i.toNat]? else none
theorem zdj {α : Type} (l : List α) (i : Nat) : atZ l (i : Int) = l[i]?:=by
 unfold atZ
 rw [if_pos (ybm i),ybb]
theorem zi9 {α : Type} {l : List α} {i : Int} (h : i < 0) : atZ l i = none:=by
 unfold atZ
 rw [if_neg (by omega)]
theorem zkf {α : Type} {l : List α} {i : Int} {x : α} (h : atZ l i = some x) : 0≤i∧i < l.length:=by
 unfold atZ at h
 split at h
 ·have:=(yan.mp h).1
  omega
 ·cases h
def zkH {α β : Type} (f : Option α→α→Option α→β) : Option α→List α→List β
 | _,[]=>[]
 | p,x :: l=>f p x l.head? :: zkH f (some x) l
def mapW {α β : Type} (f : Option α→α→Option α→β) (l : List α) : List β:=zkH f none l
theorem zdd {α β : Type} (f : Option α→α→Option α→β) : ∀ (l : List α) (p : Option α) (k : Nat),(zkH f p l)[k]? = l[k]?.map fun x=>f (if k = 0 then p else l[k - 1]?) x l[k + 1]?
 | [],_,_=>rfl
 | x :: l,p,0=>by
  show some (f p x l.head?) = some (f p x l[0]?)
  rw [List.head?_eq_getElem?]
 | x :: l,p,k + 1=>by
  show (zkH f (some x) l)[k]? = l[k]?.map fun y=>f (x :: l)[k]? y l[k + 1]?
  rw [zdd f l (some x) k]
  cases k with
  | zero=>rfl
  | succ k=>rfl
theorem zeY {α β : Type} (f : Option α→α→Option α→β) : ∀ (l : List α) (p : Option α),(zkH f p l).length = l.length
 | [],_=>rfl
 | x :: l,p=>by
  show (zkH f (some x) l).length + 1 = l.length + 1
  rw [zeY f l]
theorem zcc {α β : Type} (f : Option α→α→Option α→β) (l : List α) : (mapW f l).length = l.length:=zeY f l none
theorem zpF {α β : Type} (f : Option α→α→Option α→β) (l : List α) (i : Int) : atZ (mapW f l) i = (atZ l i).map fun x=>f (atZ l (i - 1)) x (atZ l (i + 1)):=by
 by_cases h : 0≤i
 ·obtain ⟨k,rfl⟩ : ∃ k : Nat,i = (k : Int):=⟨i.toNat,by omega⟩
  rw [zdj,zdj,mapW,zdd,show ((k : Int) + 1) = ((k + 1 : Nat) : Int) by omega,zdj]
  have e : atZ l ((k : Int) - 1) = if k = 0 then none else l[k - 1]?:=by
   split
   ·rw [zi9 (by omega)]
   ·rw [show ((k : Int) - 1) = ((k - 1 : Nat) : Int) by omega,zdj]
  rw [e]
 ·rw [zi9 (l:=mapW f l) (by omega),zi9 (l:=l) (i:=i) (by omega)]
  rfl
def UnlZ (xs : List Nat) : Prop:=∀ (i : Int) (x y : Nat),atZ xs i = some x→atZ xs (i + 1) = some y→x≠y
theorem unlZ {xs : List Nat} (h : Unl xs) : UnlZ xs:=by
 intro i x y hx hy
 obtain ⟨a,b⟩:=zkf hx
 obtain ⟨_,c⟩:=zkf hy
 obtain ⟨k,rfl⟩ : ∃ k : Nat,i = (k : Int):=⟨i.toNat,by omega⟩
 rw [zdj] at hx
 rw [show ((k : Int) + 1) = ((k + 1 : Nat) : Int) by omega,zdj] at hy
 have:=h k (by omega)
 rw [yah,yah,hx,hy] at this
 exact this
theorem zoy {xs : List Nat} (h : UnlZ xs) : Unl xs:=by
 intro k hk
 have:=h k xs[k] xs[k + 1] (by rw [zdj]; exact yac (by omega)) (by rw [show ((k : Int) + 1) = ((k + 1 : Nat) : Int) by omega,zdj]; exact yac hk)
 rw [yah,yah,yac (show k < xs.length by omega),yac hk]
 exact this
def ze6 (p n : Option Nat) : Nat:=if p≠some 0∧n≠some 0 then 0 else if p≠some 1∧n≠some 1 then 1 else 2
theorem zoc (p n : Option Nat) : ze6 p n≤2:=by
 unfold ze6
 split
 ·omega
 ·split <;> omega
theorem zeI {p n : Option Nat} {x : Nat} (h : p = some x) : ze6 p n≠x:=by
 subst h
 unfold ze6
 split
 ·rename_i c
  intro z
  exact c.1 (by rw [← z])
 ·split
  ·rename_i c
   intro z
   exact c.1 (by rw [← z])
  ·rename_i c d
   intro z
   subst z
   have c1 : n = some 0:=Decidable.byContradiction fun q=>c ⟨by decide,q⟩
   have d1 : n = some 1:=Decidable.byContradiction fun q=>d ⟨by decide,q⟩
   rw [c1] at d1
   cases d1
theorem zkQ (p n : Option Nat) : ze6 p n = ze6 n p:=by
 unfold ze6
 simp only [And.comm]
theorem zgB {p n : Option Nat} {x : Nat} (h : n = some x) : ze6 p n≠x:=by
 rw [zkQ]
 exact zeI h
def recF (v : Nat) (p : Option Nat) (x : Nat) (n : Option Nat) : Nat:=if x = v then ze6 p n else x
def recL (v : Nat) (xs : List Nat) : List Nat:=mapW (recF v) xs
theorem zaX (v : Nat) (xs : List Nat) : (recL v xs).length = xs.length:=zcc _ _
theorem zfn {v : Nat} {xs : List Nat} (h : UnlZ xs) : UnlZ (recL v xs):=by
 intro i x y hx hy
 unfold recL at hx hy
 rw [zpF] at hx hy
 cases ex : atZ xs i with
 | none=>rw [ex] at hx; cases hx
 | some x0=>
  cases ey : atZ xs (i + 1) with
  | none=>rw [ey] at hy; cases hy
  | some y0=>
   rw [ex] at hx
   rw [ey] at hy
   have hx : x = recF v (atZ xs (i - 1)) x0 (atZ xs (i + 1)):=(yad hx).symm
   have hy : y = recF v (atZ xs (i + 1 - 1)) y0 (atZ xs (i + 1 + 1)):=(yad hy).symm
   have n0:=h i x0 y0 ex ey
   have e1 : i + 1 - 1 = i:=by omega
   unfold recF at hx hy
   rw [e1,ex] at hy
   rw [ey] at hx
   split at hx
   ·rename_i c
    split at hy
    ·rename_i c'
     omega
    ·rw [hx,hy]
     exact zgB rfl
   ·split at hy
    ·rw [hx,hy]
     exact (zeI rfl).symm
    ·omega
def colL (xs : List Nat) : List Nat:=recL 5 (recL 4 (recL 3 xs))
theorem zf4 (xs : List Nat) : (colL xs).length = xs.length:=by
 unfold colL
 rw [zaX,zaX,zaX]
theorem zok {xs : List Nat} (h : UnlZ xs) : UnlZ (colL xs):=zfn (zfn (zfn h))
def zqW (sh : Nat) (p : Option (Nat×Bool)) (x : Nat×Bool) (n : Option (Nat×Bool)) : Nat×Bool:=
 (x.1,x.2 || (decide (x.1 = sh) && p.isSome && !(p.map (·.2)).getD false && !(n.map (·.2)).getD false))
def zfO (sh : Nat) (l : List (Nat×Bool)) : List (Nat×Bool):=mapW (zqW sh) l
def start (c : List Nat) : List (Nat×Bool):=c.map fun x=>(x,false)
def marked (c : List Nat) : List (Nat×Bool):=zfO 0 (zfO 1 (zfO 2 (start c)))
def zgv (c : List Nat) : List Bool:=(marked c).map (·.2)
theorem zhn (c : List Nat) : (marked c).length = c.length:=by
 unfold marked zfO start
 rw [zcc,zcc,zcc,yab]
theorem zhm (c : List Nat) : (zgv c).length = c.length:=by
 unfold zgv
 rw [yab,zhn]
theorem ziV {p n : Option Nat} {y : Nat} (h : y < ze6 p n) : p = some y∨n = some y:=by
 unfold ze6 at h
 split at h
 ·omega
 ·rename_i c
  have c0 : p = some 0∨n = some 0:=Decidable.byContradiction fun q=>c ⟨fun z=>q (.inl z),fun z=>q (.inr z)⟩
  split at h
  ·have : y = 0:=by omega
   subst this
   exact c0
  ·rename_i d
   have d0 : p = some 1∨n = some 1:=Decidable.byContradiction fun q=>d ⟨fun z=>q (.inl z),fun z=>q (.inr z)⟩
   have : y = 0∨y = 1:=by omega
   rcases this with rfl | rfl
   ·exact c0
   ·exact d0
def zaS (xs : List Nat) (k : Nat) : List Nat:=(if k = 0 then none else xs[k - 1]?).toList ++ xs[k + 1]?.toList
theorem zga {xs : List Nat} {k y : Nat} : y∈zaS xs k↔(if k = 0 then none else xs[k - 1]?) = some y∨xs[k + 1]? = some y:=by
 unfold zaS
 rw [yaj,Option.mem_toList,Option.mem_toList]
def zdK (xs : List Nat) (k : Nat) : Nat:=ze6 (if k = 0 then none else xs[k - 1]?) xs[k + 1]?
theorem zkP {xs : List Nat} {k : Nat} : zdK xs k∉zaS xs k:=fun h=>by
 rcases zga.mp h with q | q
 ·exact zeI q rfl
 ·exact zgB q rfl
theorem zh7 {xs : List Nat} {k y : Nat} (h : y < zdK xs k) : y∈zaS xs k:=zga.mpr (ziV h)
theorem zmK (xs : List Nat) (k : Nat) : zdK xs k≤2:=zoc _ _
theorem zg3 {v : Nat} {xs : List Nat} {k : Nat} (h : k < xs.length) : (recL v xs)[k]? = some (if xs.getD k 0 = v then zdK xs k else xs.getD k 0):=by
 unfold recL mapW
 rw [zdd,yah,yac h]
 rfl
def mixL (v : Nat) (xs : List Nat) (k : Nat) : List Nat:=(recL v xs).take k ++ xs.drop k
theorem znX {v : Nat} {xs : List Nat} {k : Nat} (h : xs.length≤k) : mixL v xs k = recL v xs:=by
 unfold mixL
 rw [yar (by rw [zaX]; exact h),yaZ h,yaH]
theorem zfN (v : Nat) (xs : List Nat) (k : Nat) : (mixL v xs k).length = xs.length:=by
 unfold mixL
 rw [yam,yap,yaL,zaX]
 omega
theorem zdC (v : Nat) (xs : List Nat) (k j : Nat) : (mixL v xs k)[j]? = if j < k then (recL v xs)[j]? else xs[j]?:=by
 unfold mixL
 by_cases hk : k≤xs.length
 ·rw [List.getElem?_append,yap,zaX,ybq hk]
  split
  ·rw [ybR]
   rw [if_pos (by assumption)]
  ·rw [ycb]
   congr 1
   omega
 ·rw [yaZ (by omega),yaH,yar (by rw [zaX]; omega)]
  split
  ·rfl
  ·rw [yaU (by rw [zaX]; omega),yaU (by omega)]
theorem zmg {v : Nat} {xs : List Nat} {k j : Nat} (h : k≤j) : (mixL v xs k)[j]? = xs[j]?:=by
 rw [zdC,if_neg (by omega)]
theorem zme {v : Nat} {xs : List Nat} {k : Nat} (h : k < xs.length) (hv : xs.getD k 0≠v) : mixL v xs (k + 1) = mixL v xs k:=by
 apply ya6
 intro j
 rw [zdC,zdC]
 by_cases c : j < k
 ·rw [if_pos c,if_pos (by omega)]
 ·rw [if_neg c]
  split
  ·have : j = k:=by omega
   subst this
   rw [zg3 h,if_neg hv,yah,yac h]
   rfl
  ·rfl
theorem zmf {v : Nat} {xs : List Nat} {k : Nat} (hu : Unl xs) (h : k < xs.length) (hv : xs.getD k 0 = v) : (if k = 0 then none else (mixL v xs k)[k - 1]?) = if k = 0 then none else xs[k - 1]?:=by
 cases k with
 | zero=>rfl
 | succ k=>
  show (mixL v xs (k + 1))[k]? = xs[k]?
  rw [zdC,if_pos (by omega),zg3 (by omega)]
  have:=hu k h
  rw [hv] at this
  rw [if_neg this,yah,yac (show k < xs.length by omega)]
  rfl
theorem ziH {v : Nat} {xs : List Nat} {k : Nat} (hu : Unl xs) (h : k < xs.length) (hv : xs.getD k 0 = v) : zaS (mixL v xs k) k = zaS xs k:=by
 unfold zaS
 rw [zmf hu h hv,zmg (j:=k + 1) (by omega)]
theorem znW {v : Nat} {xs : List Nat} {k : Nat} (h : k < xs.length) (hv : xs.getD k 0 = v) : mixL v xs (k + 1) = (mixL v xs k).set k (zdK xs k):=by
 apply ya6
 intro j
 rw [ybD,zfN,zdC,zdC]
 by_cases c : k = j
 ·subst c
  rw [if_pos rfl,if_pos h,if_pos (by omega),zg3 h,if_pos hv]
 ·rw [if_neg c]
  by_cases c2 : j < k
  ·rw [if_pos c2,if_pos (by omega)]
  ·rw [if_neg c2,if_neg (by omega)]
def zcb (sh : Nat) (cs : List Nat) (ms : List Bool) : List Bool:=(zfO sh (cs.zip ms)).map (·.2)
theorem zaO {sh : Nat} {cs : List Nat} {ms : List Bool} (h : cs.length = ms.length) : (zcb sh cs ms).length = ms.length:=by
 unfold zcb zfO
 rw [yab,zcc,yck]
 omega
theorem zio {cs : List Nat} : ∀ {ms : List Bool},cs.length = ms.length→(cs.zip ms).map (·.1) = cs:=by
 induction cs with
 | nil=>intro ms _; rfl
 | cons c cs ih=>
  intro ms h
  cases ms with
  | nil=>cases h
  | cons m ms=>
   show c :: (cs.zip ms).map (·.1) = c :: cs
   rw [ih (Nat.succ.inj h)]
theorem zjd : ∀ (l : List (Nat×Bool)),(l.map (·.1)).zip (l.map (·.2)) = l
 | []=>rfl
 | x :: l=>by
  show x :: (l.map (·.1)).zip (l.map (·.2)) = x :: l
  rw [zjd l]
theorem zmh (sh : Nat) (l : List (Nat×Bool)) : (zfO sh l).map (·.1) = l.map (·.1):=by
 apply ya6
 intro k
 unfold zfO mapW
 rw [yau,yau,zdd]
 cases l[k]? <;> rfl
theorem zh3 {sh : Nat} {cs : List Nat} {ms : List Bool} (h : cs.length = ms.length) : zfO sh (cs.zip ms) = cs.zip (zcb sh cs ms):=by
 have e:=zjd (zfO sh (cs.zip ms))
 rw [zmh,zio h] at e
 exact e.symm
theorem zlp (cs : List Nat) : start cs = cs.zip (cs.map fun _=>false):=by
 unfold start
 induction cs with
 | nil=>rfl
 | cons c cs ih=>
  show (c,false) :: cs.map (fun x=>(x,false)) = (c,false) :: cs.zip (cs.map fun _=>false)
  rw [ih]
theorem zh2 (cs : List Nat) : zgv cs = zcb 0 cs (zcb 1 cs (zcb 2 cs (cs.map fun _=>false))):=by
 have l1 : cs.length = (cs.map fun _=>false).length:=by rw [yab]
 have l2 : cs.length = (zcb 2 cs (cs.map fun _=>false)).length:=by rw [zaO l1,← l1]
 unfold zgv marked
 rw [zlp,zh3 l1,zh3 l2]
 rfl
theorem zdB {sh : Nat} {cs : List Nat} {ms : List Bool} (hl : cs.length = ms.length) {k : Nat} (h : k < cs.length) : (zcb sh cs ms)[k]? = some (ms.getD k false || (decide (cs.getD k 0 = sh) && decide (1≤k) && !ms.getD (k - 1) false && !ms.getD (k + 1) false)):=by
 unfold zcb zfO mapW
 have gz : ∀ j,(cs.zip ms)[j]? = if h : j < cs.length then some (cs[j],ms[j]'(by omega)) else none:=fun j=>by
  split
  ·rename_i q
   rw [yac (by rw [yck]; omega),List.getElem_zip]
  ·exact yaU (by rw [yck]; omega)
 have gm : ∀ j,ms.getD j false = (((cs.zip ms)[j]?).map (·.2)).getD false:=fun j=>by
  rw [gz]
  split
  ·rw [yah,yac (by omega)]
   rfl
  ·rw [yah,yaU (by omega)]
   rfl
 rw [yau,zdd,gm k,gm (k + 1),gm (k - 1),yah,yac h]
 have e:=gz k
 rw [dif_pos h] at e
 rw [e]
 show some _ = some _
 unfold zqW
 cases k with
 | zero=>simp
 | succ k=>
  have e2:=gz k
  rw [dif_pos (by omega)] at e2
  simp [e2]
def mixM (sh : Nat) (cs : List Nat) (ms : List Bool) (k : Nat) : List Bool:=(zcb sh cs ms).take k ++ ms.drop k
theorem znV {sh : Nat} {cs : List Nat} {ms : List Bool} (hl : cs.length = ms.length) {k : Nat} (h : cs.length≤k) : mixM sh cs ms k = zcb sh cs ms:=by
 unfold mixM
 rw [yar (by rw [zaO hl]; omega),yaZ (by omega),yaH]
theorem zfM {sh : Nat} {cs : List Nat} {ms : List Bool} (hl : cs.length = ms.length) (k : Nat) : (mixM sh cs ms k).length = cs.length:=by
 unfold mixM
 rw [yam,yap,yaL,zaO hl]
 omega
theorem zct {sh : Nat} {cs : List Nat} {ms : List Bool} (hl : cs.length = ms.length) (k j : Nat) : (mixM sh cs ms k)[j]? = if j < k then (zcb sh cs ms)[j]? else ms[j]?:=by
 unfold mixM
 by_cases hk : k≤ms.length
 ·rw [List.getElem?_append,yap,zaO hl,ybq hk]
  split
  ·rw [ybR]
   rw [if_pos (by assumption)]
  ·rw [ycb]
   congr 1
   omega
 ·rw [yaZ (by omega),yaH,yar (by rw [zaO hl]; omega)]
  split
  ·rfl
  ·rw [yaU (by rw [zaO hl]; omega),yaU (by omega)]
def zoV (ms : List Bool) (k : Nat) : Bool:=!ms.getD (k - 1) false && !ms.getD k false && !ms.getD (k + 1) false
theorem zmc {sh : Nat} {cs : List Nat} {ms : List Bool} (hl : cs.length = ms.length) {k : Nat} (h : k < cs.length) (hn : ¬ (1≤k∧cs.getD k 0 = sh∧zoV ms k = true)) : mixM sh cs ms (k + 1) = mixM sh cs ms k:=by
 apply ya6
 intro j
 rw [zct hl,zct hl]
 by_cases c : j < k
 ·rw [if_pos c,if_pos (by omega)]
 ·rw [if_neg c]
  split
  ·have : j = k:=by omega
   subst this
   rw [zdB hl h]
   unfold zoV at hn
   rw [yac (by omega)]
   have e : ms.getD j false = ms[j]'(by omega):=by
    rw [yah,yac (by omega)]
    rfl
   rw [e] at hn ⊢
   congr 1
   generalize ms[j] = a at hn ⊢
   generalize ms.getD (j - 1) false = b at hn ⊢
   generalize ms.getD (j + 1) false = d at hn ⊢
   cases a <;> cases b <;> cases d <;> simp at hn ⊢
   intro q
   omega
  ·rfl
def zcF {α : Type} (es : List α) (ms : List Bool) : List α:=((es.zip ms).filter (·.2)).map (·.1)
def colN (xs : List Nat) : Nat→List Nat
 | 0=>xs
 | i + 1=>recL (3 + i) (colN xs i)
theorem zi2 (xs : List Nat) (i : Nat) : (colN xs i).length = xs.length:=by
 induction i with
 | zero=>rfl
 | succ i ih=>rw [colN,zaX,ih]
theorem zoj {xs : List Nat} (h : Unl xs) (i : Nat) : Unl (colN xs i):=by
 induction i with
 | zero=>exact h
 | succ i ih=>exact zoy (zfn (unlZ ih))
def mkN (cs : List Nat) : Nat→List Bool
 | 0=>cs.map fun _=>false
 | i + 1=>zcb (2 - i) cs (mkN cs i)
theorem zmb (cs : List Nat) : mkN cs 3 = zgv cs:=(zh2 cs).symm
theorem zkE (cs : List Nat) (i : Nat) : cs.length = (mkN cs i).length:=by
 induction i with
 | zero=>rw [mkN,yab]
 | succ i ih=>rw [mkN,zaO ih,ih]
theorem znU {sh : Nat} {cs : List Nat} {ms : List Bool} (hl : cs.length = ms.length) : mixM sh cs ms 1 = ms:=by
 by_cases h : 0 < cs.length
 ·rw [zmc hl h (fun z=>by omega)]
  rfl
 ·have : ms = []:=ycw (by omega)
  subst this
  unfold mixM
  rw [ycw (show (zcb sh cs []).length = 0 by rw [zaO hl]; rfl)]
  rfl
def zax (ps : List Nat) : Prop:=∀ i (h : i < ps.length),ps[i]≤i
def par (ps : List Nat) : Nat→Option Nat
 | 0=>none
 | k + 1=>ps[k]?
theorem zaK {ps : List Nat} (T : zax ps) {k p : Nat} (h : par ps k = some p) : p < k∧k < ps.length + 1:=by
 cases k with
 | zero=>cases h
 | succ k=>
  obtain ⟨h1,rfl⟩:=yan.mp (show ps[k]? = some p from h)
  have:=T k h1
  omega
theorem zhc {ps : List Nat} {k : Nat} (h1 : 1≤k) (h2 : k < ps.length + 1) : ∃ p,par ps k = some p:=by
 cases k with
 | zero=>omega
 | succ k=>exact ⟨_,yac (show k < ps.length by omega)⟩
theorem znB {ps : List Nat} {k : Nat} (h2 : k < ps.length + 1) (h : par ps k = none) : k = 0:=by
 cases k with
 | zero=>rfl
 | succ k=>
  have:=List.getElem?_eq_none_iff.mp (show ps[k]? = none from h)
  omega
def wayF (ps : List Nat) (one : Nat) : Nat→Nat→Option (List Nat)
 | 0,_=>none
 | f + 1,o=>if o = one then some [o] else match par ps o with
  | none=>none
  | some p=>(wayF ps one f p).map (· ++ [o])
theorem zhA {ps : List Nat} (T : zax ps) {one : Nat} : ∀ f g o,o < f→o < g→wayF ps one f o = wayF ps one g o
 | 0,_,_,h,_=>absurd h (ybU _)
 | _,0,_,_,h=>absurd h (ybU _)
 | f + 1,g + 1,o,hf,hg=>by
  unfold wayF
  split
  ·rfl
  ·cases e : par ps o with
   | none=>rfl
   | some p=>
    have:=(zaK T e).1
    show (wayF ps one f p).map _ = (wayF ps one g p).map _
    rw [zhA T f g p (by omega) (by omega)]
def wayL (ps : List Nat) (one o : Nat) : Option (List Nat):=wayF ps one (o + 1) o
theorem zk6 {ps : List Nat} {o : Nat} : wayL ps o o = some [o]:=by
 unfold wayL wayF
 rw [if_pos rfl]
theorem zdT {ps : List Nat} (T : zax ps) {one o : Nat} (h : o≠one) : wayL ps one o = match par ps o with
  | none=>none
  | some p=>(wayL ps one p).map (· ++ [o]):=by
 unfold wayL
 rw [wayF,if_neg h]
 cases e : par ps o with
 | none=>rfl
 | some p=>
  show (wayF ps one o p).map _ = (wayF ps one (p + 1) p).map _
  rw [zhA T o (p + 1) p (zaK T e).1 (by omega)]
theorem zk7 {ps : List Nat} (T : zax ps) {one : Nat} : ∀ n o,o≤n→o < one→wayL ps one o = none
 | n,o,hn,h=>by
  rw [zdT T (by omega)]
  cases e : par ps o with
  | none=>rfl
  | some p=>
   have hp:=(zaK T e).1
   show (wayL ps one p).map _ = none
   cases n with
   | zero=>omega
   | succ n=>rw [zk7 T n p (by omega) (by omega)]; rfl
def isB (ps : List Nat) (k j : Nat) : Bool:=(wayL ps k j).isSome
def benL (ps : List Nat) (k n : Nat) : List Nat:=(List.range n).filter (isB ps k)
theorem zb4 {ps : List Nat} {k : Nat} : isB ps k k = true:=by
 unfold isB
 rw [zk6]
 rfl
theorem zdJ {ps : List Nat} (T : zax ps) {k j : Nat} (h : j < k) : isB ps k j = false:=by
 unfold isB
 rw [zk7 T j j (yaa _) h]
 rfl
theorem zbJ {ps : List Nat} (T : zax ps) {k j p : Nat} (h : j≠k) (e : par ps j = some p) : isB ps k j = isB ps k p:=by
 unfold isB
 rw [zdT T h,e]
 show ((wayL ps k p).map _).isSome = _
 cases wayL ps k p <;> rfl
theorem zop {ps : List Nat} (T : zax ps) (k : Nat) : benL ps k (k + 1) = [k]:=by
 unfold benL
 rw [ybV,ybl]
 have e1 : (List.range k).filter (isB ps k) = []:=by
  rw [ybE]
  intro j hj z
  rw [zdJ T (ya9.mp hj)] at z
  cases z
 rw [e1,List.nil_append,ybr zb4]
 rfl
theorem zb5 {ps : List Nat} {k n j : Nat} : j∈benL ps k n↔j < n∧isB ps k j = true:=by
 unfold benL
 rw [ya8,ya9]
theorem zik {ps : List Nat} {k n : Nat} : benL ps k (n + 1) = benL ps k n ++ (if isB ps k n = true then [n] else []):=by
 unfold benL
 rw [ybV,ybl]
 congr 1
 by_cases h : isB ps k n = true
 ·rw [if_pos h,ybr h]
  rfl
 ·rw [if_neg h,ybW h]
  rfl
theorem zke (ps : List Nat) (k n : Nat) : (benL ps k n).length≤n:=by
 have:=ybf (isB ps k) (List.range n)
 rw [ya7] at this
 exact this
theorem zi6 (ps : List Nat) (k n : Nat) : (benL ps k n).Pairwise (· < ·):=List.Pairwise.filter _ List.pairwise_lt_range
theorem zj2 {ps : List Nat} (T : zax ps) : ∀ n j,j≤n→j < ps.length + 1→isB ps 0 j = true
 | n,j,hn,h=>by
  by_cases c : j = 0
  ·rw [c]
   exact zb4
  ·obtain ⟨p,e⟩:=zhc (by omega) h
   have:=(zaK T e).1
   rw [zbJ T c e]
   cases n with
   | zero=>omega
   | succ n=>exact zj2 T n p (by omega) (by omega)
theorem zm6 {ps : List Nat} (T : zax ps) : benL ps 0 (ps.length + 1) = List.range (ps.length + 1):=by
 unfold benL
 rw [List.filter_eq_self]
 exact fun j hj=>zj2 T j j (yaa _) (ya9.mp hj)
def zbX (ps : List Nat) (k n : Nat) : List Nat:=(List.range n).filter fun j=>decide (par ps j = some k)
theorem zaC {ps : List Nat} {k n j : Nat} : j∈zbX ps k n↔j < n∧par ps j = some k:=by
 unfold zbX
 rw [ya8,ya9,decide_eq_true_eq]
theorem zf8 {ps : List Nat} {k n : Nat} : zbX ps k (n + 1) = zbX ps k n ++ (if par ps n = some k then [n] else []):=by
 unfold zbX
 rw [ybV,ybl]
 congr 1
 by_cases h : par ps n = some k
 ·rw [if_pos h,ybr (by exact yag h)]
  rfl
 ·rw [if_neg h,ybW (by rw [yaf h]; decide)]
  rfl
theorem zgH (ps : List Nat) (k n : Nat) : (zbX ps k n).length≤n:=by
 have:=ybf (fun j=>decide (par ps j = some k)) (List.range n)
 rw [ya7] at this
 exact this
theorem zie (ps : List Nat) (k n : Nat) : (zbX ps k n).Pairwise (· < ·):=List.Pairwise.filter _ List.pairwise_lt_range
theorem zbR {ps : List Nat} (T : zax ps) {k : Nat} : ∀ n j,j≤n→j < ps.length + 1→(isB ps k j = true↔j = k∨∃ c,par ps c = some k∧isB ps c j = true)
 | n,j,hn,h=>by
  by_cases c : j = k
  ·constructor
   ·exact fun _=>.inl c
   ·intro _
    rw [c]
    exact zb4
  ·cases e : par ps j with
   | none=>
    have j0:=znB h e
    have no : ∀ m,j≠m→isB ps m j = false:=fun m hm=>by
     unfold isB
     rw [zdT T hm,e]
     rfl
    constructor
    ·intro z
     rw [no k c] at z
     cases z
    ·rintro (z | ⟨d,hd,z⟩)
     ·exact absurd z c
     ·by_cases y : j = d
      ·rw [← y,e] at hd
       cases hd
      ·rw [no d y] at z
       cases z
   | some p=>
    have hp:=(zaK T e).1
    cases n with
    | zero=>omega
    | succ n=>
     have ih:=zbR T (k:=k) n p (by omega) (by omega)
     rw [zbJ T c e,ih]
     constructor
     ·rintro (z | ⟨d,hd,z⟩)
      ·refine .inr ⟨j,?_,zb4⟩
       rw [e,z]
      ·by_cases y : j = d
       ·rw [← y] at z
        rw [zdJ T hp] at z
        cases z
       ·exact .inr ⟨d,hd,by rw [zbJ T y e]; exact z⟩
     ·rintro (z | ⟨d,hd,z⟩)
      ·exact absurd z c
      ·by_cases y : j = d
       ·subst y
        rw [e] at hd
        exact .inl (yad hd)
       ·rw [zbJ T y e] at z
        exact .inr ⟨d,hd,z⟩
theorem zdf {ps : List Nat} (T : zax ps) {k c d : Nat} (hc : par ps c = some k) (hd : par ps d = some k) (hcd : c≠d) : ∀ n j,j≤n→isB ps c j = true→isB ps d j = true→False
 | n,j,hn,h1,h2=>by
  by_cases e1 : j = c
  ·subst e1
   rw [zbJ T hcd hc,zdJ T (zaK T hd).1] at h2
   cases h2
  ·by_cases e2 : j = d
   ·subst e2
    rw [zbJ T e1 hd,zdJ T (zaK T hc).1] at h1
    cases h1
   ·cases e : par ps j with
    | none=>
     unfold isB at h1
     rw [zdT T e1,e] at h1
     cases h1
    | some p=>
     have hp:=(zaK T e).1
     rw [zbJ T e1 e] at h1
     rw [zbJ T e2 e] at h2
     cases n with
     | zero=>omega
     | succ n=>exact zdf T hc hd hcd n p (by omega) h1 h2
theorem zkw {ps : List Nat} (T : zax ps) {k : Nat} (hk : k < ps.length + 1) : (k :: ((zbX ps k (ps.length + 1)).map fun c=>benL ps c (ps.length + 1)).flatten).Perm (benL ps k (ps.length + 1)):=by
 have lt : ∀ {l : List Nat},l.Pairwise (· < ·)→l.Nodup:=fun h=>List.Pairwise.imp (fun {a b} (q : a < b)=>yaq q) h
 refine (ycx ?_ (lt (zi6 ps k _))).mpr fun j=>?_
 ·rw [yaS]
  refine ⟨fun h=>?_,?_⟩
  ·obtain ⟨l,hl,hj⟩:=ycl.mp h
   obtain ⟨c,hc,rfl⟩:=yaB.mp hl
   have h1:=(zaC.mp hc).2
   have h2:=(zb5.mp hj).2
   rw [zdJ T (zaK T h1).1] at h2
   cases h2
  ·show List.Pairwise _ _
   rw [List.pairwise_flatten]
   refine ⟨fun l hl=>?_,?_⟩
   ·obtain ⟨c,hc,rfl⟩:=yaB.mp hl
    exact lt (zi6 ps c _)
   ·rw [ybB]
    refine List.Pairwise.imp_of_mem (fun {c d} hc hd hcd=>?_) (zie ps k _)
    intro x hx y hy z
    subst z
    exact zdf T (zaC.mp hc).2 (zaC.mp hd).2 (yaq hcd) x x (yaa _) (zb5.mp hx).2 (zb5.mp hy).2
 ·rw [yak,ycl,zb5]
  constructor
  ·rintro (rfl | ⟨l,hl,hj⟩)
   ·exact ⟨hk,zb4⟩
   ·obtain ⟨c,hc,rfl⟩:=yaB.mp hl
    obtain ⟨h1,h2⟩:=zb5.mp hj
    exact ⟨h1,(zbR T j j (yaa _) h1).mpr (.inr ⟨c,(zaC.mp hc).2,h2⟩)⟩
  ·rintro ⟨h1,h2⟩
   rcases (zbR T j j (yaa _) h1).mp h2 with q | ⟨c,hc,q⟩
   ·exact .inl q
   ·exact .inr ⟨_,yaB.mpr ⟨c,zaC.mpr ⟨(zaK T hc).2,hc⟩,rfl⟩,zb5.mpr ⟨h1,q⟩⟩
seal PSs PS PE PT PW PA PI PG PO
section
variable {P : Program} {w : World} {K : Frag} {mg : Str→Option Value} {base : Heap}
theorem znI (T : Txt K mg) (D_l_mixed : DF K mg "_law_mixed" zd2 zdx) : FC P w K mg base 1 "_law_mixed" zdx zlx:=by
 refine D_l_mixed.ok sc_l_mixed (fun vs H Q E h=>?_) (fun f cdv A outer s H vs Q E hr h=>?_)
 ·obtain ⟨c,k,rfl,_⟩:=h
  rfl
 obtain ⟨c,k,rfl,q⟩:=h
 refine ⟨_,(zaf (zar (i:=2) sc_l_mixed.nd rfl (Or.inl rfl) (zay zeV (zay zcD (zay zby (zay zby (zay zeV (pv 0) zaj) (zay zcD zaj (pv 1))) zaj) zaj) zaj))
   (zaf (zar (i:=3) sc_l_mixed.nd rfl (Or.inl rfl) (zay zeV (zay zby (zay zby (zay zcD (pv 2) (pv 2)) (zay zcD zaj (pv 2))) (pv 1)) zaj))
   (zae (zav (zay ziD (zay zeV (zay zby (zay zby (zay zcD (pv 3) (pv 3)) (zay zcD zaj (pv 3))) (zay zcD zaj (pv 1))) zaj) zaj))))),?_⟩
 walk_at "rd"
 exact q _
theorem znS (T : Txt K mg) (D_l_begin : DF K mg "_law_begin" zd3 zdy) : FC P w K mg base 1 "_law_begin" zdy (zlE K):=by
 refine D_l_begin.ok sc_l_begin (fun vs H Q E h=>?_) (fun f cdv A outer s H vs Q E hr h=>?_)
 ·obtain ⟨L,ns,rfl,_⟩:=h
  rfl
 obtain ⟨L,ns,rfl,hS,q⟩:=h
 refine ⟨_,(zae (zav (zpo (zg9 zda (pv 0) (zg9 zda zaj (zg9 zda zaj zpj))) rfl rfl (by simp) (by decide)))),?_⟩
 intro p hp
 refine ⟨_,rfl,zab,[(.inr "script",.ref L),(.inr "at",.int 0),(.inr "left",.int 0)],rfl,(by show 3≤15; decide),?_⟩
 have e : upd (upd H p (.dK [])) p (.dK (zeX [] [(.inr "script",.ref L),(.inr "at",.int 0),(.inr "left",.int 0)])) = upd H p (zcW L 0 0):=by
  rw [zoZ]
  have : zeX [] [((.inr "script" : Key),V.ref L),(.inr "at",.int 0),(.inr "left",.int 0)] = [(.inr "script",.ref L),(.inr "at",.int 0),(.inr "left",.int 0)]:=by
   have a1 : putK [] (.inr "script" : Key) (V.ref L) = [(.inr "script",.ref L)]:=zd6 (kvs:=[]) _ rfl
   have a2 : putK [((.inr "script" : Key),V.ref L)] (.inr "at") (.int 0) = [(.inr "script",.ref L),(.inr "at",.int 0)]:=by
    rw [zd6 _ (by rw [zbi (zdI (show ("script" : Str) ≠ "at" by decide +kernel))]; rfl)]
    rfl
   have a3 : putK [((.inr "script" : Key),V.ref L),(.inr "at",.int 0)] (.inr "left") (.int 0) = [(.inr "script",.ref L),(.inr "at",.int 0),(.inr "left",.int 0)]:=by
    rw [zd6 _ (by rw [zbi (zdI (show ("script" : Str) ≠ "left" by decide +kernel)),zbi (zdI (show ("at" : Str) ≠ "left" by decide +kernel))]; rfl)]
    rfl
   unfold zeX
   simp only [ycc,List.foldl_nil]
   rw [a1,a2,a3]
  rw [this]
  rfl
 rw [e]
 exact q p _ hp (zai hp _) ⟨ns,0,0,zab,(zai hp _).seq hS⟩
theorem zpu (T : Txt K mg) (D_l_take : DF K mg "_law_take" zfg zbx) (F_l_mixed : FC P w K mg base 1 "_law_mixed" zdx zlx) : FC P w K mg base 2 "_law_take" zbx (zfB K):=by
 refine D_l_take.ok sc_l_take (fun vs H Q E h=>?_) (fun f cdv A outer s H vs Q E hr h=>?_)
 ·obtain ⟨d,L,m,rfl,_⟩:=h
  rfl
 obtain ⟨d,L,m,rfl,⟨hm,hm'⟩,⟨ns,a,l,hd,hS⟩,q⟩:=h
 refine ⟨_,(zaf (zar (i:=2) sc_l_take.nd rfl (Or.inl rfl) (zdO (zer hr) (pv 0) zda (fun _ _=>rfl)))
   (zaf (zar (i:=3) sc_l_take.nd rfl (Or.inl rfl) (zdO (zer hr) (pv 0) zda (fun _ _=>rfl)))
   (zaD (zba (zaw zgh (zdO (zer hr) (pv 0) zda (fun _ _=>rfl)) zaj (zaF _)) (zaf (zeE (zer hr) (pv 0) zda (zay zby (pv 2) zaj) rfl)
   (zaf (zar (i:=4) sc_l_take.nd rfl (Or.inl rfl) zaj)
   (zaD (zba (zaw zl1 (zap zao rfl T.m_len boot_len (zaa (pv 3) zac)) zaj (zaF _)) (zae (zar (i:=4) sc_l_take.nd rfl (Or.inl rfl) (za0 zbA (pv 3) (zay zeV (pv 2) (zap zao rfl T.m_len boot_len (zaa (pv 3) zac))) (fun _ _=>rfl)))) zaA)
   (zaD (zba (PW.pt (zph (zaw zpr (pv 2) (zap zao rfl T.m_len boot_len (zaa (pv 3) zac)) (zaF _)) (zlL (zaw zhY (zap zhw rfl T.m_abs boot_abs (zaa (pv 4) zac)) (zay zgs zaj zaj) (zaF _))))) (zae (zav (zay zeV (zau F_l_mixed hr (zaa (pv 4) (zaa (pv 2) zac))) (pv 1)))) zaA)
   (zae (zeE (zer hr) (pv 0) zda (zap zhw rfl T.m_abs boot_abs (zaa (pv 4) zac)) rfl)))))) zaA)
   (zaf (zar (i:=5) sc_l_take.nd rfl (Or.inl rfl) (zay zeV (zdO (zer hr) (pv 0) zda (fun _ _=>rfl)) (pv 1)))
   (zaf (zeE (zer hr) (pv 0) zda (zay ziD (zdO (zer hr) (pv 0) zda (fun _ _=>rfl)) (pv 1)) rfl)
   (zae (zav (pv 5)))))))),?_⟩
 refine ⟨_,rfl,_,_,rfl,zrf hd,_,rfl,_,_,rfl,zkN hd,?_⟩
 refine ⟨fun σ' H'=>∃ (x2 x3 x4 x5 : Option V) (a' l' : Int),σ' = [some (.ref d),some (.int m),x2,x3,x4,x5]∧H' d = some (zcW L a' l')∧Keep d H H',?_,?_⟩
 ·refine ⟨_,rfl,_,_,rfl,zhs hd,rfl,_,rfl,?_⟩
  refine ite2 (fun _=>?_) (fun _=>?_)
  ·refine ⟨_,rfl,_,_,rfl,rfl,_,rfl,_,_,rfl,zqA hd,?_⟩
   have hd1 : upd H d (zcW L (a + 1) l) d = some (zcW L (a + 1) l):=zab
   obtain ⟨-,k1⟩:=LS.set (a':=a + 1) (l':=l) hd hS
   have hS1:=zfb hd k1 hS
   generalize upd H d (zcW L (a + 1) l) = H1 at hd1 k1 hS1 ⊢
   refine ⟨fun σ' H'=>∃ c : Int,σ' = [some (.ref d),some (.int m),some (.int a),some (.ref L),some (.int c),none]∧H1 = H',?_,?_⟩
   ·refine ⟨_,rfl,_,_,rfl,.inl hS1,_,_,rfl,rfl,_,rfl,?_⟩
    refine ite2 (fun c=>?_) (fun c=>?_)
    ·have c' : (0 : Int) < (((ns.map V.int).length : Nat) : Int):=yaO c
     obtain ⟨v,hv⟩:=zrn (ns:=ns) (k:=a) (by rw [yab] at c'; omega)
     refine ⟨_,rfl,_,rfl,_,rfl,_,_,rfl,.inl hS1,_,_,rfl,rfl,c',_,_,_,_,rfl,rfl,hS1,hv,?_⟩
     exact ⟨v,rfl,rfl⟩
    ·exact ⟨0,rfl,rfl⟩
   rintro σ' H' ⟨c,rfl,rfl⟩
   refine ⟨fun σ' H'=>σ' = [some (.ref d),some (.int m),some (.int a),some (.ref L),some (.int c),none]∧H1 = H',?_,?_⟩
   ·refine ⟨_,rfl,_,rfl,_,_,rfl,.inl hS1,_,_,rfl,rfl,_,rfl,?_⟩
    refine ite2 (fun _=>?_) (fun _=>?_)
    ·refine iteT ?_
     refine ⟨_,rfl,_,rfl,c,a,rfl,fun v=>⟨_,rfl,_,_,rfl,rfl,hm,?_⟩⟩
     exact q _ _ (yce _ (by omega)) (ycf _ hm) k1 ⟨ns,a + 1,l,hd1,hS1⟩
    ·refine ⟨_,rfl,_,rfl,_,_,rfl,rfl,⟨by decide,by decide,by decide⟩,_,_,rfl,rfl,_,rfl,?_⟩
     refine ite2 (fun _=>?_) (fun _=>?_)
     ·refine ⟨_,rfl,_,rfl,c,a,rfl,fun v=>⟨_,rfl,_,_,rfl,rfl,hm,?_⟩⟩
      exact q _ _ (yce _ (by omega)) (ycf _ hm) k1 ⟨ns,a + 1,l,hd1,hS1⟩
     ·exact ⟨rfl,rfl⟩
   rintro σ' H' ⟨rfl,rfl⟩
   refine ⟨_,rfl,_,rfl,_,rfl,_,_,rfl,zjC hd1,?_⟩
   obtain ⟨-,k2⟩:=LS.set (a':=a + 1) (l':=if c < 0 then -c else c) hd1 hS1
   exact ⟨_,_,_,_,_,_,rfl,zab,k1.trans k2⟩
  ·exact ⟨_,_,_,_,a,l,rfl,hd,Keep.refl _ _⟩
 rintro σ' H' ⟨x2,x3,x4,x5,a',l',rfl,hd',k'⟩
 have hS':=zfb hd k' hS
 refine ⟨_,rfl,_,_,rfl,zhs hd',_,rfl,_,_,rfl,rfl,hm,?_⟩
 refine ⟨_,rfl,_,_,rfl,zhs hd',_,rfl,_,_,rfl,rfl,⟨hm,hm'⟩,_,rfl,_,_,rfl,zjC hd',?_⟩
 obtain ⟨s1,k1⟩:=LS.set (a':=a') (l':=l' / m) hd' hS'
 refine ⟨_,rfl,?_⟩
 exact q _ _ (yce _ (by omega)) (ycf _ hm) (k'.trans k1) s1
def zqq : Sp:=fun vs H Q _=>∃ a b : Nat,vs = [.int a,.int b]∧a≠b∧Q (.int (lu a b : Nat)) H
theorem zqP (T : Txt K mg) (D_lowest_unlike : DF K mg "lowest_unlike" zbs zbm) : FC P w K mg base 1 "lowest_unlike" zbm zqq:=by
 refine D_lowest_unlike.ok sc_lowest_unlike (fun vs H Q E h=>?_) (fun f cdv A outer s H vs Q E hr h=>?_)
 ·obtain ⟨a,b,rfl,_⟩:=h
  rfl
 obtain ⟨a,b,rfl,hab,q⟩:=h
 refine ⟨_,(zaf (zar (i:=2) sc_lowest_unlike.nd rfl (Or.inl rfl) (zay zqI (pv 0) (pv 1)))
   (zae (zav (zay zcZ (zqG F.plainAttrs_int F.slot_int_bit_length F.type_int_bit_length zhk (zay zoN (pv 2) (zpk zlc (pv 2)))) zaj)))),?_⟩
 refine ⟨_,rfl,_,rfl,_,_,rfl,rfl,_,rfl,_,rfl,_,rfl,_,_,rfl,rfl,rfl,_,rfl,rfl,_,_,rfl,rfl,?_⟩
 rw [← zq1 a b hab] at q
 exact q
def zpb (K : Frag) : Sp:=fun vs H Q _=>∃ d L : Addr,vs = [.ref d]∧LS K L d H∧∀ (v : Int) (H' : Hp),-(10 ^ 60) < v→v < 10 ^ 60→Keep d H H'→LS K L d H'→Q (.int v) H'
theorem zn1 {x m : Int} (h1 : -999≤x) (h2 : x≤999) (h3 : 0 < m) (h4 : m≤10 ^ 57) : -(10 ^ 60) < x * m∧x * m < 10 ^ 60:=by
 have a:=Int.mul_le_mul_of_nonneg_right h2 (Int.le_of_lt h3)
 have b:=Int.mul_le_mul_of_nonneg_right h1 (Int.le_of_lt h3)
 omega
theorem zqR (T : Txt K mg) (D_l_key : DF K mg "_law_key" zg2 zef) (F_l_take : FC P w K mg base 2 "_law_take" zbx (zfB K)) : FC P w K mg base 3 "_law_key" zef (zpb K):=by
 refine D_l_key.ok sc_l_key (fun vs H Q E h=>?_) (fun f cdv A outer s H vs Q E hr h=>?_)
 ·obtain ⟨d,L,rfl,_⟩:=h
  rfl
 obtain ⟨d,L,rfl,hs,q⟩:=h
 refine ⟨_,(zaf (zar (i:=1) sc_l_key.nd rfl (Or.inl rfl) (zau F_l_take hr (zaa (pv 0) (zaa zaj zac))))
   (zaD (zba (zaw zhY (pv 1) zaj (zaF _)) (zae (zav (zau F_l_take hr (zaa (pv 0) (zaa zaj zac))))) zaA)
   (zaD (zba (zaw zhY (pv 1) zaj (zaF _)) (zae (zav (zay zcZ (zau F_l_take hr (zaa (pv 0) (zaa zaj zac))) zaj))) zaA)
   (zaD (zba (zaw zgh (pv 1) zaj (zaF _)) (zae (zav (zay zcD (zay zcZ (zau F_l_take hr (zaa (pv 0) (zaa zaj zac))) zaj) (za0 zbA (zbW (zaa zaj (zaa (zay zgs zaj zaj) (zaa (zay zgs zaj zaj) (zaa (zay zgs zaj zaj) zac))))) (zau F_l_take hr (zaa (pv 0) (zaa zaj zac))) (fun _ _=>rfl))))) zaA)
   (zae (zav (zay zcD (za0 zbA (zbW (zaa zaj (zaa (zpk zlc zaj) zac))) (zau F_l_take hr (zaa (pv 0) (zaa zaj zac))) (fun _ _=>rfl)) (zay zcZ (zay zcZ (zay zgs zaj zaj) zaj) (zau F_l_take hr (zaa (pv 0) (zaa zaj zac))))))))))),?_⟩
 refine ⟨_,rfl,d,L,8,rfl,by decide,hs,fun w1 H1 w0 w8 k1 s1=>?_⟩
 have nd : ∀ {H' : Hp} {p : Addr},LS K L d H'→H' p = none→p≠d:=fun s hp z=>by
  obtain ⟨_,_,_,e,_⟩:=s.ex
  rw [← z,hp] at e
  cases e
 refine ⟨fun σ' H'=>σ' = [some (.ref d),some (.int w1)]∧H1 = H',?_,?_⟩
 ·refine ⟨_,rfl,_,_,rfl,rfl,_,rfl,?_⟩
  refine ite2 (fun c=>?_) (fun c=>?_)
  ·refine ⟨_,rfl,d,L,10,rfl,by decide,s1,fun u H2 u0 u1 k2 s2=>?_⟩
   exact q u H2 (by omega) (by omega) (k1.trans k2) s2
  ·exact ⟨rfl,rfl⟩
 rintro σ' H' ⟨rfl,rfl⟩
 refine ⟨fun σ' H'=>σ' = [some (.ref d),some (.int w1)]∧H1 = H',?_,?_⟩
 ·refine ⟨_,rfl,_,_,rfl,rfl,_,rfl,?_⟩
  refine ite2 (fun c=>?_) (fun c=>?_)
  ·refine ⟨_,rfl,d,L,60,rfl,by decide,s1,fun u H2 u0 u1 k2 s2=>⟨_,_,rfl,rfl,?_⟩⟩
   exact q (u - 30) H2 (by omega) (by omega) (k1.trans k2) s2
  ·exact ⟨rfl,rfl⟩
 rintro σ' H' ⟨rfl,rfl⟩
 refine ⟨fun σ' H'=>σ' = [some (.ref d),some (.int w1)]∧H1 = H',?_,?_⟩
 ·refine ⟨_,rfl,rfl,_,rfl,?_⟩
  refine ite2 (fun c=>?_) (fun c=>?_)
  ·refine ⟨_,rfl,d,L,1999,rfl,by decide,s1,fun u H2 u0 u1 k2 s2=>⟨_,_,rfl,rfl,?_⟩⟩
   refine ⟨_,_,rfl,rfl,⟨by decide,by decide,by decide⟩,_,_,rfl,rfl,⟨by decide,by decide,by decide⟩,_,_,rfl,rfl,⟨by decide,by decide,by decide⟩,(by show 4≤sizeLine; decide),fun p hp=>?_⟩
   refine ⟨_,rfl,d,L,4,rfl,by decide,s2.of_new hp _,fun b H3 b0 b1 k3 s3=>?_⟩
   obtain ⟨m,hat,m0,m1⟩ : ∃ m : Int,atI [V.int 1,V.int (10 ^ (19 : Int).toNat),V.int (10 ^ (38 : Int).toNat),V.int (10 ^ (57 : Int).toNat)] b = some (.int m)∧0 < m∧m≤10 ^ 57:=by
    have z : b = 0∨b = 1∨b = 2∨b = 3:=by omega
    rcases z with rfl | rfl | rfl | rfl
    ·exact ⟨_,rfl,by decide +kernel,by decide +kernel⟩
    ·exact ⟨_,rfl,by decide +kernel,by decide +kernel⟩
    ·exact ⟨_,rfl,by decide +kernel,by decide +kernel⟩
    ·exact ⟨_,rfl,by decide +kernel,by decide +kernel⟩
   refine ⟨_,_,_,_,rfl,rfl,SqL.of (k3 p _ (nd s2 hp) zab),hat,_,_,rfl,rfl,.inl ⟨by omega,by omega⟩,?_⟩
   obtain ⟨f1,f2⟩:=zn1 (x:=u - 999) (m:=m) (by omega) (by omega) m0 m1
   exact q _ H3 f1 f2 ((k1.trans k2).trans ((zai hp _).keep.trans k3)) s3
  ·exact ⟨rfl,rfl⟩
 rintro σ' H' ⟨rfl,rfl⟩
 refine ⟨_,rfl,(by show 2≤sizeLine; decide),fun p hp=>?_⟩
 refine ⟨_,rfl,d,L,2,rfl,by decide,s1.of_new hp _,fun b H2 b0 b1 k2 s2=>?_⟩
 obtain ⟨m,hat,hm⟩ : ∃ m : Int,atI [V.int 1,V.int (-1)] b = some (.int m)∧(m = 1∨m = -1):=by
  have z : b = 0∨b = 1:=by omega
  rcases z with rfl | rfl
  ·exact ⟨_,rfl,.inl rfl⟩
  ·exact ⟨_,rfl,.inr rfl⟩
 refine ⟨_,_,_,_,rfl,rfl,SqL.of (k2 p _ (nd s1 hp) zab),hat,_,_,rfl,rfl,⟨by decide,by decide,by decide⟩,_,_,rfl,rfl,_,rfl,d,L,3,rfl,by decide,s2,fun u H3 u0 u1 k3 s3=>⟨_,_,rfl,rfl,_,_,rfl,rfl,.inl ⟨by omega,by omega⟩,?_⟩⟩
 have e60 : (10 : Int) ^ (60 : Int).toNat = 10 ^ 60:=rfl
 rw [e60]
 have kk:=k1.trans ((zai hp _).keep.trans (k2.trans k3))
 rcases hm with rfl | rfl
 ·exact q _ H3 (by omega) (by omega) kk s3
 ·exact q _ H3 (by omega) (by omega) kk s3
def Rise (es : List (Int×Int)) : Prop:=es.Pairwise fun a b=>pLt a b = true
def ze9 (k : Int) (e : Int×Int) : Prop:=-(10 ^ 60) < e.1∧e.1 < 10 ^ 60∧0≤e.2∧e.2 < k
theorem zlO {κ : Type} [DecidableEq κ] (kvs : List (κ×V)) (k : κ) (v : V) : (putK kvs k v).map (·.1) = if (kvs.any fun kv=>decide (kv.1 = k)) = true then kvs.map (·.1) else kvs.map (·.1) ++ [k]:=by
 unfold putK
 split
 ·rw [ybd]
  apply ycm
  intro a ha
  show (if a.1 = k then (a.1,v) else a).1 = a.1
  split <;> rfl
 ·rw [yav]
  rfl
def zid (e : Int×Int) : Int:=64 * (if 0≤e.1 then 2 * e.1 else -2 * e.1 - 1) + e.2
def zgi (e : Int×Int) : Nat:=(zid e).toNat
theorem zfx {e : Int×Int} (h : ze9 64 e) : ((zgi e : Nat) : Int) = zid e:=by
 obtain ⟨h1,h2,h3,h4⟩:=h
 unfold zgi zid
 split <;> omega
theorem zol {e : Int×Int} (h : ze9 64 e) : zgi e < 2 ^ 207:=by
 have z:=zfx h
 obtain ⟨h1,h2,h3,h4⟩:=h
 unfold zid at z
 split at z <;> omega
theorem zmY {e f : Int×Int} (h : ze9 64 e) (g : ze9 64 f) (z : zgi e = zgi f) : e = f:=by
 have z1:=zfx h
 have z2:=zfx g
 obtain ⟨h1,h2,h3,h4⟩:=h
 obtain ⟨g1,g2,g3,g4⟩:=g
 obtain ⟨a,b⟩:=e
 obtain ⟨c,d⟩:=f
 rw [z,z2] at z1
 unfold zid at z1
 dsimp only at *
 have : a = c∧b = d:=by
  split at z1 <;> split at z1 <;> omega
 rw [this.1,this.2]
def zoI (K : Frag) : Sp:=fun vs H Q _=>∃ (v : V) (e : Int×Int),vs = [v]∧Rep.has K H e v∧Q (.int (zid e)) H
theorem zpB (T : Txt K mg) (D_code : DF K mg "code" zjv zg8) : FC P w K mg base 1 "code" zg8 (zoI K):=by
 refine D_code.ok sc_code (fun vs H Q E h=>?_) (fun f cdv A outer s H vs Q E hr h=>?_)
 ·obtain ⟨v,e,rfl,_⟩:=h
  rfl
 obtain ⟨v,e,rfl,he,q⟩:=h
 obtain ⟨p,x1,x2,rfl,hT,e1,e2⟩:=(show hasP K H e v from he)
 have hT:=SqT.of (K:=K) hT
 have e1 : x1 = .int e.1:=e1
 have e2 : x2 = .int e.2:=e2
 subst e1 e2
 refine ⟨_,(zaf (zar (i:=1) sc_code.nd rfl (Or.inl rfl) (za0 za8 (pv 0) zaj (fun _ _=>rfl)))
   (zaf (zar (i:=2) sc_code.nd rfl (Or.inl rfl) (znx (zaw zpr (pv 1) zaj (zaF _)) (zay zcD zaj (pv 1)) (zay zcZ (zay zcD (zpk zlc zaj) (pv 1)) zaj)))
   (zae (zav (zay zby (zay zcD (zei rfl T.g_KNOT_NUMBERS) (pv 2)) (za0 za8 (pv 0) zaj (fun _ _=>rfl))))))),?_⟩
 refine ⟨_,rfl,_,_,_,_,rfl,rfl,hT,rfl,?_⟩
 refine ⟨_,rfl,_,_,rfl,rfl,_,rfl,?_⟩
 refine ite2 (fun c=>?_) (fun c=>?_)
 ·have c' : 0≤e.1:=yaO c
  refine ⟨_,rfl,_,_,rfl,rfl,.inl ⟨by decide,by decide⟩,?_⟩
  refine ⟨_,rfl,_,_,rfl,rfl,.inl ⟨by decide,by decide⟩,_,rfl,_,_,_,_,rfl,rfl,hT,rfl,_,_,rfl,rfl,?_⟩
  unfold zid at q
  rw [if_pos c'] at q
  exact q
 ·have c' : ¬ 0≤e.1:=of_decide_eq_false (Bool.eq_false_iff.mpr c)
  refine ⟨_,rfl,_,rfl,_,_,rfl,rfl,.inl ⟨by decide,by decide⟩,_,_,rfl,rfl,?_⟩
  refine ⟨_,rfl,_,_,rfl,rfl,.inl ⟨by decide,by decide⟩,_,rfl,_,_,_,_,rfl,rfl,hT,rfl,_,_,rfl,rfl,?_⟩
  unfold zid at q
  rw [if_neg c'] at q
  exact q
abbrev nV (n : Nat) : V:=.int (n : Int)
theorem zqV {v : Int} (h : 0≤v) : ∃ n : Nat,v = (n : Int):=⟨v.toNat,by omega⟩
theorem zm8 {xs : List Nat} {i : Nat} (h : i < xs.length) : atI (xs.map nV) (i : Int) = some (nV (xs.getD i 0)):=
 zeQ (by rw [yau,yac h,yah,yac h]; rfl)
theorem zp5 {xs : List Nat} {i : Nat} (h0 : i≠0) (h : i < xs.length) : atI (xs.map nV) ((i : Int) - 1) = some (nV (xs.getD (i - 1) 0)):=by
 have e : (i : Int) - 1 = ((i - 1 : Nat) : Int):=by omega
 rw [e]
 exact zm8 (by omega)
theorem zmG {xs : List Nat} {i : Nat} {x : V} (h : (xs.map nV)[i]? = some x) : i < xs.length∧x = nV (xs.getD i 0):=by
 rw [yau] at h
 cases e : xs[i]? with
 | none=>rw [e] at h; cases h
 | some y=>
  rw [e] at h
  refine ⟨(yan.mp e).1,?_⟩
  rw [yah,e]
  exact (yad h).symm
theorem zp6 (n : Nat) : Builtin.bitAnd (n : Int) 1 = ((n % 2 : Nat) : Int):=by
 unfold Builtin.bitAnd
 rw [yag (ybm n),yag (by decide : (0 : Int)≤1)]
 show ((n &&& 1 : Nat) : Int) = _
 rw [Nat.and_one_is_mod]
theorem zrk (a b : Nat) : 2 * ((lu a b : Nat) : Int) + Builtin.bitAnd ((b : Int) / 2 ^ ((lu a b : Nat) : Int).toNat) 1 = ((fig a b : Nat) : Int):=by
 have e : (b : Int) / 2 ^ ((lu a b : Nat) : Int).toNat = ((b / 2 ^ lu a b : Nat) : Int):=by
  rw [ybb,Int.natCast_ediv,Int.natCast_pow]
  rfl
 rw [e,zp6]
 unfold fig
 omega
def But (p : Addr) (H H' : Hp) : Prop:=∀ b o,b≠p→H b = some o→H' b = some o
theorem But.sq {K : Frag} {p : Addr} {H H' : Hp} {a : Addr} {xs : List V} (k : But p H H') (h : SqL K H a xs) (n : H p = none) : SqL K H' a xs:=by
 rcases h with (h | ⟨o,h⟩) | h
 ·exact .inl (.inl (k _ _ (zad h n) h))
 ·exact .inl (.inr ⟨o,k _ _ (zad h n) h⟩)
 ·exact .inr h
theorem zmM (xs : List Nat) : (xs.map nV).all zeJ = true:=by
 rw [yaW]
 intro x hx
 obtain ⟨n,_,rfl⟩:=yaB.mp hx
 rfl
theorem zoQ (n : Nat) (xs : List Nat) : inV (.int (n : Int)) (xs.map nV) = decide (n∈xs):=by
 unfold inV
 induction xs with
 | nil=>rfl
 | cons x xs ih=>
  rw [yao,ybc,ih]
  show ((x : Int) == (n : Int) || decide (n∈xs)) = decide (n∈x :: xs)
  by_cases h : x = n
  ·subst h
   simp
  ·have : ((x : Int) == (n : Int)) = false:=by
    rw [beq_eq_false_iff_ne]
    omega
   rw [this,Bool.false_or]
   have e : (n∈x :: xs) = (n∈xs):=propext (by simp [Ne.symm h])
   simp [Ne.symm h]
def zjo (K : Frag) : Sp:=fun vs H Q _=>∃ (a : Addr) (xs : List Nat),vs = [.ref a]∧SqL K H a (xs.map nV)∧Unl xs∧xs.length≤1000∧
 ∀ (p : Addr) (H' : Hp),H p = none→Same H H'→H' p = some (.lst ((zc2 xs).map nV))→Q (.ref p) H'
theorem zl2 (T : Txt K mg) (D_turned : DF K mg "turned" zfc zd7) (F_lowest_unlike : FC P w K mg base 1 "lowest_unlike" zbm zqq) : FC P w K mg base 2 "turned" zd7 (zjo K):=by
 refine D_turned.ok sc_turned (fun vs H Q E h=>?_) (fun f cdv A outer s H vs Q E hr h=>?_)
 ·obtain ⟨a,xs,rfl,_⟩:=h
  rfl
 obtain ⟨a,xs,rfl,hS,hu,hz,q⟩:=h
 refine ⟨_,(zaf (zar (i:=1) sc_turned.nd rfl (Or.inl rfl) (zbW zac))
   (zaf (zbO PassesOwn.never rfl (zhW rfl T.m_enumerate (zaa (pv 0) zac)) (zjI rfl (zaZ (zas (i:=2) sc_turned.nd rfl (Or.inl rfl)) (zaZ (zas (i:=3) sc_turned.nd rfl (Or.inl rfl)) zfJ))) (zae (zba (zaw zgh (pv 2) zaj (zaF _)) (zae (zbT (zha F.plainAttrs_list F.slot_list_append F.type_list_append zbz (pv 1) (zaa (zay zeV (pv 3) zaj) zac)))) (zaf (zar (i:=4) sc_turned.nd rfl (Or.inl rfl) (zau F_lowest_unlike hr (zaa (za0 zbA (pv 0) (zay zcZ (pv 2) zaj) (fun _ _=>rfl)) (zaa (pv 3) zac))))
   (zae (zbT (zha F.plainAttrs_list F.slot_list_append F.type_list_append zbz (pv 1) (zaa (zay zby (zay zcD zaj (pv 4)) (zay zoN (zay zqJ (pv 3) (pv 4)) zaj)) zac))))))))
   (zae (zav (pv 1))))),?_⟩
 refine ⟨(by show 0≤sizeLine; decide),fun p hp=>?_⟩
 have k0 : But p H (upd H p (.lst [])):=fun b o n e=>by rw [zah n]; exact e
 refine ⟨_,rfl,a,rfl,⟨_,k0.sq hS hp⟩,?_⟩
 refine zod (xs:=xs.map nV) (fun i σ H2=>∃ x2 x3 x4 : Option V,σ = [some (.ref a),some (.ref p),x2,x3,x4]∧H2 p = some (.lst (((zc2 xs).take i).map nV))∧But p H H2) ?_ ?_ ?_ ?_
 ·exact ⟨_,_,_,rfl,zab,k0⟩
 ·rintro i σ H2 _ ⟨x2,x3,x4,rfl,_,k2⟩
  exact k2.sq hS hp
 ·rintro i x σ H2 r hx ⟨x2,x3,x4,rfl,h2,k2⟩ hr
  obtain ⟨hi,rfl⟩:=zmG hx
  have hS2:=k2.sq hS hp
  have np : p≠r:=zad h2 hr
  have h3 : upd H2 r (.tup [.int i,nV (xs.getD i 0)]) p = some (.lst (((zc2 xs).take i).map nV)):=by rw [zah np]; exact h2
  have k3 : But p H (upd H2 r (.tup [.int i,nV (xs.getD i 0)])):=fun b o n e=>(zai hr _) b o (k2 b o n e)
  have hS3:=k3.sq hS hp
  have hlen : (((zc2 xs).take i).map nV).length < sizeLine:=zaq (by rw [yab,yap,zbq]; omega)
  refine ⟨r,_,rfl,SqT.of zab,rfl,_,_,rfl,_,_,rfl,rfl,?_⟩
  generalize upd H2 r (.tup [.int i,nV (xs.getD i 0)]) = H3 at h3 k3 hS3 ⊢
  have fin : ∀ v : V,v = nV (zdU xs i)→∃ y2 y3 y4 : Option V,[some (V.ref a),some (V.ref p),y2,y3,y4] = [some (V.ref a),some (V.ref p),y2,y3,y4]∧upd H3 p (.lst (((zc2 xs).take i).map nV ++ [v])) p = some (.lst (((zc2 xs).take (i + 1)).map nV))∧But p H (upd H3 p (.lst (((zc2 xs).take i).map nV ++ [v]))):=by
   rintro v rfl
   refine ⟨none,none,none,rfl,?_,fun b o n e=>by rw [zah n]; exact k3 b o n e⟩
   rw [zab,zkn hi,yav]
   rfl
  refine ⟨_,rfl,rfl,_,rfl,?_⟩
  refine ite2 (fun c=>?_) (fun c=>?_)
  ·have c' : i = 0:=by
    have:=V.int.inj (yaO c)
    omega
   refine ⟨_,rfl,.inl ⟨rfl,_,SqL.of h3⟩,_,rfl,_,_,rfl,rfl,(by show (0 : Int) < 2; decide),_,_,_,rfl,rfl,h3,hlen,?_⟩
   obtain ⟨_,_,_,_,g2,g3⟩:=fin (.int (((xs.getD i 0 : Nat) : Int) % 2)) (by
    unfold zdU
    rw [if_pos c',c']
    show V.int _ = V.int _
    rw [Int.natCast_emod]
    rfl)
   exact ⟨_,_,_,rfl,g2,g3⟩
  ·have c' : i≠0:=fun z=>c (by subst z; decide)
   have hne : xs.getD (i - 1) 0≠xs.getD i 0:=by
    have:=hu (i - 1) (by omega)
    rw [show i - 1 + 1 = i by omega] at this
    exact this
   refine ⟨_,rfl,_,rfl,_,_,rfl,rfl,_,_,_,_,rfl,rfl,hS3,zp5 c' hi,_,rfl,_,_,rfl,hne,?_⟩
   refine ⟨_,rfl,.inl ⟨rfl,_,SqL.of h3⟩,_,rfl,_,_,rfl,rfl,.inl ⟨by decide,by decide⟩,_,rfl,_,rfl,_,_,rfl,rfl,ybm _,_,_,rfl,rfl,_,_,rfl,rfl,_,_,_,rfl,rfl,h3,hlen,?_⟩
   obtain ⟨_,_,_,_,g2,g3⟩:=fin (.int (2 * ((lu (xs.getD (i - 1) 0) (xs.getD i 0) : Nat) : Int) + Builtin.bitAnd (((xs.getD i 0 : Nat) : Int) / 2 ^ ((lu (xs.getD (i - 1) 0) (xs.getD i 0) : Nat) : Int).toNat) 1)) (by
    unfold zdU
    rw [if_neg c',zrk])
   exact ⟨_,_,_,rfl,g2,g3⟩
 ·rintro σ H2 ⟨x2,x3,x4,rfl,h2,k2⟩
  refine ⟨_,rfl,?_⟩
  refine q p H2 hp (fun b o e=>k2 b o (zad e hp) e) ?_
  rw [h2,yar (by rw [zbq,yab]; exact yaa _)]
def zc1 : Nat→List Nat→List Nat
 | 0,xs=>xs
 | n + 1,xs=>zc2 (zc1 n xs)
theorem zcj (n : Nat) (xs : List Nat) : (zc1 n xs).length = xs.length:=by
 induction n with
 | zero=>rfl
 | succ n ih=>rw [zc1,zbq,ih]
theorem zcA {xs : List Nat} (h : Unl xs) (n : Nat) : Unl (zc1 n xs):=by
 induction n with
 | zero=>exact h
 | succ n ih=>exact zle ih
theorem zdG {m k : Nat} {xs : List Nat} (h : zdn m xs) (hk : m≤k) : zdn k xs:=fun i hi=>yaw (h i hi) hk
theorem zo4 {xs : List Nat} (h : Unl xs) (hb : zdn (2 ^ 207) xs) : zdn 414 (zc1 1 xs):=zb8 (k:=207) (by decide) h hb
theorem zo3 {xs : List Nat} (h : Unl xs) (hb : zdn (2 ^ 207) xs) : zdn 18 (zc1 2 xs):=zb8 (k:=9) (by decide) (zcA h 1) (zdG (zo4 h hb) (by decide))
theorem zo2 {xs : List Nat} (h : Unl xs) (hb : zdn (2 ^ 207) xs) : zdn 10 (zc1 3 xs):=zb8 (k:=5) (by decide) (zcA h 2) (zdG (zo3 h hb) (by decide))
theorem zo1 {xs : List Nat} (h : Unl xs) (hb : zdn (2 ^ 207) xs) : zdn 8 (zc1 4 xs):=zb8 (k:=4) (by decide) (zcA h 3) (zdG (zo2 h hb) (by decide))
theorem zo0 {xs : List Nat} (h : Unl xs) (hb : zdn (2 ^ 207) xs) : zdn 6 (zc1 5 xs):=zb8 (k:=3) (by decide) (zcA h 4) (zdG (zo1 h hb) (by decide))
def zcH (es : List (Int×Int)) : List Nat:=es.map zgi
theorem zaQ (es : List (Int×Int)) : (zcH es).length = es.length:=yab _
theorem zeN {es : List (Int×Int)} {i : Nat} (h : i < es.length) : (zcH es).getD i 0 = zgi es[i]:=by
 unfold zcH
 rw [yah,yau,yac h]
 rfl
theorem zi3 {es : List (Int×Int)} (h : ∀ e∈es,ze9 64 e) : zdn (2 ^ 207) (zcH es):=fun i hi=>by
 rw [zaQ] at hi
 rw [zeN hi]
 exact zol (h _ (ya1 hi))
theorem zf5 {es : List (Int×Int)} (h : ∀ e∈es,ze9 64 e) (hr : Rise es) : Unl (zcH es):=fun i hi=>by
 rw [zaQ] at hi
 rw [zeN (by omega),zeN hi]
 intro z
 have e:=zmY (h _ (ya1 (by omega))) (h _ (ya1 hi)) z
 have:=ybj.mp hr i (i + 1) (by omega) hi (by omega)
 rw [e] at this
 have q:=zcx.mp this
 omega
theorem zkT {es : List (Int×Int)} {i : Nat} (h : i < es.length) : (zcH es).take (i + 1) = (zcH es).take i ++ [zgi es[i]]:=by
 have h' : i < (zcH es).length:=by rw [zaQ]; exact h
 have z : (zcH es)[i]'h' = zgi es[i]:=List.getElem_map zgi
 rw [yaP h',z]
def zjq (K : Frag) : Sp:=fun vs H Q _=>∃ (a : Addr) (ws : List V) (es : List (Int×Int)),vs = [.ref a]∧SqL K H a ws∧zal K H es ws∧es.length≤1000∧(∀ e∈es,ze9 64 e)∧Rise es∧
 ∀ (p : Addr) (H' : Hp),H p = none→Same H H'→H' p = some (.lst ((zc1 5 (zcH es)).map nV))→Q (.ref p) H'
theorem zkU {K : Frag} {H0 H2 : Hp} {D : Addr} {es : List (Int×Int)} {ws : List V} {i : Nat} {x : V} (hD : H0 D = none) (hw : zal K H0 es ws) (hx : ws[i]? = some x) (k : But D H0 H2) : ∃ h : i < es.length,Rep.has K H2 es[i] x:=by
 obtain ⟨e,h1,h2⟩:=hw.get hx
 have hi:=(yan.mp h1).1
 refine ⟨hi,?_⟩
 have z : es[i] = e:=(yan.mp h1).2
 rw [z]
 obtain ⟨a,x1,x2,rfl,q,e1,e2⟩:=(show hasP K H0 e x from h2)
 exact ⟨a,x1,x2,rfl,k _ _ (zad q hD) q,e1,e2⟩
theorem zl5 (T : Txt K mg) (D_labels : DF K mg "labels" zfe zea) (F_code : FC P w K mg base 1 "code" zg8 (zoI K)) (F_turned : FC P w K mg base 2 "turned" zd7 (zjo K)) : FC P w K mg base 3 "labels" zea (zjq K):=by
 refine D_labels.ok sc_labels (fun vs H Q E h=>?_) (fun f cdv A outer s H vs Q E hr h=>?_)
 ·obtain ⟨a,ws,es,rfl,_⟩:=h
  rfl
 obtain ⟨a,ws,es,rfl,hS,hw,hz,he,hri,q⟩:=h
 have hlen:=hw.length
 refine ⟨_,(zaf (zg7 (i:=1) (N:=["entry"]) (own:=1) (cap:=[]) sc_labels.nd rfl rfl rfl (zdN (pv 0)) ⟨rfl,rfl,rfl,rfl,rfl,rfl⟩ (fun _ _ _ _ _=>(zas (i:=0) (show List.Nodup (["entry"] : List Str) by decide +kernel) rfl (Or.inl rfl))) (fun _ _ _ _ _=>zcQ) (fun _ _ _ _ _=>(zau F_code hr (zaa (pv 0) zac))))
   (zaf (zbO PassesOwn.never rfl (zbP rfl T.m_range (zaa (zei rfl T.g_TURNS) zac)) (zas (i:=2) sc_labels.nd rfl (Or.inl rfl)) (zae (zar (i:=1) sc_labels.nd rfl (Or.inl rfl) (zau F_turned hr (zaa (pv 1) zac)))))
   (zae (zav (pv 1))))),?_⟩
 refine ⟨_,rfl,a,rfl,⟨_,hS⟩,fun D hD=>?_⟩
 have k0 : But D H (upd H D (.lst [])):=fun b o n e=>by rw [zah n]; exact e
 refine zcG (xs:=ws) (fun i σ H2=>∃ x0 : Option V,σ = [x0]∧H2 D = some (.lst (((zcH es).take i).map nV))∧But D H H2) ?_ ?_ ?_ ?_
 ·exact ⟨_,rfl,zab,k0⟩
 ·rintro i σ H2 _ ⟨x0,rfl,_,k2⟩
  exact k2.sq hS hD
 ·rintro i m x σ H2 hx hm ⟨x0,rfl,h2,k2⟩
  obtain ⟨hi,hhas⟩:=zkU hD hw hx k2
  refine zeq ?_
  refine ⟨_,rfl,x,es[i],rfl,hhas,?_⟩
  refine ⟨_,h2,zaq (by rw [yab,yap,zaQ]; omega),m - 1,by omega,by omega,_,rfl,?_,fun b o n e=>by rw [zah n]; exact k2 b o n e⟩
  rw [zab,zkT hi,yav,← zfx (he _ (ya1 hi))]
  rfl
 ·rintro σ H2 ⟨x0,rfl,h2,k2⟩
  have e0 : H2 D = some (.lst ((zcH es).map nV)):=by
   rw [h2,yar (by rw [zaQ]; omega)]
  have same0 : Same H H2:=fun b o e=>k2 b o (zad e hD) e
  refine ⟨5,rfl,by decide,by decide,?_⟩
  refine zbB (n:=5) (fun i σ H3=>∃ (p : Addr) (x2 x3 : Option V),σ = [some (.ref a),some (.ref p),x2]∧H p = none∧Same H H3∧H3 p = some (.lst ((zc1 i (zcH es)).map nV))) ?_ ?_ ?_
  ·exact ⟨D,_,none,rfl,hD,same0,e0⟩
  ·rintro i σ H3 hi ⟨p,x2,x3,rfl,hp,s3,h3⟩
   refine ⟨_,rfl,p,_,rfl,SqL.of h3,zcA (zf5 he hri) i,by rw [zcj,zaQ]; exact hz,fun p4 H4 hp4 s4 h4=>?_⟩
   exact ⟨p4,_,none,rfl,s3.free hp4,s3.trans s4,h4⟩
  ·rintro σ H3 ⟨p,x2,x3,rfl,hp,s3,h3⟩
   refine ⟨_,rfl,?_⟩
   exact q p H3 hp s3 h3
theorem zcu {n d i : Nat} : HT.sIx n d (some (i : Int)) = min i n:=by
 unfold HT.sIx
 simp
 try omega
theorem zka (xs : List V) (a b : Nat) : cutV xs (some (a : Int)) (some (b : Int)) = (xs.drop a).take (b - a):=by
 unfold cutV
 rw [zcu,zcu]
 by_cases h : a≤xs.length
 ·rw [ybq h]
  by_cases h2 : b≤xs.length
  ·rw [ybq h2]
  ·rw [ycn (by omega),yar (by rw [yaL]; exact yaa _),yar (by rw [yaL]; omega)]
 ·rw [ycn (show xs.length≤a by omega),yaZ (yaa _),yaZ (show xs.length≤a by omega)]
  simp
theorem zgl {α : Type} (xs : List α) (k : Nat) : (xs.drop k).take 1 = xs[k]?.toList:=by
 by_cases h : k < xs.length
 ·rw [yb3 h,yac h]
  rfl
 ·rw [yaZ (by omega),yaU (by omega)]
  rfl
theorem zmW {xs : List V} {k : Nat} {i j : Int} (hi : i = if (k : Int) - 1 > 0 then (k : Int) - 1 else 0) (hj : j = (k : Int)) : cutV xs (some i) (some j) = (if k = 0 then none else xs[k - 1]?).toList:=by
 subst hj
 have e : i = ((k - 1 : Nat) : Int):=by
  rw [hi]
  split <;> omega
 subst e
 rw [zka]
 split
 ·rename_i h
  subst h
  simp
 ·rw [show k - (k - 1) = 1 by omega,zgl]
theorem zkS {xs : List V} {k : Nat} {i j : Int} (hi : i = (k : Int) + 1) (hj : j = (k : Int) + 2) : cutV xs (some i) (some j) = xs[k + 1]?.toList:=by
 subst hi hj
 rw [show (k : Int) + 1 = ((k + 1 : Nat) : Int) by omega,show (k : Int) + 2 = ((k + 2 : Nat) : Int) by omega,zka,show k + 2 - (k + 1) = 1 by omega,zgl]
theorem zm5 (xs : List Nat) (k : Nat) : (if k = 0 then none else (xs.map nV)[k - 1]?).toList ++ (xs.map nV)[k + 1]?.toList = (zaS xs k).map nV:=by
 unfold zaS
 rw [yav,yau,yau]
 congr 1
 ·split
  ·rfl
  ·cases xs[k - 1]? <;> rfl
 ·cases xs[k + 1]? <;> rfl
theorem But.new {p b : Addr} {H H2 : Hp} (k : But p H H2) (hb : H2 b = none) (o : HO) : But p H (upd H2 b o):=fun x o' n e=>(zai hb o) x o' (k x o' n e)
def zhO (K : Frag) : Sp:=fun vs H Q _=>∃ (a : Addr) (xs : List Nat),vs = [.ref a]∧SqL K H a (xs.map nV)∧Unl xs∧zdn 6 xs∧xs.length≤1000∧
 ∀ (p : Addr) (H' : Hp),H p = none→Same H H'→H' p = some (.lst ((colL xs).map nV))→Q (.ref p) H'
def zem (es : List (Int×Int)) : List Bool:=zgv (colL (zc1 5 (zcH es)))
theorem zhl (es : List (Int×Int)) : (zem es).length = es.length:=by
 unfold zem
 rw [zhm,zf4,zcj,zaQ]
theorem zmn {es : List (Int×Int)} (he : ∀ e∈es,ze9 64 e) (hri : Rise es) : Unl (zc1 5 (zcH es)):=zcA (zf5 he hri) 5
theorem zmo {es : List (Int×Int)} (he : ∀ e∈es,ze9 64 e) (hri : Rise es) : zdn 6 (zc1 5 (zcH es)):=zo0 (zf5 he hri) (zi3 he)
def zly (K : Frag) : Sp:=fun vs H Q _=>∃ (a : Addr) (ws : List V) (es : List (Int×Int)),vs = [.ref a]∧H a = some (.lst ws)∧zal K H es ws∧es.length≤1000∧(∀ e∈es,ze9 64 e)∧Rise es∧
 ∀ (p : Addr) (H' : Hp),H p = none→Same H H'→H' p = some (.lst ((zem es).map V.bl))→Q (.ref p) H'
def zgW (K : Frag) : Sp:=fun vs H Q _=>∃ (a : Addr) (ws : List V) (es : List (Int×Int)),vs = [.ref a]∧H a = some (.lst ws)∧zal K H es ws∧es.length≤1000∧(∀ e∈es,ze9 64 e)∧Rise es∧
 ∀ (p : Addr) (H' : Hp),H p = none→Same H H'→H' p = some (.lst (zcF ws (zem es)))→Q (.ref p) H'
theorem zgk (o : Option Bool) : o.toList.any id = o.getD false:=by
 cases o with
 | none=>rfl
 | some b=>cases b <;> rfl
theorem zn5 (ms : List Bool) : inV (.bl true) (ms.map V.bl) = ms.any id:=by
 unfold inV
 induction ms with
 | nil=>rfl
 | cons m ms ih=>
  rw [yao,ybc,ih,ybc]
  cases m <;> rfl
theorem zpX (ms : List Bool) : (ms.map V.bl).all zeJ = true:=by
 rw [yaW]
 intro x hx
 obtain ⟨n,_,rfl⟩:=yaB.mp hx
 rfl
theorem zmF {α : Type} {as : List α} {bs : List Bool} {a : α} {b : Bool} (h : as.length = bs.length) : zcF (as ++ [a]) (bs ++ [b]) = zcF as bs ++ (if b = true then [a] else []):=by
 unfold zcF
 rw [List.zip_append h,ybl,yav]
 congr 1
 cases b <;> rfl
theorem ziT {α : Type} (as : List α) (bs : List Bool) : (zcF as bs).length≤as.length:=by
 unfold zcF
 rw [yab]
 refine yay (ybf _ _) ?_
 rw [yck]
 omega
theorem zft {α : Type} [Rep α] {K : Frag} {H : Hp} : ∀ {es : List α} {ws : List V} {ms : List Bool},zal K H es ws→zal K H (zcF es ms) (zcF ws ms)
 | _,_,_,.nil=>by
  unfold zcF
  exact .nil
 | e :: es,w :: ws,[],.cons h t=>by
  unfold zcF
  exact .nil
 | e :: es,w :: ws,m :: ms,.cons h t=>by
  have:=zft (ms:=ms) t
  unfold zcF at this ⊢
  cases m with
  | false=>exact this
  | true=>exact .cons h this
theorem zdL (bs : List Nat) (c : Nat) : ((List.range (c + 1)).filter fun c=>!decide (c∈bs)) = ((List.range c).filter fun c=>!decide (c∈bs)) ++ (if c∈bs then [] else [c]):=by
 rw [ybV,ybl]
 congr 1
 by_cases h : c∈bs
 ·rw [if_pos h]
  simp [List.filter,h]
 ·rw [if_neg h]
  simp [List.filter,h]
theorem zdH {H : Hp} {p t : Addr} {xs ys : List V} (h1 : H p = some (.lst xs)) (h2 : H t = some (.tup ys)) : p≠t:=fun z=>by
 rw [z,h2] at h1
 cases h1
theorem zfU {n k : Nat} (h : k < n) : ixN n (k : Int) = some k:=by
 unfold ixN
 simp
 omega
def besV (xs : List V) (k : Nat) : List V:=(if k = 0 then none else xs[k - 1]?).toList ++ xs[k + 1]?.toList
theorem zi4 (xs : List V) (k : Nat) : (besV xs k).length≤2:=by
 have e : ∀ o : Option V,o.toList.length≤1:=fun o=>by cases o <;> simp
 unfold besV
 rw [yam]
 have:=e (if k = 0 then none else xs[k - 1]?)
 have:=e xs[k + 1]?
 omega
def spNb (K : Frag) : Sp:=fun vs H Q _=>∃ (a : Addr) (xs : List V) (k : Nat),vs = [.ref a,.int k]∧H a = some (.lst xs)∧
 ∀ (g : Addr) (H' : Hp),H g = none→Same H H'→H' g = some (.lst (besV xs k))→Q (.ref g) H'
theorem zhh (T : Txt K mg) (D_neighbours : DF K mg "neighbours" zck zbw) : FC P w K mg base 1 "neighbours" zbw (spNb K):=by
 refine D_neighbours.ok sc_neighbours (fun vs H Q E h=>?_) (fun f cdv A outer s H vs Q E hr h=>?_)
 ·obtain ⟨a,xs,k,rfl,_⟩:=h
  rfl
 obtain ⟨a,xs,k,rfl,ha,q⟩:=h
 refine ⟨_,(zae (zav (zay zqL (zcq zlF (pv 0) (zcv (zap (zif rfl) rfl T.m_max boot_max (zaa (zay zcZ (pv 1) zaj) (zaa zaj zac)))) (zcv (pv 1))) (zcq zlF (pv 0) (zcv (zay zby (pv 1) zaj)) (zcv (zay zby (pv 1) zaj)))))),?_⟩
 refine ⟨_,rfl,_,rfl,_,_,rfl,rfl,_,_,rfl,_,rfl,_,rfl,_,rfl,_,_,rfl,SqL.of ha,fun b hb=>?_⟩
 have kb:=zai hb (.lst (cutV xs (some (if 0 > (k : Int) - 1 then 0 else (k : Int) - 1)) (some (k : Int))))
 have hbb : upd H b (.lst (cutV xs (some (if 0 > (k : Int) - 1 then 0 else (k : Int) - 1)) (some (k : Int)))) b = some (.lst (if k = 0 then none else xs[k - 1]?).toList):=by
  rw [zab,zmW (k:=k) (by split <;> split <;> omega) rfl]
 generalize upd H b (.lst (cutV xs (some (if 0 > (k : Int) - 1 then 0 else (k : Int) - 1)) (some (k : Int)))) = H3 at kb hbb ⊢
 refine ⟨_,rfl,_,rfl,_,_,rfl,rfl,_,rfl,_,rfl,_,_,rfl,rfl,_,rfl,_,_,rfl,SqL.of (kb _ _ ha),fun c hc=>?_⟩
 have kc:=zai hc (.lst (cutV xs (some ((k : Int) + 1)) (some ((k : Int) + 2))))
 have hcb:=kc _ _ hbb
 have hcc : upd H3 c (.lst (cutV xs (some ((k : Int) + 1)) (some ((k : Int) + 2)))) c = some (.lst xs[k + 1]?.toList):=by
  rw [zab,zkS (k:=k) rfl rfl]
 generalize upd H3 c (.lst (cutV xs (some ((k : Int) + 1)) (some ((k : Int) + 2)))) = H4 at kc hcb hcc ⊢
 refine ⟨b,c,_,_,rfl,rfl,hcb,hcc,?_,fun g hg=>?_⟩
 ·rw [← yam]
  exact yay (zi4 xs k) (by decide)
 exact q g _ (kb.free (kc.free hg)) (kb.trans (kc.trans (zai hg _))) zab
def zoG (K : Frag) : Sp:=fun vs H Q _=>∃ (a : Addr) (xs : List Nat) (k : Nat),vs = [.ref a]∧H a = some (.lst ((zaS xs k).map nV))∧
 ∀ H' : Hp,Same H H'→Q (.int (zdK xs k : Nat)) H'
theorem zhi (T : Txt K mg) (D_least_free : DF K mg "least_free" zcl zb2) : FC P w K mg base 1 "least_free" zb2 (zoG K):=by
 refine D_least_free.ok sc_least_free (fun vs H Q E h=>?_) (fun f cdv A outer s H vs Q E hr h=>?_)
 ·obtain ⟨a,xs,k,rfl,_⟩:=h
  rfl
 obtain ⟨a,xs,k,rfl,ha,q⟩:=h
 refine ⟨_,(zae (zav (zap (zm3 rfl) rfl T.m_min boot_min (zaa (zcw (N:=["colour","taken"]) (own:=1) (cap:=[0]) rfl (zfH (zbr (zaa zaj (zaa zaj (zaa zaj zac))))) ⟨rfl,rfl,rfl,rfl,rfl,rfl⟩ (fun _ _ _ _ _=>(zas (i:=0) (show List.Nodup (["colour","taken"] : List Str) by decide +kernel) rfl (Or.inl rfl))) (fun _ _ _ _ _=>(zfG (zaw (zhf (K:=K)) (pv 0) (pv 1) (by with_unfolding_all rfl)))) (fun _ _ _ _ _=>(pv 0))) zac)))),?_⟩
 refine ⟨(by show 3≤sizeLine; decide),fun t ht=>?_⟩
 have st:=zai ht (.tup [V.int 0,V.int 1,V.int 2])
 have ht1 : upd H t (.tup [V.int 0,V.int 1,V.int 2]) t = some (.tup [V.int 0,V.int 1,V.int 2]):=zab
 generalize upd H t (.tup [V.int 0,V.int 1,V.int 2]) = H1 at st ht1 ⊢
 have h1a:=st _ _ ha
 refine ⟨t,rfl,⟨_,SqT.of ht1⟩,fun D hD=>?_⟩
 refine zet (xs:=[V.int 0,V.int 1,V.int 2]) (fun c σ H6=>∃ x0 : Option V,σ = [x0,some (.ref a)]∧H6 D = some (.lst (((List.range c).filter fun c=>!decide (c∈zaS xs k)).map nV))∧But D H1 H6) ?_ ?_ ?_ ?_
 ·exact ⟨_,rfl,zab,fun b o n e=>by rw [zah n]; exact e⟩
 ·rintro i σ H6 _ ⟨x0,rfl,_,k6⟩
  exact SqT.of (k6 _ _ (zad ht1 hD) ht1)
 ·rintro c m x σ H6 hx hm ⟨x0,rfl,h6,k6⟩
  obtain ⟨hi,rfl⟩ : c < 3∧x = V.int (c : Int):=by
   rcases c with _ | _ | _ | c
   ·exact ⟨by decide,(yad hx).symm⟩
   ·exact ⟨by decide,(yad hx).symm⟩
   ·exact ⟨by decide,(yad hx).symm⟩
   ·cases hx
  have h6g:=k6 _ _ (zad h1a hD) h1a
  have hlen:=ybf (fun c=>!decide (c∈zaS xs k)) (List.range c)
  rw [ya7] at hlen
  refine ⟨_,rfl,_,rfl,_,_,rfl,.inl (SqL.of h6g),rfl,zmM _,_,rfl,?_⟩
  show if (!inV (.int (c : Int)) ((zaS xs k).map nV)) = true then _ else _
  rw [zoQ]
  have hm3 : c + m = 3:=hm
  refine ite2 (fun e=>?_) (fun e=>?_)
  ·have e' : c∉zaS xs k:=fun z=>by
    rw [yag z] at e
    cases e
   refine ⟨_,rfl,_,h6,zaq (by rw [yab]; omega),m - 1,by omega,(by show c + 1 + (m - 1) = 3; omega),_,rfl,?_,fun b o n e=>by rw [zah n]; exact k6 b o n e⟩
   rw [zab,zdL,if_neg e',yav]
   rfl
  ·have e' : c∈zaS xs k:=Decidable.byContradiction fun z=>e (by rw [yaf z]; rfl)
   refine ⟨m - 1,by omega,(by show c + 1 + (m - 1) = 3; omega),_,rfl,?_,k6⟩
   rw [h6,zdL,if_pos e',yaH]
 ·rintro σ H6 ⟨x0,rfl,h6,k6⟩
  have h6 : H6 D = some (.lst (((List.range 3).filter fun c=>!decide (c∈zaS xs k)).map nV)):=h6
  have s6 : Same H1 H6:=fun b o e=>k6 b o (zad e hD) e
  have mem : ∀ c,c∈((List.range 3).filter fun c=>!decide (c∈zaS xs k))↔c < 3∧c∉zaS xs k:=fun c=>by
   rw [ya8,ya9]
   constructor
   ·rintro ⟨h1,h2⟩
    refine ⟨h1,fun z=>?_⟩
    rw [yag z] at h2
    cases h2
   ·rintro ⟨h1,h2⟩
    exact ⟨h1,by rw [yaf h2]; rfl⟩
  have hf : zdK xs k∈((List.range 3).filter fun c=>!decide (c∈zaS xs k)):=(mem _).mpr ⟨Nat.lt_succ_of_le (zmK xs k),zkP⟩
  refine ⟨D,((List.range 3).filter fun c=>!decide (c∈zaS xs k)).map fun n : Nat=>(n : Int),rfl,?_,?_,fun M hM hL=>?_⟩
  ·rw [ybd]
   exact SqL.of h6
  ·rw [yab]
   exact List.length_pos_of_mem hf
  have eM : M = (zdK xs k : Int):=by
   have h1:=hL _ (yaB.mpr ⟨_,hf,rfl⟩)
   obtain ⟨c,hc,rfl⟩:=yaB.mp hM
   have h2 : ¬ c < zdK xs k:=fun z=>((mem c).mp hc).2 (zh7 z)
   omega
  rw [eM]
  exact q _ (st.trans s6)
theorem zp2 (xs : List Nat) (k : Nat) : besV (xs.map nV) k = (zaS xs k).map nV:=zm5 xs k
theorem zkB (T : Txt K mg) (D_colours : DF K mg "colours" zd4 zdz) (F_neighbours : FC P w K mg base 1 "neighbours" zbw (spNb K)) (F_least_free : FC P w K mg base 1 "least_free" zb2 (zoG K)) : FC P w K mg base 3 "colours" zdz (zhO K):=by
 refine D_colours.ok sc_colours (fun vs H Q E h=>?_) (fun f cdv A outer s H vs Q E hr h=>?_)
 ·obtain ⟨a,xs,rfl,_⟩:=h
  rfl
 obtain ⟨a,xs,rfl,hS,hu,hb,hz,q⟩:=h
 refine ⟨_,(zaf (zar (i:=1) sc_colours.nd rfl (Or.inl rfl) (zaN zdi rfl T.m_list boot_list (zaa (pv 0) zac)))
   (zaf (zbO PassesOwn.never rfl (zfH (zbr (zaa zaj (zaa zaj (zaa zaj zac))))) (zas (i:=2) sc_colours.nd rfl (Or.inl rfl)) (zae (zbO PassesOwn.never rfl (zbP rfl T.m_range (zaa (zap zao rfl T.m_len boot_len (zaa (pv 0) zac)) zac)) (zas (i:=3) sc_colours.nd rfl (Or.inl rfl)) (zae (zba (zaw zgh (za0 zbA (pv 1) (pv 3) (fun _ _=>rfl)) (pv 2) (zaF _)) (zae (zgr (zau F_least_free hr (zaa (zau F_neighbours hr (zaa (pv 1) (zaa (pv 3) zac))) zac)) (zhX (pv 1) (pv 3) zdZ))) zaA)))))
   (zae (zav (pv 1))))),?_⟩
 refine ⟨_,rfl,a,_,rfl,.inl hS,fun p hp=>?_⟩
 have k0 : But p H (upd H p (.lst (xs.map nV))):=fun b o n e=>by rw [zah n]; exact e
 refine ⟨(by show 3≤sizeLine; decide),fun t ht=>?_⟩
 have npt : p≠t:=zad zab ht
 refine ⟨t,rfl,⟨_,SqT.of zab⟩,?_⟩
 refine ziW (xs:=[V.int 3,V.int 4,V.int 5]) (fun i σ H2=>∃ x2 x3 : Option V,σ = [some (.ref a),some (.ref p),x2,x3]∧H2 p = some (.lst ((colN xs i).map nV))∧H2 t = some (.tup [V.int 3,V.int 4,V.int 5])∧But p H H2) ?_ ?_ ?_ ?_
 ·exact ⟨_,_,rfl,by rw [zah npt]; exact zab,zab,k0.new ht _⟩
 ·rintro i σ H2 _ ⟨x2,x3,rfl,_,h2t,_⟩
  exact SqT.of h2t
 ·rintro i x σ H2 hx ⟨x2,x3,rfl,h2,h2t,k2⟩
  obtain ⟨hi,rfl⟩ : i < 3∧x = V.int ((3 + i : Nat) : Int):=by
   rcases i with _ | _ | _ | i
   ·exact ⟨by decide,(yad hx).symm⟩
   ·exact ⟨by decide,(yad hx).symm⟩
   ·exact ⟨by decide,(yad hx).symm⟩
   ·cases hx
  have hyl:=zi2 xs i
  have hyu:=zoj hu i
  have hnx : colN xs (i + 1) = recL (3 + i) (colN xs i):=rfl
  rw [hnx]
  generalize colN xs i = ys at h2 hyl hyu ⊢
  generalize 3 + i = v
  have hSa : SqL K H2 a (xs.map nV):=k2.sq hS hp
  refine ⟨_,rfl,_,_,rfl,.inl hSa,_,rfl,by rw [yab]; omega,by rw [yab]; omega,?_⟩
  have el : ((((xs.map nV).length : Nat) : Int)).toNat = ys.length:=by rw [yab,ybb,hyl]
  rw [el]
  refine zbB (n:=ys.length) (fun k σ H3=>∃ x3 : Option V,σ = [some (.ref a),some (.ref p),some (.int v),x3]∧H3 p = some (.lst ((mixL v ys k).map nV))∧H3 t = some (.tup [V.int 3,V.int 4,V.int 5])∧But p H H3) ?_ ?_ ?_
  ·exact ⟨_,rfl,h2,h2t,k2⟩
  ·rintro k σ H3 hk ⟨x3,rfl,h3,h3t,k3⟩
   rw [ybX]
   have ml:=zfN v ys k
   have eg : (mixL v ys k).getD k 0 = ys.getD k 0:=by
    rw [yah,zmg (yaa k),← yah]
   have hat : atI ((mixL v ys k).map nV) (k : Int) = some (nV (ys.getD k 0)):=by
    rw [← eg]
    exact zm8 (by omega)
   refine ⟨_,rfl,_,rfl,_,_,_,_,rfl,rfl,SqL.of h3,hat,_,rfl,rfl,_,rfl,?_⟩
   refine ite2 (fun c=>?_) (fun c=>?_)
   ·have c' : ys.getD k 0 = v:=by
     have:=V.int.inj (yaO c)
     omega
    refine ⟨_,rfl,_,rfl,p,_,k,rfl,h3,fun g H4 hg s4 h4=>?_⟩
    rw [zp2,ziH hyu hk c'] at h4
    refine ⟨g,ys,k,rfl,h4,fun H5 s5=>?_⟩
    have s35:=s4.trans s5
    have same : ∀ b o,b≠p→H3 b = some o→upd H5 p (.lst (((mixL v ys k).map nV).set k (nV (zdK ys k)))) b = some o:=fun b o n e=>by
     rw [zah n]
     exact s35 _ _ e
    refine ⟨_,rfl,_,rfl,_,_,_,k,rfl,rfl,s35 _ _ h3,zfU (by rw [yab,ml]; exact hk),?_⟩
    refine ⟨_,rfl,?_,same _ _ (Ne.symm (zdH h3 h3t)) h3t,fun b o n e=>same _ _ n (k3 b o n e)⟩
    rw [zab,znW hk c',ybF]
   ·have c' : ys.getD k 0≠v:=fun z=>c (by rw [z]; exact yag rfl)
    exact ⟨_,rfl,by rw [zme hk c']; exact h3,h3t,k3⟩
  ·rintro σ H3 ⟨x3,rfl,h3,h3t,k3⟩
   rw [znX (yaa _)] at h3
   exact ⟨_,_,rfl,h3,h3t,k3⟩
 ·rintro σ H2 ⟨x2,x3,rfl,h2,_,k2⟩
  refine ⟨_,rfl,?_⟩
  exact q p H2 hp (fun b o e=>k2 b o (zad e hp) e) h2
def zdh (ms : List Bool) (k : Nat) : Bool:=!ms.getD (k - 1) false && !ms.getD (k + 1) false
def besB (ms : List Bool) (k : Nat) : List Bool:=(if k = 0 then none else ms[k - 1]?).toList ++ ms[k + 1]?.toList
theorem zp3 (ms : List Bool) (k : Nat) : besV (ms.map V.bl) k = (besB ms k).map V.bl:=by
 unfold besV besB
 rw [yav,yau,yau]
 congr 1
 ·split
  ·rfl
  ·cases ms[k - 1]? <;> rfl
 ·cases ms[k + 1]? <;> rfl
theorem zoo {ms : List Bool} {k : Nat} (h : 1≤k) : (besB ms k).any id = !zdh ms k:=by
 unfold besB zdh
 rw [if_neg (by omega),List.any_append,zgk,zgk,yah,yah]
 generalize ms[k - 1]?.getD false = x
 generalize ms[k + 1]?.getD false = z
 cases x <;> cases z <;> rfl
theorem ziG {sh : Nat} {cs : List Nat} {ms : List Bool} (hu : Unl cs) (hl : cs.length = ms.length) {k : Nat} (h : k < cs.length) (h1 : 1≤k) (hs : cs.getD k 0 = sh) : zdh (mixM sh cs ms k) k = zdh ms k:=by
 unfold zdh
 have e : ∀ j,k≤j→(mixM sh cs ms k).getD j false = ms.getD j false:=fun j hj=>by
  rw [yah,yah,zct hl,if_neg (by omega)]
 rw [e (k + 1) (by omega)]
 have e2 : (mixM sh cs ms k).getD (k - 1) false = ms.getD (k - 1) false:=by
  rw [yah,zct hl,if_pos (by omega),zdB hl (by omega)]
  have:=hu (k - 1) (by omega)
  rw [show k - 1 + 1 = k by omega,hs] at this
  rw [yaf this]
  simp
 rw [e2]
theorem zgt {sh : Nat} {cs : List Nat} {ms : List Bool} (hl : cs.length = ms.length) {k : Nat} (h : k < cs.length) (hn : ¬ (cs.getD k 0 = sh∧zdh ms k = true)) : mixM sh cs ms (k + 1) = mixM sh cs ms k:=by
 apply ya6
 intro j
 rw [zct hl,zct hl]
 by_cases c : j < k
 ·rw [if_pos c,if_pos (by omega)]
 ·rw [if_neg c]
  split
  ·have : j = k:=by omega
   subst this
   rw [zdB hl h]
   unfold zdh at hn
   rw [yac (by omega)]
   have e : ms.getD j false = ms[j]'(by omega):=by
    rw [yah,yac (by omega)]
    rfl
   rw [e]
   congr 1
   generalize ms[j] = a
   generalize ms.getD (j - 1) false = b at hn ⊢
   generalize ms.getD (j + 1) false = d at hn ⊢
   by_cases z : cs.getD j 0 = sh
   ·have hn' : ¬ ((!b && !d) = true):=fun y=>hn ⟨z,y⟩
    cases b with
    | true=>simp
    | false=>
     cases d with
     | true=>simp
     | false=>exact absurd rfl hn'
   ·rw [yaf z]
    simp
  ·rfl
theorem zmd {sh : Nat} {cs : List Nat} {ms : List Bool} (hl : cs.length = ms.length) {k : Nat} (h : k < cs.length) (hp : 1≤k∧cs.getD k 0 = sh∧zdh ms k = true) : mixM sh cs ms (k + 1) = (mixM sh cs ms k).set k true:=by
 apply ya6
 intro j
 rw [ybD,zfM hl,zct hl,zct hl]
 by_cases c : k = j
 ·subst c
  rw [if_pos rfl,if_pos h,if_pos (by omega),zdB hl h]
  obtain ⟨p1,p2,p3⟩:=hp
  unfold zdh at p3
  simp only [ybt,ybP] at p3
  rw [p2,p3.1,p3.2,yag p1]
  simp
 ·rw [if_neg c]
  by_cases c2 : j < k
  ·rw [if_pos c2,if_pos (by omega)]
  ·rw [if_neg c2,if_neg (by omega)]
theorem znJ (T : Txt K mg) (D_marks : DF K mg "marks" zg0 zfo) (F_labels : FC P w K mg base 3 "labels" zea (zjq K)) (F_colours : FC P w K mg base 3 "colours" zdz (zhO K)) (F_neighbours : FC P w K mg base 1 "neighbours" zbw (spNb K)) : FC P w K mg base 5 "marks" zfo (zly K):=by
 refine D_marks.ok sc_marks (fun vs H Q E h=>?_) (fun f cdv A outer s H vs Q E hr h=>?_)
 ·obtain ⟨a,ws,es,rfl,_⟩:=h
  rfl
 obtain ⟨a,ws,es,rfl,ha,hw,hz,he,hri,q⟩:=h
 refine ⟨_,(zaf (zar (i:=1) sc_marks.nd rfl (Or.inl rfl) (zau F_colours hr (zaa (zau F_labels hr (zaa (pv 0) zac)) zac)))
   (zaf (zg7 (i:=2) (N:=["tint"]) (own:=1) (cap:=[]) sc_marks.nd rfl rfl rfl (zdN (pv 1)) ⟨rfl,rfl,rfl,rfl,rfl,rfl⟩ (fun _ _ _ _ _=>(zas (i:=0) (show List.Nodup (["tint"] : List Str) by decide +kernel) rfl (Or.inl rfl))) (fun _ _ _ _ _=>zcQ) (fun _ _ _ _ _=>zhb))
   (zaf (zbO PassesOwn.never rfl (zfH (zbr (zaa zaj (zaa zaj (zaa zaj zac))))) (zas (i:=3) sc_marks.nd rfl (Or.inl rfl)) (zae (zbO PassesOwn.never rfl (zeh rfl T.m_range (zaa zaj (zaa (zap zao rfl T.m_len boot_len (zaa (pv 1) zac)) zac))) (zas (i:=4) sc_marks.nd rfl (Or.inl rfl)) (zae (zba (PW.pt (zjB (zaw zgh (za0 zbA (pv 1) (pv 4) (fun _ _=>rfl)) (pv 3) (zaF _)) (zg5 (zaw zcs zhb (zau F_neighbours hr (zaa (pv 2) (zaa (pv 4) zac))) (by with_unfolding_all rfl))))) (zae (zgr zhb (zhX (pv 2) (pv 4) zdZ))) zaA)))))
   (zae (zav (pv 2)))))),?_⟩
 refine ⟨_,rfl,a,ws,es,rfl,SqL.of ha,hw,hz,he,hri,fun p H3 hp s3 h3=>?_⟩
 refine ⟨p,_,rfl,SqL.of h3,zmn he hri,zmo he hri,by rw [zcj,zaQ]; exact hz,fun c H4 hc s4 h4=>?_⟩
 have cu : Unl (colL (zc1 5 (zcH es))):=zoy (zok (unlZ (zmn he hri)))
 have cl : (colL (zc1 5 (zcH es))).length = es.length:=by rw [zf4,zcj,zaQ]
 have fin : zem es = mkN (colL (zc1 5 (zcH es))) 3:=(zmb _).symm
 generalize colL (zc1 5 (zcH es)) = cs at h4 cu cl fin
 have s04:=s3.trans s4
 refine ⟨_,rfl,c,rfl,⟨_,SqL.of h4⟩,fun F hF=>?_⟩
 refine zcG (xs:=cs.map nV) (fun i σ H5=>∃ x0 : Option V,σ = [x0]∧H5 F = some (.lst ((List.replicate i false).map V.bl))∧But F H4 H5) ?_ ?_ ?_ ?_
 ·exact ⟨_,rfl,zab,fun b o n e=>by rw [zah n]; exact e⟩
 ·rintro i σ H5 _ ⟨x0,rfl,_,k5⟩
  exact k5.sq (SqL.of h4) hF
 ·rintro i m x σ H5 hx hm ⟨x0,rfl,h5,k5⟩
  have hi:=(yan.mp hx).1
  rw [yab] at hi hm
  refine zeq ?_
  refine ⟨_,h5,zaq (by rw [yab,ybs]; omega),m - 1,by omega,by rw [yab]; omega,_,rfl,?_,fun b o n e=>by rw [zah n]; exact k5 b o n e⟩
  rw [zab,List.replicate_succ',yav]
  rfl
 rintro σ H5 ⟨x0,rfl,h5,k5⟩
 have s45 : Same H4 H5:=fun b o e=>k5 b o (zad e hF) e
 have h5c:=s45 _ _ h4
 have nFc : c≠F:=zad h4 hF
 have hF0 : H F = none:=s04.free hF
 have k05 : But F H H5:=fun b o _ e=>s45 _ _ (s04 _ _ e)
 have e5 : H5 F = some (.lst ((mkN cs 0).map V.bl)):=by
  rw [h5,mkN,yab,show List.replicate cs.length false = cs.map (fun _=>false) from by rw [List.map_const']]
 refine ⟨(by show 3≤sizeLine; decide),fun t ht=>?_⟩
 have st:=zai ht (.tup [V.int 2,V.int 1,V.int 0])
 refine ⟨t,rfl,⟨_,SqT.of zab⟩,?_⟩
 refine ziW (xs:=[V.int 2,V.int 1,V.int 0]) (fun i σ H6=>∃ (x3 x4 : Option V),σ = [some (.ref a),some (.ref c),some (.ref F),x3,x4]∧H6 F = some (.lst ((mkN cs i).map V.bl))∧H6 c = some (.lst (cs.map nV))∧H6 t = some (.tup [V.int 2,V.int 1,V.int 0])∧But F H H6) ?_ ?_ ?_ ?_
 ·exact ⟨_,_,rfl,st _ _ e5,st _ _ h5c,zab,k05.new ht _⟩
 ·rintro i σ H6 _ ⟨x3,x4,rfl,_,_,h6t,_⟩
  exact SqT.of h6t
 ·rintro i x σ H6 hx ⟨x3,x4,rfl,h6,h6c,h6t,k6⟩
  obtain ⟨hi,rfl⟩ : i < 3∧x = V.int ((2 - i : Nat) : Int):=by
   rcases i with _ | _ | _ | i
   ·exact ⟨by decide,(yad hx).symm⟩
   ·exact ⟨by decide,(yad hx).symm⟩
   ·exact ⟨by decide,(yad hx).symm⟩
   ·cases hx
  have hml:=zkE cs i
  have hnx : mkN cs (i + 1) = zcb (2 - i) cs (mkN cs i):=rfl
  rw [hnx]
  generalize mkN cs i = ms at h6 hml ⊢
  generalize 2 - i = sh
  refine ⟨_,rfl,_,_,rfl,.inl (SqL.of h6c),1,_,rfl,⟨by omega,by omega,by rw [yab]; omega,by rw [yab]; omega⟩,?_⟩
  have en : ((((cs.map nV).length : Nat) : Int) - 1).toNat = cs.length - 1:=by rw [yab]; omega
  rw [en]
  have km : ∀ k,(mixM sh cs ms k).length = cs.length:=zfM hml
  refine zbB (n:=cs.length - 1) (fun j σ H7=>∃ (x4 : Option V),σ = [some (.ref a),some (.ref c),some (.ref F),some (.int sh),x4]∧H7 F = some (.lst ((mixM sh cs ms (1 + j)).map V.bl))∧H7 c = some (.lst (cs.map nV))∧H7 t = some (.tup [V.int 2,V.int 1,V.int 0])∧But F H H7) ?_ ?_ ?_
  ·exact ⟨_,rfl,by rw [znU hml]; exact h6,h6c,h6t,k6⟩
  ·rintro j σ H7 hj ⟨x4,rfl,h7,h7c,h7t,k7⟩
   have ek : (1 : Int) + (j : Int) = ((1 + j : Nat) : Int):=by omega
   have hk1 : 1≤1 + j:=by omega
   have hkl : 1 + j < cs.length:=by omega
   rw [ek]
   have es1 : 1 + (j + 1) = 1 + j + 1:=by omega
   rw [es1]
   generalize 1 + j = k at h7 hk1 hkl ⊢
   have hat:=zm8 (xs:=cs) hkl
   have mc : cs.getD k 0 = sh→zdh (mixM sh cs ms k) k = zdh ms k:=fun z=>ziG cu hml hkl hk1 z
   refine ⟨_,rfl,_,rfl,_,_,_,_,rfl,rfl,SqL.of h7c,hat,_,rfl,rfl,_,rfl,?_⟩
   refine ite2 (fun e=>?_) (fun e=>?_)
   ·have e' : cs.getD k 0 = sh:=by
     have:=V.int.inj (yaO e)
     omega
    refine ⟨_,rfl,_,rfl,F,_,k,rfl,h7,fun b H8 hb sb hbb=>?_⟩
    rw [zp3] at hbb
    have kb : But F H H8:=fun x o n e=>sb _ _ (k7 x o n e)
    refine ⟨_,_,rfl,.inl (SqL.of hbb),rfl,zpX _,_,rfl,?_⟩
    show if (!inV (.bl true) ((besB (mixM sh cs ms k) k).map V.bl)) = true then _ else _
    rw [zn5,zoo hk1,mc e',Bool.not_not]
    refine ite2 (fun y=>?_) (fun y=>?_)
    ·refine ⟨_,rfl,_,rfl,_,_,_,k,rfl,rfl,sb _ _ h7,zfU (by rw [yab,km]; exact hkl),?_⟩
     have same : ∀ b o,b≠F→H8 b = some o→upd H8 F (.lst (((mixM sh cs ms k).map V.bl).set k (.bl true))) b = some o:=fun b o n e=>by
      rw [zah n]
      exact e
     refine ⟨_,rfl,?_,same _ _ (fun z=>?_) (sb _ _ h7c),same _ _ (Ne.symm (zdH (sb _ _ h7) (sb _ _ h7t))) (sb _ _ h7t),fun b o n e=>same _ _ n (kb b o n e)⟩
     ·rw [zab,zmd hml hkl ⟨hk1,e',y⟩,ybF]
     ·exact nFc z
    ·exact ⟨_,rfl,by rw [zgt hml hkl (fun z=>y z.2)]; exact sb _ _ h7,sb _ _ h7c,sb _ _ h7t,kb⟩
   ·have e' : cs.getD k 0≠sh:=fun z=>e (by rw [z]; exact yag rfl)
    refine iteF ?_
    exact ⟨_,rfl,by rw [zgt hml hkl (fun z=>e' z.1)]; exact h7,h7c,h7t,k7⟩
  ·rintro σ H7 ⟨x4,rfl,h7,h7c,h7t,k7⟩
   rw [znV hml (by omega)] at h7
   exact ⟨_,_,rfl,h7,h7c,h7t,k7⟩
 ·rintro σ H6 ⟨x3,x4,rfl,h6,_,_,k6⟩
  refine ⟨_,rfl,?_⟩
  refine q F H6 hF0 (fun b o e=>k6 b o (zad e hF0) e) ?_
  rw [fin]
  exact h6
theorem zn8 {α : Type} : zcF ([] : List α) [] = []:=rfl
theorem zre {ms : List Bool} {i : Nat} {x : V} (h : (ms.map V.bl)[i]? = some x) : ∃ hi : i < ms.length,x = .bl ms[i]:=by
 rw [yau] at h
 cases e : ms[i]? with
 | none=>rw [e] at h; cases h
 | some y=>
  rw [e] at h
  obtain ⟨hi,rfl⟩:=yan.mp e
  exact ⟨hi,(yad h).symm⟩
theorem zhJ {α : Type} {l : List α} {i : Nat} (h : i < l.length) : l.take (i + 1) = l.take i ++ [l[i]]:=yaP h
theorem zl7 (T : Txt K mg) (D_handed : DF K mg "handed" zfm zc9) (F_marks : FC P w K mg base 5 "marks" zfo (zly K)) : FC P w K mg base 6 "handed" zc9 (zgW K):=by
 refine D_handed.ok sc_handed (fun vs H Q E h=>?_) (fun f cdv A outer s H vs Q E hr h=>?_)
 ·obtain ⟨a,ws,es,rfl,_⟩:=h
  rfl
 obtain ⟨a,ws,es,rfl,ha,hw,hz,he,hri,q⟩:=h
 have hwl:=hw.length
 have hml:=zhl es
 refine ⟨_,(zae (zav (zcw (N:=["entry","mark"]) (own:=2) (cap:=[]) rfl (zqB rfl T.m_zip (zaa (pv 0) (zaa (zau F_marks hr (zaa (pv 0) zac)) zac))) ⟨rfl,rfl,rfl,rfl,rfl,rfl⟩ (fun _ _ _ _ _=>(zlQ (K:=K) (n:=2) rfl (zaZ (zas (i:=0) (show List.Nodup (["entry","mark"] : List Str) by decide +kernel) rfl (Or.inl rfl)) (zaZ (zas (i:=1) (show List.Nodup (["entry","mark"] : List Str) by decide +kernel) rfl (Or.inl rfl)) zfJ)))) (fun _ _ _ _ _=>(zfG (zc7 (pv 1)))) (fun _ _ _ _ _=>(pv 0))))),?_⟩
 refine ⟨_,rfl,_,rfl,a,ws,es,rfl,ha,hw,hz,he,hri,fun u H6 hu g6 h6u=>?_⟩
 have h6p:=g6 _ _ ha
 generalize zem es = ms at hml h6u q
 refine ⟨a,u,rfl,⟨_,SqL.of h6p⟩,⟨_,SqL.of h6u⟩,fun D hD=>?_⟩
 refine zoi (xs:=ws) (ys:=ms.map V.bl) (by rw [yab,hml]; exact hwl.symm) (fun j σ H7=>∃ x0 x1 : Option V,σ = [x0,x1]∧H7 D = some (.lst (zcF (ws.take j) (ms.take j)))∧But D H6 H7) ?_ ?_ ?_ ?_
 ·exact ⟨_,_,rfl,by rw [yca,yca,zn8]; exact zab,fun b o n e=>by rw [zah n]; exact e⟩
 ·rintro j σ H7 _ ⟨x0,x1,rfl,_,k7⟩
  exact ⟨k7.sq (SqL.of h6p) hD,k7.sq (SqL.of h6u) hD⟩
 ·rintro j m' x y σ H7 r' hx hy hm' ⟨x0,x1,rfl,h7,k7⟩ hr'
  obtain ⟨hj,rfl⟩:=zre hy
  obtain ⟨hjw,rfl⟩:=yan.mp hx
  have hsn:=zmF (a:=ws[j]) (b:=ms[j]) (show (ws.take j).length = (ms.take j).length by rw [yap,yap]; omega)
  rw [← zhJ hjw,← zhJ hj] at hsn
  refine ⟨r',_,rfl,SqT.of zab,rfl,_,_,rfl,_,_,rfl,rfl,?_⟩
  have s7:=zai hr' (.tup [ws[j],.bl ms[j]])
  have h8:=s7 _ _ h7
  have k8:=k7.new hr' (.tup [ws[j],.bl ms[j]])
  generalize upd H7 r' (.tup [ws[j],.bl ms[j]]) = H8 at h8 k8 ⊢
  refine ⟨_,rfl,_,rfl,?_⟩
  have hl8:=ziT (ws.take j) (ms.take j)
  rw [yap] at hl8
  refine ite2 (fun e=>?_) (fun e=>?_)
  ·refine ⟨_,rfl,_,h8,zaq (by omega),m' - 1,by omega,by omega,_,_,rfl,?_,fun b o n e=>by rw [zah n]; exact k8 b o n e⟩
   rw [zab,hsn,if_pos e]
  ·refine ⟨m' - 1,by omega,by omega,_,_,rfl,?_,k8⟩
   rw [h8,hsn,if_neg e,yaH]
 ·rintro σ H7 ⟨x0,x1,rfl,h7,k7⟩
  rw [yar (yaa _),yar (by omega)] at h7
  have s7 : Same H6 H7:=fun b o e=>k7 b o (zad e hD) e
  exact q D H7 (g6.free hD) (g6.trans s7) h7
theorem zbI {K : Frag} {H : Hp} {q : Addr} {zs : List V} {o : HO} (hq : H q = some (.lst zs)) : ∀ {es : List (Int×Int)} {ws : List V},zal K H es ws→zal K (upd H q o) es ws
 | _,_,.nil=>.nil
 | _,_,.cons h t=>by
  refine .cons ?_ (zbI hq t)
  obtain ⟨a,x1,x2,rfl,hT,e1,e2⟩:=(show hasP K H _ _ from h)
  exact ⟨a,x1,x2,rfl,by rw [zah (zqU hT hq (by intro z; cases z))]; exact hT,e1,e2⟩
def Own (K : Frag) (H : Hp) : List Addr→List (List (Int×Int))→Prop:=Paired fun q l=>∃ ws,H q = some (.lst ws)∧zal K H l ws
section
variable {K : Frag} {H H' : Hp}
theorem Own.length {qs : List Addr} {ls : List (List (Int×Int))} (h : Own K H qs ls) : qs.length = ls.length:=Paired.length h
theorem Own.ext (e : Ext H H') : ∀ {qs : List Addr} {ls : List (List (Int×Int))},Own K H qs ls→Own K H' qs ls
 | _,_,.nil=>.nil
 | _,_,.cons ⟨ws,h1,h2⟩ t=>.cons ⟨ws,e _ _ h1 (fun _ z=>nomatch z),zal.mono e h2⟩ (Own.ext e t)
theorem Own.get : ∀ {qs : List Addr} {ls : List (List (Int×Int))} {i : Nat} {x : V},Own K H qs ls→(qs.map V.ref)[i]? = some x→∃ q l ws,qs[i]? = some q∧x = .ref q∧ls[i]? = some l∧H q = some (.lst ws)∧zal K H l ws
 | _,_,_,_,.nil,e=>by simp at e
 | _,_,0,_,.cons ⟨ws,h1,h2⟩ _,e=>by
  simp at e
  exact ⟨_,_,ws,rfl,e.symm,rfl,h1,h2⟩
 | _,_,i + 1,x,.cons _ t,e=>by
  obtain ⟨q,l,ws,h1,h2,h3,h4,h5⟩:=Own.get (i:=i) (x:=x) t (by simpa using e)
  exact ⟨q,l,ws,by simpa using h1,h2,by simpa using h3,h4,h5⟩
theorem Own.append : ∀ {qs qs' : List Addr} {ls ls' : List (List (Int×Int))},Own K H qs ls→Own K H qs' ls'→Own K H (qs ++ qs') (ls ++ ls')
 | _,_,_,_,.nil,s=>s
 | _,_,_,_,.cons r t,s=>.cons r (Own.append t s)
theorem Own.other {q : Addr} {o : HO} {zs : List V} (hq : H q = some (.lst zs)) : ∀ {qs : List Addr} {ls : List (List (Int×Int))},Own K H qs ls→q∉qs→Own K (upd H q o) qs ls
 | _,_,.nil,_=>.nil
 | _,_,.cons ⟨ws,h1,h2⟩ t,hn=>by
  rw [yak,not_or] at hn
  exact .cons ⟨ws,by rw [zah (Ne.symm hn.1)]; exact h1,zbI hq h2⟩ (Own.other hq t hn.2)
end
theorem zh8 {ls : List (List (Int×Int))} {i : Nat} {l : List (Int×Int)} (h : ls[i]? = some l) : (ls.take (i + 1)).flatten = (ls.take i).flatten ++ l:=by
 have hi:=(yan.mp h).1
 rw [yaP hi,yco,(yan.mp h).2]
 simp
theorem zpW {ls : List (List (Int×Int))} (i : Nat) : (ls.take i).flatten.length≤ls.flatten.length:=by
 have e : ls.flatten = (ls.take i).flatten ++ (ls.drop i).flatten:=by rw [← yco,yaM]
 rw [e,yam]
 omega
def zlA (K : Frag) : Sp:=fun vs H Q _=>∃ (a : Addr) (qs : List Addr) (ls : List (List (Int×Int))),vs = [.ref a]∧H a = some (.lst (qs.map V.ref))∧Own K H qs ls∧ls.flatten.length≤1000∧
 ∀ (p : Addr) (ws : List V) (H' : Hp),H p = none→Same H H'→H' p = some (.lst ws)→zal K H' (zcJ ls.flatten) ws→Q (.ref p) H'
theorem zl6 (T : Txt K mg) (D_joined_up : DF K mg "joined_up" zcL zbN) : FC P w K mg base 1 "joined_up" zbN (zlA K):=by
 refine D_joined_up.ok sc_joined_up (fun vs H Q E h=>?_) (fun f cdv A outer s H vs Q E hr h=>?_)
 ·obtain ⟨a,qs,ls,rfl,_⟩:=h
  rfl
 obtain ⟨a,qs,ls,rfl,ha,ho,hz,q⟩:=h
 have hll:=ho.length
 refine ⟨_,(zaf (zar (i:=1) sc_joined_up.nd rfl (Or.inl rfl) (zbW zac))
   (zaf (zbO PassesOwn.never rfl (zdN (pv 0)) (zas (i:=2) sc_joined_up.nd rfl (Or.inl rfl)) (zae (zbT (zha F.plainAttrs_list F.slot_list_extend F.type_list_extend zma (pv 1) (zaa (pv 2) zac)))))
   (zae (zav (zap (zgK (Int×Int)) rfl T.m_sorted boot_sorted (zaa (pv 1) zac)))))),?_⟩
 refine ⟨(by show 0≤sizeLine; decide),fun t ht=>?_⟩
 have k0 : But t H (upd H t (.lst [])):=fun b o n e=>by rw [zah n]; exact e
 refine ⟨_,rfl,a,rfl,⟨_,SqL.of (k0 _ _ (zad ha ht) ha)⟩,?_⟩
 refine zj6 (xs:=qs.map V.ref) (fun i σ H2=>∃ (zs : List V) (x2 : Option V),σ = [some (.ref a),some (.ref t),x2]∧H2 t = some (.lst zs)∧zal K H2 (ls.take i).flatten zs∧But t H H2∧Own K H2 qs ls) ?_ ?_ ?_ ?_
 ·exact ⟨[],_,rfl,zab,.nil,k0,ho.ext (zai ht _).ext⟩
 ·rintro i σ H2 _ ⟨zs,x2,rfl,h2,_,k2,_⟩
  exact SqL.of (k2 _ _ (zad ha ht) ha)
 ·rintro i x σ H2 hx ⟨zs,x2,rfl,h2,hw,k2,o2⟩
  obtain ⟨g,l,ws,e1,rfl,e3,e4,e5⟩:=o2.get hx
  have hlen : zs.length + ws.length≤1000:=by
   have z1:=hw.length
   have z2:=e5.length
   have z3:=zpW (ls:=ls) (i + 1)
   rw [zh8 e3,yam] at z3
   omega
  have hgo : ∀ b∈qs,b≠t:=fun b hb z=>by
   obtain ⟨j,hj,rfl⟩:=ya3 hb
   obtain ⟨_,_,ws0,f1,f2,_,f4,_⟩:=ho.get (i:=j) (x:=.ref qs[j]) (by rw [yau,yac hj]; rfl)
   cases f2
   rw [z,ht] at f4
   cases f4
  refine ⟨_,rfl,.inl ⟨rfl,_,SqL.of h2⟩,_,rfl,t,g,zs,ws,rfl,rfl,h2,e4,ya2 (zaq hlen),?_⟩
  refine ⟨_,_,rfl,zab,?_,fun b o n e=>by rw [zah n]; exact k2 b o n e,o2.other h2 (fun z=>hgo t z rfl)⟩
  rw [zh8 e3]
  exact (zbI h2 hw).append (zbI h2 e5)
 ·rintro σ H2 ⟨zs,x2,rfl,h2,hw,k2,o2⟩
  rw [yar (by rw [yab]; omega)] at hw
  refine ⟨_,rfl,t,zs,_,rfl,SqL.of h2,hw,fun l ws hl hs=>?_⟩
  have e2:=zai hl (.lst ws)
  have s2 : Same H H2:=fun b o e=>k2 b o (zad e ht) e
  exact q l ws _ (s2.free hl) (s2.trans e2) zab (zal.mono e2.ext hs)
def zbZ (ps : List Nat) : List V:=.non :: ps.map nV
def parV (ps : List Nat) (k : Nat) : V:=match par ps k with
 | none=>.non
 | some p=>nV p
theorem zat (ps : List Nat) : (zbZ ps).length = ps.length + 1:=by
 unfold zbZ
 rw [yaI,yab]
theorem zgb {ps : List Nat} {k : Nat} (h : k < ps.length + 1) : atI (zbZ ps) (k : Int) = some (parV ps k):=by
 refine zeQ ?_
 unfold zbZ parV
 cases k with
 | zero=>rfl
 | succ k=>
  show (ps.map nV)[k]? = some (match ps[k]? with | none=>_ | some p=>nV p)
  rw [yau,yac (show k < ps.length by omega)]
  rfl
theorem zej {ps : List Nat} {k p : Nat} (h : par ps k = some p) : parV ps k = nV p:=by
 unfold parV
 rw [h]
theorem zfL {ps : List Nat} {k : Nat} (h : par ps k = none) : parV ps k = .non:=by
 unfold parV
 rw [h]
theorem zlV {ps : List Nat} {k m : Nat} : parV ps k = .int (m : Int)↔par ps k = some m:=by
 cases e : par ps k with
 | none=>
  rw [zfL e]
  exact ⟨(fun z=>nomatch z),(fun z=>nomatch z)⟩
 | some p=>
  rw [zej e]
  constructor
  ·intro z
   have:=Int.ofNat.inj (V.int.inj z)
   rw [this]
  ·intro z
   rw [yad z]
theorem zlJ (ps : List Nat) (k : Nat) (i : Int) : scal (parV ps k) (.int i) = true:=by
 cases e : par ps k with
 | none=>rw [zfL e]; rfl
 | some p=>rw [zej e]; rfl
theorem But.new' {p b : Addr} {H H2 : Hp} (k : But p H H2) (hb : H2 b = none) (o : HO) : But p H (upd H2 b o):=fun x o' n e=>(zai hb o) x o' (k x o' n e)
def zoC (K : Frag) : Sp:=fun vs H Q _=>∃ (d L : Addr) (m : Int),vs = [.ref d,.int m]∧(0 < m∧m≤40)∧LS K L d H∧
 ∀ (t : Addr) (ps : List Nat) (H' : Hp),H t = none→zax ps→(ps.length : Int) < m→H' t = some (.tup (zbZ ps))→Keep d H H'→LS K L d H'→Q (.ref t) H'
theorem zli {ps : List Nat} {u : Nat} (T : zax ps) (h : u≤ps.length) : zax (ps ++ [u]):=by
 intro i hi
 rw [yam,ya5] at hi
 by_cases c : i < ps.length
 ·rw [List.getElem_append_left c]
  exact T i c
 ·have : i = ps.length:=by omega
  subst this
  rw [List.getElem_append_right (yaa _)]
  simp
  exact h
theorem znK (T : Txt K mg) (D_l_tree : DF K mg "_law_tree" zff zeb) (F_l_take : FC P w K mg base 2 "_law_take" zbx (zfB K)) : FC P w K mg base 3 "_law_tree" zeb (zoC K):=by
 refine D_l_tree.ok sc_l_tree (fun vs H Q E h=>?_) (fun f cdv A outer s H vs Q E hr h=>?_)
 ·obtain ⟨d,L,m,rfl,_⟩:=h
  rfl
 obtain ⟨d,L,m,rfl,⟨hm0,hm1⟩,hs,q⟩:=h
 refine ⟨_,(zaf (zar (i:=2) sc_l_tree.nd rfl (Or.inl rfl) (zau F_l_take hr (zaa (pv 0) (zaa zaj zac))))
   (zaf (zar (i:=3) sc_l_tree.nd rfl (Or.inl rfl) (zbW (zaa zlS zac)))
   (zaf (zbO PassesOwn.never rfl (zeh rfl T.m_range (zaa zaj (zaa (zay zby zaj (zau F_l_take hr (zaa (pv 0) (zaa (pv 1) zac)))) zac))) (zas (i:=4) sc_l_tree.nd rfl (Or.inl rfl)) (zae (zbT (zha F.plainAttrs_list F.slot_list_append F.type_list_append zbz (pv 3) (zaa (za0 zbA (zbW (zaa (zay zcZ (pv 4) zaj) (zaa zaj (zaa (zau F_l_take hr (zaa (pv 0) (zaa (pv 4) zac))) (zaa (zap (zif rfl) rfl T.m_max boot_max (zaa zaj (zaa (zay zcZ (zay zcZ (pv 4) zaj) (zau F_l_take hr (zaa (pv 0) (zaa zaj zac)))) zac))) zac))))) (pv 2) (fun _ _=>rfl)) zac)))))
   (zae (zav (zaN zaJ rfl T.m_tuple boot_tuple (zaa (pv 3) zac))))))),?_⟩
 refine ⟨_,rfl,d,L,4,rfl,by decide,hs,fun w1 H1 w0 w4 k1 s1=>?_⟩
 refine ⟨(by show 1≤sizeLine; decide),fun p hp=>?_⟩
 have g0:=zai hp (.lst [V.non])
 have hpd : p≠d:=by
  obtain ⟨ns,a,l,e,_⟩:=s1.ex
  exact Ne.symm (zad e hp)
 have hp0 : H p = none:=by
  cases e : H p with
  | none=>rfl
  | some o=>
   have:=k1 p o hpd e
   rw [hp] at this
   cases this
 refine ⟨_,rfl,_,rfl,d,L,m,rfl,⟨hm0,by omega⟩,s1.same g0,fun n H2 n0 n1 k2 s2=>⟨_,_,rfl,rfl,1,_,rfl,⟨by omega,by omega,by omega,by omega⟩,?_⟩⟩
 have en : ((1 : Int) + n - 1).toNat = n.toNat:=by omega
 rw [en]
 refine zbB (n:=n.toNat) (fun i σ H3=>∃ (ps : List Nat) (x4 : Option V),σ = [some (.ref d),some (.int m),some (.int w1),some (.ref p),x4]∧H3 p = some (.lst (zbZ ps))∧ps.length = i∧zax ps∧(∀ b o,b≠d→b≠p→H b = some o→H3 b = some o)∧LS K L d H3) ?_ ?_ ?_
 ·exact ⟨[],_,rfl,k2 p _ hpd zab,rfl,fun i hi=>absurd hi (by simp),fun b o n1 n2 e=>k2 b o n1 (g0 b o (k1 b o n1 e)),s2⟩
 ·rintro i σ H3 hi ⟨ps,x4,rfl,h3,rfl,hT,k3,s3⟩
  have ek : (1 : Int) + ((ps.length : Nat) : Int) = ((ps.length + 1 : Nat) : Int):=by omega
  rw [ek]
  refine ⟨_,rfl,.inl ⟨rfl,_,SqL.of h3⟩,?_⟩
  refine ⟨_,rfl,_,_,rfl,rfl,_,rfl,_,rfl,d,L,_,rfl,⟨by omega,by omega⟩,s3,fun v1 H4 v10 v11 k4 s4=>?_⟩
  refine ⟨_,rfl,_,_,rfl,rfl,_,rfl,d,L,2,rfl,by decide,s4,fun v2 H5 v20 v21 k5 s5=>⟨_,_,rfl,rfl,_,_,rfl,(by show 4≤sizeLine; decide),fun l hl=>?_⟩⟩
  have h4:=k4 p _ hpd h3
  have h5:=k5 p _ hpd h4
  obtain ⟨u,hat,hu⟩ : ∃ u : Nat,atI [V.int (((ps.length + 1 : Nat) : Int) - 1),V.int 0,V.int v1,V.int (if ((ps.length + 1 : Nat) : Int) - 1 - v2 > 0 then ((ps.length + 1 : Nat) : Int) - 1 - v2 else 0)] w1 = some (nV u)∧u≤ps.length:=by
   have z : w1 = 0∨w1 = 1∨w1 = 2∨w1 = 3:=by omega
   rcases z with rfl | rfl | rfl | rfl
   ·refine ⟨ps.length,?_,yaa _⟩
    rw [show ((ps.length + 1 : Nat) : Int) - 1 = ((ps.length : Nat) : Int) by omega]
    rfl
   ·exact ⟨0,rfl,yaE _⟩
   ·obtain ⟨u,rfl⟩:=zqV v10
    exact ⟨u,rfl,by omega⟩
   ·refine ⟨(if ((ps.length + 1 : Nat) : Int) - 1 - v2 > 0 then ((ps.length + 1 : Nat) : Int) - 1 - v2 else 0).toNat,?_,?_⟩
    ·show some (V.int _) = some (V.int _)
     rw [Int.toNat_of_nonneg (by split <;> omega)]
    ·split <;> omega
  refine ⟨_,rfl,_,_,_,_,rfl,rfl,SqL.of zab,hat,_,_,_,rfl,rfl,by rw [zah (zad h5 hl)]; exact h5,zaq (by rw [zat]; omega),?_⟩
  refine ⟨ps ++ [u],_,rfl,?_,by rw [yam,ya5],zli hT hu,fun b o n1 n2 e=>?_,?_⟩
  ·rw [zab]
   unfold zbZ
   rw [yav]
   rfl
  ·rw [zah n2]
   have e5:=k5 b o n1 (k4 b o n1 (k3 b o n1 n2 e))
   exact (zai hl _) _ _ e5
  ·exact LS.put hs hp0 (fun b o n1 n2 e=>(zai hl _) _ _ (k5 b o n1 (k4 b o n1 (k3 b o n1 n2 e)))) (s5.of_new hl _)
 ·rintro σ H3 ⟨ps,x4,rfl,h3,hl,hT,k3,s3⟩
  refine ⟨_,rfl,p,_,rfl,.inl ⟨SqL.of h3,fun t ht=>?_⟩⟩
  have sn:=zai ht (.tup (zbZ ps))
  have htp : t≠p:=Ne.symm (zad h3 ht)
  have ht0 : H t = none:=by
   cases e : H t with
   | none=>rfl
   | some o=>
    have htd : t≠d:=by
     obtain ⟨ns,a,l,e,_⟩:=s3.ex
     exact Ne.symm (zad e ht)
    have:=k3 t o htd htp e
    rw [ht] at this
    cases this
  exact q t ps _ ht0 hT (by omega) zab (fun b o n e=>sn _ _ (k3 b o n (zad e hp0) e)) (s3.of_new ht _)
def zgn (K : Frag) : Sp:=fun vs H Q _=>∃ (t : Addr) (ps : List Nat) (k : Nat),vs = [.ref t,.int k]∧H t = some (.tup (zbZ ps))∧ps.length≤900∧
 ∀ (p : Addr) (H' : Hp),H p = none→Same H H'→H' p = some (.lst ((zbX ps k (ps.length + 1)).map nV))→Q (.ref p) H'
theorem ziF (T : Txt K mg) (D_children : DF K mg "children" zdt zcU) : FC P w K mg base 1 "children" zcU (zgn K):=by
 refine D_children.ok sc_children (fun vs H Q E h=>?_) (fun f cdv A outer s H vs Q E hr h=>?_)
 ·obtain ⟨t,ps,k,rfl,_⟩:=h
  rfl
 obtain ⟨t,ps,k,rfl,ht,hz,q⟩:=h
 refine ⟨_,(zae (zav (zcw (N:=["other","tree","knot"]) (own:=1) (cap:=[0,1]) rfl (zbP rfl T.m_range (zaa (zap zao rfl T.m_len boot_len (zaa (pv 0) zac)) zac)) ⟨rfl,rfl,rfl,rfl,rfl,rfl⟩ (fun _ _ _ _ _=>(zas (i:=0) (show List.Nodup (["other","tree","knot"] : List Str) by decide +kernel) rfl (Or.inl rfl))) (fun _ _ _ _ _=>(zfG (zaw zgh (za0 (zmu (K:=K)) (pv 1) (pv 0) (fun _ _=>rfl)) (pv 2) (zaF _)))) (fun _ _ _ _ _=>(pv 0))))),?_⟩
 refine ⟨_,rfl,_,_,rfl,.inr (SqT.of ht),_,rfl,by omega,by rw [zat]; omega,fun D hD=>?_⟩
 have el : ((((zbZ ps).length : Nat) : Int)).toNat = ps.length + 1:=by rw [zat,ybb]
 rw [el]
 refine zeM (n:=ps.length + 1) (fun j σ H3=>∃ x0 : Option V,σ = [x0,some (.ref t),some (.int k)]∧H3 D = some (.lst ((zbX ps k j).map nV))∧But D H H3) ?_ ?_ ?_
 ·exact ⟨_,rfl,zab,fun b o n e=>by rw [zah n]; exact e⟩
 ·rintro j m σ H3 hm hj ⟨x0,rfl,h3,k3⟩
  rw [ybX]
  have h3t:=k3 _ _ (zad ht hD) ht
  have hlen:=zgH ps k j
  refine ⟨_,rfl,_,rfl,_,_,_,_,rfl,rfl,SqT.of h3t,zgb hj,_,rfl,zlJ _ _ _,_,rfl,?_⟩
  refine ite2 (fun c=>?_) (fun c=>?_)
  ·have c' : par ps j = some k:=zlV.mp (yaO c)
   refine ⟨_,rfl,_,h3,zaq (by rw [yab]; omega),m - 1,by omega,by omega,_,rfl,?_,fun b o n e=>by rw [zah n]; exact k3 b o n e⟩
   rw [zab,zf8,if_pos c',yav]
   rfl
  ·have c' : ¬ par ps j = some k:=fun z=>c (yag (zlV.mpr z))
   refine ⟨m - 1,by omega,by omega,_,rfl,?_,k3⟩
   rw [h3,zf8,if_neg c',yaH]
 ·rintro σ H3 ⟨x0,rfl,h3,k3⟩
  exact q D H3 hD (fun b o e=>k3 b o (zad e hD) e) h3
def zhP (K : Frag) : Sp:=fun vs H Q _=>∃ (t : Addr) (ps : List Nat) (k : Nat),vs = [.ref t,.int k]∧H t = some (.tup (zbZ ps))∧zax ps∧k < ps.length + 1∧ps.length≤900∧
 ∀ (p : Addr) (H' : Hp),H p = none→Same H H'→H' p = some (.lst ((benL ps k (ps.length + 1)).map nV))→Q (.ref p) H'
theorem zkC (T : Txt K mg) (D_beneath : DF K mg "beneath" zd5 zdA) : FC P w K mg base 1 "beneath" zdA (zhP K):=by
 refine D_beneath.ok sc_beneath (fun vs H Q E h=>?_) (fun f cdv A outer s H vs Q E hr h=>?_)
 ·obtain ⟨t,ps,k,rfl,_⟩:=h
  rfl
 obtain ⟨t,ps,k,rfl,ht,hT,hk,hz,q⟩:=h
 refine ⟨_,(zaf (zar (i:=2) sc_beneath.nd rfl (Or.inl rfl) (zbW (zaa (pv 1) zac)))
   (zaf (zbO PassesOwn.never rfl (zeh rfl T.m_range (zaa (zay zby (pv 1) zaj) (zaa (zap zao rfl T.m_len boot_len (zaa (pv 0) zac)) zac))) (zas (i:=3) sc_beneath.nd rfl (Or.inl rfl)) (zae (zba (zaw zhZ (za0 za8 (pv 0) (pv 3) (fun _ _=>rfl)) (pv 2) (by with_unfolding_all rfl)) (zae (zbT (zha F.plainAttrs_list F.slot_list_append F.type_list_append zbz (pv 2) (zaa (pv 3) zac)))) zaA)))
   (zae (zav (pv 2))))),?_⟩
 refine ⟨_,rfl,(by show 1≤sizeLine; decide),fun p hp=>?_⟩
 have k0 : But p H (upd H p (.lst [.int (k : Int)])):=fun b o n e=>by rw [zah n]; exact e
 have ntp : t≠p:=zad ht hp
 refine ⟨_,rfl,_,_,rfl,rfl,_,rfl,_,_,rfl,.inr (SqT.of (k0 _ _ ntp ht)),_,_,rfl,⟨by omega,by omega,by omega,by rw [zat]; omega⟩,?_⟩
 have en : ((((zbZ ps).length : Nat) : Int) - ((k : Int) + 1)).toNat = ps.length - k:=by rw [zat]; omega
 rw [en]
 refine zbB (n:=ps.length - k) (fun i σ H3=>∃ x3 : Option V,σ = [some (.ref t),some (.int k),some (.ref p),x3]∧H3 p = some (.lst ((benL ps k (k + 1 + i)).map nV))∧But p H H3) ?_ ?_ ?_
 ·refine ⟨_,rfl,?_,k0⟩
  rw [zab,ybp,zop hT]
  rfl
 ·rintro i σ H3 hi ⟨x3,rfl,h3,k3⟩
  have ek : (k : Int) + 1 + (i : Int) = ((k + 1 + i : Nat) : Int):=by omega
  rw [ek]
  have hj : k + 1 + i < ps.length + 1:=by omega
  have hj1 : 1≤k + 1 + i:=by omega
  have hjk : k + 1 + i≠k:=by omega
  have ei : k + 1 + (i + 1) = k + 1 + i + 1:=by omega
  rw [ei]
  generalize k + 1 + i = j at h3 hj hj1 hjk ⊢
  obtain ⟨u,hu⟩:=zhc hj1 hj
  have h3t:=k3 _ _ ntp ht
  have hat:=zgb hj
  rw [zej hu] at hat
  have hlen:=zke ps k j
  refine ⟨_,rfl,_,rfl,_,_,_,_,rfl,rfl,SqT.of h3t,hat,_,rfl,_,_,rfl,.inl (SqL.of h3),rfl,zmM _,_,rfl,?_⟩
  show if inV (.int (u : Int)) ((benL ps k j).map nV) = true then _ else _
  rw [zoQ]
  have hB : isB ps k j = isB ps k u:=zbJ hT hjk hu
  have hult:=(zaK hT hu).1
  refine ite2 (fun c=>?_) (fun c=>?_)
  ·have c' : isB ps k u = true:=(zb5.mp (yaO c)).2
   refine ⟨_,rfl,.inl ⟨rfl,_,SqL.of h3⟩,_,rfl,_,_,_,rfl,rfl,h3,zaq (by rw [yab]; omega),?_⟩
   refine ⟨_,rfl,?_,fun b o n e=>by rw [zah n]; exact k3 b o n e⟩
   rw [zab,zik,hB,if_pos c',yav]
   rfl
  ·have c' : ¬ isB ps k u = true:=fun z=>c (yag (zb5.mpr ⟨hult,z⟩))
   refine ⟨_,rfl,?_,k3⟩
   rw [h3,zik,hB,if_neg c',yaH]
 ·rintro σ H3 ⟨x3,rfl,h3,k3⟩
  refine ⟨_,rfl,?_⟩
  rw [show k + 1 + (ps.length - k) = ps.length + 1 by omega] at h3
  exact q p H3 hp (fun b o e=>k3 b o (zad e hp) e) h3
def zcy (es : List (Int×Int)) : List (Int×Int):=zcF es (zem es)
def zak (rows : List (List Int)) (k : Nat) : List Int:=rows.getD k []
def ownE (rows : List (List Int)) (k : Nat) : List (Int×Int):=(zak rows k).map fun x=>(x,(k : Int))
def zkO (ps : List Nat) (rows : List (List Int)) : Nat→Nat→List (Int×Int)
 | 0,_=>[]
 | f + 1,k=>zcJ (((zbX ps k (ps.length + 1)).map fun c=>zcy (zkO ps rows f c)).flatten ++ ownE rows k)
theorem zgA {ps : List Nat} (T : zax ps) {rows : List (List Int)} : ∀ f g k,k < ps.length + 1→ps.length + 1 - k≤f→ps.length + 1 - k≤g→zkO ps rows f k = zkO ps rows g k
 | 0,_,k,hk,h,_=>by omega
 | _,0,k,hk,_,h=>by omega
 | f + 1,g + 1,k,hk,hf,hg=>by
  unfold zkO
  congr 3
  refine ycm fun c hc=>?_
  have h:=zaC.mp hc
  have:=zaK T h.2
  show zcy _ = zcy _
  rw [zgA T f g c h.1 (by omega) (by omega)]
def zam (ps : List Nat) (rows : List (List Int)) (k : Nat) : List (Int×Int):=zkO ps rows (ps.length + 1 - k) k
def zdc (ps : List Nat) (rows : List (List Int)) (k : Nat) : List (List (Int×Int)):=((zbX ps k (ps.length + 1)).map fun c=>zcy (zam ps rows c)) ++ [ownE rows k]
theorem zbK {ps : List Nat} (T : zax ps) {rows : List (List Int)} {k : Nat} (hk : k < ps.length + 1) : zam ps rows k = zcJ (zdc ps rows k).flatten:=by
 unfold zam zdc
 obtain ⟨f,hf⟩ : ∃ f,ps.length + 1 - k = f + 1:=⟨ps.length - k,by omega⟩
 rw [hf,zkO,yco,List.flatten_singleton]
 congr 3
 refine ycm fun c hc=>?_
 have h:=zaC.mp hc
 have:=zaK T h.2
 show zcy _ = zcy _
 rw [zgA T f (ps.length + 1 - c) c h.1 (by omega) (by omega)]
 rfl
structure zaB (rows : List (List Int)) : Prop where
 up : ∀ row∈rows,row.Pairwise (· < ·)
 key : ∀ row∈rows,∀ x∈row,-(10 ^ 60) < x∧x < 10 ^ 60
theorem zaB.at_up {rows : List (List Int)} (R : zaB rows) (k : Nat) : (zak rows k).Pairwise (· < ·):=by
 unfold zak
 rw [yah]
 cases e : rows[k]? with
 | none=>exact .nil
 | some row=>exact R.up row (yaJ e)
theorem zaB.at_key {rows : List (List Int)} (R : zaB rows) (k : Nat) : ∀ x∈zak rows k,-(10 ^ 60) < x∧x < 10 ^ 60:=by
 unfold zak
 rw [yah]
 cases e : rows[k]? with
 | none=>exact fun x hx=>nomatch hx
 | some row=>exact R.key row (yaJ e)
theorem zh6 {α : Type} : ∀ (es : List α) (ms : List Bool),(zcF es ms).Sublist es
 | [],_=>by
  unfold zcF
  exact List.Sublist.refl _
 | e :: es,[]=>by
  unfold zcF
  exact List.nil_sublist _
 | e :: es,m :: ms=>by
  have ih:=zh6 es ms
  unfold zcF at ih ⊢
  cases m with
  | false=>exact List.Sublist.cons e ih
  | true=>exact List.Sublist.cons₂ e ih
theorem zaP (es : List (Int×Int)) : (zcy es).Sublist es:=zh6 _ _
def Of (ps : List Nat) (rows : List (List Int)) (k : Nat) (e : Int×Int) : Prop:=∃ j,j < ps.length + 1∧isB ps k j = true∧e.2 = (j : Int)∧e.1∈zak rows j
theorem zjM {ps : List Nat} {rows : List (List Int)} {k : Nat} (hk : k < ps.length + 1) {e : Int×Int} (h : e∈ownE rows k) : Of ps rows k e∧e.2 = (k : Int):=by
 obtain ⟨x,hx,rfl⟩:=yaB.mp h
 exact ⟨⟨k,hk,zb4,rfl,hx⟩,rfl⟩
theorem zlX {rows : List (List Int)} (R : zaB rows) (k : Nat) : (ownE rows k).Nodup:=by
 unfold ownE
 rw [List.nodup_iff_pairwise_ne,ybB]
 exact List.Pairwise.imp (fun {a b} (h : a < b) z=>by
  have:=congrArg Prod.fst z
  have : a = b:=this
  omega) (R.at_up k)
theorem zfv {ps : List Nat} (T : zax ps) {rows : List (List Int)} (R : zaB rows) : ∀ (m k : Nat),ps.length + 1 - k≤m→k < ps.length + 1→(∀ e∈zam ps rows k,Of ps rows k e)∧(zdc ps rows k).flatten.Nodup
 | 0,k,hm,hk=>by omega
 | m + 1,k,hm,hk=>by
  have ih : ∀ c,par ps c = some k→(∀ e∈zam ps rows c,Of ps rows c e)∧(zam ps rows c).Nodup:=fun c hc=>by
   have:=zaK T hc
   have q:=zfv T R m c (by omega) this.2
   refine ⟨q.1,?_⟩
   rw [zbK T this.2]
   exact (zb6 _).nodup_iff.mpr q.2
  have up : ∀ {c : Nat} {e : Int×Int},par ps c = some k→Of ps rows c e→Of ps rows k e:=fun {c e} hc h=>by
   obtain ⟨j,h1,h2,h3,h4⟩:=h
   exact ⟨j,h1,(zbR T j j (yaa _) h1).mpr (.inr ⟨c,hc,h2⟩),h3,h4⟩
  refine ⟨fun e he=>?_,?_⟩
  ·rw [zbK T hk,zdX] at he
   obtain ⟨l,hl,he⟩:=ycl.mp he
   rcases yaj.mp hl with q | q
   ·obtain ⟨c,hc,rfl⟩:=yaB.mp q
    have hp:=(zaC.mp hc).2
    exact up hp ((ih c hp).1 e ((zaP _).mem he))
   ·rw [yal.mp q] at he
    exact (zjM hk he).1
  ·show List.Pairwise _ _
   unfold zdc
   rw [List.pairwise_flatten]
   refine ⟨fun l hl=>?_,?_⟩
   ·rcases yaj.mp hl with q | q
    ·obtain ⟨c,hc,rfl⟩:=yaB.mp q
     exact (ih c (zaC.mp hc).2).2.sublist (zaP _)
    ·rw [yal.mp q]
     exact zlX R k
   ·rw [yaF]
    refine ⟨?_,ycy _ _,?_⟩
    ·rw [ybB]
     refine List.Pairwise.imp_of_mem (fun {c d} hc hd hcd=>?_) (zie ps k _)
     intro x hx y hy z
     subst z
     have pc:=(zaC.mp hc).2
     have pd:=(zaC.mp hd).2
     obtain ⟨j,_,h2,h3,_⟩:=(ih c pc).1 x ((zaP _).mem hx)
     obtain ⟨i,_,g2,g3,_⟩:=(ih d pd).1 x ((zaP _).mem hy)
     have : j = i:=by omega
     subst this
     exact zdf T pc pd (yaq hcd) j j (yaa _) h2 g2
    ·intro l hl l' hl' x hx y hy z
     subst z
     obtain ⟨c,hc,rfl⟩:=yaB.mp hl
     rw [yal.mp hl'] at hy
     have pc:=(zaC.mp hc).2
     obtain ⟨j,_,h2,h3,_⟩:=(ih c pc).1 x ((zaP _).mem hx)
     have h4:=(zjM hk hy).2
     have : j = k:=by omega
     subst this
     rw [zdJ T (zaK T pc).1] at h2
     cases h2
theorem zfw {ps : List Nat} (T : zax ps) {rows : List (List Int)} (R : zaB rows) {k : Nat} (hk : k < ps.length + 1) : ∀ e∈zam ps rows k,Of ps rows k e:=(zfv T R _ k (yaa _) hk).1
theorem zdR {ps : List Nat} (T : zax ps) {rows : List (List Int)} (R : zaB rows) {k : Nat} (hk : k < ps.length + 1) : (zam ps rows k).Nodup:=by
 rw [zbK T hk]
 exact (zb6 _).nodup_iff.mpr (zfv T R _ k (yaa _) hk).2
theorem zaI {ps : List Nat} (T : zax ps) {rows : List (List Int)} (R : zaB rows) {k : Nat} (hk : k < ps.length + 1) : Rise (zam ps rows k):=by
 rw [zbK T hk]
 exact zeB (zfv T R _ k (yaa _) hk).2
theorem zfY {ps : List Nat} (T : zax ps) {rows : List (List Int)} (R : zaB rows) (hz : ps.length≤40) {k : Nat} (hk : k < ps.length + 1) : ∀ e∈zam ps rows k,ze9 64 e:=fun e he=>by
 obtain ⟨j,h1,h2,h3,h4⟩:=zfw T R hk e he
 have:=R.at_key j _ h4
 exact ⟨this.1,this.2,by omega,by omega⟩
def wtR (ps : List Nat) (rows : List (List Int)) (k : Nat) : Nat:=((benL ps k (ps.length + 1)).map fun j=>(zak rows j).length).sum
theorem znn {l m : List Nat} (h : l.Perm m) : l.sum = m.sum:=by
 induction h with
 | nil=>rfl
 | cons x _ ih=>rw [yaG,yaG,ih]
 | swap x y l=>rw [yaG,yaG,yaG,yaG]; omega
 | trans _ _ h1 h2=>rw [h1,h2]
theorem zjl (f : Nat→Nat) : ∀ (ls : List (List Nat)),(ls.flatten.map f).sum = (ls.map fun l=>(l.map f).sum).sum
 | []=>rfl
 | l :: ls=>by
  rw [ybG,yav,List.sum_append,zjl f ls,yao,yaG]
theorem zk3 {ps : List Nat} (T : zax ps) (f : Nat→Nat) {k : Nat} (hk : k < ps.length + 1) : ((benL ps k (ps.length + 1)).map f).sum = f k + ((zbX ps k (ps.length + 1)).map fun c=>((benL ps c (ps.length + 1)).map f).sum).sum:=by
 have h:=znn ((zkw T hk).map f)
 rw [yao,yaG,zjl,ybd] at h
 exact h.symm
theorem zoB {f g : Nat→Nat} : ∀ {l : List Nat},(∀ x∈l,f x≤g x)→(l.map f).sum≤(l.map g).sum
 | [],_=>yaa _
 | x :: l,h=>by
  rw [yao,yaG,yao,yaG]
  have h1:=h x yaC
  have h2:=zoB (f:=f) (g:=g) (l:=l) fun y hy=>h y (yaD _ hy)
  omega
theorem zjX {α : Type} : ∀ (ls : List (List α)),ls.flatten.length = (ls.map List.length).sum
 | []=>rfl
 | l :: ls=>by
  rw [ybG,yam,zjX ls,yao,yaG]
theorem zmJ {ps : List Nat} (T : zax ps) {rows : List (List Int)} {k : Nat} (hk : k < ps.length + 1) : (zam ps rows k).length = (zak rows k).length + ((zbX ps k (ps.length + 1)).map fun c=>(zcy (zam ps rows c)).length).sum:=by
 rw [zbK T hk,zc5]
 unfold zdc
 rw [yco,yam,List.flatten_singleton,zjX,ybd]
 unfold ownE
 rw [yab,Nat.add_comm]
 rfl
theorem zgz {ps : List Nat} (T : zax ps) {rows : List (List Int)} : ∀ (m k : Nat),ps.length + 1 - k≤m→k < ps.length + 1→(zam ps rows k).length≤wtR ps rows k
 | 0,k,hm,hk=>by omega
 | m + 1,k,hm,hk=>by
  unfold wtR
  rw [zmJ T hk,zk3 T _ hk]
  refine ycq (zoB fun c hc=>?_) _
  have h:=zaC.mp hc
  have:=zaK T h.2
  exact yay (zaP _).length_le (zgz T m c (by omega) h.1)
theorem zgm (f : Nat→Nat) (P : Nat→Bool) : ∀ (l : List Nat),((l.filter P).map f).sum≤(l.map f).sum
 | []=>yaa _
 | x :: l=>by
  have ih:=zgm f P l
  rw [yao,yaG]
  by_cases h : P x = true
  ·rw [ybr h,yao,yaG]
   omega
  ·rw [ybW h]
   omega
def zbQ (rows : List (List Int)) : Nat:=(rows.map List.length).sum
theorem zlo (rows : List (List Int)) : ((List.range rows.length).map fun j=>(zak rows j).length).sum = zbQ rows:=by
 unfold zbQ
 congr 1
 apply ya6
 intro i
 rw [yau,yau]
 by_cases h : i < rows.length
 ·rw [ych h,yac h]
  show some (zak rows i).length = some rows[i].length
  unfold zak
  rw [yah,yac h]
  rfl
 ·rw [yaU (by rw [ya7]; omega),yaU (by omega)]
  rfl
theorem zov {ps : List Nat} {rows : List (List Int)} (hl : rows.length = ps.length + 1) (k : Nat) : wtR ps rows k≤zbQ rows:=by
 unfold wtR benL
 refine yay (zgm _ _ _) ?_
 rw [← hl,zlo]
 exact yaa _
theorem zht {ps : List Nat} (T : zax ps) {rows : List (List Int)} (hl : rows.length = ps.length + 1) {k : Nat} (hk : k < ps.length + 1) : (zam ps rows k).length≤zbQ rows:=yay (zgz T _ k (yaa _) hk) (zov hl k)
def zaE (H : Hp) (as : List Addr) (rows : List (List Int)) : Prop:=Paired (fun a row=>H a = some (.tup (row.map V.int))) as rows
theorem zaE.ext {H H' : Hp} (e : ∀ b o,H b = some o→H' b = some o) : ∀ {as : List Addr} {rows : List (List Int)},zaE H as rows→zaE H' as rows
 | _,_,.nil=>.nil
 | _,_,.cons h t=>.cons (e _ _ h) (zaE.ext e t)
theorem zaE.keep {d p : Addr} {H H' : Hp} (hd : ∀ a row,H a = some (.tup row)→a≠d) (e : ∀ b o,b≠d→H b = some o→H' b = some o) : ∀ {as : List Addr} {rows : List (List Int)},zaE H as rows→zaE H' as rows
 | _,_,.nil=>.nil
 | _,_,.cons h t=>.cons (e _ _ (hd _ _ h) h) (zaE.keep (p:=p) hd e t)
theorem zaE.length {H : Hp} {as : List Addr} {rows : List (List Int)} (h : zaE H as rows) : as.length = rows.length:=Paired.length h
theorem zaE.get {H : Hp} : ∀ {as : List Addr} {rows : List (List Int)} {k : Nat},zaE H as rows→k < rows.length→∃ a,as[k]? = some a∧H a = some (.tup ((zak rows k).map V.int))
 | _,_,_,.nil,hk=>by simp at hk
 | a :: as,row :: rows,0,.cons h t,_=>⟨a,rfl,h⟩
 | a :: as,row :: rows,k + 1,.cons h t,hk=>by
  obtain ⟨b,h1,h2⟩:=zaE.get (k:=k) t (by simpa using hk)
  refine ⟨b,by rw [ycu]; exact h1,?_⟩
  have : zak (row :: rows) (k + 1) = zak rows k:=by
   unfold zak
   rw [yah,yah,ycu]
  rw [this]
  exact h2
theorem zaE.snoc {H : Hp} {a : Addr} {row : List Int} : ∀ {as : List Addr} {rows : List (List Int)},zaE H as rows→H a = some (.tup (row.map V.int))→zaE H (as ++ [a]) (rows ++ [row])
 | _,_,.nil,h=>.cons h .nil
 | _,_,.cons h t,h2=>.cons h (zaE.snoc t h2)
structure zbp (H : Hp) (st : Addr) (ps : List Nat) (rows : List (List Int)) (t rs : Addr) (as : List Addr) : Prop where
 st : H st = some (.tup [.ref t,.ref rs])
 tr : H t = some (.tup (zbZ ps))
 rs : H rs = some (.tup (as.map V.ref))
 at_ : zaE H as rows
 len : rows.length = ps.length + 1
 T : zax ps
 R : zaB rows
 few : ps.length≤40
 keys : zbQ rows≤400
theorem zbp.same {H H' : Hp} {st t rs : Addr} {ps : List Nat} {rows : List (List Int)} {as : List Addr} (S : zbp H st ps rows t rs as) (e : Same H H') : zbp H' st ps rows t rs as:=
 ⟨e _ _ S.st,e _ _ S.tr,e _ _ S.rs,S.at_.ext e,S.len,S.T,S.R,S.few,S.keys⟩
theorem ze2 {as : List Addr} {k : Nat} {a : Addr} (h : as[k]? = some a) : atI (as.map V.ref) (k : Int) = some (.ref a):=zeQ (by rw [yau,h]; rfl)
theorem zh1 {α : Type} {l : List α} (h : l.Nodup) : l.reverse.Nodup:=(List.reverse_perm l).nodup_iff.mpr h
def zgf (K : Frag) (H : Hp) (ps : List Nat) (rows : List (List Int)) (j : Nat) (q : Addr) : Prop:=∃ ws,H q = some (.lst ws)∧zal K H (zam ps rows j) ws
def zaz (K : Frag) (H : Hp) (ps : List Nat) (rows : List (List Int)) : List Nat→List Addr→Prop:=Paired (zgf K H ps rows)
theorem zgf.same {K : Frag} {H H' : Hp} {ps : List Nat} {rows : List (List Int)} {j : Nat} {q : Addr} (h : zgf K H ps rows j q) (e : Same H H') : zgf K H' ps rows j q:=by
 obtain ⟨ws,h1,h2⟩:=h
 exact ⟨ws,e _ _ h1,h2.mono e.ext⟩
theorem zaz.same {K : Frag} {H H' : Hp} {ps : List Nat} {rows : List (List Int)} (e : Same H H') : ∀ {js : List Nat} {qs : List Addr},zaz K H ps rows js qs→zaz K H' ps rows js qs
 | _,_,.nil=>.nil
 | _,_,.cons h t=>.cons (zgf.same h e) (zaz.same e t)
theorem zaz.ext {K : Frag} {H H' : Hp} {ps : List Nat} {rows : List (List Int)} (e : Ext H H') : ∀ {js : List Nat} {qs : List Addr},zaz K H ps rows js qs→zaz K H' ps rows js qs
 | _,_,.nil=>.nil
 | _,_,.cons h t=>by
  obtain ⟨ws,a1,a2⟩:=h
  exact .cons ⟨ws,e _ _ a1 (fun _ z=>nomatch z),a2.mono e⟩ (zaz.ext e t)
theorem zaz.length {K : Frag} {H : Hp} {ps : List Nat} {rows : List (List Int)} {js : List Nat} {qs : List Addr} (h : zaz K H ps rows js qs) : js.length = qs.length:=Paired.length h
theorem zaz.snoc {K : Frag} {H : Hp} {ps : List Nat} {rows : List (List Int)} {j : Nat} {q : Addr} : ∀ {js : List Nat} {qs : List Addr},zaz K H ps rows js qs→zgf K H ps rows j q→zaz K H ps rows (js ++ [j]) (qs ++ [q])
 | _,_,.nil,h=>.cons h .nil
 | _,_,.cons h t,h2=>.cons h (zaz.snoc t h2)
theorem zaz.get {K : Frag} {H : Hp} {ps : List Nat} {rows : List (List Int)} : ∀ {js : List Nat} {qs : List Addr} {i j : Nat},zaz K H ps rows js qs→js[i]? = some j→∃ q,qs[i]? = some q∧zgf K H ps rows j q
 | _,_,i,j,.nil,h=>by simp at h
 | _ :: _,q :: _,0,j,.cons h t,e=>by
  have:=yad (show some _ = some j from e)
  subst this
  exact ⟨q,rfl,h⟩
 | _ :: _,_ :: _,i + 1,j,.cons h t,e=>by
  obtain ⟨q,h1,h2⟩:=zaz.get (i:=i) t (by simpa using e)
  exact ⟨q,by simpa using h1,h2⟩
theorem zaz.rev {K : Frag} {H : Hp} {ps : List Nat} {rows : List (List Int)} : ∀ {js : List Nat} {qs : List Addr},zaz K H ps rows js qs→zaz K H ps rows js.reverse qs.reverse
 | _,_,.nil=>.nil
 | j :: js,q :: qs,.cons h t=>by
  rw [ycj,ycj]
  exact zaz.snoc (zaz.rev t) h
theorem zaz.alloc {K : Frag} {H : Hp} {ps : List Nat} {rows : List (List Int)} : ∀ {js : List Nat} {qs : List Addr},zaz K H ps rows js qs→∀ q∈qs,∃ ws,H q = some (.lst ws)
 | _,_,.nil=>fun q hq=>nomatch hq
 | _ :: _,_ :: _,.cons h t=>fun q hq=>by
  rcases yak.mp hq with e | e
  ·obtain ⟨ws,h1,_⟩:=h
   exact ⟨ws,e ▸ h1⟩
  ·exact zaz.alloc t q e
abbrev kN (j : Nat) : Key:=Sum.inl (j : Int)
def zde : List Nat→List Addr→List (Key×V)
 | j :: js,q :: qs=>(kN j,.ref q) :: zde js qs
 | _,_=>[]
theorem zj0 {j : Nat} : ∀ {js : List Nat} {qs : List Addr},j∉js→valV (zde js qs) (kN j) = none
 | [],_,_=>rfl
 | _ :: _,[],_=>rfl
 | i :: js,q :: qs,h=>by
  have h1 : ¬ kN i = kN j:=fun z=>h (by
   have:=Int.ofNat.inj (Sum.inl.inj z)
   rw [this]
   exact yaC)
  show valV ((kN i,V.ref q) :: zde js qs) (kN j) = none
  rw [zbi h1]
  exact zj0 fun z=>h (yaD _ z)
theorem ziN {j : Nat} {q : Addr} : ∀ {js : List Nat} {qs : List Addr} {i : Nat},js.Nodup→js[i]? = some j→qs[i]? = some q→valV (zde js qs) (kN j) = some (.ref q)
 | [],_,_,_,h,_=>by simp at h
 | _ :: _,[],_,_,_,h=>by simp at h
 | a :: js,b :: qs,0,_,h1,h2=>by
  have:=yad (show some a = some j from h1)
  subst this
  have:=yad (show some b = some q from h2)
  subst this
  exact zci (p:=(kN a,V.ref b)) rfl
 | a :: js,b :: qs,i + 1,hn,h1,h2=>by
  have g1 : js[i]? = some j:=by simpa using h1
  have hne : ¬ kN a = kN j:=fun z=>by
   have e:=Int.ofNat.inj (Sum.inl.inj z)
   exact (yaS.mp hn).1 (e ▸ yaJ g1)
  show valV ((kN a,V.ref b) :: zde js qs) (kN j) = _
  rw [zbi hne]
  exact ziN (yaS.mp hn).2 g1 (by simpa using h2)
theorem zjZ {j : Nat} {q : Addr} : ∀ {js : List Nat} {qs : List Addr},js.length = qs.length→zde (js ++ [j]) (qs ++ [q]) = zde js qs ++ [(kN j,.ref q)]
 | [],[],_=>rfl
 | [],_ :: _,h=>by cases h
 | _ :: _,[],h=>by cases h
 | a :: js,b :: qs,h=>by
  show (kN a,V.ref b) :: zde (js ++ [j]) (qs ++ [q]) = (kN a,V.ref b) :: (zde js qs ++ [(kN j,V.ref q)])
  rw [zjZ (Nat.succ.inj h)]
theorem zpL {j : Nat} {q : Addr} {js : List Nat} {qs : List Addr} (hl : js.length = qs.length) (h : j∉js) : putK (zde js qs) (kN j) (.ref q) = zde (js ++ [j]) (qs ++ [q]):=by
 rw [zd6 _ (zj0 h),zjZ hl]
theorem zmp : ∀ {js : List Nat} {qs : List Addr},js.length = qs.length→(zde js qs).length = js.length
 | [],[],_=>rfl
 | [],_ :: _,h=>by cases h
 | _ :: _,[],h=>by cases h
 | a :: js,b :: qs,h=>by
  show (zde js qs).length + 1 = js.length + 1
  rw [zmp (Nat.succ.inj h)]
theorem zos {l : List Nat} (h : l.Pairwise (· > ·)) {i j c : Nat} (hj : l[i]? = some j) (hc : c∈l) (hcj : j < c) : c∈l.take i:=by
 obtain ⟨u,hu,rfl⟩:=ya3 hc
 obtain ⟨hi,rfl⟩:=yan.mp hj
 have : u < i:=by
  refine Nat.lt_of_not_le fun z=>?_
  by_cases e : i = u
  ·subst e
   omega
  ·have:=ybj.mp h i u hi hu (by omega)
   omega
 rw [List.mem_iff_getElem?]
 exact ⟨u,by rw [ybR,if_pos this,yac hu]⟩
theorem zn3 {ps : List Nat} (T : zax ps) {k j c : Nat} (h : isB ps k j = true) (hc : par ps c = some j) : isB ps k c = true:=by
 by_cases e : c = k
 ·rw [e]
  exact zb4
 ·rw [zbJ T e hc]
  exact h
def zqp (K : Frag) : Sp:=fun vs H Q _=>∃ (st : Addr) (ps : List Nat) (rows : List (List Int)) (t rs : Addr) (as : List Addr) (j : Nat),vs = [.ref st,.int j]∧zbp H st ps rows t rs as∧j < ps.length + 1∧
 ∀ (D : Addr) (us : List V) (H' : Hp),H D = none→Same H H'→H' D = some (.lst us)→zal K H' (ownE rows j) us→Q (.ref D) H'
theorem zqN (T : Txt K mg) (D_own_entries : DF K mg "own_entries" zb0 zbG) : FC P w K mg base 1 "own_entries" zbG (zqp K):=by
 refine D_own_entries.ok sc_own_entries (fun vs H Q E h=>?_) (fun f cdv A outer s H vs Q E hr h=>?_)
 ·obtain ⟨st,ps,rows,t,rs,as,k,rfl,_⟩:=h
  rfl
 obtain ⟨st,ps,rows,t,rs,as,j,rfl,S4,hjn,q⟩:=h
 refine ⟨_,(zae (zav (zcw (N:=["key","knot"]) (own:=1) (cap:=[1]) rfl (zfH (za0 za8 (za0 za8 (pv 0) zaj (fun _ _=>rfl)) (pv 1) (fun _ _=>rfl))) ⟨rfl,rfl,rfl,rfl,rfl,rfl⟩ (fun _ _ _ _ _=>(zas (i:=0) (show List.Nodup (["key","knot"] : List Str) by decide +kernel) rfl (Or.inl rfl))) (fun _ _ _ _ _=>zcQ) (fun _ _ _ _ _=>(zbr (zaa (pv 0) (zaa (pv 1) zac))))))),?_⟩
 obtain ⟨a,ha1,ha4⟩:=S4.at_.get (k:=j) (by rw [S4.len]; exact hjn)
 have hkeys:=S4.keys
 refine ⟨_,rfl,_,_,_,_,rfl,rfl,SqT.of S4.st,rfl,_,rfl,_,_,_,_,rfl,rfl,SqT.of S4.rs,ze2 ha1,a,rfl,⟨_,SqT.of ha4⟩,fun D3 hD3=>?_⟩
 refine zet (xs:=(zak rows j).map V.int) (fun m σ H5=>∃ (us : List V) (x0 : Option V),σ = [x0,some (.int j)]∧H5 D3 = some (.lst us)∧zal K H5 ((ownE rows j).take m) us∧But D3 H H5) ?_ ?_ ?_ ?_
 ·exact ⟨[],_,rfl,zab,.nil,fun b o n e=>by rw [zah n]; exact e⟩
 ·rintro m σ H5 _ ⟨us,x0,rfl,_,_,k5⟩
  exact SqT.of (k5 _ _ (zad ha4 hD3) ha4)
 ·rintro m r x σ H5 hx hm ⟨us,x0,rfl,h5,hw5,k5⟩
  rw [yau] at hx
  obtain ⟨y,hy,rfl⟩:=ybM.mp hx
  have hlow:=(yan.mp hy).1
  have htk3 : (ownE rows j).take (m + 1) = (ownE rows j).take m ++ [(y,(j : Int))]:=by
   unfold ownE
   rw [← ycp,← ycp,yaP hlow,yav]
   rw [(yan.mp hy).2]
   rfl
  have hul:=hw5.length
  rw [yap] at hul
  rw [yab] at hm
  have hrl : (zak rows j).length≤zbQ rows:=by
   have:=zov S4.len (k:=j) (ps:=ps)
   have e2 : wtR ps rows j = (zak rows j).length + _:=zk3 S4.T _ hjn
   omega
  refine zeq ?_
  refine ⟨_,rfl,_,rfl,(by show 2≤sizeLine; decide),fun u hu=>?_⟩
  have su:=zai hu (.tup [.int y,.int (j : Int)])
  have h6:=su _ _ h5
  have hut : upd H5 u (.tup [.int y,.int (j : Int)]) u = some (.tup [.int y,.int (j : Int)]):=zab
  have k6:=k5.new' hu (.tup [.int y,.int (j : Int)])
  have hw6:=hw5.mono su.ext
  generalize upd H5 u (.tup [.int y,.int (j : Int)]) = H6 at su h6 hut k6 hw6 ⊢
  refine ⟨_,h6,zaq (by omega),r - 1,by omega,by rw [yab]; omega,us ++ [.ref u],_,rfl,zab,?_,fun b o n e=>by rw [zah n]; exact k6 b o n e⟩
  rw [htk3]
  exact (zbI h6 hw6).append (zbI h6 (.cons ⟨u,.int y,.int (j : Int),rfl,hut,rfl,rfl⟩ .nil))
 ·rintro σ H5 ⟨us,x0,rfl,h5,hw5,k5⟩
  rw [yab,yar (by unfold ownE; rw [yab]; exact yaa _)] at hw5
  exact q D3 us H5 hD3 (fun x o e=>k5 x o (zad e hD3) e) h5 hw5
def zqs (K : Frag) : Sp:=fun vs H Q _=>∃ (st : Addr) (ps : List Nat) (rows : List (List Int)) (t rs : Addr) (as : List Addr) (k : Nat),vs = [.ref st,.int k]∧zbp H st ps rows t rs as∧k < ps.length + 1∧
 ∀ (D : Addr) (qs : List Addr) (H' : Hp),H D = none→Same H H'→H' D = some (.dK (zde (benL ps k (ps.length + 1)).reverse qs))→qs.Nodup→(∀ q∈qs,H q = none)→zaz K H' ps rows (benL ps k (ps.length + 1)).reverse qs→Q (.ref D) H'
theorem zqT (T : Txt K mg) (D_full_rows_beneath : DF K mg "full_rows_beneath" zaW zaT) (F_beneath : FC P w K mg base 1 "beneath" zdA (zhP K)) (F_children : FC P w K mg base 1 "children" zcU (zgn K)) (F_handed : FC P w K mg base 6 "handed" zc9 (zgW K)) (F_own_entries : FC P w K mg base 1 "own_entries" zbG (zqp K)) (F_joined_up : FC P w K mg base 1 "joined_up" zbN (zlA K)) : FC P w K mg base 7 "full_rows_beneath" zaT (zqs K):=by
 refine D_full_rows_beneath.ok sc_full_rows_beneath (fun vs H Q E h=>?_) (fun f cdv A outer s H vs Q E hr h=>?_)
 ·obtain ⟨st,ps,rows,t,rs,as,k,rfl,_⟩:=h
  rfl
 obtain ⟨st,ps,rows,t,rs,as,k,rfl,S,hk,q⟩:=h
 refine ⟨_,(zaf (zar (i:=2) sc_full_rows_beneath.nd rfl (Or.inl rfl) (za0 za8 (pv 0) zaj (fun _ _=>rfl)))
   (zaf (zar (i:=3) sc_full_rows_beneath.nd rfl (Or.inr rfl) zjK)
   (zaf (zbO PassesOwn.never rfl (zfI rfl T.m_reversed (zaa (zau F_beneath hr (zaa (pv 2) (zaa (pv 1) zac))) zac)) (zas (i:=4) sc_full_rows_beneath.nd rfl (Or.inl rfl)) (zaf (zg7 (i:=5) (N:=["child","told"]) (own:=1) (cap:=[3]) sc_full_rows_beneath.nd rfl rfl rfl (zdN (zau F_children hr (zaa (pv 2) (zaa (pv 4) zac)))) ⟨rfl,rfl,rfl,rfl,rfl,rfl⟩ (fun _ _ _ _ _=>(zas (i:=0) (show List.Nodup (["child","told"] : List Str) by decide +kernel) rfl (Or.inl rfl))) (fun _ _ _ _ _=>zcQ) (fun _ _ _ _ _=>(zau F_handed hr (zaa (zdO (zer hr) (pv 1) (pv 0) (fun _ _=>rfl)) zac))))
   (zaf (zbT (zha F.plainAttrs_list F.slot_list_append F.type_list_append zbz (pv 5) (zaa (zau F_own_entries hr (zaa (pv 0) (zaa (pv 4) zac))) zac)))
   (zae (zeE (zer hr) (pv 3) (pv 4) (zau F_joined_up hr (zaa (pv 5) zac)) rfl)))))
   (zae (zav (pv 3)))))),?_⟩
 refine ⟨_,rfl,_,_,_,_,rfl,rfl,SqT.of S.st,rfl,fun D hD=>?_⟩
 have s0:=zai hD (.dK [])
 have hD0 : upd H D (.dK []) D = some (.dK []):=zab
 generalize upd H D (.dK []) = H0 at s0 hD0 ⊢
 refine ⟨_,rfl,_,rfl,t,ps,k,rfl,s0 _ _ S.tr,S.T,hk,by have:=S.few; omega,fun b H1 hb s1 h1=>?_⟩
 refine ⟨b,_,rfl,SqL.of h1,?_⟩
 have hup:=zi6 ps k (ps.length + 1)
 have hmem:=fun j=>zb5 (ps:=ps) (k:=k) (n:=ps.length + 1) (j:=j)
 have hbl:=zke ps k (ps.length + 1)
 generalize benL ps k (ps.length + 1) = bs at h1 q hup hmem hbl ⊢
 have hdn : bs.reverse.Pairwise (· > ·):=by
  rw [List.pairwise_reverse]
  exact hup
 have hnd : bs.reverse.Nodup:=List.Pairwise.imp (fun {a b} (q : a > b)=>ybh q) hdn
 refine zmL (xs:=bs.map nV) (fun i σ H2=>∃ (qs : List Addr) (x5 x6 : Option V),σ = [some (.ref st),some (.int k),some (.ref t),some (.ref D),x5,x6]∧H2 D = some (.dK (zde (bs.reverse.take i) qs))∧qs.Nodup∧(∀ q∈qs,H q = none)∧zaz K H2 ps rows (bs.reverse.take i) qs∧H2 b = some (.lst (bs.map nV))∧But D H H2) ?_ ?_ ?_ ?_
 ·exact ⟨[],_,_,rfl,s1 _ _ hD0,ybw,(fun q hq=>nomatch hq),.nil,h1,fun x o _ e=>s1 _ _ (s0 _ _ e)⟩
 ·rintro i σ H2 _ ⟨qs,x5,x6,rfl,_,_,_,_,h2b,_⟩
  exact SqL.of h2b
 ·rintro i x σ H2 hx ⟨qs,x5,x6,rfl,h2,hqn,hqf,hF,h2b,k2⟩
  rw [← List.map_reverse] at hx
  obtain ⟨hi,hxe⟩:=zmG hx
  have hji : bs.reverse[i]? = some (bs.reverse.getD i 0):=by
   rw [yah,yac hi]
   rfl
  subst hxe
  have htk : bs.reverse.take (i + 1) = bs.reverse.take i ++ [bs.reverse.getD i 0]:=by
   rw [yaP hi,yah,yac hi]
   rfl
  rw [htk]
  generalize bs.reverse.getD i 0 = j at hji htk ⊢
  have hjm : j∈bs:=ybS.mp (yaJ hji)
  obtain ⟨hjn,hjB⟩:=(hmem j).mp hjm
  have hjnot : j∉bs.reverse.take i:=fun z=>by
   have hnd':=hnd
   rw [← yaM (i + 1) bs.reverse,htk] at hnd'
   have:=(ybe.mp hnd').1
   exact (ybe.mp this).2.2 j z j (yal.mpr rfl) rfl
  have noD : ∀ {p : Addr} {o : HO},H p = some o→p≠D:=fun {p o} e=>zad e hD
  have S2 : zbp H2 st ps rows t rs as:=⟨k2 _ _ (noD S.st) S.st,k2 _ _ (noD S.tr) S.tr,k2 _ _ (noD S.rs) S.rs,zaE.keep (p:=D) (d:=D) (fun a row e=>noD e) k2 S.at_,S.len,S.T,S.R,S.few,S.keys⟩
  have hkeys:=S.keys
  have hfew:=S.few
  refine ⟨_,rfl,_,rfl,t,ps,j,rfl,S2.tr,by omega,fun c H3 hc s3 h3=>?_⟩
  refine ⟨c,rfl,⟨_,SqL.of h3⟩,fun D2 hD2=>?_⟩
  have hcmem:=fun m=>zaC (ps:=ps) (k:=j) (n:=ps.length + 1) (j:=m)
  have hcl:=zgH ps j (ps.length + 1)
  have hparts : zdc ps rows j = ((zbX ps j (ps.length + 1)).map fun c=>zcy (zam ps rows c)) ++ [ownE rows j]:=rfl
  generalize zbX ps j (ps.length + 1) = cs at h3 hcmem hcl hparts ⊢
  have h3D:=s3 _ _ h2
  have nDD2 : D≠D2:=zad h3D hD2
  have F3 : zaz K H3 ps rows (bs.reverse.take i) qs:=hF.same s3
  refine zcG (xs:=cs.map nV) (fun m σ H4=>∃ (gs : List Addr) (x0 : Option V),σ = [x0,some (.ref D)]∧H4 D2 = some (.lst (gs.map V.ref))∧Own K H4 gs ((cs.take m).map fun c=>zcy (zam ps rows c))∧D2∉gs∧But D2 H3 H4) ?_ ?_ ?_ ?_
  ·exact ⟨[],_,rfl,zab,.nil,(fun z=>nomatch z),fun b o n e=>by rw [zah n]; exact e⟩
  ·rintro m σ H4 _ ⟨gs,x0,rfl,_,_,_,k4⟩
   exact k4.sq (SqL.of h3) hD2
  ·rintro m r x σ H4 hx hm ⟨gs,x0,rfl,h4,hO,hg,k4⟩
   obtain ⟨hmi,rfl⟩:=zmG hx
   have hcm : cs[m]? = some (cs.getD m 0):=by
    rw [yah,yac hmi]
    rfl
   have htk2 : cs.take (m + 1) = cs.take m ++ [cs.getD m 0]:=by
    rw [yaP hmi,yah,yac hmi]
    rfl
   rw [htk2]
   generalize cs.getD m 0 = ch at hcm ⊢
   obtain ⟨hchn,hchp⟩:=(hcmem ch).mp (yaJ hcm)
   have hlt:=(zaK S.T hchp).1
   have hin : ch∈bs.reverse.take i:=zos hdn hji (ybS.mpr ((hmem ch).mpr ⟨hchn,zn3 S.T hjB hchp⟩)) hlt
   obtain ⟨u,hu,hue⟩:=ya3 hin
   have hu2 : (bs.reverse.take i)[u]? = some ch:=by rw [yac hu,hue]
   obtain ⟨qq,hq1,ws,hq2,hq3⟩:=F3.get hu2
   have hnd2 : (bs.reverse.take i).Nodup:=hnd.sublist (List.take_sublist _ _)
   have hv:=ziN hnd2 hu2 hq1
   have k4D:=k4 _ _ nDD2 h3D
   have hq4:=k4 _ _ (zad hq2 hD2) hq2
   have hq5 : zal K H4 (zam ps rows ch) ws:=by
    have key : ∀ {es : List (Int×Int)} {vs : List V},zal K H3 es vs→zal K H4 es vs:=by
     intro es vs hh
     induction hh with
     | nil=>exact .nil
     | cons a _ ih=>
      obtain ⟨b,x1,x2,rfl,q,e1,e2⟩:=(show hasP K H3 _ _ from a)
      exact .cons ⟨b,x1,x2,rfl,k4 _ _ (zad q hD2) q,e1,e2⟩ ih
    exact key hq3
   have hlen:=zht S.T S.len (rows:=rows) hchn
   refine zeq ?_
   have hdg : DGet H4 D (.int (ch : Int)) (some (.ref qq)):=by
    rw [← hv]
    exact DGet.k (k:=kN ch) k4D
   refine ⟨_,rfl,_,rfl,D,_,rfl,hdg,?_⟩
   refine ⟨qq,ws,zam ps rows ch,rfl,hq4,hq5,by omega,zfY S.T S.R hfew hchn,zaI S.T S.R hchn,fun g H5 hg5 s5 h5=>?_⟩
   have hgl:=hO.length
   rw [yab,yap] at hgl
   have h5D2:=s5 _ _ h4
   have ngD2 : D2≠g:=zad h4 hg5
   rw [yab] at hm
   refine ⟨_,h5D2,zaq (by rw [yab]; omega),r - 1,by omega,by rw [yab]; omega,gs ++ [g],_,rfl,?_,?_,?_,fun x o n e=>by rw [zah n]; exact s5 _ _ (k4 x o n e)⟩
   ·rw [zab,yav]
    rfl
   ·rw [yav]
    refine Own.other h5D2 (Own.append (hO.ext s5.ext) (.cons ⟨_,h5,?_⟩ .nil)) ?_
    ·exact zft (hq5.mono s5.ext)
    ·intro z
     rcases yaj.mp z with z | z
     ·exact hg z
     ·exact ngD2 (yal.mp z)
   ·intro z
    rcases yaj.mp z with z | z
    ·exact hg z
    ·exact ngD2 (yal.mp z)
  ·rintro σ H4 ⟨gs,x0,rfl,h4,hO,hg,k4⟩
   rw [yab,yar (yaa _)] at hO
   have hgl:=hO.length
   rw [yab] at hgl
   have s34 : Same H3 H4:=fun x o e=>k4 x o (zad e hD2) e
   have s24 : Same H2 H4:=s3.trans s34
   have S4:=S2.same s24
   refine ⟨_,rfl,.inl ⟨rfl,_,SqL.of h4⟩,_,rfl,_,rfl,st,ps,rows,t,rs,as,j,rfl,S4,hjn,fun D3 us H5 hD3 s45 h5 hw5=>?_⟩
   have h5D2:=s45 _ _ h4
   have n23 : D2≠D3:=zad h4 hD3
   refine ⟨_,_,_,rfl,rfl,h5D2,zaq (by rw [yab]; omega),?_⟩
   have O5 : Own K H5 (gs ++ [D3]) (zdc ps rows j):=by
    rw [hparts]
    exact Own.append (hO.ext s45.ext) (.cons ⟨us,h5,hw5⟩ .nil)
   have nin : D2∉gs ++ [D3]:=fun z=>by
    rcases yaj.mp z with z | z
    ·exact hg z
    ·exact n23 (yal.mp z)
   have O6:=O5.other (o:=.lst (gs.map V.ref ++ [.ref D3])) h5D2 nin
   have h6 : upd H5 D2 (.lst (gs.map V.ref ++ [.ref D3])) D2 = some (.lst ((gs ++ [D3]).map V.ref)):=by
    rw [zab,yav]
    rfl
   have k26 : ∀ x o,H2 x = some o→upd H5 D2 (.lst (gs.map V.ref ++ [.ref D3])) x = some o:=fun x o e=>by
    rw [zah (zad (s3 _ _ e) hD2)]
    exact s45 _ _ (s24 _ _ e)
   generalize upd H5 D2 (.lst (gs.map V.ref ++ [.ref D3])) = H6 at O6 h6 k26 ⊢
   have hfl : (zdc ps rows j).flatten.length≤1000:=by
    have:=zht S.T S.len (rows:=rows) hjn
    rw [zbK S.T hjn,zc5] at this
    omega
   refine ⟨_,rfl,D2,gs ++ [D3],zdc ps rows j,rfl,h6,O6,hfl,fun p ws H7 hp s7 h7 hw7=>?_⟩
   rw [← zbK S.T hjn] at hw7
   have s27 : Same H2 H7:=fun x o e=>s7 _ _ (k26 x o e)
   have h7D:=s27 _ _ h2
   have hql:=hF.length
   have hpD : p≠D:=Ne.symm (zad (k26 _ _ h2) hp)
   refine ⟨_,rfl,_,rfl,D,_,rfl,DPut.k (k:=kN j) h7D (zaq (by rw [zmp hql,yap,ybH]; omega)),?_⟩
   rw [zpL hql hjnot]
   have e78 : Ext H7 (upd H7 D (.dK (zde (bs.reverse.take i ++ [j]) (qs ++ [p])))):=fun x o e n=>by
    rw [zah (fun z=>by
     rw [z,h7D] at e
     cases e
     exact n _ rfl)]
    exact e
   have F8 : zaz K (upd H7 D (.dK (zde (bs.reverse.take i ++ [j]) (qs ++ [p])))) ps rows (bs.reverse.take i ++ [j]) (qs ++ [p]):=by
    exact zaz.ext e78 (zaz.snoc (hF.same s27) ⟨ws,h7,hw7⟩)
   refine ⟨qs ++ [p],_,_,rfl,zab,?_,?_,F8,?_,fun x o n e=>?_⟩
   ·rw [ybe]
    refine ⟨hqn,yaS.mpr ⟨(fun z=>nomatch z),ybw⟩,fun a ha b hb z=>?_⟩
    rw [yal.mp hb] at z
    subst z
    obtain ⟨ws',hws⟩:=hF.alloc a ha
    have:=k26 _ _ hws
    rw [hp] at this
    cases this
   ·intro x hx
    rcases yaj.mp hx with z | z
    ·exact hqf x z
    ·rw [yal.mp z]
     cases e : H p with
     | none=>rfl
     | some o=>
      have:=k26 _ _ (k2 p o hpD e)
      rw [hp] at this
      cases this
   ·rw [zah (fun z=>by rw [z,h2] at h2b; cases h2b)]
    exact s27 _ _ h2b
   ·rw [zah n]
    exact s27 _ _ (k2 x o n e)
 ·rintro σ H2 ⟨qs,x5,x6,rfl,h2,hqn,hqf,hF,h2b,k2⟩
  refine ⟨_,rfl,?_⟩
  rw [yab,yar (by rw [ybH]; exact yaa _)] at h2 hF
  exact q D qs H2 hD (fun x o e=>k2 x o (zad e hD) e) h2 hqn hqf hF
def zlC (K : Frag) : Sp:=fun vs H Q _=>∃ (st : Addr) (ps : List Nat) (rows : List (List Int)) (t rs : Addr) (as : List Addr),vs = [.ref st]∧zbp H st ps rows t rs as∧
 ∀ (p : Addr) (qs : List Addr) (H' : Hp),H p = none→Same H H'→H' p = some (.lst (qs.map V.ref))→qs.Nodup→(∀ q∈qs,H q = none)→p∉qs→zaz K H' ps rows (List.range (ps.length + 1)) qs→Q (.ref p) H'
theorem zg4 {n i : Nat} (h : i < n) : (List.range n).reverse[n - 1 - i]? = some i:=by
 rw [yci (by rw [ya7]; omega),ya7,ych (by omega)]
 congr 1
 omega
theorem znO (T : Txt K mg) (D_full_rows : DF K mg "full_rows" zcM zcn) (F_full_rows_beneath : FC P w K mg base 7 "full_rows_beneath" zaT (zqs K)) : FC P w K mg base 8 "full_rows" zcn (zlC K):=by
 refine D_full_rows.ok sc_full_rows (fun vs H Q E h=>?_) (fun f cdv A outer s H vs Q E hr h=>?_)
 ·obtain ⟨st,ps,rows,t,rs,as,rfl,_⟩:=h
  rfl
 obtain ⟨st,ps,rows,t,rs,as,rfl,S,q⟩:=h
 refine ⟨_,(zaf (zar (i:=1) sc_full_rows.nd rfl (Or.inr rfl) (zau F_full_rows_beneath hr (zaa (pv 0) (zaa zaj zac))))
   (zae (zav (zcw (N:=["knot","told"]) (own:=1) (cap:=[1]) rfl (zbP rfl T.m_range (zaa (zap zao rfl T.m_len boot_len (zaa (za0 za8 (pv 0) zaj (fun _ _=>rfl)) zac)) zac)) ⟨rfl,rfl,rfl,rfl,rfl,rfl⟩ (fun _ _ _ _ _=>(zas (i:=0) (show List.Nodup (["knot","told"] : List Str) by decide +kernel) rfl (Or.inl rfl))) (fun _ _ _ _ _=>zcQ) (fun _ _ _ _ _=>(zdO (zer hr) (pv 1) (pv 0) (fun _ _=>rfl))))))),?_⟩
 refine ⟨_,rfl,st,ps,rows,t,rs,as,0,rfl,S,by omega,fun D qs H1 hD s1 h1 hqn hqf hF=>?_⟩
 rw [zm6 S.T] at h1 hF
 have S1:=S.same s1
 have hfew:=S.few
 have hql:=hF.length
 rw [ybH,ya7] at hql
 refine ⟨_,rfl,_,_,_,_,rfl,rfl,SqT.of S1.st,rfl,_,_,rfl,.inr (SqT.of S1.tr),_,rfl,by omega,by rw [zat]; omega,fun p hp=>?_⟩
 have el : ((((zbZ ps).length : Nat) : Int)).toNat = ps.length + 1:=by rw [zat,ybb]
 rw [el]
 refine zeM (n:=ps.length + 1) (fun i σ H2=>∃ x0 : Option V,σ = [x0,some (.ref D)]∧H2 p = some (.lst ((qs.reverse.take i).map V.ref))∧But p H1 H2) ?_ ?_ ?_
 ·exact ⟨_,rfl,zab,fun b o n e=>by rw [zah n]; exact e⟩
 ·rintro i m σ H2 hm hi ⟨x0,rfl,h2,k2⟩
  rw [ybX]
  have hi2 : i < qs.reverse.length:=by rw [ybH]; omega
  have hq1 : qs[ps.length + 1 - 1 - i]? = some qs.reverse[i]:=by
   have:=yci (l:=qs) (i:=i) (by omega)
   rw [yac hi2] at this
   rw [this]
   congr 1
   omega
  have hv:=ziN (zh1 List.nodup_range) (zg4 hi) hq1
  have h2D:=k2 _ _ (zad h1 hp) h1
  have hdg : DGet H2 D (.int (i : Int)) (some (.ref qs.reverse[i])):=by
   rw [← hv]
   exact DGet.k (k:=kN i) h2D
  refine zeq ?_
  refine ⟨_,rfl,_,rfl,D,_,rfl,hdg,?_⟩
  refine ⟨_,h2,zaq (by rw [yab,yap]; omega),m - 1,by omega,by omega,_,rfl,?_,fun b o n e=>by rw [zah n]; exact k2 b o n e⟩
  rw [zab,yaP hi2,yav]
  rfl
 ·rintro σ H2 ⟨x0,rfl,h2,k2⟩
  rw [yar (by rw [ybH]; omega)] at h2
  have s2 : Same H1 H2:=fun b o e=>k2 b o (zad e hp) e
  have F2:=(hF.same s2).rev
  rw [yct] at F2
  refine q p qs.reverse H2 ?_ (s1.trans s2) h2 (zh1 hqn) (fun x hx=>hqf x (ybS.mp hx)) (fun z=>?_) F2
  ·cases e : H p with
   | none=>rfl
   | some o=>
    have:=s1 _ _ e
    rw [hp] at this
    cases this
  ·obtain ⟨ws,hws⟩:=hF.alloc p (ybS.mp z)
   rw [hp] at hws
   cases hws
abbrev En:=Int×Int
theorem zdu {l : List En} (h : Rise l) : l.Nodup:=List.Pairwise.imp (fun {a b} (q : pLt a b = true) z=>by
 subst z
 have:=zcx.mp q
 omega) h
theorem zfF {l m : List En} (h1 : Rise l) (h2 : Rise m) (h : ∀ e,e∈l↔e∈m) : l = m:=by
 refine List.Perm.eq_of_pairwise (le:=fun a b=>pLt a b = true) (fun a b _ _ q1 q2=>?_) h1 h2 ((ycx (zdu h1) (zdu h2)).mpr h)
 have:=zcx.mp q1
 have:=zcx.mp q2
 omega
theorem zbo {ps : List Nat} (T : zax ps) {rows : List (List Int)} {k : Nat} (hk : k < ps.length + 1) {e : En} : e∈zam ps rows k↔e∈ownE rows k∨∃ c,par ps c = some k∧e∈zcy (zam ps rows c):=by
 rw [zbK T hk,zdX,ycl]
 unfold zdc
 constructor
 ·rintro ⟨l,hl,he⟩
  rcases yaj.mp hl with q | q
  ·obtain ⟨c,hc,rfl⟩:=yaB.mp q
   exact .inr ⟨c,(zaC.mp hc).2,he⟩
  ·rw [yal.mp q] at he
   exact .inl he
 ·rintro (h | ⟨c,hc,h⟩)
  ·exact ⟨_,yaj.mpr (.inr (yal.mpr rfl)),h⟩
  ·exact ⟨_,yaj.mpr (.inl (yaB.mpr ⟨c,zaC.mpr ⟨(zaK T hc).2,hc⟩,rfl⟩)),h⟩
inductive zhx (K : Frag) (H : Hp) : V→Bool→Prop where
 | int (i : Int) : zhx K H (.int i) true
 | bl (b : Bool) : zhx K H (.bl b) false
 | oth (x : V) (t : String) (ty : TyOf K H x (.type t)) (h2 : kitO t "int" = some false) : zhx K H x false
def ziu (K : Frag) : Sp:=fun vs H Q _=>∃ (x : V) (b : Bool),vs = [x]∧zhx K H x b∧Q (.bl b) H
theorem znC (T : Txt K mg) (D_is_whole : DF K mg "is_whole" zds zca) : FC P w K mg base 1 "is_whole" zca (ziu K):=by
 refine D_is_whole.ok sc_is_whole (fun vs H Q E h=>?_) (fun f cdv A outer s H vs Q E hr h=>?_)
 ·obtain ⟨x,b,rfl,_⟩:=h
  rfl
 obtain ⟨x,b,rfl,hk,q⟩:=h
 refine ⟨_,(zae (zav (zjL (zap zkd rfl T.m_isinstance boot_isinstance (zaa (pv 0) (zaa (zdb (v:=.ty "int") rfl T.m_int boot_int rfl) zac))) (zjJ (zlR (zap zkd rfl T.m_isinstance boot_isinstance (zaa (pv 0) (zaa (zdb (v:=.ty "bool") rfl T.m_bool boot_bool rfl) zac)))))))),?_⟩
 cases hk with
 | int i=>
  refine ⟨_,rfl,_,_,_,_,rfl,.int _,zq5,_,rfl,?_⟩
  refine iteT ?_
  refine ⟨_,rfl,_,_,_,_,rfl,.int _,zq6,_,rfl,?_⟩
  exact q
 | bl c=>
  refine ⟨_,rfl,_,_,_,_,rfl,.bl _,(show kitO "bool" "int" = some true by decide +kernel),_,rfl,?_⟩
  refine iteT ?_
  refine ⟨_,rfl,_,_,_,_,rfl,.bl _,zq7,_,rfl,?_⟩
  exact q
 | oth x t ty h2=>
  refine ⟨_,rfl,_,_,_,_,rfl,ty,h2,_,rfl,?_⟩
  refine iteF ?_
  exact q
inductive zot (K : Frag) (H : Hp) : V→Bool→Prop where
 | int (i : Int) (b : Bool) (h : b = decide ((if i < 0 then -i else i) < 10 ^ 60)) : zot K H (.int i) b
 | bl (b : Bool) : zot K H (.bl b) false
 | oth (x : V) (t : String) (ty : TyOf K H x (.type t)) (h1 : kitO t "bool" = some false) (h2 : kitO t "int" = some false) : zot K H x false
def zix (K : Frag) : Sp:=fun vs H Q _=>∃ (x : V) (b : Bool),vs = [x]∧zot K H x b∧Q (.bl b) H
theorem znN (T : Txt K mg) (D_is_key : DF K mg "is_key" zfl zc8) (F_is_whole : FC P w K mg base 1 "is_whole" zca (ziu K)) : FC P w K mg base 2 "is_key" zc8 (zix K):=by
 refine D_is_key.ok sc_is_key (fun vs H Q E h=>?_) (fun f cdv A outer s H vs Q E hr h=>?_)
 ·obtain ⟨x,b,rfl,_⟩:=h
  rfl
 obtain ⟨x,b,rfl,hk,q⟩:=h
 refine ⟨_,(zae (zav (zjL (zau F_is_whole hr (zaa (pv 0) zac)) (zjJ (zfK zhY (zap zhw rfl T.m_abs boot_abs (zaa (pv 0) zac)) (zay zgs zaj zaj) (zaF _)))))),?_⟩
 cases hk with
 | int i b hb=>
  refine ⟨_,rfl,_,true,rfl,.int i,_,rfl,?_⟩
  refine iteT ?_
  refine ⟨_,rfl,_,rfl,_,_,rfl,rfl,⟨by decide,by decide,by decide⟩,_,_,rfl,rfl,?_⟩
  rw [hb] at q
  exact q
 | bl c=>
  refine ⟨_,rfl,_,false,rfl,.bl c,_,rfl,?_⟩
  refine iteF ?_
  exact q
 | oth x t ty h1 h2=>
  refine ⟨_,rfl,_,false,rfl,.oth x t ty h2,_,rfl,?_⟩
  refine iteF ?_
  exact q
def ziy (K : Frag) : Sp:=fun vs H Q _=>∃ (m x : Int),vs = [.int m,.int x]∧0≤x∧x < m∧Q (.bl true) H
theorem znQ (T : Txt K mg) (D_is_one_of_first : DF K mg "is_one_of_first" zbb zaM) (F_is_whole : FC P w K mg base 1 "is_whole" zca (ziu K)) : FC P w K mg base 2 "is_one_of_first" zaM (ziy K):=by
 refine D_is_one_of_first.ok sc_is_one_of_first (fun vs H Q E h=>?_) (fun f cdv A outer s H vs Q E hr h=>?_)
 ·obtain ⟨m,x,rfl,_⟩:=h
  rfl
 obtain ⟨m,x,rfl,h0,h1,q⟩:=h
 refine ⟨_,(zae (zav (zjL (zau F_is_whole hr (zaa (pv 1) zac)) (zjJ (znz zpq zhY zaj (pv 1) (pv 0)))))),?_⟩
 refine ⟨_,rfl,_,true,rfl,.int x,_,rfl,?_⟩
 refine iteT ?_
 refine ⟨_,rfl,_,_,rfl,rfl,_,rfl,?_⟩
 refine zrd h0 ?_
 refine ⟨_,rfl,_,_,rfl,rfl,?_⟩
 show Q (.bl (decide (x < m))) H
 rw [yag h1]
 exact q
def zaG (a b : List En) : List En:=a.filter fun e=>decide (e∉b)
theorem za9 {a b : List En} {e : En} : e∈zaG a b↔e∈a∧e∉b:=by
 unfold zaG
 rw [ya8,decide_eq_true_iff]
theorem zh9 (a : List En) : zaG a a = []:=ybE.mpr fun e h=>by
 rw [yaf (fun z=>z h)]
 decide
theorem zgC {a b : List En} (h : a.Nodup) : (zaG a b).Nodup:=h.filter _
structure Led (f f' g c : List En) : Prop where
 eq : f' = zcJ (zaG f g ++ c)
 gone : g = zaG f f'
 come : c = zaG f' f
theorem zml {f f' g c : List En} (h1 : Rise f) (h2 : Rise f') (hg : Rise g) (hc : Rise c) (mg : ∀ e,e∈g↔e∈f∧e∉f') (mc : ∀ e,e∈c↔e∈f'∧e∉f) : Led f f' g c:=by
 have nd : (zaG f g ++ c).Nodup:=by
  refine ybe.mpr ⟨zgC (zdu h1),zdu hc,fun a ha b hb z=>?_⟩
  subst z
  exact ((mc a).mp hb).2 (za9.mp ha).1
 refine ⟨zfF h2 (zeB nd) fun e=>?_,zfF hg (h1.filter _) fun e=>?_,zfF hc (h2.filter _) fun e=>?_⟩
 ·rw [zdX,yaj,za9,mg,mc]
  constructor
  ·intro h
   by_cases hf : e∈f
   ·exact .inl ⟨hf,fun z=>z.2 h⟩
   ·exact .inr ⟨h,hf⟩
  ·rintro (⟨h,n⟩ | h)
   ·exact Classical.byContradiction fun z=>n ⟨h,z⟩
   ·exact h.1
 ·exact (mg e).trans za9.symm
 ·exact (mc e).trans za9.symm
theorem zpK {f f' : List En} (h1 : Rise f) (h2 : Rise f') : Led f f' (zaG f f') (zaG f' f):=zml h1 h2 (h1.filter _) (h2.filter _) (fun _=>za9) (fun _=>za9)
theorem zjY {f f' : List En} (h1 : Rise f) (h2 : Rise f') (hg : zaG f f' = []) (hc : zaG f' f = []) : f' = f:=zfF h2 h1 fun e=>by
 constructor
 ·intro h
  exact Classical.byContradiction fun z=>absurd (za9.mpr ⟨h,z⟩) (by rw [hc]; exact yaV)
 ·intro h
  exact Classical.byContradiction fun z=>absurd (za9.mpr ⟨h,z⟩) (by rw [hg]; exact yaV)
section
variable {ps : List Nat} {rows rows' : List (List Int)}
def ze5 (k : Nat) (rows rows' : List (List Int)) : Prop:=∀ j,j≠k→zak rows' j = zak rows j
theorem zlY {k j : Nat} (h : ze5 k rows rows') (n : j≠k) : ownE rows' j = ownE rows j:=by
 unfold ownE
 rw [h j n]
theorem zfu (T : zax ps) {k : Nat} (hk : k < ps.length + 1) (h : ze5 k rows rows') : ∀ (m j : Nat),ps.length + 1 - j≤m→j < ps.length + 1→isB ps j k = false→zam ps rows' j = zam ps rows j
 | 0,j,hm,hj,_=>by omega
 | m + 1,j,hm,hj,hb=>by
  rw [zbK T hj,zbK T hj]
  unfold zdc
  have njk : j≠k:=fun z=>by
   rw [z,zb4] at hb
   cases hb
  rw [zlY h njk]
  congr 3
  refine ycm fun c hc=>?_
  obtain ⟨hcn,hcp⟩:=zaC.mp hc
  have hlt:=(zaK T hcp).1
  rw [zfu T hk h m c (by omega) hcn ?_]
  cases e : isB ps c k with
  | false=>rfl
  | true=>
   rw [(zbR T _ k (yaa _) hk).mpr (.inr ⟨c,hcp,e⟩)] at hb
   cases hb
theorem zmI (T : zax ps) (R : zaB rows) (R' : zaB rows') {k j p : Nat} (hk : k < ps.length + 1) (h : ze5 k rows rows') (hb : isB ps j k = true) (hp : par ps j = some p) :
  Led (zam ps rows p) (zam ps rows' p) (zaG (zcy (zam ps rows j)) (zcy (zam ps rows' j))) (zaG (zcy (zam ps rows' j)) (zcy (zam ps rows j))):=by
 have hlt:=zaK T hp
 have hpn : p < ps.length + 1:=by omega
 have npk : p≠k:=fun z=>by
  have:=zdJ T (show k < j by omega)
  rw [hb] at this
  cases this
 have oth : ∀ c,par ps c = some p→c≠j→zam ps rows' c = zam ps rows c:=fun c hc n=>by
  refine zfu T hk h _ c (yaa _) (zaK T hc).2 ?_
  cases e : isB ps c k with
  | false=>rfl
  | true=>exact (zdf T hc hp n _ k (yaa _) e hb).elim
 have hr:=fun {r : List (List Int)} (R : zaB r)=>(zaI T R hlt.2).sublist (zaP _)
 have dis : ∀ {r r' : List (List Int)},zaB r→zaB r'→(∀ c,par ps c = some p→c≠j→zam ps r' c = zam ps r c)→ownE r' p = ownE r p→∀ e,e∈zcy (zam ps r j)→e∉zcy (zam ps r' j)→e∉zam ps r' p:=fun {r r'} Q Q' ho hw e he hn hf=>by
  obtain ⟨i,hi,hbi,ei,_⟩:=zfw T Q hlt.2 e ((zaP _).subset he)
  rcases (zbo T hpn).mp hf with z | ⟨c,hc,z⟩
  ·have:=(zjM hpn z).2
   have eij : i = p:=by omega
   have:=zdJ T hlt.1
   rw [← eij,hbi] at this
   cases this
  ·by_cases cj : c = j
   ·subst cj
    exact hn z
   ·obtain ⟨i2,hi2,hb2,e2,_⟩:=zfw T Q' (zaK T hc).2 e ((zaP _).subset z)
    have eii : i2 = i:=by omega
    subst eii
    exact zdf T hc hp cj _ i2 (yaa _) hb2 hbi
 have up : ∀ {r r' : List (List Int)},(∀ c,par ps c = some p→c≠j→zam ps r' c = zam ps r c)→ownE r' p = ownE r p→∀ e,e∈zam ps r p→e∉zam ps r' p→e∈zcy (zam ps r j)∧e∉zcy (zam ps r' j):=fun {r r'} ho hw e he hn=>by
  refine ⟨?_,fun z=>hn ((zbo T hpn).mpr (.inr ⟨j,hp,z⟩))⟩
  rcases (zbo T hpn).mp he with z | ⟨c,hc,z⟩
  ·exact absurd ((zbo T hpn).mpr (.inl (by rw [hw]; exact z))) hn
  ·by_cases cj : c = j
   ·subst cj
    exact z
   ·exact absurd ((zbo T hpn).mpr (.inr ⟨c,hc,by rw [ho c hc cj]; exact z⟩)) hn
 have ow:=zlY h npk
 refine zml (zaI T R hpn) (zaI T R' hpn) ((hr R).filter _) ((hr R').filter _) (fun e=>za9.trans ⟨fun ⟨a,b⟩=>⟨(zbo T hpn).mpr (.inr ⟨j,hp,a⟩),dis R R' oth ow e a b⟩,fun ⟨a,b⟩=>up oth ow e a b⟩) (fun e=>za9.trans ⟨fun ⟨a,b⟩=>⟨(zbo T hpn).mpr (.inr ⟨j,hp,a⟩),dis R' R (fun c hc n=>(oth c hc n).symm) ow.symm e a b⟩,fun ⟨a,b⟩=>up (fun c hc n=>(oth c hc n).symm) ow.symm e a b⟩)
theorem zfX (T : zax ps) (R : zaB rows) (R' : zaB rows') {k : Nat} (hk : k < ps.length + 1) (h : ze5 k rows rows') : Led (zam ps rows k) (zam ps rows' k) (zaG (ownE rows k) (ownE rows' k)) (zaG (ownE rows' k) (ownE rows k)):=by
 have oth : ∀ c,par ps c = some k→zam ps rows' c = zam ps rows c:=fun c hc=>zfu T hk h _ c (yaa _) (zaK T hc).2 (zdJ T (zaK T hc).1)
 have half : ∀ {r r' : List (List Int)},zaB r'→(∀ c,par ps c = some k→zam ps r' c = zam ps r c)→∀ e,(e∈ownE r k∧e∉ownE r' k)↔e∈zam ps r k∧e∉zam ps r' k:=fun {r r'} Q' ho e=>by
  constructor
  ·rintro ⟨a,b⟩
   refine ⟨(zbo T hk).mpr (.inl a),fun z=>?_⟩
   rcases (zbo T hk).mp z with z | ⟨c,hc,z⟩
   ·exact b z
   ·obtain ⟨i,hi,hbi,ei,_⟩:=zfw T Q' (zaK T hc).2 e ((zaP _).subset z)
    have:=(zjM hk a).2
    have eik : i = k:=by omega
    have:=zdJ T (zaK T hc).1
    rw [← eik,hbi] at this
    cases this
  ·rintro ⟨a,b⟩
   refine ⟨?_,fun z=>b ((zbo T hk).mpr (.inl z))⟩
   rcases (zbo T hk).mp a with z | ⟨c,hc,z⟩
   ·exact z
   ·exact absurd ((zbo T hk).mpr (.inr ⟨c,hc,by rw [ho c hc]; exact z⟩)) b
 have ori : ∀ {r : List (List Int)},zaB r→Rise (ownE r k):=fun {r} Q=>by
  unfold ownE
  exact List.Pairwise.map _ (R:=fun a b : Int=>a < b) (fun a b (h : a < b)=>zcx.mpr (.inl h)) (Q.at_up k)
 exact zml (zaI T R hk) (zaI T R' hk) ((ori R).filter _) ((ori R').filter _) (fun e=>za9.trans (half R' oth e)) (fun e=>za9.trans (half R (fun c hc=>(oth c hc).symm) e))
end
structure FA (K : Frag) (H : Hp) (p : Addr) (qs : List Addr) (n : Nat) (f : Nat→List En) : Prop where
 at_ : H p = some (.lst (qs.map V.ref))
 len : qs.length = n
 nd : qs.Nodup
 np : p∉qs
 get : ∀ (j : Nat) (q : Addr),qs[j]? = some q→∃ ws,H q = some (.lst ws)∧zal K H (f j) ws
section
variable {K : Frag} {H H' : Hp} {p : Addr} {qs : List Addr} {n : Nat} {f g : Nat→List En}
theorem FA.ext (h : FA K H p qs n f) (e : Ext H H') : FA K H' p qs n f:=
 ⟨e _ _ h.at_ (fun _ z=>nomatch z),h.len,h.nd,h.np,fun j q hq=>by
  obtain ⟨ws,h1,h2⟩:=h.get j q hq
  exact ⟨ws,e _ _ h1 (fun _ z=>nomatch z),h2.mono e⟩⟩
theorem FA.congr (h : FA K H p qs n f) (e : ∀ j,j < n→f j = g j) : FA K H p qs n g:=
 ⟨h.at_,h.len,h.nd,h.np,fun j q hq=>by
  rw [← e j (by have:=(yan.mp hq).1; have:=h.len; omega)]
  exact h.get j q hq⟩
theorem FA.set (h : FA K H p qs n f) {k : Nat} {q' : Addr} {l : List En} {ws : List V} (hq : H q' = some (.lst ws)) (hw : zal K H l ws) (hn : q'∉qs) (hp : q'≠p) : FA K (upd H p (.lst ((qs.map V.ref).set k (.ref q')))) p (qs.set k q') n (fun j=>if j = k then l else f j):=by
 refine ⟨?_,by rw [ybu]; exact h.len,?_,fun z=>?_,fun j q hj=>?_⟩
 ·rw [zab,ybF]
 ·show List.Pairwise _ _
  rw [ybj]
  intro i j hi hj hij
  rw [ybu] at hi hj
  rw [List.getElem_set,List.getElem_set]
  have old:=ybj.mp h.nd i j hi hj hij
  split
  ·rw [if_neg (by omega)]
   exact fun z=>hn (z ▸ ya1 hj)
  ·split
   ·exact fun z=>hn (z ▸ ya1 hi)
   ·exact old
 ·rcases ybY z with y | y
  ·exact h.np y
  ·exact hp y.symm
 ·rw [ybD] at hj
  show ∃ ws,_∧zal K _ (if j = k then l else f j) ws
  by_cases c : k = j
  ·rw [if_pos c] at hj
   by_cases c2 : k < qs.length
   ·rw [if_pos c2] at hj
    have:=yad hj
    subst this
    rw [if_pos c.symm]
    exact ⟨ws,by rw [zah hp]; exact hq,zbI h.at_ hw⟩
   ·rw [if_neg c2] at hj
    cases hj
  ·rw [if_neg c] at hj
   rw [if_neg (fun z=>c z.symm)]
   obtain ⟨us,h1,h2⟩:=h.get j q hj
   have hqp : q≠p:=fun z=>h.np (by rw [← z]; exact yaJ hj)
   exact ⟨us,by rw [zah hqp]; exact h1,zbI h.at_ h2⟩
theorem FA.at (h : FA K H p qs n f) {k : Nat} (hk : k < n) : ∃ q ws,qs[k]? = some q∧H q = some (.lst ws)∧zal K H (f k) ws:=by
 have e : qs[k]? = some (qs[k]'(by have:=h.len; omega)):=yac _
 obtain ⟨ws,h1,h2⟩:=h.get k _ e
 exact ⟨_,ws,e,h1,h2⟩
end
structure zaH (K : Frag) (CS : Addr) (H : Hp) (sh dx st p : Addr) (qs : List Addr) (ps : List Nat) (rows : List (List Int)) (t rs : Addr) (as : List Addr) : Prop where
 own : H dx = some (.own sh)
 ins : H sh = some (.ins CS dx [("kept",.ref st),("fulls",.ref p)])
 stand : zbp H st ps rows t rs as
 full : FA K H p qs (ps.length + 1) (zam ps rows)
def Tp (H H' : Hp) : Prop:=∀ b us,H b = some (.tup us)→H' b = some (.tup us)
theorem zfD {H H' : Hp} (e : Tp H H') : ∀ {as : List Addr} {rows : List (List Int)},zaE H as rows→zaE H' as rows
 | _,_,.nil=>.nil
 | _,_,.cons h t=>.cons (e _ _ h) (zfD e t)
theorem zbF {H H' : Hp} {st t rs : Addr} {ps : List Nat} {rows : List (List Int)} {as : List Addr} (e : Tp H H') (S : zbp H st ps rows t rs as) : zbp H' st ps rows t rs as:=
 ⟨e _ _ S.st,e _ _ S.tr,e _ _ S.rs,zfD e S.at_,S.len,S.T,S.R,S.few,S.keys⟩
theorem But.tp {H H' : Hp} {p : Addr} (k : But p H H') (n : ∀ us,H p≠some (.tup us)) : Tp H H':=fun b us e=>k b _ (fun z=>n us (z ▸ e)) e
theorem zaU {K : Frag} {H H' : Hp} (k : Tp H H') : ∀ {es : List (Int×Int)} {ws : List V},zal K H es ws→zal K H' es ws
 | _,_,.nil=>.nil
 | _,_,.cons h t=>by
  refine .cons ?_ (zaU k t)
  obtain ⟨a,x1,x2,rfl,hT,e1,e2⟩:=(show hasP K H _ _ from h)
  exact ⟨a,x1,x2,rfl,k _ _ hT,e1,e2⟩
theorem FA.tp {K : Frag} {H H' : Hp} {p : Addr} {qs : List Addr} {n : Nat} {f : Nat→List En} (h : FA K H p qs n f) (e : Tp H H') (l : ∀ b us,H b = some (.lst us)→H' b = some (.lst us)) : FA K H' p qs n f:=
 ⟨l _ _ h.at_,h.len,h.nd,h.np,fun j q hq=>by
  obtain ⟨ws,h1,h2⟩:=h.get j q hq
  exact ⟨ws,l _ _ h1,zaU e h2⟩⟩
def zlB (K : Frag) (CS : Addr) : Sp:=fun vs H Q _=>∃ (sh dx st : Addr) (ps : List Nat) (rows : List (List Int)) (t rs : Addr) (as : List Addr),vs = [.ref sh,.ref st]∧H dx = some (.own sh)∧H sh = some (.ins CS dx [])∧zbp H st ps rows t rs as∧
 ∀ (p : Addr) (qs : List Addr) (H' : Hp),H p = none→(∀ q∈qs,H q = none)→But sh H H'→zaH K CS H' sh dx st p qs ps rows t rs as→Q .non H'
theorem zrl {K : Frag} {H : Hp} {ps : List Nat} {rows : List (List Int)} : ∀ {n : Nat} {qs : List Addr} (m : Nat),zaz K H ps rows (List.range' m n) qs→qs.length = n∧∀ (j : Nat) (q : Addr),qs[j]? = some q→∃ ws,H q = some (.lst ws)∧zal K H (zam ps rows (m + j)) ws
 | 0,_,_,.nil=>⟨rfl,fun j q h=>by simp at h⟩
 | n + 1,_,m,.cons (b:=q) h r=>by
  obtain ⟨l,g⟩:=zrl (m + 1) r
  refine ⟨by rw [yaI,l],fun j q' hj=>?_⟩
  cases j with
  | zero=>
   obtain rfl:=yad hj
   exact h
  | succ j=>
   have:=g j q' hj
   rwa [show m + 1 + j = m + (j + 1) by omega] at this
theorem zaz.fa {K : Frag} {H : Hp} {p : Addr} {ps : List Nat} {rows : List (List Int)} {n : Nat} {qs : List Addr} (h : zaz K H ps rows (List.range n) qs) (hp : H p = some (.lst (qs.map V.ref))) (nd : qs.Nodup) (np : p∉qs) : FA K H p qs n (zam ps rows):=by
 rw [List.range_eq_range'] at h
 obtain ⟨l,g⟩:=zrl 0 h
 exact ⟨hp,l,nd,np,fun j q hj=>by
  have:=g j q hj
  rwa [Nat.zero_add] at this⟩
theorem zpz (T : Txt K mg) {CS : Addr} (O : OwnC K mg CS) (D_Shelf___init__ : DI K CS "Shelf.__init__" zbl zbd) (F_full_rows : FC P w K mg base 8 "full_rows" zcn (zlC K)) : FI P w K mg base CS 9 zbd (zlB K CS):=by
 refine D_Shelf___init__.ok sc_Shelf___init__ (fun vs H Q E h=>?_) (fun f cdv A outer s H vs Q E hr h=>?_)
 ·obtain ⟨sh,dx,st,ps,rows,t,rs,as,rfl,_⟩:=h
  rfl
 obtain ⟨sh,dx,st,ps,rows,t,rs,as,rfl,h1,h2,S,q⟩:=h
 refine ⟨_,(zaf (zjH (pv 0) (pv 1) rfl)
   (zae (zjH (pv 0) (zau F_full_rows hr (zaa (pv 1) zac)) rfl))),?_⟩
 refine ⟨_,rfl,_,rfl,sh,CS,dx,[],rfl,h2,O.cl,O.n_kept,by decide,?_⟩
 have k1 : But sh H (upd H sh (.ins CS dx (putF "kept" (.ref st) []))):=fun b o n e=>by rw [zah n]; exact e
 have hsd : dx≠sh:=fun z=>by rw [z,h2] at h1; cases h1
 have a1:=k1 _ _ hsd h1
 have a2 : upd H sh (.ins CS dx (putF "kept" (.ref st) [])) sh = some (.ins CS dx [("kept",.ref st)]):=zab
 have S1:=zbF (k1.tp fun us z=>by rw [h2] at z; cases z) S
 have hn : ∀ b,upd H sh (.ins CS dx (putF "kept" (.ref st) [])) b = none→H b = none:=fun b e=>by
  by_cases z : b = sh
  ·subst z; rw [a2] at e; cases e
  ·rwa [zah z] at e
 generalize upd H sh (.ins CS dx (putF "kept" (.ref st) [])) = H1 at k1 a1 a2 S1 hn ⊢
 refine ⟨_,rfl,st,ps,rows,t,rs,as,rfl,S1,fun p qs H2 hp s2 g2 nd hq np F=>?_⟩
 have b2:=s2 _ _ a2
 refine ⟨_,rfl,sh,CS,dx,_,rfl,b2,O.cl,O.n_fulls,(by show 1 < 1000; decide),?_⟩
 have k2 : But sh H2 (upd H2 sh (.ins CS dx (putF "fulls" (.ref p) [("kept",.ref st)]))):=fun b o n e=>by rw [zah n]; exact e
 have F2 : FA K (upd H2 sh (.ins CS dx (putF "fulls" (.ref p) [("kept",.ref st)]))) p qs (ps.length + 1) (zam ps rows):=by
  exact (F.fa g2 nd np).tp (k2.tp fun us z=>by rw [b2] at z; cases z) fun b us e=>k2 b _ (fun z=>by rw [z,b2] at e; cases e) e
 refine q p qs _ (hn _ hp) (fun x hx=>hn _ (hq x hx)) (fun b o n e=>k2 b o n (s2 _ _ (k1 b o n e))) ⟨k2 _ _ hsd (s2 _ _ a1),by rw [zab]; rfl,zbF (k2.tp fun us z=>by rw [b2] at z; cases z) (S1.same s2),F2⟩
def ziw (K : Frag) : Sp:=fun vs H Q _=>∃ (t : Addr) (kn : Nat) (ps : List Nat),vs = [.ref t,.int kn]∧H t = some (.tup (zbZ ps))∧ps.length≤900∧kn < ps.length + 1∧Q .non H
def zlu (CS : Addr) : Sp:=fun vs H Q _=>∃ (sh dx st p : Addr),vs = [.ref sh]∧H sh = some (.ins CS dx [("kept",.ref st),("fulls",.ref p)])∧Q (.ref st) H
theorem znE {CS : Addr} (O : OwnC K mg CS) (D_Shelf_stand : DM K CS "stand" "Shelf.stand" zb1 zbH) : FM P w K mg base CS 1 "stand" zbH (zlu CS):=by
 refine D_Shelf_stand.ok sc_Shelf_stand (fun vs H Q E h=>?_) (fun f cdv A outer s H vs Q E hr h=>?_)
 ·obtain ⟨sh,dx,st,p,rfl,_⟩:=h
  rfl
 obtain ⟨sh,dx,st,p,rfl,h2,q⟩:=h
 refine ⟨_,(zae (zav (zcC (pv 0) rfl))),?_⟩
 exact ⟨_,rfl,sh,CS,dx,_,_,rfl,h2,O.cl,O.n_kept,rfl,q⟩
theorem znM (T : Txt K mg) (D_need_knot : DF K mg "need_knot" zcK zbM) (F_is_one_of_first : FC P w K mg base 2 "is_one_of_first" zaM (ziy K)) : FC P w K mg base 3 "need_knot" zbM (ziw K):=by
 refine D_need_knot.ok sc_need_knot (fun vs H Q E h=>?_) (fun f cdv A outer s H vs Q E hr h=>?_)
 ·obtain ⟨t,kn,ps,rfl,_⟩:=h
  rfl
 obtain ⟨t,kn,ps,rfl,ht,hl,hk,q⟩:=h
 refine ⟨_,(zae (zba (zeU (zc7 (zau F_is_one_of_first hr (zaa (zap zao rfl T.m_len boot_len (zaa (pv 0) zac)) (zaa (pv 1) zac))))) (zae zaY) zaA)),?_⟩
 have el:=zat ps
 refine ⟨_,rfl,_,_,rfl,.inr (SqT.of ht),_,rfl,_,_,rfl,by omega,by omega,_,rfl,?_⟩
 exact iteF q
def zjc (x : Int) : Prop:=-10 ^ 60 < x∧x < 10 ^ 60
def zlw (K : Frag) : Sp:=fun vs H Q _=>∃ (x : Int),vs = [.int x]∧zjc x∧Q .non H
theorem znH (T : Txt K mg) (D_need_key : DF K mg "need_key" zdq zcS) (F_is_key : FC P w K mg base 2 "is_key" zc8 (zix K)) : FC P w K mg base 3 "need_key" zcS (zlw K):=by
 refine D_need_key.ok sc_need_key (fun vs H Q E h=>?_) (fun f cdv A outer s H vs Q E hr h=>?_)
 ·obtain ⟨x,rfl,_⟩:=h
  rfl
 obtain ⟨x,rfl,hx,q⟩:=h
 refine ⟨_,(zae (zba (zeU (zc7 (zau F_is_key hr (zaa (pv 0) zac)))) (zae zaY) zaA)),?_⟩
 refine ⟨_,rfl,_,true,rfl,.int x _ (yag (p:=(if x < 0 then -x else x) < 10 ^ 60) ?_).symm,_,rfl,?_⟩
 ·obtain ⟨h1,h2⟩:=hx
  split <;> omega
 exact iteF q
def zlD (K : Frag) (CS : Addr) : Sp:=fun vs H Q _=>∃ (sh dx st p : Addr) (kn : Nat) (qs : List Addr) (ps : List Nat) (rows : List (List Int)) (t rs : Addr) (as : List Addr),vs = [.ref sh,.int kn]∧zaH K CS H sh dx st p qs ps rows t rs as∧kn < ps.length + 1∧
 ∀ (D : Addr) (ws : List V),H D = none→zal K H (zam ps rows kn) ws→Q (.ref D) (upd H D (.lst ws))
theorem znP (T : Txt K mg) {CS : Addr} (O : OwnC K mg CS) (D_Shelf_full : DM K CS "full" "Shelf.full" zcm zb3) (F_need_knot : FC P w K mg base 3 "need_knot" zbM (ziw K)) : FM P w K mg base CS 4 "full" zb3 (zlD K CS):=by
 refine D_Shelf_full.ok sc_Shelf_full (fun vs H Q E h=>?_) (fun f cdv A outer s H vs Q E hr h=>?_)
 ·obtain ⟨sh,dx,st,p,kn,qs,ps,rows,t,rs,as,rfl,_⟩:=h
  rfl
 obtain ⟨sh,dx,st,p,kn,qs,ps,rows,t,rs,as,rfl,S,hk,q⟩:=h
 refine ⟨_,(zaf (zbT (zau F_need_knot hr (zaa (za0 za8 (zcC (pv 0) rfl) zaj (fun _ _=>rfl)) (zaa (pv 1) zac))))
   (zae (zav (zaN zdi rfl T.m_list boot_list (zaa (za0 zbA (zcC (pv 0) rfl) (pv 1) (fun _ _=>rfl)) zac))))),?_⟩
 obtain ⟨qk,ws,g1,g2,g3⟩:=S.full.at hk
 refine ⟨_,rfl,sh,CS,dx,_,_,rfl,S.ins,O.cl,O.n_kept,rfl,_,_,_,_,rfl,rfl,SqT.of S.stand.st,rfl,_,rfl,t,kn,ps,rfl,S.stand.tr,by have:=S.stand.few; omega,hk,?_⟩
 refine ⟨_,rfl,sh,CS,dx,_,_,rfl,S.ins,O.cl,O.n_fulls,rfl,_,rfl,_,_,_,_,rfl,rfl,SqL.of S.full.at_,ze2 g1,qk,ws,rfl,.inl (SqL.of g2),fun D hD=>?_⟩
 exact q D ws hD g3
def zgV (K : Frag) (CS : Addr) : Sp:=fun vs H Q _=>∃ (sh dx st p : Addr) (kn : Nat) (x : Int) (qs : List Addr) (ps : List Nat) (rows : List (List Int)) (t rs : Addr) (as : List Addr),vs = [.ref sh,.int kn,.int x]∧zaH K CS H sh dx st p qs ps rows t rs as∧kn < ps.length + 1∧zjc x∧
 ∀ (a : Addr),as[kn]? = some a→H a = some (.tup ((zak rows kn).map V.int))→Q (.ref a) H
theorem zl4 (T : Txt K mg) {CS : Addr} (O : OwnC K mg CS) (D_Shelf_row_for : DM K CS "row_for" "Shelf.row_for" zbv za5) (F_need_knot : FC P w K mg base 3 "need_knot" zbM (ziw K)) (F_need_key : FC P w K mg base 3 "need_key" zcS (zlw K)) : FM P w K mg base CS 4 "row_for" za5 (zgV K CS):=by
 refine D_Shelf_row_for.ok sc_Shelf_row_for (fun vs H Q E h=>?_) (fun f cdv A outer s H vs Q E hr h=>?_)
 ·obtain ⟨sh,dx,st,p,kn,x,qs,ps,rows,t,rs,as,rfl,_⟩:=h
  rfl
 obtain ⟨sh,dx,st,p,kn,x,qs,ps,rows,t,rs,as,rfl,S,hk,hx,q⟩:=h
 refine ⟨_,(zaf (zbT (zau F_need_knot hr (zaa (za0 za8 (zcC (pv 0) rfl) zaj (fun _ _=>rfl)) (zaa (pv 1) zac))))
   (zaf (zbT (zau F_need_key hr (zaa (pv 2) zac)))
   (zae (zav (za0 za8 (za0 za8 (zcC (pv 0) rfl) zaj (fun _ _=>rfl)) (pv 1) (fun _ _=>rfl)))))),?_⟩
 obtain ⟨a,g1,g2⟩:=S.stand.at_.get (k:=kn) (by rw [S.stand.len]; exact hk)
 refine ⟨_,rfl,sh,CS,dx,_,_,rfl,S.ins,O.cl,O.n_kept,rfl,_,_,_,_,rfl,rfl,SqT.of S.stand.st,rfl,_,rfl,t,kn,ps,rfl,S.stand.tr,by have:=S.stand.few; omega,hk,?_⟩
 refine ⟨_,rfl,x,rfl,hx,?_⟩
 refine ⟨_,rfl,sh,CS,dx,_,_,rfl,S.ins,O.cl,O.n_kept,rfl,_,_,_,_,rfl,rfl,SqT.of S.stand.st,rfl,_,rfl,_,_,_,_,rfl,rfl,SqT.of S.stand.rs,ze2 g1,?_⟩
 exact q a g1 g2
abbrev kS (e : En) : List Key:=[.inl e.1,.inl e.2]
theorem zrc {e f : En} (h : kS e = kS f) : e = f:=by
 obtain ⟨a,b⟩:=e
 obtain ⟨c,d⟩:=f
 injection h with h1 h2
 injection h2 with h2 _
 have h1 : a = c:=Sum.inl.inj h1
 have h2 : b = d:=Sum.inl.inj h2
 rw [h1,h2]
def kvW (es : List En) : List (List Key×V):=es.map fun e=>(kS e,.bl true)
theorem ziO (e : En) : ∀ es : List En,valV (kvW es) (kS e) = if e∈es then some (.bl true) else none
 | []=>rfl
 | f :: es=>by
  show valV ((kS f,.bl true) :: kvW es) (kS e) = _
  by_cases z : f = e
  ·subst z
   rw [zci rfl,if_pos yaC]
  ·rw [zbi (fun y=>z (zrc y)),ziO e es]
   have hm : (e∈f :: es) = (e∈es):=propext ⟨fun h=>(yak.mp h).resolve_left fun y=>z y.symm,fun h=>yaD _ h⟩
   by_cases y : e∈es
   ·rw [if_pos y,if_pos (by rw [hm]; exact y)]
   ·rw [if_neg y,if_neg (by rw [hm]; exact y)]
def zhL (K : Frag) : Sp:=fun vs H Q _=>∃ (a c : Addr) (ws us : List V) (es cs : List En),vs = [.ref a,.ref c]∧H a = some (.lst ws)∧zal K H es ws∧es.length≤900∧H c = some (.lst us)∧zal K H cs us∧cs.length≤900∧cs.Nodup∧
 ∀ (p : Addr) (ws' : List V) (H' : Hp),H p = none→Same H H'→H' p = some (.lst ws')→zal K H' (zaG es cs) ws'→Q (.ref p) H'
theorem zkz (T : Txt K mg) (D_without : DF K mg "without" zd0 zdv) : FC P w K mg base 1 "without" zdv (zhL K):=by
 refine D_without.ok sc_without (fun vs H Q E h=>?_) (fun f cdv A outer s H vs Q E hr h=>?_)
 ·obtain ⟨a,c,ws,us,es,cs,rfl,_⟩:=h
  rfl
 obtain ⟨a,c,ws,us,es,cs,rfl,ha,hw,hz,hc,hu,hzc,hnd,q⟩:=h
 have hwl:=hw.length
 have hul:=hu.length
 refine ⟨_,(zaf (zar (i:=2) sc_without.nd rfl (Or.inr rfl) zny)
   (zaf (zbO PassesOwn.never rfl (zdN (pv 1)) (zas (i:=3) sc_without.nd rfl (Or.inl rfl)) (zae (zeE (zer hr) (pv 2) (pv 3) zhb rfl)))
   (zae (zav (zcw (N:=["entry","away"]) (own:=1) (cap:=[2]) rfl (zdN (pv 0)) ⟨rfl,rfl,rfl,rfl,rfl,rfl⟩ (fun _ _ _ _ _=>(zas (i:=0) (show List.Nodup (["entry","away"] : List Str) by decide +kernel) rfl (Or.inl rfl))) (fun _ _ _ _ _=>(zfG (zaw (zky (zer hr)) (pv 0) (pv 1) (by with_unfolding_all rfl)))) (fun _ _ _ _ _=>(pv 0))))))),?_⟩
 intro D hD
 have k0 : But D H (upd H D (.dT [])):=fun b o n e=>by rw [zah n]; exact e
 have naD : a≠D:=zad ha hD
 have ncD : c≠D:=zad hc hD
 refine ⟨_,rfl,c,rfl,⟨_,SqL.of (k0 _ _ ncD hc)⟩,?_⟩
 refine zj6 (xs:=us) (fun i σ H2=>∃ x3 : Option V,σ = [some (.ref a),some (.ref c),some (.ref D),x3]∧H2 D = some (.dT (kvW (cs.take i)))∧But D H H2) ?_ ?_ ?_ ?_
 ·exact ⟨_,rfl,zab,k0⟩
 ·rintro i σ H2 _ ⟨x3,rfl,_,k2⟩
  exact SqL.of (k2 _ _ ncD hc)
 ·rintro i x σ H2 hx ⟨x3,rfl,h2,k2⟩
  obtain ⟨e,he,hhas⟩:=hu.get hx
  obtain ⟨b,y1,y2,rfl,hb,hy1,hy2⟩:=(show hasP K H e x from hhas)
  have hy1 : y1 = .int e.1:=hy1
  have hy2 : y2 = .int e.2:=hy2
  subst hy1 hy2
  have hi:=(yan.mp he).1
  have htk : cs.take (i + 1) = cs.take i ++ [e]:=by
   rw [yaP hi,(yan.mp he).2]
  have h2b:=k2 _ _ (zad hb hD) hb
  have hnot : e∉cs.take i:=fun z=>by
   have hn2:=hnd
   rw [← yaM (i + 1) cs,htk] at hn2
   have:=(ybe.mp (ybe.mp hn2).1).2.2 e z e (yal.mpr rfl)
   exact this rfl
  have hln : (kvW (cs.take i)).length≤1000:=by
   unfold kvW
   rw [yab,yap]
   omega
  refine ⟨_,rfl,_,rfl,D,_,rfl,DPut.t (k:=kS e) h2 h2b (zaq hln),?_⟩
  refine ⟨_,rfl,?_,fun b o n e=>by rw [zah n]; exact k2 b o n e⟩
  rw [zab,zd6 _ (by rw [ziO,if_neg hnot]),htk]
  unfold kvW
  rw [yav]
  rfl
 ·rintro σ H2 ⟨x3,rfl,h2,k2⟩
  rw [yar (by omega)] at h2
  have s2 : Same H H2:=fun b o e=>k2 b o (zad e hD) e
  have h2a:=s2 _ _ ha
  refine ⟨_,rfl,a,rfl,⟨_,SqL.of h2a⟩,fun p hp=>?_⟩
  have nDp : D≠p:=zad h2 hp
  refine zcG (xs:=ws) (fun j σ H5=>∃ (x0 : Option V) (us : List V),σ = [x0,some (.ref D)]∧H5 p = some (.lst us)∧zal K H5 (zaG (es.take j) cs) us∧us.length≤j∧But p H2 H5) ?_ ?_ ?_ ?_
  ·exact ⟨_,[],rfl,zab,.nil,yaa _,fun b o n e=>by rw [zah n]; exact e⟩
  ·rintro j σ H5 _ ⟨x0,us,rfl,_,_,_,k5⟩
   exact k5.sq (SqL.of h2a) hp
  ·rintro j m x σ H5 hx hm ⟨x0,us,rfl,h5,hv,hul,k5⟩
   have hj:=(yan.mp hx).1
   obtain ⟨e,he,bb,x1,x2,rfl,hb,e1,e2⟩ : ∃ e,es[j]? = some e∧hasP K H e x:=hw.get hx
   have e1' : x1 = .int e.1:=e1
   have e2' : x2 = .int e.2:=e2
   subst e1' e2'
   have htk : zaG (es.take (j + 1)) cs = zaG (es.take j) cs ++ zaG [e] cs:=by
    unfold zaG
    rw [yaP (by omega),(yan.mp he).2,ybl]
   have b2:=s2 _ _ hb
   have b5:=k5 _ _ (zad b2 hp) b2
   have h5D:=k5 _ _ nDp h2
   refine ⟨_,rfl,_,rfl,D,_,rfl,DGet.t (k:=kS e) h5D b5,_,rfl,?_⟩
   rw [ziO]
   by_cases c : e∈cs
   ·rw [if_pos c]
    refine iteF ⟨m - 1,by omega,by omega,_,_,rfl,h5,?_,by omega,k5⟩
    rw [htk,show zaG [e] cs = [] from ybW (p:=fun e=>decide (e∉cs)) (by simpa using c),yaH]
    exact hv
   ·rw [if_neg c]
    refine iteT ⟨_,rfl,_,h5,zaq (by omega),m - 1,by omega,by omega,_,_,rfl,zab,?_,by rw [yam,ya5]; omega,fun b o n e=>by rw [zah n]; exact k5 b o n e⟩
    rw [htk,show zaG [e] cs = [e] from ybr (p:=fun e=>decide (e∉cs)) (yag c)]
    exact (zbI h5 hv).append (zbI h5 (.cons ⟨bb,.int e.1,.int e.2,rfl,b5,rfl,rfl⟩ .nil))
  rintro σ H5 ⟨x0,us',rfl,h5,hv,_,k5⟩
  rw [← hwl,yar (yaa _)] at hv
  have hpH : H p = none:=by
   cases e : H p with
   | none=>rfl
   | some o=>
    rw [s2 _ _ e] at hp
    cases hp
  exact q p us' H5 hpH (fun b o e=>k5 b o (zad (s2 _ _ e) hp) (s2 _ _ e)) h5 hv
section
variable {ps : List Nat} {rows rows' : List (List Int)} {k : Nat}
def upN (ps : List Nat) (k : Nat) : Nat→Option Nat
 | 0=>some k
 | m + 1=>(upN ps k m).bind (par ps)
theorem zne {m j p : Nat} (h : upN ps k m = some j) (hp : par ps j = some p) : upN ps k (m + 1) = some p:=by
 show (upN ps k m).bind (par ps) = _
 rw [h]
 exact hp
theorem zjh {m j : Nat} (h : upN ps k m = some j) : upN ps k (m + 1) = par ps j:=by
 show (upN ps k m).bind (par ps) = _
 rw [h]
 rfl
theorem zfa {m p : Nat} (h : upN ps k (m + 1) = some p) : ∃ j,upN ps k m = some j∧par ps j = some p:=by
 cases e : upN ps k m with
 | none=>
  have : (upN ps k m).bind (par ps) = some p:=h
  rw [e] at this
  cases this
 | some j=>
  have : (upN ps k m).bind (par ps) = some p:=h
  rw [e] at this
  exact ⟨j,rfl,this⟩
theorem zji (T : zax ps) : ∀ {m j : Nat},upN ps k m = some j→j + m≤k
 | 0,j,h=>by
  have : k = j:=yad h
  omega
 | m + 1,j,h=>by
  obtain ⟨i,h1,h2⟩:=zfa h
  have:=zji T h1
  have:=(zaK T h2).1
  omega
theorem zhC (T : zax ps) (hk : k < ps.length + 1) {m j : Nat} (h : upN ps k m = some j) : j < ps.length + 1:=by
 have:=zji T h
 omega
theorem zgS (T : zax ps) {i j : Nat} : ∀ d m,upN ps k (m + d) = some i→upN ps k m = some j→i + d≤j
 | 0,m,h1,h2=>by
  rw [ybp,h2] at h1
  have:=yad h1
  omega
 | d + 1,m,h1,h2=>by
  obtain ⟨x,g1,g2⟩:=zfa (m:=m + d) h1
  have:=zgS T d m g1 h2
  have:=(zaK T g2).1
  omega
theorem zjj (T : zax ps) (hk : k < ps.length + 1) : ∀ {m j : Nat},upN ps k m = some j→isB ps j k = true
 | 0,j,h=>by
  have : k = j:=yad h
  subst this
  exact zb4
 | m + 1,j,h=>by
  obtain ⟨i,h1,h2⟩:=zfa h
  exact (zbR T _ k (yaa _) hk).mpr (.inr ⟨i,h2,zjj T hk h1⟩)
theorem zox (T : zax ps) (hk : k < ps.length + 1) : ∀ (n j : Nat),ps.length + 1 - j≤n→isB ps j k = true→∃ m,upN ps k m = some j
 | 0,j,hn,h=>by
  rcases (zbR T _ k (yaa _) hk).mp h with z | ⟨c,hc,_⟩
  ·exact ⟨0,congrArg some z⟩
  ·have:=zaK T hc
   omega
 | n + 1,j,hn,h=>by
  rcases (zbR T _ k (yaa _) hk).mp h with z | ⟨c,hc,hb⟩
  ·exact ⟨0,congrArg some z⟩
  ·have:=zaK T hc
   obtain ⟨m,hm⟩:=zox T hk n c (by omega) hb
   exact ⟨m + 1,zne hm hc⟩
def stL (ps : List Nat) (rows rows' : List (List Int)) (k : Nat) : Nat→Nat→List En
 | 0,i=>zam ps rows i
 | m + 1,i=>if upN ps k m = some i then zam ps rows' i else stL ps rows rows' k m i
theorem zlr : ∀ {m i m' : Nat},m' < m→upN ps k m' = some i→stL ps rows rows' k m i = zam ps rows' i
 | m + 1,i,m',h,e=>by
  unfold stL
  by_cases z : upN ps k m = some i
  ·rw [if_pos z]
  ·rw [if_neg z]
   refine zlr (m':=m') ?_ e
   rcases ybA m' m with y | y
   ·exact y
   ·have : m' = m:=by omega
    subst this
    exact absurd e z
theorem zgU : ∀ {m i : Nat},(∀ m',m' < m→upN ps k m'≠some i)→stL ps rows rows' k m i = zam ps rows i
 | 0,_,_=>rfl
 | m + 1,i,h=>by
  unfold stL
  rw [if_neg (h m (by omega))]
  exact zgU fun m' hm=>h m' (by omega)
theorem zo9 (T : zax ps) {m j : Nat} (h : upN ps k m = some j) : stL ps rows rows' k m j = zam ps rows j:=zgU fun m' hm e=>by
 have:=zgS T (m - m') m' (by rw [show m' + (m - m') = m by omega]; exact h) e
 omega
theorem zk8 (T : zax ps) (R : zaB rows) (R' : zaB rows') (hk : k < ps.length + 1) (h : ze5 k rows rows') {m j : Nat} (hm : upN ps k m = some j) (e : zam ps rows' j = zam ps rows j) : ∀ {d i : Nat},upN ps k (m + d) = some i→zam ps rows' i = zam ps rows i
 | 0,i,hi=>by
  rw [ybp,hm] at hi
  have:=yad hi
  subst this
  exact e
 | d + 1,i,hi=>by
  obtain ⟨x,g1,g2⟩:=zfa (m:=m + d) hi
  have ih:=zk8 T R R' hk h hm e g1
  have L:=zmI T R R' hk h (zjj T hk g1) g2
  rw [ih,zh9] at L
  exact zjY (zaI T R (zhC T hk hi)) (zaI T R' (zhC T hk hi)) L.gone.symm L.come.symm
theorem zo8 (T : zax ps) (R : zaB rows) (R' : zaB rows') (hk : k < ps.length + 1) (h : ze5 k rows rows') {m : Nat} (hm : upN ps k m = none∨∃ j,upN ps k m = some j∧zam ps rows' j = zam ps rows j) {i : Nat} (hi : i < ps.length + 1) : stL ps rows rows' k m i = zam ps rows' i:=by
 cases e : isB ps i k with
 | false=>
  rw [zgU fun m' _ z=>by rw [zjj T hk z] at e; cases e]
  exact (zfu T hk h _ i (yaa _) hi e).symm
 | true=>
  obtain ⟨m',e'⟩:=zox T hk _ i (yaa _) e
  rcases ybA m' m with y | y
  ·exact zlr y e'
  ·rw [zgU fun x hx z=>by
    have:=zgS T (m' - x) x (by rw [show x + (m' - x) = m' by omega]; exact e') z
    omega]
   rcases hm with hm | ⟨j,hm,hj⟩
   ·exfalso
    have : ∀ d,upN ps k (m + d) = none:=fun d=>by
     induction d with
     | zero=>exact hm
     | succ d ih=>
      show (upN ps k (m + d)).bind (par ps) = none
      rw [ih]
      rfl
    have:=this (m' - m)
    rw [show m + (m' - m) = m' by omega,e'] at this
    cases this
   ·exact (zk8 T R R' hk h hm hj (d:=m' - m) (by rw [show m + (m' - m) = m' by omega]; exact e')).symm
end
def znj (ps : List Nat) (rows rows' : List (List Int)) (j : Nat) : Tri Int (List En) (List En):=⟨(j : Int),zaG (zam ps rows j) (zam ps rows' j),zaG (zam ps rows' j) (zam ps rows j)⟩
def zbf (ps : List Nat) (rows rows' : List (List Int)) (k : Nat) : Nat→List (Tri Int (List En) (List En))
 | 0=>[]
 | m + 1=>zbf ps rows rows' k m ++ ((upN ps k m).map (znj ps rows rows')).toList
structure zcf (K : Frag) (CS : Addr) (H : Hp) (sh dx st p : Addr) (qs : List Addr) (ps : List Nat) (rows rows' : List (List Int)) (t rs : Addr) (as : List Addr) (k m : Nat) : Prop where
 own : H dx = some (.own sh)
 ins : H sh = some (.ins CS dx [("kept",.ref st),("fulls",.ref p)])
 stand : zbp H st ps rows' t rs as
 full : FA K H p qs (ps.length + 1) (stL ps rows rows' k m)
def ze8 (ps : List Nat) (rows rows' : List (List Int)) (k m : Nat) : Prop:=(∀ m' j,m' < m→upN ps k m' = some j→¬(zaG (zam ps rows j) (zam ps rows' j) = []∧zaG (zam ps rows' j) (zam ps rows j) = []))∧
 (upN ps k m = none∨∃ j,upN ps k m = some j∧zaG (zam ps rows j) (zam ps rows' j) = []∧zaG (zam ps rows' j) (zam ps rows j) = [])
def zbh (K : Frag) (H : Hp) (D : Addr) (Fr : Addr→Prop) : List (Tri Int (List En) (List En))→List V→Prop:=Paired fun e v=>∃ (u g c : Addr) (gw cw : List V),v = .ref u∧H u = some (.tup [.int e.a,.ref g,.ref c])∧H g = some (.lst gw)∧zal K H e.b gw∧H c = some (.lst cw)∧zal K H e.c cw∧g≠D∧c≠D∧Fr g∧Fr c
theorem zbh.keep {K : Frag} {H H' : Hp} {D : Addr} {Fr : Addr→Prop} (k : ∀ b o,b≠D→Fr b→H b = some o→H' b = some o) (tp : Tp H H') : ∀ {es : List (Tri Int (List En) (List En))} {us : List V},zbh K H D Fr es us→zbh K H' D Fr es us
 | _,_,.nil=>.nil
 | _,_,.cons ⟨u,g,c,gw,cw,e1,e2,e3,e4,e5,e6,n1,n2,n3,n4⟩ r=>.cons ⟨u,g,c,gw,cw,e1,tp _ _ e2,k _ _ n1 n3 e3,zaU tp e4,k _ _ n2 n4 e5,zaU tp e6,n1,n2,n3,n4⟩ (zbh.keep k tp r)
theorem zbh.snoc {K : Frag} {H : Hp} {D : Addr} {Fr : Addr→Prop} {e : Tri Int (List En) (List En)} {v : V} : ∀ {es : List (Tri Int (List En) (List En))} {us : List V},zbh K H D Fr es us→zbh K H D Fr [e] [v]→zbh K H D Fr (es ++ [e]) (us ++ [v])
 | _,_,.nil,h=>h
 | _,_,.cons a r,h=>.cons a (zbh.snoc r h)
def ziz (K : Frag) (CS : Addr) : Sp:=fun vs H Q _=>∃ (sh dx st p g c : Addr) (gw cw : List V) (kn : Nat) (qs : List Addr) (ps : List Nat) (rows rows' : List (List Int)) (t rs : Addr) (as : List Addr) (Fr : Addr→Prop),vs = [.ref sh,.int kn,.ref g,.ref c]∧zcf K CS H sh dx st p qs ps rows rows' t rs as kn 0∧
 kn < ps.length + 1∧ze5 kn rows rows'∧zaB rows∧rows.length = ps.length + 1∧zbQ rows≤400∧H g = some (.lst gw)∧zal K H (zaG (zam ps rows kn) (zam ps rows' kn)) gw∧H c = some (.lst cw)∧zal K H (zaG (zam ps rows' kn) (zam ps rows kn)) cw∧Fr g∧Fr c∧¬Fr p∧(∀ b,H b = none→Fr b)∧
 ∀ (D : Addr) (us : List V) (m : Nat) (qs' : List Addr) (H' : Hp),ze8 ps rows rows' kn m→H D = none→(∀ q∈qs',q∈qs∨H q = none)→But p H H'→zaH K CS H' sh dx st p qs' ps rows' t rs as→H' D = some (.lst us)→zbh K H' D Fr (zbf ps rows rows' kn m) us→Q (.ref D) H'
def upV : Option Nat→V
 | none=>.non
 | some j=>.int j
def Goes (ps : List Nat) (rows rows' : List (List Int)) (k m : Nat) : Prop:=∀ m' j,m' < m→upN ps k m' = some j→¬(zaG (zam ps rows j) (zam ps rows' j) = []∧zaG (zam ps rows' j) (zam ps rows j) = [])
structure CarI (K : Frag) (CS : Addr) (Fr : Addr→Prop) (H H2 : Hp) (sh dx st p g c D : Addr) (gw cw us : List V) (qs qs' : List Addr) (ps : List Nat) (rows rows' : List (List Int)) (t rs : Addr) (as : List Addr) (k m : Nat) : Prop where
 half : zcf K CS H2 sh dx st p qs' ps rows rows' t rs as k m
 hg : H2 g = some (.lst gw)
 hc : H2 c = some (.lst cw)
 cur : ∀ j,upN ps k m = some j→zal K H2 (zaG (zam ps rows j) (zam ps rows' j)) gw∧zal K H2 (zaG (zam ps rows' j) (zam ps rows j)) cw
 goes : Goes ps rows rows' k m
 hD : H2 D = some (.lst us)
 told : zbh K H2 D Fr (zbf ps rows rows' k m) us
 gD : g≠D
 cD : c≠D
 gp : Fr g
 cp : Fr c
 nD : H D = none
 nqs : ∀ q∈qs',q∈qs∨H q = none
 but : But p H H2
 dp : D≠p
 dqs : D∉qs'
theorem zcf.keep {K : Frag} {CS : Addr} {H H' : Hp} {sh dx st p : Addr} {qs : List Addr} {ps : List Nat} {rows rows' : List (List Int)} {t rs : Addr} {as : List Addr} {k m : Nat} {D : Addr} (S : zcf K CS H sh dx st p qs ps rows rows' t rs as k m) (kp : But D H H') (hD : ∀ o,H D = some o→∃ us,o = .lst us) (dp : D≠p) (dq : D∉qs) : zcf K CS H' sh dx st p qs ps rows rows' t rs as k m:=by
 have nl : ∀ {b : Addr} {o : HO},H b = some o→(∀ us,o≠.lst us)→H' b = some o:=fun {b o} e n=>kp b o (fun z=>by
  subst z
  obtain ⟨us,z⟩:=hD _ e
  exact n us z) e
 have tp : Tp H H':=fun b us e=>nl e (fun _ z=>nomatch z)
 refine ⟨nl S.own (fun _ z=>nomatch z),nl S.ins (fun _ z=>nomatch z),zbF tp S.stand,kp _ _ dp.symm S.full.at_,S.full.len,S.full.nd,S.full.np,fun j q hq=>?_⟩
 obtain ⟨ws,h1,h2⟩:=S.full.get j q hq
 exact ⟨ws,kp _ _ (fun z=>dq (z ▸ yaJ hq)) h1,zaU tp h2⟩
theorem zhH {ps : List Nat} {rows rows' : List (List Int)} {k : Nat} (T : zax ps) : ∀ m : Nat,(zbf ps rows rows' k m).length≤m
 | 0=>yaa _
 | m + 1=>by
  unfold zbf
  rw [yam]
  have:=zhH (rows:=rows) (rows':=rows') (k:=k) T m
  cases upN ps k m with
  | none=>exact Nat.le_succ_of_le this
  | some j=>exact Nat.succ_le_succ this
theorem zlU (ps : List Nat) (j : Nat) : parV ps j = upV (par ps j):=by
 unfold parV
 cases par ps j <;> rfl
theorem znR (T : Txt K mg) {CS : Addr} (O : OwnC K mg CS) (D_Shelf_carry_up : DM K CS "carry_up" "Shelf.carry_up" zbk zaV) (F_handed : FC P w K mg base 6 "handed" zc9 (zgW K)) (F_joined_up : FC P w K mg base 1 "joined_up" zbN (zlA K)) (F_without : FC P w K mg base 1 "without" zdv (zhL K)) : FM P w K mg base CS 7 "carry_up" zaV (ziz K CS):=by
 refine D_Shelf_carry_up.ok sc_Shelf_carry_up (fun vs H Q E h=>?_) (fun f cdv A outer s H vs Q E hr h=>?_)
 ·obtain ⟨sh,dx,st,p,g,c,gw,cw,kn,qs,ps,rows,rows',t,rs,as,Fr,rfl,_⟩:=h
  rfl
 obtain ⟨sh,dx,st,p,g,c,gw,cw,kn,qs,ps,rows,rows',t,rs,as,Fr,rfl,S,hk,hB,R,hlen,hkeys,hg,hgw,hc,hcw,ngp,ncp,hFp,hF0,q⟩:=h
 refine ⟨_,(zaf (zar (i:=4) sc_Shelf_carry_up.nd rfl (Or.inl rfl) (zbW zac))
   (zaf (zjF PassesOwn.never (PW.pt (zjB (zaw zlZ (pv 1) zlS (zaF _)) (zg5 (zaw zl1 (zay zby (zap zao rfl T.m_len boot_len (zaa (pv 2) zac)) (zap zao rfl T.m_len boot_len (zaa (pv 3) zac))) zaj (zaF _))))) (zaf (zbT (zha F.plainAttrs_list F.slot_list_append F.type_list_append zbz (pv 4) (zaa (zbr (zaa (pv 1) (zaa (pv 2) (zaa (pv 3) zac)))) zac)))
   (zaf (zar (i:=5) sc_Shelf_carry_up.nd rfl (Or.inl rfl) (zau F_handed hr (zaa (za0 zbA (zcC (pv 0) rfl) (pv 1) (fun _ _=>rfl)) zac)))
   (zaf (zgr (zau F_joined_up hr (zaa (zbW (zaa (zau F_without hr (zaa (za0 zbA (zcC (pv 0) rfl) (pv 1) (fun _ _=>rfl)) (zaa (pv 2) zac))) (zaa (pv 3) zac))) zac)) (zhX (zcC (pv 0) rfl) (pv 1) zdZ))
   (zaf (zar (i:=6) sc_Shelf_carry_up.nd rfl (Or.inl rfl) (zau F_handed hr (zaa (za0 zbA (zcC (pv 0) rfl) (pv 1) (fun _ _=>rfl)) zac)))
   (zaf (zar (i:=2) sc_Shelf_carry_up.nd rfl (Or.inl rfl) (zau F_without hr (zaa (pv 5) (zaa (pv 6) zac))))
   (zaf (zar (i:=3) sc_Shelf_carry_up.nd rfl (Or.inl rfl) (zau F_without hr (zaa (pv 6) (zaa (pv 5) zac))))
   (zae (zar (i:=1) sc_Shelf_carry_up.nd rfl (Or.inl rfl) (za0 za8 (za0 za8 (zcC (pv 0) rfl) zaj (fun _ _=>rfl)) (pv 1) (fun _ _=>rfl)))))))))))
   (zae (zav (pv 4))))),?_⟩
 refine ⟨(by show 0≤sizeLine; decide),fun D hD=>?_⟩
 have T':=S.stand.T
 have R':=S.stand.R
 have s0:=zai hD (.lst [])
 refine zhz (fun σ H2=>∃ (g c : Addr) (gw cw us : List V) (qs' : List Addr) (m : Nat) (x5 x6 : Option V),σ = [some (.ref sh),some (upV (upN ps kn m)),some (.ref g),some (.ref c),some (.ref D),x5,x6]∧CarI K CS Fr H H2 sh dx st p g c D gw cw us qs qs' ps rows rows' t rs as kn m)
  (fun σ H2=>∃ (g c : Addr) (gw cw us : List V) (qs' : List Addr) (m : Nat) (x5 x6 : Option V),σ = [some (.ref sh),some (upV (upN ps kn m)),some (.ref g),some (.ref c),some (.ref D),x5,x6]∧CarI K CS Fr H H2 sh dx st p g c D gw cw us qs qs' ps rows rows' t rs as kn m∧(upN ps kn m = none∨∃ j,upN ps kn m = some j∧zaG (zam ps rows j) (zam ps rows' j) = []∧zaG (zam ps rows' j) (zam ps rows j) = []))
  (fun σ _=>match σ with | _ :: some (.int j) :: _=>j.toNat + 1 | _=>0) ?_ ?_ ?_ ?_
 ·refine ⟨g,c,gw,cw,[],qs,0,_,_,rfl,⟨s0 _ _ S.own,s0 _ _ S.ins,S.stand.same s0,S.full.ext s0.ext⟩,s0 _ _ hg,s0 _ _ hc,fun j e=>?_,fun m' j h=>absurd h (ybU _),zab,.nil,zad hg hD,zad hc hD,ngp,ncp,hD,fun q h=>.inl h,fun b o _ e=>s0 b o e,(fun z=>by rw [z,S.full.at_] at hD; cases hD),fun z=>?_⟩
  ·have : kn = j:=yad e
   subst this
   exact ⟨hgw.mono s0.ext,hcw.mono s0.ext⟩
  ·obtain ⟨j,hj,e⟩:=ya3 z
   obtain ⟨ws,w1,_⟩:=S.full.get j D (by rw [yac hj,e])
   rw [hD] at w1
   cases w1
 ·rintro σ H2 ⟨g,c,gw,cw,us,qs',m,x5,x6,rfl,I⟩
  cases eu : upN ps kn m with
  | none=>
   refine ⟨_,rfl,rfl,_,rfl,?_⟩
   refine iteF ?_
   refine iteF ?_
   exact ⟨g,c,gw,cw,us,qs',m,x5,x6,by rw [eu],I,.inl eu⟩
  | some j=>
   refine ⟨_,rfl,rfl,_,rfl,?_⟩
   refine iteT ?_
   refine ⟨_,rfl,_,_,rfl,.inl (SqL.of I.hg),_,rfl,_,_,rfl,.inl (SqL.of I.hc),_,_,rfl,rfl,_,_,rfl,rfl,_,rfl,?_⟩
   obtain ⟨cg,cc⟩:=I.cur j eu
   have lg:=cg.length
   have lc:=cc.length
   refine ite2 (fun hpos=>?_) (fun hneg=>?_)
   ·have hmj:=zji T' eu
    have hjn:=zhC T' hk eu
    have hfew:=S.stand.few
    have hul : us.length≤m:=by
     have:=Paired.length I.told
     have:=zhH (rows:=rows) (rows':=rows') (k:=kn) T' m
     omega
    refine ⟨_,rfl,.inl ⟨rfl,_,SqL.of I.hD⟩,?_⟩
    refine ⟨_,rfl,_,rfl,_,rfl,(by show 3≤sizeLine; decide),fun u hu=>?_⟩
    have su:=zai hu (.tup [upV (some j),.ref g,.ref c])
    have huT : upd H2 u (.tup [upV (some j),.ref g,.ref c]) u = some (.tup [.int (j : Int),.ref g,.ref c]):=zab
    generalize upd H2 u (.tup [upV (some j),.ref g,.ref c]) = H3 at su huT ⊢
    refine ⟨_,_,_,rfl,rfl,su _ _ I.hD,zaq (by omega),?_⟩
    have hDq : ∀ o,H3 D = some o→∃ us,o = .lst us:=fun o e=>⟨us,by rw [su _ _ I.hD] at e; exact (yad e).symm⟩
    have k4 : But D H3 (upd H3 D (.lst (us ++ [.ref u]))):=fun b o n e=>by rw [zah n]; exact e
    have S4 : zcf K CS (upd H3 D (.lst (us ++ [.ref u]))) sh dx st p qs' ps rows rows' t rs as kn m:=zcf.keep ⟨su _ _ I.half.own,su _ _ I.half.ins,I.half.stand.same su,I.half.full.ext su.ext⟩ k4 hDq I.dp I.dqs
    have tp4 : Tp H3 (upd H3 D (.lst (us ++ [.ref u]))):=k4.tp fun us' z=>by rw [su _ _ I.hD] at z; cases z
    have tpS : Tp H2 H3:=fun b us e=>su _ _ e
    have g4:=k4 _ _ I.gD (su _ _ I.hg)
    have c4:=k4 _ _ I.cD (su _ _ I.hc)
    have cg4:=zaU tp4 (zaU tpS cg)
    have cc4:=zaU tp4 (zaU tpS cc)
    have D4 : upd H3 D (.lst (us ++ [.ref u])) D = some (.lst (us ++ [.ref u])):=zab
    have t4 : zbh K (upd H3 D (.lst (us ++ [.ref u]))) D Fr (zbf ps rows rows' kn (m + 1)) (us ++ [.ref u]):=by
     have e : zbf ps rows rows' kn (m + 1) = zbf ps rows rows' kn m ++ [znj ps rows rows' j]:=by
      show _ ++ ((upN ps kn m).map (znj ps rows rows')).toList = _
      rw [eu]
      rfl
     rw [e]
     refine zbh.snoc (zbh.keep (fun b o n1 _ e=>k4 b o n1 (su _ _ e)) (fun b us e=>tp4 _ _ (tpS _ _ e)) I.told) (.cons ⟨u,g,c,gw,cw,rfl,tp4 _ _ huT,g4,cg4,c4,cc4,I.gD,I.cD,I.gp,I.cp⟩ .nil)
    have b4 : But p H (upd H3 D (.lst (us ++ [.ref u]))):=fun b o n e=>k4 b o (zad e hD) (su _ _ (I.but b o n e))
    clear k4 hDq tp4
    generalize upd H3 D (.lst (us ++ [.ref u])) = H4 at S4 g4 c4 cg4 cc4 D4 t4 b4 ⊢
    obtain ⟨qj,ws,f1,f2,f3⟩:=S4.full.at hjn
    rw [zo9 T' eu] at f3
    have hle:=zht T' hlen hjn
    have hle':=zht T' S.stand.len hjn
    have hk':=S.stand.keys
    refine ⟨_,rfl,sh,CS,dx,_,_,rfl,S4.ins,O.cl,O.n_fulls,rfl,_,rfl,_,_,_,_,rfl,rfl,SqL.of S4.full.at_,ze2 f1,qj,ws,_,rfl,f2,f3,by omega,zfY T' R hfew hjn,zaI T' R hjn,fun B H5 hB5 s5 h5=>?_⟩
    have hh5 : zal K H5 (zcy (zam ps rows j)) (zcF ws (zem (zam ps rows j))):=zft (f3.mono s5.ext)
    have tp5 : Tp H4 H5:=fun b us e=>s5 _ _ e
    have S5 : zcf K CS H5 sh dx st p qs' ps rows rows' t rs as kn m:=⟨s5 _ _ S4.own,s5 _ _ S4.ins,S4.stand.same s5,S4.full.ext s5.ext⟩
    have ndg : (zaG (zam ps rows j) (zam ps rows' j)).Nodup:=zgC (zdR T' R hjn)
    refine ⟨_,rfl,sh,CS,dx,_,_,rfl,S5.ins,O.cl,O.n_fulls,rfl,_,rfl,_,_,_,_,rfl,rfl,SqL.of S5.full.at_,ze2 f1,_,rfl,qj,g,ws,gw,_,_,rfl,s5 _ _ f2,f3.mono s5.ext,by omega,s5 _ _ g4,cg4.mono s5.ext,?_,ndg,fun W ww H6 hW s6 h6 hw6=>?_⟩
    ·exact yay (ybf _ _) (by omega)
    refine ⟨_,rfl,(by show 2≤sizeLine; decide),fun L hL=>?_⟩
    have s7:=zai hL (.lst [.ref W,.ref c])
    have c7:=s7 _ _ (s6 _ _ (s5 _ _ c4))
    have hL7 : upd H6 L (.lst [.ref W,.ref c]) L = some (.lst ([W,c].map V.ref)):=zab
    have W7:=s7 _ _ h6
    have w7:=hw6.mono s7.ext
    generalize upd H6 L (.lst [.ref W,.ref c]) = H7 at s7 c7 hL7 W7 w7 ⊢
    have s47 : Same H4 H7:=s5.trans (s6.trans s7)
    have cl : (zaG (zam ps rows' j) (zam ps rows j)).length≤(zam ps rows' j).length:=ybf _ _
    have gl : (zaG (zam ps rows j) (zaG (zam ps rows j) (zam ps rows' j))).length≤(zam ps rows j).length:=ybf _ _
    refine ⟨L,[W,c],[zaG (zam ps rows j) (zaG (zam ps rows j) (zam ps rows' j)),zaG (zam ps rows' j) (zam ps rows j)],rfl,hL7,.cons ⟨ww,W7,w7⟩ (.cons ⟨cw,c7,cc4.mono s47.ext⟩ .nil),?_,fun J jw H8 hJ s8 h8 hw8=>?_⟩
    ·rw [ybG,ybG,List.flatten_nil,yaH,yam]
     omega
    rw [ybG,ybG,List.flatten_nil,yaH,← (zpK (zaI T' R hjn) (zaI T' R' hjn)).eq] at hw8
    have s48 : Same H4 H8:=s47.trans s8
    have S8 : zcf K CS H8 sh dx st p qs' ps rows rows' t rs as kn m:=⟨s48 _ _ S4.own,s48 _ _ S4.ins,S4.stand.same s48,S4.full.ext s48.ext⟩
    refine ⟨_,rfl,sh,CS,dx,_,_,rfl,S8.ins,O.cl,O.n_fulls,rfl,_,rfl,p,_,_,j,rfl,rfl,S8.full.at_,zfU (by rw [yab,S8.full.len]; exact hjn),?_⟩
    have nn : ∀ {b : Addr},H7 b = none→H4 b = none:=fun {b} e=>by
     cases e4 : H4 b with
     | none=>rfl
     | some o=>
      rw [s47 _ _ e4] at e
      cases e
    have hJ4:=nn hJ
    have hJp : J≠p:=fun z=>by rw [z,S4.full.at_] at hJ4; cases hJ4
    have hJq : J∉qs':=fun z=>by
     obtain ⟨i,hi,e⟩:=ya3 z
     obtain ⟨ws,w1,_⟩:=S4.full.get i J (by rw [yac hi,e])
     rw [hJ4] at w1
     cases w1
    have hJD : D≠J:=fun z=>by rw [← z,D4] at hJ4; cases hJ4
    have hBp : B≠p:=fun z=>by rw [z,S4.full.at_] at hB5; cases hB5
    have F9:=S8.full.set (k:=j) h8 hw8 hJq hJp
    have k9 : But p H8 (upd H8 p (.lst ((qs'.map V.ref).set j (.ref J)))):=fun b o n e=>by rw [zah n]; exact e
    have tp9 : Tp H8 (upd H8 p (.lst ((qs'.map V.ref).set j (.ref J)))):=k9.tp fun us' z=>by rw [S8.full.at_] at z; cases z
    have F9' : FA K (upd H8 p (.lst ((qs'.map V.ref).set j (.ref J)))) p (qs'.set j J) (ps.length + 1) (stL ps rows rows' kn (m + 1)):=F9.congr fun i hi=>by
     show _ = if upN ps kn m = some i then zam ps rows' i else stL ps rows rows' kn m i
     rw [eu]
     by_cases z : i = j
     ·rw [if_pos z,if_pos (by rw [z]),z]
     ·rw [if_neg z,if_neg (fun y=>z (yad y).symm)]
    have nlp : ∀ {b : Addr} {o : HO},H8 b = some o→(∀ us,o≠.lst us)→upd H8 p (.lst ((qs'.map V.ref).set j (.ref J))) b = some o:=fun {b o} e n=>k9 b o (fun z=>by
     rw [z,S8.full.at_] at e
     exact n _ (yad e).symm) e
    have S9 : zcf K CS (upd H8 p (.lst ((qs'.map V.ref).set j (.ref J)))) sh dx st p (qs'.set j J) ps rows rows' t rs as kn (m + 1):=⟨nlp S8.own (fun _ z=>nomatch z),nlp S8.ins (fun _ z=>nomatch z),zbF tp9 S8.stand,F9'⟩
    have s58 : Same H5 H8:=s6.trans (s7.trans s8)
    have B9:=k9 _ _ hBp (s58 _ _ h5)
    have hB9:=zaU tp9 (hh5.mono s58.ext)
    have J9:=k9 _ _ hJp h8
    have hJ9:=zaU tp9 hw8
    have D9:=k9 _ _ I.dp (s48 _ _ D4)
    have t9:=zbh.keep (fun b o _ n e=>k9 b o (fun z=>hFp (z ▸ n)) (s48 _ _ e)) (fun b us e=>tp9 _ _ (s48 _ _ e)) t4
    have b9 : But p H (upd H8 p (.lst ((qs'.map V.ref).set j (.ref J)))):=fun b o n e=>k9 b o n (s48 _ _ (b4 b o n e))
    clear k9 tp9 nlp F9 F9'
    generalize upd H8 p (.lst ((qs'.map V.ref).set j (.ref J))) = H9 at S9 B9 hB9 J9 hJ9 D9 t9 b9 ⊢
    have fJ : (qs'.set j J)[j]? = some J:=by
     have:=I.half.full.len
     rw [ybD,if_pos rfl,if_pos (by omega)]
    refine ⟨_,rfl,sh,CS,dx,_,_,rfl,S9.ins,O.cl,O.n_fulls,rfl,_,rfl,_,_,_,_,rfl,rfl,SqL.of S9.full.at_,ze2 fJ,J,jw,_,rfl,J9,hJ9,by omega,zfY T' R' hfew hjn,zaI T' R' hjn,fun A' H10 hA10 s10 h10=>?_⟩
    have hh10 : zal K H10 (zcy (zam ps rows' j)) (zcF jw (zem (zam ps rows' j))):=zft (hJ9.mono s10.ext)
    have hl1:=(zaP (zam ps rows j)).length_le
    have hl2:=(zaP (zam ps rows' j)).length_le
    have nd1:=(zdR T' R hjn).sublist (zaP (zam ps rows j))
    have nd2:=(zdR T' R' hjn).sublist (zaP (zam ps rows' j))
    refine ⟨_,rfl,_,rfl,B,A',_,_,_,_,rfl,s10 _ _ B9,hB9.mono s10.ext,by omega,h10,hh10,by omega,nd2,fun G gw' H11 hG s11 h11 hw11=>?_⟩
    refine ⟨_,rfl,_,rfl,A',B,_,_,_,_,rfl,s11 _ _ h10,hh10.mono s11.ext,by omega,s11 _ _ (s10 _ _ B9),(hB9.mono s10.ext).mono s11.ext,by omega,nd1,fun C cw' H12 hC s12 h12 hw12=>?_⟩
    have s92 : Same H9 H12:=s10.trans (s11.trans s12)
    have S12 : zcf K CS H12 sh dx st p (qs'.set j J) ps rows rows' t rs as kn (m + 1):=⟨s92 _ _ S9.own,s92 _ _ S9.ins,S9.stand.same s92,S9.full.ext s92.ext⟩
    refine ⟨_,rfl,sh,CS,dx,_,_,rfl,S12.ins,O.cl,O.n_kept,rfl,_,_,_,_,rfl,rfl,SqT.of S12.stand.st,rfl,_,rfl,_,_,_,_,rfl,rfl,SqT.of S12.stand.tr,zgb hjn,?_⟩
    have tp92 : Tp H9 H12:=fun b us e=>s92 _ _ e
    have hnH : ∀ {b : Addr},H9 b = none→H b = none∨b = p:=fun {b} e=>by
     by_cases z : b = p
     ·exact .inr z
     ·refine .inl ?_
      cases e4 : H b with
      | none=>rfl
      | some o=>
       rw [b9 _ _ z e4] at e
       cases e
    have nG : H9 G = none:=s10.free hG
    have nC : H9 C = none:=s10.free (s11.free hC)
    refine ⟨⟨G,C,gw',cw',us ++ [.ref u],qs'.set j J,m + 1,some (.ref B),some (.ref A'),?_,S12,s12 _ _ h11,h12,fun i hi=>?_,fun m' i hm' hi=>?_,s92 _ _ D9,zbh.keep (fun b o _ _ e=>s92 _ _ e) tp92 t9,?_,?_,?_,?_,hD,fun x hx=>?_,fun b o n e=>s92 _ _ (b9 b o n e),I.dp,fun z=>?_⟩,?_⟩
    ·rw [zjh eu,zlU]
     rfl
    ·have L:=zmI T' R R' hk hB (zjj T' hk eu) ((zjh eu).symm.trans hi)
     rw [← L.gone,← L.come]
     exact ⟨hw11.mono s12.ext,hw12⟩
    ·rcases ybA m' m with y | y
     ·exact I.goes m' i y hi
     ·have : m' = m:=by omega
      subst this
      rw [eu] at hi
      have:=yad hi
      subst this
      rintro ⟨z1,z2⟩
      rw [z1] at lg
      rw [z2] at lc
      have : (0 : Int) < (gw.length : Int) + cw.length:=yaO hpos
      rw [ybo] at lg lc
      omega
    ·exact fun z=>by rw [z,D9] at nG; cases nG
    ·exact fun z=>by rw [z,D9] at nC; cases nC
    ·exact (hnH nG).elim (hF0 _) fun z=>by rw [z,S9.full.at_] at nG; cases nG
    ·exact (hnH nC).elim (hF0 _) fun z=>by rw [z,S9.full.at_] at nC; cases nC
    ·rcases ybY hx with y | y
     ·exact I.nqs x y
     ·rw [y]
      refine .inr ?_
      cases e4 : H J with
      | none=>rfl
      | some o=>
       rw [b4 _ _ hJp e4] at hJ4
       cases hJ4
    ·rcases ybY z with y | y
     ·exact I.dqs y
     ·exact hJD y
    ·rw [zlU]
     cases ep : par ps j with
     | none=>exact Nat.succ_pos _
     | some i=>
      have:=(zaK T' ep).1
      show ((i : Int)).toNat + 1 < ((j : Int)).toNat + 1
      omega
   ·have e0 : gw.length = 0∧cw.length = 0:=by
     have : ¬ (0 : Int) < (gw.length : Int) + cw.length:=fun z=>hneg (yag z)
     omega
    exact ⟨g,c,gw,cw,us,qs',m,x5,x6,by rw [eu],I,.inr ⟨j,eu,ycz.mp (by omega),ycz.mp (by omega)⟩⟩
 ·refine zlm (fun σ H Q Q' m h=>?_) (fun σ H Q Q' m h=>?_)
  ·obtain ⟨y1,e1,e3,b,e4,q⟩:=h
   exact ⟨y1,e1,e3,b,e4,m _ _ q⟩
  ·obtain ⟨y1,e1,p1,z1,e2,e3,y2,e4,p2,z2,e5,e6,i1,j1,e7,e8,i2,j2,e9,e10,b,e11,q⟩:=h
   exact ⟨y1,e1,p1,z1,e2,e3,y2,e4,p2,z2,e5,e6,i1,j1,e7,e8,i2,j2,e9,e10,b,e11,m _ _ q⟩
 ·rintro σ H2 ⟨g,c,gw,cw,us,qs',m,x5,x6,rfl,I,hm⟩
  have hm' : upN ps kn m = none∨∃ j,upN ps kn m = some j∧zam ps rows' j = zam ps rows j:=hm.imp id fun ⟨j,h1,h2,h3⟩=>⟨j,h1,zjY (zaI T' R (zhC T' hk h1)) (zaI T' R' (zhC T' hk h1)) h2 h3⟩
  refine ⟨_,rfl,?_⟩
  exact q D us m qs' H2 ⟨I.goes,hm⟩ hD I.nqs I.but ⟨I.half.own,I.half.ins,I.half.stand,I.half.full.congr fun i hi=>zo8 T' R R' hk hB hm' hi⟩ I.hD I.told
def loN (row : List Int) (x : Int) : Nat:=(row.filter fun y=>decide (y < x)).length
def putR (row : List Int) (x : Int) : List Int:=row.take (loN row x) ++ [x] ++ row.drop (loN row x)
def outR (row : List Int) (x : Int) : List Int:=row.take (loN row x) ++ row.drop (loN row x + 1)
theorem zmk {x : Int} : ∀ {row : List Int},row.Pairwise (· < ·)→(∀ y∈row.take (loN row x),y < x)∧∀ y∈row.drop (loN row x),x≤y
 | [],_=>⟨(fun _ h=>by simp at h),fun _ h=>by simp at h⟩
 | a :: r,h=>by
  obtain ⟨h1,h2⟩:=yb4.mp h
  by_cases c : a < x
  ·have e : loN (a :: r) x = loN r x + 1:=by
    unfold loN
    rw [ybr (p:=fun y=>decide (y < x)) (yag c),yaI]
   obtain ⟨i1,i2⟩:=zmk (x:=x) h2
   rw [e]
   refine ⟨fun y hy=>?_,fun y hy=>i2 y hy⟩
   rcases yak.mp hy with z | z
   ·rw [z]; exact c
   ·exact i1 y z
  ·have e : loN (a :: r) x = 0:=by
    unfold loN
    rw [ybE.mpr,ybo]
    intro y hy z
    have z:=yaO z
    rcases yak.mp hy with w | w
    ·omega
    ·have:=h1 y w
     omega
   rw [e]
   refine ⟨(fun y hy=>by simp at hy),fun y hy=>?_⟩
   rcases yak.mp hy with w | w
   ·omega
   ·have:=h1 y w
    omega
theorem zg6 {row : List Int} {x y : Int} : y∈putR row x↔y∈row∨y = x:=by
 unfold putR
 rw [yaj,yaj,yal]
 constructor
 ·rintro ((h | h) | h)
  ·exact .inl (yby h)
  ·exact .inr h
  ·exact .inl (ybz h)
 ·rintro (h | h)
  ·rw [← yaM (loN row x) row] at h
   rcases yaj.mp h with h | h
   ·exact .inl (.inl h)
   ·exact .inr h
  ·exact .inl (.inr h)
theorem zlM {row : List Int} {x : Int} (h : row.Pairwise (· < ·)) (n : x∉row) : (putR row x).Pairwise (· < ·):=by
 obtain ⟨h1,h2⟩:=zmk (x:=x) h
 have h3 : ∀ y∈row.drop (loN row x),x < y:=fun y hy=>by
  have:=h2 y hy
  have : y≠x:=fun z=>n (z ▸ ybz hy)
  omega
 have hp:=h
 rw [← yaM (loN row x) row] at hp
 obtain ⟨p1,p2,_⟩:=yaF.mp hp
 unfold putR
 refine yaF.mpr ⟨yaF.mpr ⟨p1,ycy _ _,fun a ha b hb=>?_⟩,p2,fun a ha b hb=>?_⟩
 ·rw [yal.mp hb]
  exact h1 a ha
 ·have:=h3 b hb
  rcases yaj.mp ha with z | z
  ·have:=h1 a z
   omega
  ·rw [yal.mp z]
   exact this
theorem zdP (row : List Int) (x : Int) : (outR row x).Sublist row:=by
 unfold outR
 have : (row.take (loN row x) ++ row.drop (loN row x + 1)).Sublist (row.take (loN row x) ++ row.drop (loN row x)):=by
  refine List.Sublist.append (List.Sublist.refl _) ?_
  rw [← ybx]
  exact yb2 _ _
 rwa [yaM] at this
theorem ziC {row : List Int} {x y : Int} (h : row.Pairwise (· < ·)) (hx : x∈row) : y∈outR row x↔y∈row∧y≠x:=by
 obtain ⟨h1,h2⟩:=zmk (x:=x) h
 have hd : ∃ r,row.drop (loN row x) = x :: r:=by
  have hm : x∈row.drop (loN row x):=by
   have hx':=hx
   rw [← yaM (loN row x) row] at hx'
   rcases yaj.mp hx' with z | z
   ·exact absurd (h1 x z) (by omega)
   ·exact z
  cases e : row.drop (loN row x) with
  | nil=>rw [e] at hm; cases hm
  | cons a r=>
   have ha:=h2 a (by rw [e]; exact yaC)
   rw [e] at hm
   rcases yak.mp hm with z | z
   ·exact ⟨r,by rw [z]⟩
   ·have hs:=h.sublist (yb2 (loN row x) row)
    rw [e] at hs
    have:=(yb4.mp hs).1 x z
    omega
 obtain ⟨r,hr⟩:=hd
 have hr1 : row.drop (loN row x + 1) = r:=by
  rw [← ybx,hr]
  rfl
 have hs:=h.sublist (yb2 (loN row x) row)
 rw [hr] at hs
 have hlt:=(yb4.mp hs).1
 unfold outR
 rw [yaj,hr1]
 constructor
 ·rintro (z | z)
  ·exact ⟨yby z,fun e=>absurd (h1 y z) (by omega)⟩
  ·refine ⟨ybz (by rw [hr]; exact yaD _ z),fun e=>?_⟩
   have:=hlt y z
   omega
 ·rintro ⟨z,n⟩
  rw [← yaM (loN row x) row,hr] at z
  rcases yaj.mp z with z | z
  ·exact .inl z
  ·rcases yak.mp z with z | z
   ·exact absurd z n
   ·exact .inr z
section
variable {rows : List (List Int)} {kn : Nat} {x : Int} {r : List Int}
theorem zc6 (h : kn < rows.length) : zak (rows.set kn r) kn = r:=by
 unfold zak
 rw [yah,ybD,if_pos rfl,if_pos h]
 rfl
theorem zf9 : ze5 kn rows (rows.set kn r):=fun j n=>by
 unfold zak
 rw [yah,ybD,if_neg (fun z=>n z.symm),yah]
theorem zcr {rows : List (List Int)} {k : Nat} {e : En} : e∈ownE rows k↔e.1∈zak rows k∧e.2 = (k : Int):=by
 unfold ownE
 rw [yaB]
 constructor
 ·rintro ⟨y,hy,rfl⟩
  exact ⟨hy,rfl⟩
 ·rintro ⟨h1,h2⟩
  exact ⟨e.1,h1,by rw [← h2]⟩
theorem zjD (h : kn < rows.length) : zaG (ownE rows kn) (ownE (rows.set kn (putR (zak rows kn) x)) kn) = []:=by
 refine ybE.mpr fun e he z=>?_
 have z:=yaO z
 obtain ⟨h1,h2⟩:=zcr.mp he
 exact z (zcr.mpr ⟨by rw [zc6 h]; exact zg6.mpr (.inl h1),h2⟩)
theorem zjO (h : kn < rows.length) : zaG (ownE (rows.set kn (outR (zak rows kn) x)) kn) (ownE rows kn) = []:=by
 refine ybE.mpr fun e he z=>?_
 have z:=yaO z
 obtain ⟨h1,h2⟩:=zcr.mp he
 rw [zc6 h] at h1
 exact z (zcr.mpr ⟨(zdP _ _).mem h1,h2⟩)
theorem zjR {l : List En} {e : En} (h : Rise l) (m : ∀ f,f∈l↔f = e) : l = [e]:=zfF h (ycy _ _) fun f=>by rw [m f,yal]
theorem zjE (h : kn < rows.length) (hup : (zak rows kn).Pairwise (· < ·)) (hr : Rise (ownE (rows.set kn (putR (zak rows kn) x)) kn)) (n : x∉zak rows kn) : zaG (ownE (rows.set kn (putR (zak rows kn) x)) kn) (ownE rows kn) = [(x,(kn : Int))]:=by
 refine zjR (hr.filter _) fun e=>?_
 rw [za9,zcr,zcr,zc6 h,zg6]
 constructor
 ·rintro ⟨⟨h1 | h1,h2⟩,h3⟩
  ·exact absurd ⟨h1,h2⟩ h3
  ·exact Prod.ext h1 h2
 ·rintro rfl
  exact ⟨⟨.inr rfl,rfl⟩,fun z=>n z.1⟩
theorem zjN (h : kn < rows.length) (hup : (zak rows kn).Pairwise (· < ·)) (hr : Rise (ownE rows kn)) (hx : x∈zak rows kn) : zaG (ownE rows kn) (ownE (rows.set kn (outR (zak rows kn) x)) kn) = [(x,(kn : Int))]:=by
 refine zjR (hr.filter _) fun e=>?_
 rw [za9,zcr,zcr,zc6 h,ziC hup hx]
 constructor
 ·rintro ⟨⟨h1,h2⟩,h3⟩
  exact Prod.ext (Classical.byContradiction fun z=>h3 ⟨⟨h1,z⟩,h2⟩) h2
 ·rintro rfl
  exact ⟨⟨hx,rfl⟩,fun z=>z.1.2 rfl⟩
theorem zjx (R : zaB rows) (hup : r.Pairwise (· < ·)) (hk : ∀ y∈r,-(10 ^ 60) < y∧y < 10 ^ 60) : zaB (rows.set kn r):=by
 refine ⟨fun row hrow=>?_,fun row hrow=>?_⟩
 ·rcases ybY hrow with z | z
  ·exact R.1 row z
  ·rw [z]
   first | exact hup | exact hk
 ·rcases ybY hrow with z | z
  ·exact R.2 row z
  ·rw [z]
   first | exact hup | exact hk
end
def zgL (x : Key) : Prop:=∃ a : Int,x = .inl a∧-(10 ^ 60) < a∧a < 10 ^ 60
def toI : Key→Int
 | .inl a=>a
 | _=>0
theorem zpi {kvs : List (Key×V)} {x : Key} {v : V} (h1 : (kvs.map (·.1)).Nodup) (h2 : ∀ y∈kvs.map (·.1),zgL y) (hx : zgL x) : ((putK kvs x v).map (·.1)).Nodup∧∀ y∈(putK kvs x v).map (·.1),zgL y:=by
 rw [zlO]
 split
 ·exact ⟨h1,h2⟩
 ·rename_i c
  refine ⟨?_,fun y hy=>?_⟩
  ·rw [ybe]
   refine ⟨h1,yaS.mpr ⟨(fun z=>nomatch z),ybw⟩,fun a ha b hb z=>?_⟩
   rw [yal.mp hb] at z
   subst z
   obtain ⟨p,hp,e⟩:=yaB.mp ha
   exact c (List.any_eq_true.mpr ⟨p,hp,yag e⟩)
  ·rcases yaj.mp hy with z | z
   ·exact h2 y z
   ·rw [yal.mp z]
    exact hx
theorem ze1 : ∀ {l : List Key},(∀ y∈l,zgL y)→l.map kV = (l.map toI).map V.int
 | [],_=>rfl
 | x :: l,h=>by
  obtain ⟨a,rfl,_⟩:=h x yaC
  show V.int a :: l.map kV = V.int a :: (l.map toI).map V.int
  rw [ze1 fun y hy=>h y (yaD _ hy)]
theorem zhI : ∀ {l : List Key},l.Nodup→(∀ y∈l,zgL y)→(l.map toI).Nodup
 | [],_,_=>ybw
 | x :: l,hn,h=>by
  rw [yao,yaS]
  have hc:=yaS.mp hn
  refine ⟨fun z=>?_,zhI hc.2 fun y hy=>h y (yaD _ hy)⟩
  obtain ⟨y,hy,e⟩:=yaB.mp z
  obtain ⟨a,rfl,_⟩:=h x yaC
  obtain ⟨b,rfl,_⟩:=h y (yaD _ hy)
  have : b = a:=e
  subst this
  exact hc.1 hy
def zqo (K : Frag) : Sp:=fun vs H Q _=>∃ (d L : Addr) (m : Int),vs = [.ref d,.int m]∧(0≤m∧m≤40)∧LS K L d H∧
 ∀ (a : Addr) (row : List Int) (H' : Hp),H a = none→row.Pairwise (· < ·)→(∀ x∈row,-(10 ^ 60) < x∧x < 10 ^ 60)→(row.length : Int)≤m→H' a = some (.tup (row.map V.int))→Keep d H H'→LS K L d H'→Q (.ref a) H'
theorem zpx (T : Txt K mg) (D_l_row : DF K mg "_law_row" zg1 zfp) (F_l_take : FC P w K mg base 2 "_law_take" zbx (zfB K)) (F_l_key : FC P w K mg base 3 "_law_key" zef (zpb K)) : FC P w K mg base 4 "_law_row" zfp (zqo K):=by
 refine D_l_row.ok sc_l_row (fun vs H Q E h=>?_) (fun f cdv A outer s H vs Q E hr h=>?_)
 ·obtain ⟨d,L,m,rfl,_⟩:=h
  rfl
 obtain ⟨d,L,m,rfl,⟨hm0,hm1⟩,hs,q⟩:=h
 refine ⟨_,(zaf (zar (i:=2) sc_l_row.nd rfl (Or.inl rfl) zjK)
   (zaf (zbO PassesOwn.never rfl (zbP rfl T.m_range (zaa (zau F_l_take hr (zaa (pv 0) (zaa (zay zby (pv 1) zaj) zac))) zac)) (zas (i:=3) sc_l_row.nd rfl (Or.inl rfl)) (zae (zeE (zer hr) (pv 2) (zau F_l_key hr (zaa (pv 0) zac)) zhb rfl)))
   (zae (zav (zaN zaJ rfl T.m_tuple boot_tuple (zaa (zap (zgK Int) rfl T.m_sorted boot_sorted (zaa (zaN (zkW rfl) rfl T.m_list boot_list (zaa (pv 2) zac)) zac)) zac)))))),?_⟩
 intro g hg
 have ngd : g≠d:=fun z=>by
  obtain ⟨_,_,_,e,_⟩:=hs.ex
  rw [← z,hg] at e
  cases e
 refine ⟨_,rfl,_,rfl,_,_,rfl,rfl,d,L,m + 1,rfl,⟨by omega,by omega⟩,hs.of_new hg _,fun n H1 n0 n1 k1 s1=>⟨_,rfl,by omega,by omega,?_⟩⟩
 refine zbB (n:=n.toNat) (fun i σ H2=>∃ (kvs : List (Key×V)) (x3 : Option V),σ = [some (.ref d),some (.int m),some (.ref g),x3]∧H2 g = some (.dK kvs)∧kvs.length≤i∧(kvs.map (·.1)).Nodup∧(∀ y∈kvs.map (·.1),zgL y)∧(∀ b o,b≠d→b≠g→H b = some o→H2 b = some o)∧LS K L d H2) ?_ ?_ ?_
 ·exact ⟨[],_,rfl,k1 g _ ngd zab,yaa _,ybw,fun y hy=>(by simp at hy),fun b o b1 b2 e=>k1 b o b1 (by rw [zah b2]; exact e),s1⟩
 ·rintro i σ H2 hi ⟨kvs,x3,rfl,h2,hl,hn,hy,kk,s2⟩
  refine ⟨_,rfl,_,rfl,d,L,rfl,s2,fun v H3 v0 v1 k3 s3=>?_⟩
  have h3 : H3 g = some (.dK kvs):=k3 g _ ngd h2
  obtain ⟨p1,p2⟩:=zpi (v:=.bl true) hn hy (x:=.inl v) ⟨v,rfl,v0,v1⟩
  refine ⟨g,_,rfl,DPut.k (k:=.inl v) (kvs:=kvs) h3 (zaq (by omega)),?_⟩
  refine ⟨putK kvs (.inl v) (.bl true),_,rfl,zab,?_,p1,p2,?_,?_⟩
  ·have:=zcV kvs (Sum.inl v : Key) (.bl true)
   omega
  ·intro b o b1 b2 e
   rw [zah b2]
   exact k3 b o b1 (kk b o b1 b2 e)
  ·exact LS.put hs hg (fun b o b1 b2 e=>k3 b o b1 (kk b o b1 b2 e)) s3
 ·rintro σ H2 ⟨kvs,x3,rfl,h2,hl,hn,hy,kk,s2⟩
  refine ⟨_,rfl,g,kvs,rfl,h2,fun l hl1=>?_⟩
  have ei : kvs.map (fun kv=>kV kv.1) = ((kvs.map (·.1)).map toI).map V.int:=by
   rw [← ze1 hy,ybd]
   rfl
  rw [ei]
  have e1:=zai hl1 (.lst (((kvs.map (·.1)).map toI).map V.int))
  refine ⟨l,_,_,rfl,SqL.of zab,zal.ints,fun l2 ws hl2 hw=>?_⟩
  rw [hw.toInts]
  have e2:=zai hl2 (.lst ((zcJ ((kvs.map (·.1)).map toI)).map V.int))
  refine ⟨l2,_,rfl,.inl ⟨SqL.of zab,fun a ha=>?_⟩⟩
  have e3:=zai ha (.tup ((zcJ ((kvs.map (·.1)).map toI)).map V.int))
  have e13:=e1.trans (e2.trans e3)
  have free : H a = none:=by
   have z2 : H2 a = none:=e1.free (e2.free ha)
   cases z : H a with
   | none=>rfl
   | some o=>
    by_cases c1 : a = d
    ·obtain ⟨_,_,_,e,_⟩:=s2.ex
     rw [← c1,z2] at e
     cases e
    ·by_cases c2 : a = g
     ·rw [c2,h2] at z2
      cases z2
     ·rw [kk a o c1 c2 z] at z2
      cases z2
  refine q a _ _ free ?_ (fun x hx=>?_) ?_ zab (fun b o b1 e=>e13 _ _ (kk b o b1 (zad e hg) e)) (s2.same e13)
  ·exact List.Pairwise.imp (fun {a b} (h : Srt.blt a b = true)=>yaO h) (zeB (zhI hn hy))
  ·rw [zdX] at hx
   obtain ⟨y,hy2,rfl⟩:=yaB.mp hx
   obtain ⟨a,rfl,h1,h2⟩:=hy y hy2
   exact ⟨h1,h2⟩
  ·rw [zc5,yab,yab]
   omega
def zoF (K : Frag) : Sp:=fun vs H Q _=>∃ (d L : Addr) (n m : Nat),vs = [.ref d,.int n,.int m]∧n≤40∧m≤40∧LS K L d H∧
 ∀ (r : Addr) (as : List Addr) (rows : List (List Int)) (H' : Hp),H r = none→zaE H' as rows→rows.length = n→zaB rows→(∀ row∈rows,row.length≤m)→H' r = some (.tup (as.map V.ref))→Keep d H H'→LS K L d H'→Q (.ref r) H'
theorem zaB.snoc {rows : List (List Int)} {row : List Int} (R : zaB rows) (h1 : row.Pairwise (· < ·)) (h2 : ∀ x∈row,-(10 ^ 60) < x∧x < 10 ^ 60) : zaB (rows ++ [row]):=by
 refine ⟨fun r hr=>?_,fun r hr=>?_⟩
 ·rcases yaj.mp hr with z | z
  ·exact R.up r z
  ·rw [yal.mp z]
   exact h1
 ·rcases yaj.mp hr with z | z
  ·exact R.key r z
  ·rw [yal.mp z]
   exact h2
theorem znL (T : Txt K mg) (D_l_rows : DF K mg "_law_rows" zfj zee) (F_l_take : FC P w K mg base 2 "_law_take" zbx (zfB K)) (F_l_row : FC P w K mg base 4 "_law_row" zfp (zqo K)) : FC P w K mg base 5 "_law_rows" zee (zoF K):=by
 refine D_l_rows.ok sc_l_rows (fun vs H Q E h=>?_) (fun f cdv A outer s H vs Q E hr h=>?_)
 ·obtain ⟨d,L,n,m,rfl,_⟩:=h
  rfl
 obtain ⟨d,L,n,m,rfl,hn,hm,hs,q⟩:=h
 refine ⟨_,(zaf (zar (i:=3) sc_l_rows.nd rfl (Or.inl rfl) (zbW zac))
   (zaf (zbO PassesOwn.never rfl (zbP rfl T.m_range (zaa (pv 1) zac)) (zas (i:=4) sc_l_rows.nd rfl (Or.inl rfl)) (zaf (zar (i:=5) sc_l_rows.nd rfl (Or.inl rfl) (zau F_l_row hr (zaa (pv 0) (zaa (pv 2) zac))))
   (zaD (zba (zaw zgh (zau F_l_take hr (zaa (pv 0) (zaa zaj zac))) zaj (zaF _)) (zae (zar (i:=5) sc_l_rows.nd rfl (Or.inl rfl) (zbr zac))) zaA)
   (zaD (zba (PW.pt (zjB (zaw zl1 (pv 4) zaj (zaF _)) (zg5 (zaw zgh (zau F_l_take hr (zaa (pv 0) (zaa zaj zac))) zaj (zaF _))))) (zae (zar (i:=5) sc_l_rows.nd rfl (Or.inl rfl) (za0 zbA (pv 3) (zay zcZ (pv 4) zaj) (fun _ _=>rfl)))) zaA)
   (zae (zbT (zha F.plainAttrs_list F.slot_list_append F.type_list_append zbz (pv 3) (zaa (pv 5) zac))))))))
   (zae (zav (zaN zaJ rfl T.m_tuple boot_tuple (zaa (pv 3) zac)))))),?_⟩
 refine ⟨(by show 0≤sizeLine; decide),fun p hp=>?_⟩
 have g0:=zai hp (.lst [])
 have ndT : ∀ {H' : Hp} {a : Addr} {o : List V},LS K L d H'→H' a = some (.tup o)→a≠d:=fun {H' a o} s e z=>by
  obtain ⟨_,_,_,e2,_⟩:=s.ex
  rw [← z,e] at e2
  cases e2
 have nd : ∀ {H' : Hp} {a : Addr},LS K L d H'→H' a = none→a≠d:=fun {H' a} s e z=>by
  obtain ⟨_,_,_,e2,_⟩:=s.ex
  rw [← z,e] at e2
  cases e2
 have hpd : p≠d:=nd hs hp
 refine ⟨_,rfl,_,rfl,by omega,by omega,?_⟩
 rw [ybb]
 refine zbB (n:=n) (fun i σ H2=>∃ (as : List Addr) (rows : List (List Int)) (x4 x5 : Option V),σ = [some (.ref d),some (.int n),some (.int m),some (.ref p),x4,x5]∧H2 p = some (.lst (as.map V.ref))∧zaE H2 as rows∧rows.length = i∧zaB rows∧(∀ row∈rows,row.length≤m)∧(∀ b o,b≠d→b≠p→H b = some o→H2 b = some o)∧LS K L d H2) ?_ ?_ ?_
 ·exact ⟨[],[],_,_,rfl,zab,.nil,rfl,⟨(fun r hr=>nomatch hr),(fun r hr=>nomatch hr)⟩,(fun r hr=>nomatch hr),fun b o _ n e=>g0 b o e,hs.same g0⟩
 ·rintro i σ H2 hi ⟨as,rows,x4,x5,rfl,h2,hA,hl,hR,hlen,k2,s2⟩
  rw [ybX]
  have hal:=hA.length
  have old : ∀ {H3 : Hp} {b : Addr} {o : HO},(∀ b o,b≠d→H2 b = some o→H3 b = some o)→b≠d→b≠p→H b = some o→H3 b = some o:=fun k n1 n2 e=>k _ _ n1 (k2 _ _ n1 n2 e)
  refine ⟨_,rfl,_,rfl,d,L,m,rfl,⟨by omega,by omega⟩,s2,fun a row H3 ha hup hky hlr h3 k3 s3=>?_⟩
  refine ⟨fun σ' H'=>∃ (a : Addr) (row : List Int),σ' = [some (.ref d),some (.int n),some (.int m),some (.ref p),some (.int i),some (.ref a)]∧H' a = some (.tup (row.map V.int))∧row.Pairwise (· < ·)∧(∀ x∈row,-(10 ^ 60) < x∧x < 10 ^ 60)∧row.length≤m∧(∀ b o,b≠d→H2 b = some o→H' b = some o)∧LS K L d H',?_,?_⟩
  ·refine ⟨_,rfl,d,L,4,rfl,by decide,s3,fun v H4 _ _ k4 s4=>⟨rfl,_,rfl,?_⟩⟩
   have h4:=k4 _ _ (ndT s3 h3) h3
   refine ite2 (fun _=>?_) (fun _=>?_)
   ·refine ⟨(by show 0≤sizeLine; decide),fun u hu=>?_⟩
    have su:=zai hu (.tup [])
    exact ⟨u,[],rfl,zab,.nil,(fun x hx=>nomatch hx),yaE _,fun b o n1 e=>su _ _ (k4 _ _ n1 (k3 _ _ n1 e)),s4.same su⟩
   ·exact ⟨a,row,rfl,h4,hup,hky,by omega,fun b o n1 e=>k4 _ _ n1 (k3 _ _ n1 e),s4⟩
  rintro σ' H4 ⟨a,row,rfl,h4,hup,hky,hlr,k4,s4⟩
  refine ⟨fun σ' H'=>∃ (a : Addr) (row : List Int),σ' = [some (.ref d),some (.int n),some (.int m),some (.ref p),some (.int i),some (.ref a)]∧H' a = some (.tup (row.map V.int))∧row.Pairwise (· < ·)∧(∀ x∈row,-(10 ^ 60) < x∧x < 10 ^ 60)∧row.length≤m∧(∀ b o,b≠d→H2 b = some o→H' b = some o)∧LS K L d H',?_,?_⟩
  ·refine ⟨_,rfl,_,_,rfl,rfl,_,rfl,?_⟩
   refine ite2 (fun c=>?_) (fun c=>?_)
   ·have c' : (0 : Int) < (i : Int):=yaO c
    refine ⟨_,rfl,d,L,4,rfl,by decide,s4,fun v H5 _ _ k5 s5=>⟨rfl,_,rfl,?_⟩⟩
    have h5:=k5 _ _ (ndT s4 h4) h4
    refine ite2 (fun _=>?_) (fun _=>?_)
    ·have h5p : H5 p = some (.lst (as.map V.ref)):=k5 _ _ hpd (k4 _ _ hpd h2)
     obtain ⟨b,hb1,hb2⟩:=hA.get (k:=i - 1) (by omega)
     have hb5:=k5 _ _ (ndT s4 (k4 _ _ (ndT s2 hb2) hb2)) (k4 _ _ (ndT s2 hb2) hb2)
     have hat : atI (as.map V.ref) ((i : Int) - 1) = some (.ref b):=by
      rw [show (i : Int) - 1 = ((i - 1 : Nat) : Int) by omega]
      exact ze2 hb1
     refine ⟨_,rfl,_,rfl,_,_,rfl,rfl,_,_,_,_,rfl,rfl,SqL.of h5p,hat,?_⟩
     have hmem : zak rows (i - 1)∈rows:=by
      unfold zak
      rw [yah,yac (show i - 1 < rows.length by omega)]
      exact ya1 _
     exact ⟨b,zak rows (i - 1),rfl,hb5,hR.up _ hmem,hR.key _ hmem,hlen _ hmem,fun b o n1 e=>k5 _ _ n1 (k4 _ _ n1 e),s5⟩
    ·exact ⟨a,row,rfl,h5,hup,hky,hlr,fun b o n1 e=>k5 _ _ n1 (k4 _ _ n1 e),s5⟩
   ·refine iteF ?_
    exact ⟨a,row,rfl,h4,hup,hky,hlr,k4,s4⟩
  rintro σ' H5 ⟨a,row,rfl,h5,hup,hky,hlr,k5,s5⟩
  have h5p : H5 p = some (.lst (as.map V.ref)):=k5 _ _ hpd h2
  have keep : ∀ b o,b≠p→H5 b = some o→upd H5 p (.lst (as.map V.ref ++ [.ref a])) b = some o:=fun b o n e=>by rw [zah n]; exact e
  have ntp : ∀ {b : Addr} {o : List V},H5 b = some (.tup o)→b≠p:=fun {b o} e z=>by
   rw [z,h5p] at e
   cases e
  refine ⟨_,rfl,.inl ⟨rfl,_,SqL.of h5p⟩,_,rfl,_,_,_,rfl,rfl,h5p,zaq (by rw [yab]; omega),?_⟩
  refine ⟨as ++ [a],rows ++ [row],_,_,rfl,?_,?_,by rw [yam,ya5,hl],hR.snoc hup hky,fun r hr=>?_,fun b o n1 n2 e=>keep _ _ n2 (k5 _ _ n1 (k2 _ _ n1 n2 e)),?_⟩
  ·rw [zab,yav]
   rfl
  ·refine zaE.snoc ?_ (keep _ _ (ntp h5) h5)
   have hA5 : zaE H5 as rows:=zaE.keep (p:=d) (fun a row e=>ndT s2 e) k5 hA
   exact zaE.keep (p:=p) (d:=p) (fun a row e=>ntp e) keep hA5
  ·rcases yaj.mp hr with z | z
   ·exact hlen r z
   ·rw [yal.mp z]
    exact hlr
  ·exact LS.put hs hp (fun b o n1 n2 e=>k5 _ _ n1 (k2 _ _ n1 n2 e)) s5
 ·rintro σ H2 ⟨as,rows,x4,x5,rfl,h2,hA,hl,hR,hlen,k2,s2⟩
  refine ⟨_,rfl,p,_,rfl,.inl ⟨SqL.of h2,fun t ht=>?_⟩⟩
  have sn:=zai ht (.tup (as.map V.ref))
  have ht0 : H t = none:=by
   cases e : H t with
   | none=>rfl
   | some o=>
    have:=k2 t o (nd s2 ht) (Ne.symm (zad h2 ht)) e
    rw [ht] at this
    cases this
  exact q t as rows _ ht0 (hA.ext sn) hl hR hlen zab (fun b o n e=>sn _ _ (k2 b o n (zad e hp) e)) (s2.same sn)
theorem zor {ps : List Nat} : atI (zbZ ps) 0 = some .non:=by
 have h:=zgb (ps:=ps) (k:=0) (by omega)
 rw [zfL rfl] at h
 exact h
def zjp (K : Frag) : Sp:=fun vs H Q _=>∃ (t : Addr) (ps : List Nat),vs = [.ref t]∧H t = some (.tup (zbZ ps))∧zax ps∧ps.length≤39∧∀ H',Same H H'→Q (.ref t) H'
theorem zl3 (T : Txt K mg) (D_tree_of : DF K mg "tree_of" zd1 zdw) (F_is_one_of_first : FC P w K mg base 2 "is_one_of_first" zaM (ziy K)) : FC P w K mg base 3 "tree_of" zdw (zjp K):=by
 refine D_tree_of.ok sc_tree_of (fun vs H Q E h=>?_) (fun f cdv A outer s H vs Q E hr h=>?_)
 ·obtain ⟨t,ps,rfl,_⟩:=h
  rfl
 obtain ⟨t,ps,rfl,ht,hT,hz,q⟩:=h
 refine ⟨_,(zaD (zba (zeU (zc7 (zap zeO rfl T.m_isinstance boot_isinstance (zaa (pv 0) (zaa (zbr (zaa (zdb (v:=.ty "list") rfl T.m_list boot_list rfl) (zaa (zdb (v:=.ty "tuple") rfl T.m_tuple boot_tuple rfl) zac))) zac))))) (zae zaY) zaA)
   (zaD (zba (zeU (znu zpq zpq zaj (zap zao rfl T.m_len boot_len (zaa (pv 0) zac)) (zei rfl T.g_MOST_KNOTS))) (zae zaY) zaA)
   (zaD (zba (zaw zlZ (za0 za8 (pv 0) zaj (fun _ _=>rfl)) zlS (zaF _)) (zae zaY) zaA)
   (zaf (zbO PassesOwn.never rfl (zeh rfl T.m_range (zaa zaj (zaa (zap zao rfl T.m_len boot_len (zaa (pv 0) zac)) zac))) (zas (i:=1) sc_tree_of.nd rfl (Or.inl rfl)) (zae (zba (zeU (zc7 (zau F_is_one_of_first hr (zaa (pv 1) (zaa (za0 za8 (pv 0) (pv 1) (fun _ _=>rfl)) zac))))) (zae zaY) zaA)))
   (zae (zav (zaN zaJ rfl T.m_tuple boot_tuple (zaa (pv 0) zac)))))))),?_⟩
 refine ⟨fun σ' H'=>σ' = [some (.ref t),none]∧Same H H',?_,?_⟩
 ·refine ⟨_,rfl,(by show 2≤sizeLine; decide),fun p hp=>?_⟩
  have sp:=zai hp (.tup [.ty "list",.ty "tuple"])
  refine ⟨t,p,rfl,zab,.inr ⟨_,sp _ _ ht⟩,_,rfl,?_⟩
  refine iteF ?_
  exact ⟨rfl,sp⟩
 rintro σ' H1 ⟨rfl,s1⟩
 have h1:=s1 _ _ ht
 refine ⟨fun σ' H'=>σ' = [some (.ref t),none]∧H1 = H',?_,?_⟩
 ·refine ⟨_,rfl,_,_,rfl,.inr (SqT.of h1),_,_,rfl,rfl,_,rfl,?_⟩
  refine zrd (by rw [zat]; omega) ?_
  refine ⟨_,_,rfl,rfl,_,rfl,?_⟩
  rw [yag (by rw [zat]; omega)]
  refine iteF ?_
  exact ⟨rfl,rfl⟩
 rintro σ' H' ⟨rfl,rfl⟩
 refine ⟨fun σ' H'=>σ' = [some (.ref t),none]∧H1 = H',?_,?_⟩
 ·refine ⟨_,rfl,_,_,_,_,rfl,rfl,SqT.of h1,zor,rfl,_,rfl,?_⟩
  refine iteF ?_
  exact ⟨rfl,rfl⟩
 rintro σ' H' ⟨rfl,rfl⟩
 refine ⟨_,rfl,_,_,rfl,.inr (SqT.of h1),1,_,rfl,⟨by omega,by omega,by rw [zat]; omega,by rw [zat]; omega⟩,?_⟩
 have en : ((((zbZ ps).length : Nat) : Int) - 1).toNat = ps.length:=by rw [zat]; omega
 rw [en]
 refine zbB (n:=ps.length) (fun i σ H2=>∃ x1 : Option V,σ = [some (.ref t),x1]∧H2 = H1) ?_ ?_ ?_
 ·exact ⟨_,rfl,rfl⟩
 ·rintro i σ H2 hi ⟨x1,rfl,rfl⟩
  have ek : (1 : Int) + (i : Int) = ((i + 1 : Nat) : Int):=by omega
  rw [ek]
  obtain ⟨u,hu⟩:=zhc (ps:=ps) (k:=i + 1) (by omega) (by omega)
  have hlt:=(zaK hT hu).1
  have hat:=zgb (ps:=ps) (k:=i + 1) (by omega)
  rw [zej hu] at hat
  refine ⟨_,rfl,_,rfl,_,rfl,_,_,_,_,rfl,rfl,SqT.of h1,hat,_,_,rfl,by omega,by omega,_,rfl,?_⟩
  refine iteF ?_
  exact ⟨_,rfl,rfl⟩
 ·rintro σ H2 ⟨x1,rfl,rfl⟩
  refine ⟨_,rfl,t,_,rfl,.inr ⟨SqT.of h1,?_⟩⟩
  exact q H2 s1
def zlv (K : Frag) : Sp:=fun vs H Q _=>∃ (a : Addr) (row : List Int),vs = [.ref a]∧H a = some (.tup (row.map V.int))∧row.Pairwise (· < ·)∧(∀ x∈row,-(10 ^ 60) < x∧x < 10 ^ 60)∧row.length≤900∧
 ∀ (b : Addr) (H' : Hp),H b = none→Same H H'→H' b = some (.tup (row.map V.int))→Q (.ref b) H'
theorem znF (T : Txt K mg) (D_row_of : DF K mg "row_of" zfd zd8) (F_is_key : FC P w K mg base 2 "is_key" zc8 (zix K)) : FC P w K mg base 3 "row_of" zd8 (zlv K):=by
 refine D_row_of.ok sc_row_of (fun vs H Q E h=>?_) (fun f cdv A outer s H vs Q E hr h=>?_)
 ·obtain ⟨a,row,rfl,_⟩:=h
  rfl
 obtain ⟨a,row,rfl,ha,hup,hky,hz,q⟩:=h
 refine ⟨_,(zaD (zba (zeU (zc7 (zap zeO rfl T.m_isinstance boot_isinstance (zaa (pv 0) (zaa (zbr (zaa (zdb (v:=.ty "list") rfl T.m_list boot_list rfl) (zaa (zdb (v:=.ty "tuple") rfl T.m_tuple boot_tuple rfl) zac))) zac))))) (zae zaY) zaA)
   (zaf (zbO PassesOwn.never rfl (zfH (pv 0)) (zas (i:=1) sc_row_of.nd rfl (Or.inl rfl)) (zae (zba (zeU (zc7 (zau F_is_key hr (zaa (pv 1) zac)))) (zae zaY) zaA)))
   (zaD (zba (zaw zhY (zap zkX rfl T.m_len boot_len (zaa (zaN (zm2 rfl) rfl T.m_set boot_set (zaa (pv 0) zac)) zac)) (zap zao rfl T.m_len boot_len (zaa (pv 0) zac)) (zaF _)) (zae zaY) zaA)
   (zae (zav (zaN zaJ rfl T.m_tuple boot_tuple (zaa (zap (zgJ Int) rfl T.m_sorted boot_sorted (zaa (pv 0) zac)) zac))))))),?_⟩
 refine ⟨fun σ' H'=>σ' = [some (.ref a),none]∧Same H H',?_,?_⟩
 ·refine ⟨_,rfl,(by show 2≤sizeLine; decide),fun p hp=>?_⟩
  have sp:=zai hp (.tup [.ty "list",.ty "tuple"])
  refine ⟨a,p,rfl,zab,.inr ⟨_,sp _ _ ha⟩,_,rfl,?_⟩
  refine iteF ?_
  exact ⟨rfl,sp⟩
 rintro σ' H1 ⟨rfl,s1⟩
 have h1:=s1 _ _ ha
 refine ⟨_,rfl,a,rfl,⟨_,SqT.of h1⟩,?_⟩
 refine ziW (xs:=row.map V.int) (fun i σ H2=>∃ x1 : Option V,σ = [some (.ref a),x1]∧H2 = H1) ?_ ?_ ?_ ?_
 ·exact ⟨_,rfl,rfl⟩
 ·rintro i σ H2 _ ⟨x1,rfl,rfl⟩
  exact SqT.of h1
 ·rintro i x σ H2 hx ⟨x1,rfl,rfl⟩
  rw [yau] at hx
  obtain ⟨y,hy,rfl⟩:=ybM.mp hx
  have hb:=hky y (yaJ hy)
  refine ⟨_,rfl,_,true,rfl,.int y true ?_,_,rfl,?_⟩
  ·rw [yag (by split <;> omega)]
  refine iteF ?_
  exact ⟨_,rfl,rfl⟩
 ·rintro σ H2 ⟨x1,rfl,rfl⟩
  have hnd : row.Nodup:=List.Pairwise.imp (fun {a b} (q : a < b)=>by omega) hup
  refine ⟨fun σ' H'=>σ' = [some (.ref a),x1]∧Same H2 H',?_,?_⟩
  ·refine ⟨_,rfl,a,row,rfl,SqT.of h1,by omega,fun l hl=>?_⟩
   have sl:=zai hl (.set (fun k=>(metI row).any (· == k)) (metI row).length)
   refine ⟨l,_,_,rfl,zab,by rw [zgu hnd]; omega,_,rfl,_,_,rfl,.inr (SqT.of (sl _ _ h1)),_,_,rfl,rfl,_,rfl,?_⟩
   refine zmw (by rw [zgu hnd,yab]; omega) ?_
   exact ⟨rfl,sl⟩
  rintro σ' H3 ⟨rfl,s3⟩
  have h3:=s3 _ _ h1
  refine ⟨_,rfl,a,_,row,rfl,SqT.of h3,zal.ints,fun l ws hl hw=>?_⟩
  rw [hw.toInts,zhQ (List.Pairwise.imp (fun {a b} (h : a < b)=>yaf (by omega)) hup)]
  have sl:=zai hl (.lst (row.map V.int))
  refine ⟨l,_,rfl,.inl ⟨SqL.of zab,fun b hb=>?_⟩⟩
  have sb:=zai hb (.tup (row.map V.int))
  have s03 : Same H H3:=s1.trans s3
  exact q b _ (s03.free (sl.free hb)) (s03.trans (sl.trans sb)) zab
def zk0 (H : Hp) (q : Addr) (n : Nat) : Prop:=∃ xs,(H q = some (.lst xs)∨H q = some (.tup xs))∧xs.length = n
theorem zno (l : List Nat) : (l.map fun n : Nat=>(n : Int)).sum = ((l.sum : Nat) : Int):=by
 induction l with
 | nil=>rfl
 | cons a l ih=>
  rw [yao,yaG,ih,yaG,Int.natCast_add]
def zlz (K : Frag) : Sp:=fun vs H Q _=>∃ (a : Addr) (qs : List Addr) (ls : List Nat),vs = [.ref a]∧(H a = some (.lst (qs.map V.ref))∨H a = some (.tup (qs.map V.ref)))∧Paired (zk0 H) qs ls∧ls.length≤900∧∀ H',Same H H'→Q (.int ((ls.sum : Nat) : Int)) H'
theorem zpy (T : Txt K mg) (D_long_together : DF K mg "long_together" zbt za4) : FC P w K mg base 1 "long_together" za4 (zlz K):=by
 refine D_long_together.ok sc_long_together (fun vs H Q E h=>?_) (fun f cdv A outer s H vs Q E hr h=>?_)
 ·obtain ⟨a,qs,ls,rfl,_⟩:=h
  rfl
 obtain ⟨a,qs,ls,rfl,ha,hP,hz,q⟩:=h
 have hl:=Paired.length hP
 refine ⟨_,(zae (zav (zap (zm1 rfl) rfl T.m_sum boot_sum (zaa (zcw (N:=["each"]) (own:=1) (cap:=[]) rfl (zqC (pv 0)) ⟨rfl,rfl,rfl,rfl,rfl,rfl⟩ (fun _ _ _ _ _=>(zas (i:=0) (show List.Nodup (["each"] : List Str) by decide +kernel) rfl (Or.inl rfl))) (fun _ _ _ _ _=>zcQ) (fun _ _ _ _ _=>(zap (zhv (K:=K)) rfl T.m_len boot_len (zaa (pv 0) zac)))) zac)))),?_⟩
 have step : ∀ {D : Addr} (hD : H D = none) {i m : Nat} {x : V} {σ : L2.St} {H2 : Hp} {fin : Nat→L2.St→Hp→Prop},(qs.map V.ref)[i]? = some x→i + m = (qs.map V.ref).length→(∀ b o,b≠D→H b = some o→H2 b = some o)→H2 D = some (.lst ((ls.take i).map nV))→∃ xs,(SqL K H2 (match x with | .ref q=>q | _=>0) xs∨SqT K H2 (match x with | .ref q=>q | _=>0) xs)∧(∃ q,x = .ref q)∧ls.take (i + 1) = ls.take i ++ [xs.length]∧i < ls.length:=by
  intro D hD i m x σ H2 fin hx hm k2 h2
  rw [yau] at hx
  obtain ⟨qq,hq,rfl⟩:=ybM.mp hx
  obtain ⟨n,hn,hL⟩ : ∃ n,ls[i]? = some n∧zk0 H qq n:=by
   have : ∀ {qs : List Addr} {ls : List Nat} {i : Nat},Paired (zk0 H) qs ls→qs[i]? = some qq→∃ n,ls[i]? = some n∧zk0 H qq n:=by
    intro qs ls i r
    induction r generalizing i with
    | nil=>intro h; simp at h
    | cons a _ ih=>
     intro h
     cases i with
     | zero=>
      have e:=yad (show some _ = some qq from h)
      subst e
      exact ⟨_,rfl,a⟩
     | succ i=>
      obtain ⟨n,h1,h2⟩:=ih (i:=i) (by simpa using h)
      exact ⟨n,by simpa using h1,h2⟩
   exact this hP hq
  have hi:=(yan.mp hn).1
  obtain ⟨xs,hxs,hxl⟩:=hL
  refine ⟨xs,?_,⟨qq,rfl⟩,?_,hi⟩
  ·rcases hxs with hxs | hxs
   ·exact .inl (SqL.of (k2 _ _ (zad hxs hD) hxs))
   ·exact .inr (SqT.of (k2 _ _ (zad hxs hD) hxs))
  ·rw [yaP hi,(yan.mp hn).2,hxl]
 have end_ : ∀ {D : Addr} {H2 : Hp},H D = none→H2 D = some (.lst (ls.map nV))→But D H H2→(fun xs H Q=>∃ (p : Addr) (ns : List Int),xs = [V.ref p]∧SqL K H p (ns.map V.int)∧Q (.int ns.sum) H) [V.ref D] H2 Q:=fun {D H2} hD h2 k2=>by
  refine ⟨D,ls.map fun n : Nat=>(n : Int),rfl,?_,?_⟩
  ·rw [ybd]
   exact SqL.of h2
  ·rw [zno]
   exact q H2 (fun b o e=>k2 b o (zad e hD) e)
 rcases ha with ha | ha
 ·refine ⟨_,rfl,a,rfl,.inl ⟨⟨_,SqL.of ha⟩,fun D hD=>?_⟩⟩
  refine zcG (xs:=qs.map V.ref) (fun i σ H2=>∃ x0 : Option V,σ = [x0]∧H2 D = some (.lst ((ls.take i).map nV))∧But D H H2) ?_ ?_ ?_ ?_
  ·exact ⟨_,rfl,zab,fun b o n e=>by rw [zah n]; exact e⟩
  ·rintro i σ H2 _ ⟨x0,rfl,_,k2⟩
   exact k2.sq (SqL.of ha) hD
  ·rintro i m x σ H2 hx hm ⟨x0,rfl,h2,k2⟩
   obtain ⟨xs,hS,⟨qq,rfl⟩,htk,hi⟩:=step hD (σ:=[x0]) (fin:=fun _ _ _=>True) hx hm k2 h2
   rw [yab] at hm
   refine zeq ?_
   refine ⟨_,rfl,qq,xs,rfl,hS,_,h2,zaq (by rw [yab,yap]; omega),m - 1,by omega,by rw [yab]; omega,_,rfl,?_,fun b o n e=>by rw [zah n]; exact k2 b o n e⟩
   rw [zab,htk,yav]
   rfl
  ·rintro σ H2 ⟨x0,rfl,h2,k2⟩
   rw [yab,yar (by omega)] at h2
   exact end_ hD h2 k2
 ·refine ⟨_,rfl,a,rfl,.inr ⟨⟨_,SqT.of ha⟩,fun D hD=>?_⟩⟩
  refine zet (xs:=qs.map V.ref) (fun i σ H2=>∃ x0 : Option V,σ = [x0]∧H2 D = some (.lst ((ls.take i).map nV))∧But D H H2) ?_ ?_ ?_ ?_
  ·exact ⟨_,rfl,zab,fun b o n e=>by rw [zah n]; exact e⟩
  ·rintro i σ H2 _ ⟨x0,rfl,_,k2⟩
   exact SqT.of (k2 _ _ (zad ha hD) ha)
  ·rintro i m x σ H2 hx hm ⟨x0,rfl,h2,k2⟩
   obtain ⟨xs,hS,⟨qq,rfl⟩,htk,hi⟩:=step hD (σ:=[x0]) (fin:=fun _ _ _=>True) hx hm k2 h2
   rw [yab] at hm
   refine zeq ?_
   refine ⟨_,rfl,qq,xs,rfl,hS,_,h2,zaq (by rw [yab,yap]; omega),m - 1,by omega,by rw [yab]; omega,_,rfl,?_,fun b o n e=>by rw [zah n]; exact k2 b o n e⟩
   rw [zab,htk,yav]
   rfl
  ·rintro σ H2 ⟨x0,rfl,h2,k2⟩
   rw [yab,yar (by omega)] at h2
   exact end_ hD h2 k2
def zhM (K : Frag) : Sp:=fun vs H Q _=>∃ (t r : Addr) (ps : List Nat) (rows : List (List Int)) (as : List Addr),vs = [.ref t,.ref r]∧H t = some (.tup (zbZ ps))∧H r = some (.tup (as.map V.ref))∧zaE H as rows∧rows.length = ps.length + 1∧zax ps∧zaB rows∧ps.length≤40∧zbQ rows≤300∧
 ∀ (st rs : Addr) (bs : List Addr) (H' : Hp),H st = none→Same H H'→zbp H' st ps rows t rs bs→Q (.ref st) H'
theorem zaE.lens {H : Hp} : ∀ {as : List Addr} {rows : List (List Int)},zaE H as rows→Paired (zk0 H) as (rows.map List.length)
 | _,_,.nil=>.nil
 | _,_,.cons h t=>.cons ⟨_,.inr h,by rw [yab]⟩ (zaE.lens t)
theorem zfr {rows : List (List Int)} {row : List Int} (h : row∈rows) : row.length≤zbQ rows:=by
 unfold zbQ
 induction rows with
 | nil=>cases h
 | cons r rows ih=>
  rw [yao,yaG]
  rcases yak.mp h with e | e
  ·rw [e]
   omega
  ·have:=ih e
   omega
theorem zkA (T : Txt K mg) (D_stand_of : DF K mg "stand_of" zdp zcR) (F_row_of : FC P w K mg base 3 "row_of" zd8 (zlv K)) (F_long_together : FC P w K mg base 1 "long_together" za4 (zlz K)) : FC P w K mg base 4 "stand_of" zcR (zhM K):=by
 refine D_stand_of.ok sc_stand_of (fun vs H Q E h=>?_) (fun f cdv A outer s H vs Q E hr h=>?_)
 ·obtain ⟨t,r,ps,rows,as,rfl,_⟩:=h
  rfl
 obtain ⟨t,r,ps,rows,as,rfl,ht,hr0,hA,hlen,hT,hR,hfew,hkeys,q⟩:=h
 have hal:=hA.length
 refine ⟨_,(zaD (zba (zeU (zc7 (zap zeO rfl T.m_isinstance boot_isinstance (zaa (pv 1) (zaa (zbr (zaa (zdb (v:=.ty "list") rfl T.m_list boot_list rfl) (zaa (zdb (v:=.ty "tuple") rfl T.m_tuple boot_tuple rfl) zac))) zac))))) (zae zaY) zaA)
   (zaD (zba (zaw zqK (zap zao rfl T.m_len boot_len (zaa (pv 1) zac)) (zap zao rfl T.m_len boot_len (zaa (pv 0) zac)) (zaF _)) (zae zaY) zaA)
   (zaf (zar (i:=2) sc_stand_of.nd rfl (Or.inl rfl) (zaN zaJ rfl T.m_tuple boot_tuple (zaa (zcw (N:=["row"]) (own:=1) (cap:=[]) rfl (zfH (pv 1)) ⟨rfl,rfl,rfl,rfl,rfl,rfl⟩ (fun _ _ _ _ _=>(zas (i:=0) (show List.Nodup (["row"] : List Str) by decide +kernel) rfl (Or.inl rfl))) (fun _ _ _ _ _=>zcQ) (fun _ _ _ _ _=>(zau F_row_of hr (zaa (pv 0) zac)))) zac)))
   (zaD (zba (zaw zl1 (zau F_long_together hr (zaa (pv 2) zac)) (zei rfl T.g_MOST_KEYS) (zaF _)) (zae zaY) zaA)
   (zae (zav (zbr (zaa (pv 0) (zaa (pv 2) zac))))))))),?_⟩
 refine ⟨fun σ' H'=>σ' = [some (.ref t),some (.ref r),none]∧Same H H',?_,?_⟩
 ·refine ⟨_,rfl,(by show 2≤sizeLine; decide),fun p hp=>?_⟩
  have sp:=zai hp (.tup [.ty "list",.ty "tuple"])
  refine ⟨r,p,rfl,zab,.inr ⟨_,sp _ _ hr0⟩,_,rfl,?_⟩
  refine iteF ?_
  exact ⟨rfl,sp⟩
 rintro σ' H1 ⟨rfl,s1⟩
 have h1t:=s1 _ _ ht
 have h1r:=s1 _ _ hr0
 have A1:=hA.ext s1
 refine ⟨fun σ' H'=>σ' = [some (.ref t),some (.ref r),none]∧H1 = H',?_,?_⟩
 ·refine ⟨_,rfl,_,_,rfl,.inr (SqT.of h1r),_,rfl,_,_,rfl,.inr (SqT.of h1t),rfl,_,rfl,?_⟩
  refine zkL (by rw [yab,zat,hal,hlen]) ?_
  exact ⟨rfl,rfl⟩
 rintro σ' H' ⟨rfl,rfl⟩
 refine ⟨_,rfl,r,rfl,⟨_,SqT.of h1r⟩,fun D hD=>?_⟩
 refine zet (xs:=as.map V.ref) (fun i σ H2=>∃ (bs : List Addr) (x0 : Option V),σ = [x0]∧H2 D = some (.lst (bs.map V.ref))∧zaE H2 bs (rows.take i)∧But D H1 H2) ?_ ?_ ?_ ?_
 ·exact ⟨[],_,rfl,zab,.nil,fun b o n e=>by rw [zah n]; exact e⟩
 ·rintro i σ H2 _ ⟨bs,x0,rfl,_,_,k2⟩
  exact SqT.of (k2 _ _ (zad h1r hD) h1r)
 ·rintro i m x σ H2 hx hm ⟨bs,x0,rfl,h2,hB,k2⟩
  have hbl:=hB.length
  rw [yap] at hbl
  rw [yab] at hm
  have hi : i < rows.length:=by
   have:=(yan.mp hx).1
   rw [yab] at this
   omega
  obtain ⟨b,hb1,hb2⟩:=A1.get hi
  rw [yau,hb1] at hx
  have:=yad hx
  subst this
  have hmem : zak rows i∈rows:=by
   unfold zak
   rw [yah,yac hi]
   exact ya1 hi
  have hrl:=zfr hmem
  have htk : rows.take (i + 1) = rows.take i ++ [zak rows i]:=by
   rw [yaP hi]
   unfold zak
   rw [yah,yac hi]
   rfl
  have h2b:=k2 _ _ (zad hb2 hD) hb2
  refine zeq ?_
  refine ⟨_,rfl,b,zak rows i,rfl,h2b,hR.at_up i,hR.at_key i,by omega,fun c H3 hc s3 h3=>?_⟩
  have h3D:=s3 _ _ h2
  have ncD : ∀ {x : Addr} {o : List V},H3 x = some (.tup o)→x≠D:=fun {x o} e z=>by
   rw [z,h3D] at e
   cases e
  have kD : ∀ b o,b≠D→H3 b = some o→upd H3 D (.lst (bs.map V.ref ++ [.ref c])) b = some o:=fun b o n e=>by rw [zah n]; exact e
  refine ⟨_,h3D,zaq (by rw [yab]; omega),m - 1,by omega,by rw [yab]; omega,bs ++ [c],_,rfl,?_,?_,fun b o n e=>kD _ _ n (s3 _ _ (k2 b o n e))⟩
  ·rw [zab,yav]
   rfl
  ·rw [htk]
   exact zaE.snoc (zaE.keep (p:=D) (d:=D) (fun a row e=>ncD e) kD (hB.ext s3)) (kD _ _ (ncD h3) h3)
 rintro σ H2 ⟨bs,x0,rfl,h2,hB,k2⟩
 rw [yab,yar (by omega)] at hB
 have s2 : Same H1 H2:=fun b o e=>k2 b o (zad e hD) e
 refine ⟨D,_,rfl,.inl ⟨SqL.of h2,fun rs hrs=>?_⟩⟩
 have s3:=zai hrs (.tup (bs.map V.ref))
 have h3 : upd H2 rs (.tup (bs.map V.ref)) rs = some (.tup (bs.map V.ref)):=zab
 have s13:=s2.trans s3
 have B3:=hB.ext s3
 generalize upd H2 rs (.tup (bs.map V.ref)) = H3 at s3 h3 s13 B3 ⊢
 refine ⟨fun σ' H'=>σ' = [some (.ref t),some (.ref r),some (.ref rs)]∧Same H3 H',?_,?_⟩
 ·refine ⟨_,rfl,rs,bs,rows.map List.length,rfl,.inr h3,B3.lens,by rw [yab]; omega,fun H4 s4=>?_⟩
  have hk : (rows.map List.length).sum = zbQ rows:=rfl
  rw [hk]
  refine ⟨_,_,rfl,rfl,_,rfl,?_⟩
  refine zmw (by omega) ?_
  exact ⟨rfl,s4⟩
 rintro σ' H4 ⟨rfl,s4⟩
 have s04:=s1.trans (s13.trans s4)
 refine ⟨_,rfl,_,rfl,(by show 2≤sizeLine; decide),fun st hst=>?_⟩
 have ss:=zai hst (.tup [.ref t,.ref rs])
 exact q st rs bs _ (s04.free hst) (s04.trans ss) ⟨zab,ss _ _ (s04 _ _ ht),ss _ _ (s4 _ _ h3),(B3.ext s4).ext ss,hlen,hT,hR,hfew,by omega⟩
theorem zmX (xs : List V) (a : Nat) : cutV xs none (some (a : Int)) = xs.take a:=by
 unfold cutV
 rw [zcu,show HT.sIx xs.length 0 none = 0 from rfl,yb9,Nat.sub_zero]
 by_cases h : a≤xs.length
 ·rw [ybq h]
 ·rw [ycn (by omega),yar (yaa _),yar (by omega)]
theorem zf3 (xs : List V) (a : Nat) : cutV xs (some (a : Int)) none = xs.drop a:=by
 unfold cutV
 rw [zcu,show HT.sIx xs.length xs.length none = xs.length from rfl]
 by_cases h : a≤xs.length
 ·rw [ybq h,yar (by rw [yaL]; exact yaa _)]
 ·rw [ycn (by omega),yaZ (yaa _),yaZ (show xs.length≤a by omega),List.take_nil]
theorem zlG {zs : List V} {k : Nat} {x : V} (h : k < zs.length) : zs.set k x = zs.take k ++ [x] ++ zs.drop (k + 1):=by
 rw [List.set_eq_take_append_cons_drop,if_pos h,yaK]
 rfl
def zls (K : Frag) : Sp:=fun vs H Q _=>∃ (st t rs : Addr) (zs : List V) (k : Nat) (x : V),vs = [.ref st,.int k,x]∧H st = some (.tup [.ref t,.ref rs])∧H rs = some (.tup zs)∧k < zs.length∧zs.length≤60∧
 ∀ (st' rs' : Addr) (H' : Hp),Same H H'→H' st' = some (.tup [.ref t,.ref rs'])→H' rs' = some (.tup (zs.set k x))→Q (.ref st') H'
theorem zpt (T : Txt K mg) (D_with_row : DF K mg "with_row" zdo zb9) : FC P w K mg base 1 "with_row" zb9 (zls K):=by
 refine D_with_row.ok sc_with_row (fun vs H Q E h=>?_) (fun f cdv A outer s H vs Q E hr h=>?_)
 ·obtain ⟨st,t,rs,zs,k,x,rfl,_⟩:=h
  rfl
 obtain ⟨st,t,rs,zs,k,x,rfl,hst,hrs,hk,hz,q⟩:=h
 refine ⟨_,(zaf (zar (i:=3) sc_with_row.nd rfl (Or.inl rfl) (za0 za8 (pv 0) zaj (fun _ _=>rfl)))
   (zae (zav (zbr (zaa (za0 za8 (pv 0) zaj (fun _ _=>rfl)) (zaa (zay zhg (zay ziE (zcq zeC (pv 3) zeF (zcv (pv 1))) (zbr (zaa (pv 2) zac))) (zcq zeC (pv 3) (zcv (zay zby (pv 1) zaj)) zeF)) zac)))))),?_⟩
 refine ⟨_,rfl,_,_,_,_,rfl,rfl,SqT.of hst,rfl,?_⟩
 refine ⟨_,rfl,_,_,_,_,rfl,rfl,SqT.of hst,rfl,?_⟩
 refine ⟨_,rfl,_,rfl,_,rfl,rs,zs,rfl,SqT.of hrs,(fun z=>?_),fun _ p hp=>?_⟩
 ·have:=z.2
  rw [zcu] at this
  omega
 rw [zmX]
 have g1:=zai hp (.tup (zs.take k))
 have w1 : upd H p (.tup (zs.take k)) p = some (.tup (zs.take k)):=zab
 generalize upd H p (.tup (zs.take k)) = H1 at g1 w1 ⊢
 refine ⟨_,rfl,(by show 1≤sizeLine; decide),fun m hm=>?_⟩
 have g2:=zai hm (.tup [x])
 have w2 : upd H1 m (.tup [x]) m = some (.tup [x]):=zab
 have w12:=g2 _ _ w1
 generalize upd H1 m (.tup [x]) = H2 at g2 w2 w12 ⊢
 have hl1 : (zs.take k).length = k:=by rw [yap]; omega
 have rest : ∀ (u : Addr) (H3 : Hp),Same H2 H3→H3 u = some (.tup (zs.take k ++ [x]))→∀ {Q' : VK},(∀ (v : Addr) (H' : Hp),Same H3 H'→H' v = some (.tup (zs.set k x))→Q' (.ref v) H')→∀ (p2 : Addr) (H4 : Hp),Same H3 H4→H4 p2 = some (.tup (zs.drop (k + 1)))→zpe K (.ref u) (.ref p2) H4 Q':=fun u H3 _ hu Q' q' p2 H4 s4 hp2=>by
  refine ⟨u,p2,_,_,rfl,rfl,SqT.of (s4 _ _ hu),SqT.of hp2,by simp,?_,fun z=>?_,fun z v hv=>?_⟩
  ·refine ya2 (zaq ?_)
   rw [yam,hl1,yaL,ya5]
   omega
  ·refine q' u H4 s4 ?_
   rw [zlG hk,z,yaH]
   exact s4 _ _ hu
  ·refine q' v _ (s4.trans (zai hv _)) ?_
   rw [zab,zlG hk]
 have fin : ∀ (u : Addr) (H3 : Hp),Same H2 H3→H3 u = some (.tup (zs.take k ++ [x]))→∀ (v : Addr) (H' : Hp),Same H3 H'→H' v = some (.tup (zs.set k x))→∀ p,H' p = none→Q (.ref p) (upd H' p (.tup [.ref t,.ref v])):=fun u H3 s3 _ v H' s' hv p hp=>by
  have gp:=zai hp (.tup [.ref t,.ref v])
  exact q p v _ (g1.trans (g2.trans (s3.trans (s'.trans gp)))) zab (gp _ _ hv)
 have e1k : (k : Int) + 1 = ((k + 1 : Nat) : Int):=by omega
 refine ⟨p,m,_,_,rfl,rfl,SqT.of w12,SqT.of w2,by simp,ya2 (zaq (by rw [hl1]; show k + 1≤1000; omega)),fun z=>?_,fun z u hu=>?_⟩
 ·have e0 : zs.take k ++ [x] = [x]:=by rw [z]; rfl
  refine ⟨_,rfl,_,rfl,_,_,rfl,rfl,_,rfl,rs,zs,rfl,SqT.of (g2 _ _ (g1 _ _ hrs)),(fun z=>?_),fun _ p2 hp2=>?_⟩
  ·have:=z.1
   rw [e1k,zcu] at this
   omega
  rw [e1k,zf3]
  exact rest m H2 (fun _ _ e=>e) (by rw [e0]; exact w2) (fun v H' s' hv=>⟨(by show 2≤sizeLine; decide),fin m H2 (fun _ _ e=>e) (by rw [e0]; exact w2) v H' s' hv⟩) p2 _ (zai hp2 _) zab
 ·have gu:=zai hu (.tup (zs.take k ++ [x]))
  have wu : upd H2 u (.tup (zs.take k ++ [x])) u = some (.tup (zs.take k ++ [x])):=zab
  generalize upd H2 u (.tup (zs.take k ++ [x])) = H3 at gu wu ⊢
  refine ⟨_,rfl,_,rfl,_,_,rfl,rfl,_,rfl,rs,zs,rfl,SqT.of (gu _ _ (g2 _ _ (g1 _ _ hrs))),(fun z=>?_),fun _ p2 hp2=>?_⟩
  ·have:=z.1
   rw [e1k,zcu] at this
   omega
  rw [e1k,zf3]
  exact rest u H3 gu wu (fun v H' s' hv=>⟨(by show 2≤sizeLine; decide),fin u H3 gu wu v H' s' hv⟩) p2 _ (zai hp2 _) zab
def zqr (P : Program) (w : World) (K : Frag) (mg : Str→Option Value) (base : Heap) : Sp:=fun vs H Q _=>∃ (n : Nat) (f : Addr) (ps : List Str) (sp : Sp) (b : Nat→Bool) (R : Hp→Prop),vs = [.int n,.ref f]∧FV P w K mg base 1 f ps sp∧R H∧
 (∀ (i : Nat) (H1 : Hp) (Q1 : VK),i < n→R H1→(∀ H2,R H2→Q1 (.bl (b i)) H2)→sp [.int i] H1 Q1 E0)∧(∀ i j,i≤j→j < n→b j = true→b i = true)∧
 ∀ (m : Nat) (H' : Hp),m≤n→(∀ i,i < m→b i = true)→(∀ i,m≤i→i < n→b i = false)→R H'→Q (.int m) H'
def zqd : L2.St→Hp→Nat:=fun σ _=>match σ with
 | [_,_,some (.int lo),some (.int hi),_]=>(hi - lo).toNat
 | _=>0
theorem zqS (T : Txt K mg) (D_how_many_below : DF K mg "how_many_below" zbj zbc) : FC P w K mg base 2 "how_many_below" zbc (zqr P w K mg base):=by
 refine D_how_many_below.ok sc_how_many_below (fun vs H Q E h=>?_) (fun f cdv A outer s H vs Q E hr h=>?_)
 ·obtain ⟨n,f,ps,sp,b,R,rfl,_⟩:=h
  rfl
 obtain ⟨n,f,ps,sp,b,R,rfl,hF,hR,hask,hmono,q⟩:=h
 refine ⟨_,(zaf (zar (i:=2) sc_how_many_below.nd rfl (Or.inl rfl) zaj)
   (zaf (zar (i:=3) sc_how_many_below.nd rfl (Or.inl rfl) (pv 0))
   (zaf (zjF PassesOwn.never (zaw zhY (pv 2) (pv 3) (zaF _)) (zaf (zar (i:=4) sc_how_many_below.nd rfl (Or.inl rfl) (zay ziD (zay zby (pv 2) (pv 3)) zaj))
   (zae (zba (zc7 (znA (kr:=1) hr (pv 1) (zaa (pv 4) zac))) (zae (zar (i:=2) sc_how_many_below.nd rfl (Or.inl rfl) (zay zby (pv 4) zaj))) (zae (zar (i:=3) sc_how_many_below.nd rfl (Or.inl rfl) (pv 4)))))))
   (zae (zav (pv 2)))))),?_⟩
 refine ⟨_,rfl,?_⟩
 refine zhz (fun σ H2=>∃ (lo hi : Nat) (x4 : Option V),σ = [some (.int n),some (.ref f),some (.int lo),some (.int hi),x4]∧lo≤hi∧hi≤n∧(∀ i,i < lo→b i = true)∧(∀ i,hi≤i→i < n→b i = false)∧R H2) (fun σ H2=>∃ (lo : Nat) (x4 : Option V),σ = [some (.int n),some (.ref f),some (.int lo),some (.int lo),x4]∧lo≤n∧(∀ i,i < lo→b i = true)∧(∀ i,lo≤i→i < n→b i = false)∧R H2) zqd ?_ ?_ ?_ ?_
 ·exact ⟨0,n,_,rfl,yaE _,yaa _,fun i h=>absurd h (ybU _),fun i h1 h2=>absurd h2 (Nat.not_lt.mpr h1),hR⟩
 ·rintro σ H2 ⟨lo,hi,x4,rfl,h1,h2,hb1,hb2,hR2⟩
  refine ⟨_,rfl,_,rfl,_,_,rfl,rfl,_,rfl,?_⟩
  refine ite2 (fun c=>?_) (fun c=>?_)
  ·have c1 : (lo : Int) < (hi : Int):=yaO c
   have em : ((lo : Int) + (hi : Int)) / 2 = (((lo + hi) / 2 : Nat) : Int):=by omega
   have m1 : lo≤(lo + hi) / 2:=by omega
   have m2 : (lo + hi) / 2 < hi:=by omega
   refine ⟨_,rfl,_,rfl,_,_,rfl,rfl,_,_,rfl,rfl,⟨by decide,by decide⟩,?_⟩
   refine ⟨_,rfl,f,1,ps,sp,rfl,hF,yaa _,_,rfl,?_⟩
   show sp [V.int (((lo : Int) + (hi : Int)) / 2)] H2 _ E0
   rw [em]
   refine hask ((lo + hi) / 2) H2 _ (by omega) hR2 fun H3 hR3=>⟨_,rfl,?_⟩
   cases hbm : b ((lo + hi) / 2) with
   | true=>
    refine iteT ?_
    refine ⟨_,rfl,_,_,rfl,rfl,⟨(lo + hi) / 2 + 1,hi,some (V.int (((lo : Int) + (hi : Int)) / 2)),?_,by omega,h2,fun i hi'=>hmono i ((lo + hi) / 2) (by omega) (by omega) hbm,hb2,hR3⟩,?_⟩
    ·show [some (V.int n),some (V.ref f),some (V.int (((lo : Int) + (hi : Int)) / 2 + 1)),some (V.int hi),some (V.int (((lo : Int) + (hi : Int)) / 2))] = _
     rw [em,Int.natCast_add]
     rfl
    ·show ((hi : Int) - (((lo : Int) + (hi : Int)) / 2 + 1)).toNat < ((hi : Int) - (lo : Int)).toNat
     omega
   | false=>
    refine iteF ?_
    refine ⟨_,rfl,⟨lo,(lo + hi) / 2,some (V.int (((lo : Int) + (hi : Int)) / 2)),?_,m1,by omega,hb1,fun i hi' hin=>?_,hR3⟩,?_⟩
    ·show [some (V.int n),some (V.ref f),some (V.int lo),some (V.int (((lo : Int) + (hi : Int)) / 2)),some (V.int (((lo : Int) + (hi : Int)) / 2))] = _
     rw [em]
    ·cases hbi : b i with
     | false=>rfl
     | true=>
      have:=hmono ((lo + hi) / 2) i hi' hin hbi
      rw [hbm] at this
      cases this
    ·show ((((lo : Int) + (hi : Int)) / 2) - (lo : Int)).toNat < ((hi : Int) - (lo : Int)).toNat
     omega
  ·have c1 : ¬ (lo : Int) < (hi : Int):=of_decide_eq_false (Bool.eq_false_iff.mpr c)
   have e : hi = lo:=by omega
   subst e
   exact ⟨hi,_,rfl,h2,hb1,hb2,hR2⟩
 ·intro σ H Q Q' m h
  obtain ⟨y1,e3,y2,e4,i2,j2,f2,g2,b2,e5,q⟩:=h
  exact ⟨y1,e3,y2,e4,i2,j2,f2,g2,b2,e5,m _ _ q⟩
 rintro σ H2 ⟨lo,x4,rfl,h2,hb1,hb2,hR2⟩
 refine ⟨_,rfl,?_⟩
 exact q lo H2 h2 hb1 hb2 hR2
def zeu (row : List Int) (key : Int) : Nat:=(row.filter fun x=>decide (x < key)).length
theorem zoq {row : List Int} {key : Int} {m : Nat} (hm : m≤row.length) (h1 : ∀ i,i < m→decide (row.getD i 0 < key) = true) (h2 : ∀ i,m≤i→i < row.length→decide (row.getD i 0 < key) = false) : zeu row key = m:=by
 unfold zeu
 conv=>lhs; rw [← yaM m row]
 rw [ybl,yam]
 have e1 : (row.take m).filter (fun x=>decide (x < key)) = row.take m:=by
  rw [List.filter_eq_self]
  intro x hx
  obtain ⟨i,hi,rfl⟩:=ya3 hx
  rw [yap] at hi
  have:=h1 i (by omega)
  rw [yah,yac (by omega)] at this
  rw [List.getElem_take]
  exact this
 have e2 : (row.drop m).filter (fun x=>decide (x < key)) = []:=by
  rw [ybE]
  intro x hx
  obtain ⟨i,hi,rfl⟩:=ya3 hx
  rw [yaL] at hi
  have:=h2 (m + i) (by omega) (by omega)
  rw [yah,yac (by omega)] at this
  rw [List.getElem_drop]
  intro z
  rw [show decide (row[m + i] < key) = false from this] at z
  cases z
 rw [e1,e2,yap,ybo]
 omega
abbrev lamQ : Str:=(envOfC ("place" : Str) (zag zeD) 0 0 .none).qual ++ "<lambda>"
abbrev zep : Pos:=⟨45,36,45,60⟩
def ziv (K : Frag) (mp : Addr) : Sp:=fun vs H Q _=>∃ (r : Addr) (row : List Int) (key : Int),vs = [.ref r,.int key]∧H r = some (.tup (row.map V.int))∧row.Pairwise (· < ·)∧zbE H mp zep lamQ∧
 ∀ H' : Hp,Gro mp H H'→zbE H' mp zep lamQ→Q (.int (zeu row key : Nat)) H'
theorem znG (T : Txt K mg) {mc mp : Addr} (D_place : DFT K mg "place" zeD zd9 mc mp) (hBM : BMAt mg base) (F_how_many_below : ∀ base,FC P w K mg base 2 "how_many_below" zbc (zqr P w K mg base)) : FC P w K mg base 3 "place" zd9 (ziv K mp):=by
 refine D_place.ok sc_place (fun vs H Q E h=>?_) (fun f A outer s H vs Q E hr h=>?_)
 ·obtain ⟨r,row,key,rfl,_⟩:=h
  rfl
 obtain ⟨r,row,key,rfl,h0,hup,hT,q⟩:=h
 refine ⟨_,(zae (zav (zkv (kf:=0) F_how_many_below hr (zap zao rfl T.m_len boot_len (zaa (pv 0) zac)) (zq4 (osc:=zag zeD) (N:=["row","key"]) (ps:=["at"]) (caps:=["key","row"]) (cap:=[1,0]) ⟨rfl,rfl,rfl,by decide +kernel,by decide +kernel,by decide +kernel,by decide +kernel⟩ (by decide +kernel) (by decide +kernel) rfl rfl rfl rfl (fun _ _ _ _ us hl=>match us,hl with | [_],_=>rfl) (fun _=>rfl)) rfl D_place.hd hBM (fun _ _ _ _ _ _ _ _ _=>(zfK zhY (za0 (zmu (K:=K)) (pv 2) (pv 0) (fun _ _=>rfl)) (pv 1) (zaF _)))))),?_⟩
 refine ⟨_,rfl,_,_,rfl,.inr (SqT.of h0),hT,[.int key,.ref r],rfl,?_,fun base f c' H2 hg hT2 hC hV=>?_⟩
 ·intro j i v h1 h2
  rcases j with _ | _ | j
  ·cases h1; cases h2; rfl
  ·cases h1; cases h2; rfl
  ·cases h1
 have nmp : r≠mp:=fun z=>by
  obtain ⟨tab,e,_⟩:=hT.ex
  rw [← z,h0] at e
  cases e
 have h2r:=hg _ _ nmp h0
 rw [yab]
 refine ⟨row.length,f,_,_,fun i=>decide (row.getD i 0 < key),fun H'=>H' = H2,rfl,hV,rfl,fun i H1 Q1 hi hR hQ=>?_,fun i j hij hj hb=>?_,fun m H' hm hb1 hb2 hR=>?_⟩
 ·subst hR
  refine ⟨rfl,hC,?_⟩
  have hat : atI (row.map V.int) ((i : Nat) : Int) = some (.int (row.getD i 0)):=zeQ (by rw [yau,yac hi,yah,yac hi]; rfl)
  refine ⟨_,rfl,_,rfl,_,_,_,_,rfl,rfl,SqT.of h2r,hat,_,rfl,_,_,rfl,rfl,?_⟩
  exact hQ _ rfl
 ·refine yag ?_
  have hb:=yaO hb
  by_cases e : i = j
  ·subst e
   exact hb
  ·have:=ybj.mp hup i j (by omega) hj (by omega)
   rw [yah,yac (by omega)] at hb ⊢
   exact Int.lt_trans this hb
 ·subst hR
  have e:=zoq hm hb1 hb2
  have q2:=q _ hg hT2
  rw [e] at q2
  exact q2
theorem zfq {r : List Int} : ∀ {rows : List (List Int)} {kn : Nat},kn < rows.length→zbQ (rows.set kn r) + (zak rows kn).length = zbQ rows + r.length
 | [],_,h=>absurd h (ybU _)
 | a :: rows,0,_=>by
  unfold zbQ
  rw [List.set_cons_zero,yao,yaG,yao,yaG]
  show r.length + _ + a.length = _
  omega
 | a :: rows,kn + 1,h=>by
  have ih:=zfq (r:=r) (rows:=rows) (kn:=kn) (Nat.lt_of_succ_lt_succ h)
  unfold zbQ at ih ⊢
  rw [List.set_cons_succ,yao,yaG,yao,yaG]
  have e : zak (a :: rows) (kn + 1) = zak rows kn:=rfl
  rw [e]
  omega
theorem ziS (n : Int) (xs : List Int) : inV (.int n) (xs.map V.int) = decide (n∈xs):=by
 unfold inV
 induction xs with
 | nil=>rfl
 | cons x xs ih=>
  rw [yao,ybc,ih]
  show (x == n || decide (n∈xs)) = decide (n∈x :: xs)
  by_cases h : x = n
  ·subst h
   simp
  ·have h2 : ¬ n = x:=fun z=>h z.symm
   simp [h,h2]
theorem zhT {H : Hp} : ∀ {as : List Addr} {rows : List (List Int)},zaE H as rows→Paired (zk0 H) as (rows.map List.length)
 | _,_,.nil=>.nil
 | _,_,.cons h t=>.cons ⟨_,.inr h,by rw [yab]⟩ (zhT t)
section
variable {K : Frag} {H : Hp} {a b : Addr} {xs ys : List V} {n : Nat} {Q : VK}
theorem zoK (h : H a = some (.tup xs)) (q : ∀ v H',Same H H'→H' v = some (.tup (xs.take n))→Q (.ref v) H') : rSlX K (.ref a) none (some (n : Int)) H Q:=
 ⟨a,xs,rfl,SqT.of h,fun z=>q a H (fun _ _ e=>e) (by
  have:=z.2
  rw [zcu] at this
  rw [yar (by omega)]
  exact h),fun _ p hp=>q p _ (zai hp _) (by rw [zab,zmX])⟩
theorem zju (h : H a = some (.tup xs)) (q : ∀ v H',Same H H'→H' v = some (.tup (xs.drop n))→Q (.ref v) H') : rSlX K (.ref a) (some (n : Int)) none H Q:=
 ⟨a,xs,rfl,SqT.of h,fun z=>q a H (fun _ _ e=>e) (by
  have:=z.1
  rw [zcu] at this
  have e : xs.drop n = xs:=by
   rcases Nat.eq_zero_or_pos n with y | y
   ·rw [y]; rfl
   ·have : xs = []:=ycz.mp (by omega)
    rw [this]
    exact List.drop_nil
  rw [e]
  exact h),fun _ p hp=>q p _ (zai hp _) (by rw [zab,zf3])⟩
theorem zkc (ha : H a = some (.tup xs)) (hb : H b = some (.tup ys)) (hy : ys≠[]) (hl : xs.length + ys.length≤sizeLine) (q : ∀ v H',Same H H'→H' v = some (.tup (xs ++ ys))→Q (.ref v) H') : zqy K (.ref a) (.ref b) H Q:=
 ⟨a,b,xs,ys,rfl,rfl,SqT.of ha,SqT.of hb,hy,hl,fun z=>q b H (fun _ _ e=>e) (by rw [z]; exact hb),fun _ p hp=>q p _ (zai hp _) zab⟩
theorem zom (ha : H a = some (.tup xs)) (hb : H b = some (.tup ys)) (hx : xs≠[]) (hl : xs.length + ys.length≤sizeLine) (q : ∀ v H',Same H H'→H' v = some (.tup (xs ++ ys))→Q (.ref v) H') : zpe K (.ref a) (.ref b) H Q:=
 ⟨a,b,xs,ys,rfl,rfl,SqT.of ha,SqT.of hb,hx,hl,fun z=>q a H (fun _ _ e=>e) (by rw [z,yaH]; exact ha),fun _ p hp=>q p _ (zai hp _) zab⟩
end
theorem zcP {H : Hp} {v : Addr} {r : List Int} (hv : H v = some (.tup (r.map V.int))) : ∀ {as : List Addr} {rows : List (List Int)} (kn : Nat),zaE H as rows→zaE H (as.set kn v) (rows.set kn r)
 | _,_,_,.nil=>.nil
 | _,_,0,.cons _ t=>.cons hv t
 | _,_,kn + 1,.cons h t=>.cons h (zcP hv kn t)
theorem zlN {row : List Int} {x : Int} : (putR row x).length = row.length + 1:=by
 unfold putR
 rw [yam,yam,yap,yaL]
 have : loN row x≤row.length:=ybf _ _
 show _ + 1 + _ = _
 omega
theorem zfA {H H' : Hp} {Pt b : Addr} {pos : Pos} {q : Str} (x : zbE H Pt pos q) (k : But b H H') (h1 : ∀ tab,H b≠some (.tbl tab)) (h2 : ∀ f,H b≠some (.ext f)) : zbE H' Pt pos q:=by
 obtain ⟨tab,e1,e2,e3⟩:=x.ex
 refine ⟨tab,k _ _ (fun z=>h1 tab (z ▸ e1)) e1,e2,?_⟩
 rcases e3 with e3 | ⟨c,e3,e4⟩
 ·exact .inl e3
 ·exact .inr ⟨c,e3,k _ _ (fun z=>h2 _ (z ▸ (show H c = _ from e4))) e4⟩
theorem zek {r : List (List Int)} (Q : zaB r) (k : Nat) : Rise (ownE r k):=by
 unfold ownE
 exact List.Pairwise.map _ (R:=fun a b : Int=>a < b) (fun a b (h : a < b)=>zcx.mpr (.inl h)) (Q.at_up k)
def Kd (sh p mp : Addr) (H H' : Hp) : Prop:=∀ b o,b≠sh→b≠p→b≠mp→H b = some o→H' b = some o
def zjr (K : Frag) (CS mp : Addr) (f : List Int→Int→List Int) (ok : List (List Int)→Nat→Int→Prop) : Sp:=fun vs H Q _=>∃ (sh dx st p : Addr) (kn : Nat) (x : Int) (qs : List Addr) (ps : List Nat) (rows : List (List Int)) (t rs : Addr) (as : List Addr),vs = [.ref sh,.int kn,.int x]∧zaH K CS H sh dx st p qs ps rows t rs as∧kn < ps.length + 1∧zjc x∧ok rows kn x∧zbE H mp zep lamQ∧
 ∀ (D : Addr) (us : List V) (m : Nat) (qs' : List Addr) (st' rs' : Addr) (as' : List Addr) (H' : Hp),ze8 ps rows (rows.set kn (f (zak rows kn) x)) kn m→H D = none→(∀ q∈qs',q∈qs∨H q = none)→Kd sh p mp H H'→zaH K CS H' sh dx st' p qs' ps (rows.set kn (f (zak rows kn) x)) t rs' as'→zbE H' mp zep lamQ→H' D = some (.lst us)→
  zbh K H' D (fun b=>H b = none) (zbf ps rows (rows.set kn (f (zak rows kn) x)) kn m) us→Q (.ref D) H'
def zpC (rows : List (List Int)) (kn : Nat) (x : Int) : Prop:=x∉zak rows kn∧zbQ rows < 300
def zpD (rows : List (List Int)) (kn : Nat) (x : Int) : Prop:=x∈zak rows kn
theorem zqM (T : Txt K mg) {mp : Addr} {CS : Addr} (O : OwnC K mg CS) (D_Shelf_put : DM K CS "put" "Shelf.put" zcN zco) (F_Shelf_row_for : FM P w K mg base CS 4 "row_for" za5 (zgV K CS)) (F_long_together : FC P w K mg base 1 "long_together" za4 (zlz K)) (F_place : FC P w K mg base 3 "place" zd9 (ziv K mp)) (F_with_row : FC P w K mg base 1 "with_row" zb9 (zls K)) (F_Shelf_carry_up : FM P w K mg base CS 7 "carry_up" zaV (ziz K CS)) : FM P w K mg base CS 8 "put" zco (zjr K CS mp putR zpC):=by
 refine D_Shelf_put.ok sc_Shelf_put (fun vs H Q E h=>?_) (fun f cdv A outer s H vs Q E hr h=>?_)
 ·obtain ⟨sh,dx,st,p,kn,x,qs,ps,rows,t,rs,as,rfl,_⟩:=h
  rfl
 obtain ⟨sh,dx,st,p,kn,x,qs,ps,rows,t,rs,as,rfl,S,hk,hx,⟨hnx,hroom⟩,hT,q⟩:=h
 refine ⟨_,(zaf (zar (i:=3) sc_Shelf_put.nd rfl (Or.inl rfl) (ziA F_Shelf_row_for O.cl hr (pv 0) (zaa (pv 1) (zaa (pv 2) zac))))
   (zaD (zba (zaw zhZ (pv 2) (pv 3) (by with_unfolding_all rfl)) (zae zaY) zaA)
   (zaD (zba (zaw zpr (zau F_long_together hr (zaa (za0 za8 (zcC (pv 0) rfl) zaj (fun _ _=>rfl)) zac)) (zei rfl T.g_MOST_KEYS) (zaF _)) (zae zaY) zaA)
   (zaf (zar (i:=4) sc_Shelf_put.nd rfl (Or.inl rfl) (zau F_place hr (zaa (pv 3) (zaa (pv 2) zac))))
   (zaf (zjH (pv 0) (zau F_with_row hr (zaa (zcC (pv 0) rfl) (zaa (pv 1) (zaa (zay zhg (zay ziE (zcq zeC (pv 3) zeF (zcv (pv 4))) (zbr (zaa (pv 2) zac))) (zcq zeC (pv 3) (zcv (pv 4)) zeF)) zac)))) rfl)
   (zae (zav (ziA F_Shelf_carry_up O.cl hr (pv 0) (zaa (pv 1) (zaa (zbW zac) (zaa (zbW (zaa (zbr (zaa (pv 2) (zaa (pv 1) zac))) zac)) zac))))))))))),?_⟩
 refine ⟨_,rfl,sh,dx,_,rfl,S.ins,rfl,_,rfl,_,rfl,sh,dx,st,p,kn,x,qs,ps,rows,t,rs,as,rfl,S,hk,hx,fun a ha hrow=>?_⟩
 have hfl : ((zak rows kn).map V.int).all zeJ = true:=yaW.mpr fun y hy=>by
  obtain ⟨z,_,rfl⟩:=yaB.mp hy
  rfl
 refine ⟨fun σ' H'=>σ' = [some (.ref sh),some (.int kn),some (.int x),some (.ref a),none]∧H = H',?_,?_⟩
 ·refine ⟨_,rfl,_,rfl,a,_,rfl,.inr (SqT.of hrow),rfl,hfl,_,rfl,?_⟩
  show if inV (.int x) ((zak rows kn).map V.int) = true then _ else _
  rw [ziS,yaf hnx]
  exact iteF ⟨rfl,rfl⟩
 rintro _ _ ⟨rfl,rfl⟩
 have hfew:=S.stand.few
 refine ⟨fun σ' H1=>σ' = [some (.ref sh),some (.int kn),some (.int x),some (.ref a),none]∧Same H H1,?_,?_⟩
 ·refine ⟨_,rfl,sh,CS,dx,_,_,rfl,S.ins,O.cl,O.n_kept,rfl,_,_,_,_,rfl,rfl,SqT.of S.stand.st,rfl,rs,as,_,rfl,.inr S.stand.rs,zhT S.stand.at_,by rw [yab,S.stand.len]; omega,fun H1 s1=>?_⟩
  refine ⟨_,_,rfl,rfl,_,rfl,?_⟩
  exact zmw (show ¬ (300 : Int)≤((zbQ rows : Nat) : Int) by omega) ⟨rfl,s1⟩
 rintro _ H1 ⟨rfl,s1⟩
 have hrow1:=s1 _ _ hrow
 refine ⟨_,rfl,_,rfl,a,zak rows kn,x,rfl,hrow1,S.stand.R.at_up kn,hT.ext s1.ext,fun H2 g2 hT2=>?_⟩
 obtain ⟨tab,hmp⟩ : ∃ tab,H1 mp = some (.tbl tab):=by
  obtain ⟨tab,e,_⟩:=(hT.ext s1.ext).ex
  exact ⟨tab,e⟩
 have keep2 : ∀ {b : Addr} {o : HO},H b = some o→(∀ tab,o≠.tbl tab)→H2 b = some o:=fun {b o} e n=>g2 b o (fun z=>by
  rw [z] at e
  have:=s1 _ _ e
  rw [hmp] at this
  exact n _ (yad this).symm) (s1 _ _ e)
 have tp2 : Tp H H2:=fun b us e=>keep2 e (fun _ z=>nomatch z)
 have S2 : zaH K CS H2 sh dx st p qs ps rows t rs as:=⟨keep2 S.own (fun _ z=>nomatch z),keep2 S.ins (fun _ z=>nomatch z),zbF tp2 S.stand,S.full.tp tp2 fun b us e=>keep2 e (fun _ z=>nomatch z)⟩
 have row2:=tp2 _ _ hrow
 refine ⟨_,rfl,sh,CS,dx,_,_,rfl,S2.ins,O.cl,O.n_kept,rfl,_,rfl,?_⟩
 refine ⟨_,rfl,_,rfl,_,rfl,zoK row2 fun v3 H3 s3 h3=>?_⟩
 refine ⟨_,rfl,(by show 1≤sizeLine; decide),fun v4 hv4=>?_⟩
 have s4:=zai hv4 (.tup [.int x])
 have h4 : upd H3 v4 (.tup [.int x]) v4 = some (.tup [.int x]):=zab
 have h34:=s4 _ _ h3
 have row4:=s4 _ _ (s3 _ _ row2)
 generalize upd H3 v4 (.tup [.int x]) = H4 at s4 h4 h34 row4 ⊢
 have hrl : (zak rows kn).length≤400:=by
  have:=S.stand.keys
  refine yay (zfr ?_) this
  unfold zak
  rw [yah,yac (show kn < rows.length by rw [S.stand.len]; exact hk)]
  exact ya1 _
 refine zkc h34 h4 (fun z=>nomatch z) (ya2 (zaq (by rw [yap,yab]; show _ + 1≤1000; omega))) fun v5 H5 s5 h5=>?_
 refine ⟨_,rfl,_,rfl,_,rfl,?_⟩
 unfold zis
 dsimp only
 refine zju (s5 _ _ row4) fun v6 H6 s6 h6=>?_
 refine zom (s6 _ _ h5) h6 (by simp) (ya2 (zaq (by rw [yam,yap,yaL,yab]; show _ + 1 + _≤1000; omega))) fun v7 H7 s7 h7=>?_
 have s27 : Same H2 H7:=s3.trans (s4.trans (s5.trans (s6.trans s7)))
 have er : ((zak rows kn).map V.int).take (zeu (zak rows kn) x) ++ [V.int x] ++ ((zak rows kn).map V.int).drop (zeu (zak rows kn) x) = (putR (zak rows kn) x).map V.int:=by
  unfold putR
  rw [yav,yav,ycp,List.map_drop]
  rfl
 rw [er] at h7
 have hal:=S.stand.at_.length
 refine ⟨st,t,rs,as.map V.ref,kn,.ref v7,rfl,s27 _ _ S2.stand.st,s27 _ _ S2.stand.rs,by rw [yab,hal,S.stand.len]; exact hk,by rw [yab,hal,S.stand.len]; omega,fun st' rs' H8 s8 h8 r8=>?_⟩
 have s28 : Same H2 H8:=s27.trans s8
 have hkr : kn < rows.length:=by rw [S.stand.len]; exact hk
 have R' : zaB (rows.set kn (putR (zak rows kn) x)):=zjx S.stand.R (zlM (S.stand.R.at_up kn) hnx) fun y hy=>by
  rcases zg6.mp hy with z | z
  ·exact S.stand.R.at_key kn y z
  ·rw [z]; exact hx
 have hks:=zfq (r:=putR (zak rows kn) x) hkr
 rw [zlN] at hks
 refine ⟨_,rfl,sh,CS,dx,_,rfl,s28 _ _ S2.ins,O.cl,O.n_kept,(by show 2 < 1000; decide),?_⟩
 have i8:=s28 _ _ S2.ins
 have k9 : But sh H8 (upd H8 sh (.ins CS dx (putF "kept" (.ref st') [("kept",.ref st),("fulls",.ref p)]))):=fun b o n e=>by rw [zah n]; exact e
 have tp9 : Tp H8 (upd H8 sh (.ins CS dx (putF "kept" (.ref st') [("kept",.ref st),("fulls",.ref p)]))):=k9.tp fun us' z=>by rw [i8] at z; cases z
 have l9 : ∀ b us,H8 b = some (.lst us)→upd H8 sh (.ins CS dx (putF "kept" (.ref st') [("kept",.ref st),("fulls",.ref p)])) b = some (.lst us):=fun b us e=>k9 b _ (fun z=>by rw [z,i8] at e; cases e) e
 have i9 : upd H8 sh (.ins CS dx (putF "kept" (.ref st') [("kept",.ref st),("fulls",.ref p)])) sh = some (.ins CS dx [("kept",.ref st'),("fulls",.ref p)]):=zab
 have o9:=k9 _ _ (fun z=>by have:=S.own; rw [z,S.ins] at this; cases this) (s28 _ _ S2.own)
 have S9 : zcf K CS (upd H8 sh (.ins CS dx (putF "kept" (.ref st') [("kept",.ref st),("fulls",.ref p)]))) sh dx st' p qs ps rows (rows.set kn (putR (zak rows kn) x)) t rs' (as.set kn v7) kn 0:=by
  refine ⟨o9,i9,⟨tp9 _ _ h8,tp9 _ _ (s28 _ _ S2.stand.tr),?_,zcP (tp9 _ _ (s8 _ _ h7)) kn (zfD (fun b us e=>tp9 _ _ (s28 _ _ e)) S2.stand.at_),by rw [ybu]; exact S.stand.len,S.stand.T,R',hfew,by omega⟩,(S2.full.ext s28.ext).tp tp9 l9⟩
  rw [ybF]
  exact tp9 _ _ r8
 have T9:=zfA (hT2.ext s28.ext) k9 (fun tab z=>by rw [i8] at z; cases z) (fun f z=>by rw [i8] at z; cases z)
 have kd9 : ∀ b o,b≠sh→b≠mp→H b = some o→upd H8 sh (.ins CS dx (putF "kept" (.ref st') [("kept",.ref st),("fulls",.ref p)])) b = some o:=fun b o n1 n2 e=>k9 b o n1 (s28 _ _ (g2 b o n2 (s1 _ _ e)))
 clear l9 tp9 i9 o9 k9
 generalize upd H8 sh (.ins CS dx (putF "kept" (.ref st') [("kept",.ref st),("fulls",.ref p)])) = H9 at S9 T9 kd9 ⊢
 have al : ∀ {b : Addr},H9 b = none→H b = none:=fun {b} e=>by
  cases eb : H b with
  | none=>rfl
  | some o=>
   by_cases z1 : b = sh
   ·rw [z1,S9.ins] at e
    cases e
   ·by_cases z2 : b = mp
    ·obtain ⟨tab,e1,_⟩:=T9.ex
     rw [z2,e1] at e
     cases e
    ·rw [kd9 b o z1 z2 eb] at e
     cases e
 refine ⟨_,rfl,sh,dx,_,rfl,S9.ins,rfl,_,rfl,(by show 0≤sizeLine; decide),fun g hg=>?_⟩
 have s10:=zai hg (.lst [])
 have g10 : upd H9 g (.lst []) g = some (.lst []):=zab
 generalize upd H9 g (.lst []) = H10 at s10 g10 ⊢
 refine ⟨_,rfl,_,rfl,(by show 2≤sizeLine; decide),fun u hu=>?_⟩
 have s11:=zai hu (.tup [.int x,.int kn])
 have u11 : upd H10 u (.tup [.int x,.int kn]) u = some (.tup [.int x,.int kn]):=zab
 generalize upd H10 u (.tup [.int x,.int kn]) = H11 at s11 u11 ⊢
 refine ⟨(by show 1≤sizeLine; decide),fun c hc=>?_⟩
 have s12:=zai hc (.lst [.ref u])
 have c12 : upd H11 c (.lst [.ref u]) c = some (.lst [.ref u]):=zab
 generalize upd H11 c (.lst [.ref u]) = H12 at s12 c12 ⊢
 have s92 : Same H9 H12:=s10.trans (s11.trans s12)
 have S12 : zcf K CS H12 sh dx st' p qs ps rows (rows.set kn (putR (zak rows kn) x)) t rs' (as.set kn v7) kn 0:=⟨s92 _ _ S9.own,s92 _ _ S9.ins,S9.stand.same s92,S9.full.ext s92.ext⟩
 have L:=zfX S.stand.T S.stand.R R' hk (zf9 (rows:=rows) (r:=putR (zak rows kn) x))
 refine ⟨sh,dx,st',p,g,c,[],[.ref u],kn,qs,ps,rows,rows.set kn (putR (zak rows kn) x),t,rs',as.set kn v7,(fun b=>H b = none),rfl,S12,hk,zf9,S.stand.R,S.stand.len,S.stand.keys,s12 _ _ (s11 _ _ g10),?_,c12,?_,al hg,al (s10.free (s11.free hc)),(fun z=>by have z : H p = none:=z; rw [S.full.at_] at z; cases z),(fun b z=>al (s92.free z)),fun D us m qs' H' st hD hq bb sh' hDl told=>?_⟩
 ·rw [← L.gone,zjD hkr]
  exact .nil
 ·rw [← L.come,zjE hkr (S.stand.R.at_up kn) (zek R' kn) hnx]
  exact .cons ⟨u,.int x,.int kn,rfl,s12 _ _ u11,rfl,rfl⟩ .nil
 ·refine q D us m qs' st' rs' (as.set kn v7) H' st (al (s92.free hD)) (fun y hy=>(hq y hy).imp id fun z=>al (s92.free z)) (fun b o n1 n2 n3 e=>bb b o n2 (s92 _ _ (kd9 b o n1 n3 e))) sh' ?_ hDl told
  have:=S12.full.at_
  exact zfA (T9.ext s92.ext) bb (fun tab z=>by rw [this] at z; cases z) (fun f z=>by rw [this] at z; cases z)
section
variable {K : Frag} {H : Hp} {a b : Addr} {xs ys : List V} {Q : VK}
theorem zon (ha : H a = some (.tup xs)) (hb : H b = some (.tup ys)) (hl : xs.length + ys.length≤sizeLine) (q : ∀ v H',Same H H'→H' v = some (.tup (xs ++ ys))→Q (.ref v) H') : zqz K (.ref a) (.ref b) H Q:=
 ⟨a,b,xs,ys,rfl,rfl,SqT.of ha,SqT.of hb,hl,fun z=>q b H (fun _ _ e=>e) (by rw [z]; exact hb),fun _=>⟨fun z=>q a H (fun _ _ e=>e) (by rw [z,yaH]; exact ha),fun _ p hp=>q p _ (zai hp _) zab⟩⟩
end
theorem zqO (T : Txt K mg) {mp : Addr} {CS : Addr} (O : OwnC K mg CS) (D_Shelf_out : DM K CS "out" "Shelf.out" zcO zcp) (F_Shelf_row_for : FM P w K mg base CS 4 "row_for" za5 (zgV K CS)) (F_place : FC P w K mg base 3 "place" zd9 (ziv K mp)) (F_with_row : FC P w K mg base 1 "with_row" zb9 (zls K)) (F_Shelf_carry_up : FM P w K mg base CS 7 "carry_up" zaV (ziz K CS)) : FM P w K mg base CS 8 "out" zcp (zjr K CS mp outR zpD):=by
 refine D_Shelf_out.ok sc_Shelf_out (fun vs H Q E h=>?_) (fun f cdv A outer s H vs Q E hr h=>?_)
 ·obtain ⟨sh,dx,st,p,kn,x,qs,ps,rows,t,rs,as,rfl,_⟩:=h
  rfl
 obtain ⟨sh,dx,st,p,kn,x,qs,ps,rows,t,rs,as,rfl,S,hk,hx,hin,hT,q⟩:=h
 refine ⟨_,(zaf (zar (i:=3) sc_Shelf_out.nd rfl (Or.inl rfl) (ziA F_Shelf_row_for O.cl hr (pv 0) (zaa (pv 1) (zaa (pv 2) zac))))
   (zaD (zba (zaw zcs (pv 2) (pv 3) (by with_unfolding_all rfl)) (zae zaY) zaA)
   (zaf (zar (i:=4) sc_Shelf_out.nd rfl (Or.inl rfl) (zau F_place hr (zaa (pv 3) (zaa (pv 2) zac))))
   (zaf (zjH (pv 0) (zau F_with_row hr (zaa (zcC (pv 0) rfl) (zaa (pv 1) (zaa (zay zps (zcq zeC (pv 3) zeF (zcv (pv 4))) (zcq zeC (pv 3) (zcv (zay zby (pv 4) zaj)) zeF)) zac)))) rfl)
   (zae (zav (ziA F_Shelf_carry_up O.cl hr (pv 0) (zaa (pv 1) (zaa (zbW (zaa (zbr (zaa (pv 2) (zaa (pv 1) zac))) zac)) (zaa (zbW zac) zac)))))))))),?_⟩
 refine ⟨_,rfl,sh,dx,_,rfl,S.ins,rfl,_,rfl,_,rfl,sh,dx,st,p,kn,x,qs,ps,rows,t,rs,as,rfl,S,hk,hx,fun a ha hrow=>?_⟩
 have hfl : ((zak rows kn).map V.int).all zeJ = true:=yaW.mpr fun y hy=>by
  obtain ⟨z,_,rfl⟩:=yaB.mp hy
  rfl
 refine ⟨fun σ' H'=>σ' = [some (.ref sh),some (.int kn),some (.int x),some (.ref a),none]∧H = H',?_,?_⟩
 ·refine ⟨_,rfl,_,rfl,a,_,rfl,.inr (SqT.of hrow),rfl,hfl,_,rfl,?_⟩
  show if (!inV (.int x) ((zak rows kn).map V.int)) = true then _ else _
  rw [ziS,yag (show x∈zak rows kn from hin)]
  exact iteF ⟨rfl,rfl⟩
 rintro _ _ ⟨rfl,rfl⟩
 have hfew:=S.stand.few
 have s1 : Same H H:=fun _ _ e=>e
 have hrow1:=s1 _ _ hrow
 refine ⟨_,rfl,_,rfl,a,zak rows kn,x,rfl,hrow1,S.stand.R.at_up kn,hT.ext s1.ext,fun H2 g2 hT2=>?_⟩
 obtain ⟨tab,hmp⟩ : ∃ tab,H mp = some (.tbl tab):=by
  obtain ⟨tab,e,_⟩:=(hT.ext s1.ext).ex
  exact ⟨tab,e⟩
 have keep2 : ∀ {b : Addr} {o : HO},H b = some o→(∀ tab,o≠.tbl tab)→H2 b = some o:=fun {b o} e n=>g2 b o (fun z=>by
  rw [z] at e
  have:=s1 _ _ e
  rw [hmp] at this
  exact n _ (yad this).symm) (s1 _ _ e)
 have tp2 : Tp H H2:=fun b us e=>keep2 e (fun _ z=>nomatch z)
 have S2 : zaH K CS H2 sh dx st p qs ps rows t rs as:=⟨keep2 S.own (fun _ z=>nomatch z),keep2 S.ins (fun _ z=>nomatch z),zbF tp2 S.stand,S.full.tp tp2 fun b us e=>keep2 e (fun _ z=>nomatch z)⟩
 have row2:=tp2 _ _ hrow
 refine ⟨_,rfl,sh,CS,dx,_,_,rfl,S2.ins,O.cl,O.n_kept,rfl,_,rfl,?_⟩
 refine ⟨_,rfl,_,rfl,_,rfl,zoK row2 fun v3 H3 s3 h3=>?_⟩
 have hrl : (zak rows kn).length≤400:=by
  have:=S.stand.keys
  refine yay (zfr ?_) this
  unfold zak
  rw [yah,yac (show kn < rows.length by rw [S.stand.len]; exact hk)]
  exact ya1 _
 refine ⟨_,rfl,_,rfl,_,_,rfl,rfl,_,rfl,?_⟩
 unfold zis
 dsimp only
 rw [show ((zeu (zak rows kn) x : Nat) : Int) + 1 = ((zeu (zak rows kn) x + 1 : Nat) : Int) from rfl]
 refine zju (s3 _ _ row2) fun v6 H6 s6 h6=>?_
 refine zon (s6 _ _ h3) h6 (ya2 (zaq (by rw [yap,yaL,yab]; omega))) fun v7 H7 s7 h7=>?_
 have s27 : Same H2 H7:=s3.trans (s6.trans s7)
 have er : ((zak rows kn).map V.int).take (zeu (zak rows kn) x) ++ ((zak rows kn).map V.int).drop (zeu (zak rows kn) x + 1) = (outR (zak rows kn) x).map V.int:=by
  unfold outR
  rw [yav,ycp,List.map_drop]
  rfl
 rw [er] at h7
 have hal:=S.stand.at_.length
 refine ⟨st,t,rs,as.map V.ref,kn,.ref v7,rfl,s27 _ _ S2.stand.st,s27 _ _ S2.stand.rs,by rw [yab,hal,S.stand.len]; exact hk,by rw [yab,hal,S.stand.len]; omega,fun st' rs' H8 s8 h8 r8=>?_⟩
 have s28 : Same H2 H8:=s27.trans s8
 have hkr : kn < rows.length:=by rw [S.stand.len]; exact hk
 have R' : zaB (rows.set kn (outR (zak rows kn) x)):=zjx S.stand.R ((S.stand.R.at_up kn).sublist (zdP _ _)) fun y hy=>S.stand.R.at_key kn y ((zdP _ _).mem hy)
 have hks:=zfq (r:=outR (zak rows kn) x) hkr
 have hol:=(zdP (zak rows kn) x).length_le
 have hkk:=S.stand.keys
 refine ⟨_,rfl,sh,CS,dx,_,rfl,s28 _ _ S2.ins,O.cl,O.n_kept,(by show 2 < 1000; decide),?_⟩
 have i8:=s28 _ _ S2.ins
 have k9 : But sh H8 (upd H8 sh (.ins CS dx (putF "kept" (.ref st') [("kept",.ref st),("fulls",.ref p)]))):=fun b o n e=>by rw [zah n]; exact e
 have tp9 : Tp H8 (upd H8 sh (.ins CS dx (putF "kept" (.ref st') [("kept",.ref st),("fulls",.ref p)]))):=k9.tp fun us' z=>by rw [i8] at z; cases z
 have l9 : ∀ b us,H8 b = some (.lst us)→upd H8 sh (.ins CS dx (putF "kept" (.ref st') [("kept",.ref st),("fulls",.ref p)])) b = some (.lst us):=fun b us e=>k9 b _ (fun z=>by rw [z,i8] at e; cases e) e
 have i9 : upd H8 sh (.ins CS dx (putF "kept" (.ref st') [("kept",.ref st),("fulls",.ref p)])) sh = some (.ins CS dx [("kept",.ref st'),("fulls",.ref p)]):=zab
 have o9:=k9 _ _ (fun z=>by have:=S.own; rw [z,S.ins] at this; cases this) (s28 _ _ S2.own)
 have S9 : zcf K CS (upd H8 sh (.ins CS dx (putF "kept" (.ref st') [("kept",.ref st),("fulls",.ref p)]))) sh dx st' p qs ps rows (rows.set kn (outR (zak rows kn) x)) t rs' (as.set kn v7) kn 0:=by
  refine ⟨o9,i9,⟨tp9 _ _ h8,tp9 _ _ (s28 _ _ S2.stand.tr),?_,zcP (tp9 _ _ (s8 _ _ h7)) kn (zfD (fun b us e=>tp9 _ _ (s28 _ _ e)) S2.stand.at_),by rw [ybu]; exact S.stand.len,S.stand.T,R',hfew,by omega⟩,(S2.full.ext s28.ext).tp tp9 l9⟩
  rw [ybF]
  exact tp9 _ _ r8
 have T9:=zfA (hT2.ext s28.ext) k9 (fun tab z=>by rw [i8] at z; cases z) (fun f z=>by rw [i8] at z; cases z)
 have kd9 : ∀ b o,b≠sh→b≠mp→H b = some o→upd H8 sh (.ins CS dx (putF "kept" (.ref st') [("kept",.ref st),("fulls",.ref p)])) b = some o:=fun b o n1 n2 e=>k9 b o n1 (s28 _ _ (g2 b o n2 (s1 _ _ e)))
 clear l9 tp9 i9 o9 k9
 generalize upd H8 sh (.ins CS dx (putF "kept" (.ref st') [("kept",.ref st),("fulls",.ref p)])) = H9 at S9 T9 kd9 ⊢
 have al : ∀ {b : Addr},H9 b = none→H b = none:=fun {b} e=>by
  cases eb : H b with
  | none=>rfl
  | some o=>
   by_cases z1 : b = sh
   ·rw [z1,S9.ins] at e
    cases e
   ·by_cases z2 : b = mp
    ·obtain ⟨tab,e1,_⟩:=T9.ex
     rw [z2,e1] at e
     cases e
    ·rw [kd9 b o z1 z2 eb] at e
     cases e
 refine ⟨_,rfl,sh,dx,_,rfl,S9.ins,rfl,_,rfl,_,rfl,_,rfl,(by show 2≤sizeLine; decide),fun u hu=>?_⟩
 have s10:=zai hu (.tup [.int x,.int kn])
 have u10 : upd H9 u (.tup [.int x,.int kn]) u = some (.tup [.int x,.int kn]):=zab
 generalize upd H9 u (.tup [.int x,.int kn]) = H10 at s10 u10 ⊢
 refine ⟨(by show 1≤sizeLine; decide),fun g hg=>?_⟩
 have s11:=zai hg (.lst [.ref u])
 have g11 : upd H10 g (.lst [.ref u]) g = some (.lst [.ref u]):=zab
 generalize upd H10 g (.lst [.ref u]) = H11 at s11 g11 ⊢
 refine ⟨(by show 0≤sizeLine; decide),fun c hc=>?_⟩
 have s12:=zai hc (.lst [])
 have c12 : upd H11 c (.lst []) c = some (.lst []):=zab
 generalize upd H11 c (.lst []) = H12 at s12 c12 ⊢
 have s92 : Same H9 H12:=s10.trans (s11.trans s12)
 have S12 : zcf K CS H12 sh dx st' p qs ps rows (rows.set kn (outR (zak rows kn) x)) t rs' (as.set kn v7) kn 0:=⟨s92 _ _ S9.own,s92 _ _ S9.ins,S9.stand.same s92,S9.full.ext s92.ext⟩
 have L:=zfX S.stand.T S.stand.R R' hk (zf9 (rows:=rows) (r:=outR (zak rows kn) x))
 refine ⟨sh,dx,st',p,g,c,[.ref u],[],kn,qs,ps,rows,rows.set kn (outR (zak rows kn) x),t,rs',as.set kn v7,(fun b=>H b = none),rfl,S12,hk,zf9,S.stand.R,S.stand.len,S.stand.keys,s12 _ _ g11,?_,c12,?_,al (s10.free hg),al (s10.free (s11.free hc)),(fun z=>by have z : H p = none:=z; rw [S.full.at_] at z; cases z),(fun b z=>al (s92.free z)),fun D us m qs' H' st hD hq bb sh' hDl told=>?_⟩
 ·rw [← L.gone,zjN hkr (S.stand.R.at_up kn) (zek S.stand.R kn) hin]
  exact .cons ⟨u,.int x,.int kn,rfl,s12 _ _ (s11 _ _ u10),rfl,rfl⟩ .nil
 ·rw [← L.come,zjO hkr]
  exact .nil
 ·refine q D us m qs' st' rs' (as.set kn v7) H' st (al (s92.free hD)) (fun y hy=>(hq y hy).imp id fun z=>al (s92.free z)) (fun b o n1 n2 n3 e=>bb b o n2 (s92 _ _ (kd9 b o n1 n3 e))) sh' ?_ hDl told
  have:=S12.full.at_
  exact zfA (T9.ext s92.ext) bb (fun tab z=>by rw [this] at z; cases z) (fun f z=>by rw [this] at z; cases z)
def dl (Av : List Addr) (H : Hp) : Hp:=fun b=>if b∈Av then none else H b
def KpV (Av : List Addr) (H H' : Hp) : Prop:=∀ b o,b∉Av→H b = some o→H' b = some o
section
variable {Av : List Addr} {H H' : Hp}
theorem zmO {b : Addr} (h : b∉Av) : dl Av H b = H b:=if_neg h
theorem zbU : Same (dl Av H) H:=fun b o e=>by
 unfold dl at e
 split at e
 ·cases e
 ·exact e
theorem zbV (k : KpV Av H H') : Same (dl Av H) (dl Av H'):=fun b o e=>by
 unfold dl at e ⊢
 split at e
 ·cases e
 ·rename_i n
  rw [if_neg n]
  exact k b o n e
theorem ze7 {b : Addr} {o : HO} (e : H b = some o) (h : b∉Av) : dl Av H b = some o:=by rw [zmO h]; exact e
def zge (Av : List Addr) (H : Hp) : Prop:=∀ a∈Av,∀ us,H a≠some (.tup us)
theorem zge.out (n : zge Av H) {b : Addr} {us : List V} (e : H b = some (.tup us)) : b∉Av:=fun z=>n b z us e
theorem zge.dl (n : zge Av H) {b : Addr} {us : List V} (e : H b = some (.tup us)) : dl Av H b = some (.tup us):=ze7 e (n.out e)
theorem zge.tp (n : zge Av H) : Tp H (My.dl Av H):=fun _ _ e=>n.dl e
theorem KpV.of (s : Same H H') : KpV Av H H':=fun c o _ e=>s c o e
theorem KpV.tp (k : KpV Av H H') (n : zge Av H) : Tp H H':=fun b us e=>k b _ (n.out e) e
theorem zce {α : Type} [Rep α] {K : Frag} {a : α} {v : V} (h : Rep.has K (dl Av H) a v) : Rep.has K H a v:=Rep.mono zbU.ext h
theorem zc0 {α : Type} [Rep α] {K : Frag} {a : α} {v : V} (k : KpV Av H H') (h : Rep.has K (dl Av H) a v) : Rep.has K (dl Av H') a v:=Rep.mono (zbV k).ext h
end
theorem zo6 {σ : L2.St} {H : Hp} {Q : Bool→Hp→Prop} (h : Q true H) : tYes σ H Q:=h
theorem zrD {c A B : Prop} [Decidable c] (hc : ¬ c) (h : A) : if (!decide c) = true then A else B:=by
 rw [yaf hc]
 exact h
def zdS (b : Bool) (row : List Int) (x : Int) : List Int:=if b then putR row x else outR row x
def za3 (rows : List (List Int)) (kn : Nat) (x : Int) (b : Bool) : List (List Int):=rows.set kn (zdS b (zak rows kn) x)
structure zdk (H : Hp) (r : Addr) (as : List Addr) (rows : List (List Int)) : Prop where
 at_ : H r = some (.tup (as.map V.ref))
 rows : zaE H as rows
theorem zdk.tp {H H' : Hp} {r : Addr} {as : List Addr} {rows : List (List Int)} (h : zdk H r as rows) (e : Tp H H') : zdk H' r as rows:=⟨e _ _ h.at_,zfD e h.rows⟩
theorem zdk.get {H : Hp} {r : Addr} {as : List Addr} {rows : List (List Int)} (h : zdk H r as rows) {k : Nat} (hk : k < rows.length) : ∃ a,atI (as.map V.ref) (k : Int) = some (.ref a)∧H a = some (.tup ((zak rows k).map V.int)):=by
 obtain ⟨a,h1,h2⟩:=h.rows.get hk
 exact ⟨a,ze2 h1,h2⟩
theorem zqX {L d : Addr} {H' : Hp} {p : Addr} {o : List V} (s : LS K L d H') (hp : H' p = some (.tup o)) : p≠d:=fun z=>by
 obtain ⟨_,_,_,e,_⟩:=s.ex
 rw [← z,hp] at e
 cases e
theorem zqY {L d : Addr} {H' : Hp} {p : Addr} (s : LS K L d H') (hp : H' p = none) : p≠d:=fun z=>by
 obtain ⟨_,_,_,e,_⟩:=s.ex
 rw [← z,hp] at e
 cases e
theorem zho {L d : Addr} {H H' : Hp} (s : LS K L d H) (k : Keep d H H') : Tp H H':=fun b us e=>k b _ (zqX s e) e
def zoD (K : Frag) : Sp:=fun vs H Q _=>∃ (d L t r : Addr) (ps : List Nat) (rows : List (List Int)) (as : List Addr),vs = [.ref d,.ref t,.ref r]∧H t = some (.tup (zbZ ps))∧ps.length≤40∧zdk H r as rows∧rows.length = ps.length + 1∧zaB rows∧(∀ k,(zak rows k).length≤400)∧LS K L d H∧
 ∀ (u : Addr) (kn : Nat) (x : Int) (H' : Hp),H u = none→kn < ps.length + 1→zjc x→H' u = some (.tup [.int kn,.int x,.bl (!decide (x∈zak rows kn))])→Keep d H H'→LS K L d H'→Q (.ref u) H'
theorem zpv (T : Txt K mg) (D_l_step : DF K mg "_law_step" zfh zec) (F_l_take : FC P w K mg base 2 "_law_take" zbx (zfB K)) (F_l_key : FC P w K mg base 3 "_law_key" zef (zpb K)) : FC P w K mg base 4 "_law_step" zec (zoD K):=by
 refine D_l_step.ok sc_l_step (fun vs H Q E h=>?_) (fun f cdv A outer s H vs Q E hr h=>?_)
 ·obtain ⟨d,L,t,r,ps,rows,as,rfl,_⟩:=h
  rfl
 obtain ⟨d,L,t,r,ps,rows,as,rfl,ht,hps,hR,hlen,R,hz,hs,q⟩:=h
 refine ⟨_,(zaf (zar (i:=3) sc_l_step.nd rfl (Or.inl rfl) (zau F_l_take hr (zaa (pv 0) (zaa (zap zao rfl T.m_len boot_len (zaa (pv 1) zac)) zac))))
   (zaf (zar (i:=4) sc_l_step.nd rfl (Or.inl rfl) (zau F_l_key hr (zaa (pv 0) zac)))
   (zaD (zba (PW.pt (zjB (zaw zl1 (zap zao rfl T.m_len boot_len (zaa (za0 za8 (pv 2) (pv 3) (fun _ _=>rfl)) zac)) zaj (zaF _)) (zg5 (zaw zgh (zau F_l_take hr (zaa (pv 0) (zaa zaj zac))) zaj (zaF _))))) (zae (zar (i:=4) sc_l_step.nd rfl (Or.inl rfl) (za0 za8 (za0 za8 (pv 2) (pv 3) (fun _ _=>rfl)) (zau F_l_take hr (zaa (pv 0) (zaa (zap zao rfl T.m_len boot_len (zaa (za0 za8 (pv 2) (pv 3) (fun _ _=>rfl)) zac)) zac))) (fun _ _=>rfl)))) zaA)
   (zae (zav (zbr (zaa (pv 3) (zaa (pv 4) (zaa (zfK zcs (pv 4) (za0 za8 (pv 2) (pv 3) (fun _ _=>rfl)) (by with_unfolding_all rfl)) zac))))))))),?_⟩
 have el:=zat ps
 refine ⟨_,rfl,_,rfl,_,_,rfl,.inr (SqT.of ht),?_⟩
 rw [el]
 refine ⟨d,L,((ps.length + 1 : Nat) : Int),rfl,⟨by omega,by omega⟩,hs,fun n H1 n0 n1 k1 s1=>?_⟩
 obtain ⟨kn,rfl⟩ : ∃ kn : Nat,n = kn:=⟨n.toNat,by omega⟩
 have hkn : kn < ps.length + 1:=by omega
 refine ⟨_,rfl,d,L,rfl,s1,fun x H2 x0 x1 k2 s2=>?_⟩
 have k02:=k1.trans k2
 have R2:=hR.tp (zho hs k02)
 obtain ⟨a,ha,hrow⟩:=R2.get (k:=kn) (by omega)
 have hl:=hz kn
 refine ⟨fun σ' H'=>∃ x : Int,σ' = [some (.ref d),some (.ref t),some (.ref r),some (.int kn),some (.int x)]∧zjc x∧Keep d H H'∧LS K L d H',?_,?_⟩
 ·refine ⟨_,rfl,_,rfl,_,_,_,_,rfl,rfl,SqT.of R2.at_,ha,_,_,rfl,.inr (SqT.of hrow),_,_,rfl,rfl,_,rfl,?_⟩
  refine ite2 (fun c=>?_) (fun c=>?_)
  ·have c' : (0 : Int) < (((zak rows kn).map V.int).length : Int):=yaO c
   rw [yab] at c'
   refine ⟨_,rfl,d,L,2,rfl,by decide,s2,fun v H3 _ _ k3 s3=>⟨rfl,_,rfl,?_⟩⟩
   have R3:=R2.tp (zho s2 k3)
   have hrow3:=zho s2 k3 _ _ hrow
   refine ite2 (fun _=>?_) (fun _=>?_)
   ·refine ⟨_,rfl,_,rfl,_,_,_,_,rfl,rfl,SqT.of R3.at_,ha,_,rfl,_,rfl,_,rfl,_,_,_,_,rfl,rfl,SqT.of R3.at_,ha,_,_,rfl,.inr (SqT.of hrow3),?_⟩
    rw [yab]
    refine ⟨d,L,(((zak rows kn).length : Nat) : Int),rfl,⟨by omega,by omega⟩,s3,fun n H4 n0 n1 k4 s4=>?_⟩
    obtain ⟨i,rfl⟩ : ∃ i : Nat,n = i:=⟨n.toNat,by omega⟩
    have hi : i < (zak rows kn).length:=by omega
    have hrow4:=zho s3 k4 _ _ hrow3
    refine ⟨_,_,_,_,rfl,rfl,SqT.of hrow4,zeQ (v:=.int ((zak rows kn)[i])) (by rw [yau,yac hi]; rfl),?_⟩
    exact ⟨_,rfl,R.at_key kn _ (ya1 hi),k02.trans (k3.trans k4),s4⟩
   ·exact ⟨x,rfl,⟨x0,x1⟩,k02.trans k3,s3⟩
  ·refine iteF ?_
   exact ⟨x,rfl,⟨x0,x1⟩,k02,s2⟩
 rintro _ H3 ⟨x,rfl,hx,k3,s3⟩
 have R3:=hR.tp (zho hs k3)
 obtain ⟨a,ha,hrow⟩:=R3.get (k:=kn) (by omega)
 have hfl : ((zak rows kn).map V.int).all zeJ = true:=yaW.mpr fun y hy=>by
  obtain ⟨z,_,rfl⟩:=yaB.mp hy
  rfl
 refine ⟨_,rfl,_,rfl,_,rfl,_,rfl,_,rfl,_,_,_,_,rfl,rfl,SqT.of R3.at_,ha,a,_,rfl,.inr (SqT.of hrow),rfl,hfl,(by show 3≤sizeLine; decide),fun u hu=>?_⟩
 rw [ziS]
 have su:=zai hu (.tup [.int kn,.int x,.bl (!decide (x∈zak rows kn))])
 have hu0 : H u = none:=by
  cases e : H u with
  | none=>rfl
  | some o=>
   have:=k3 u o (zqY s3 hu) e
   rw [hu] at this
   cases this
 exact q u kn x _ hu0 hkn hx zab (fun b o n e=>su _ _ (k3 b o n e)) (s3.same su)
theorem zlb {l : List Int} (h : l.Pairwise (· < ·)) : l.Pairwise fun a b=>Srt.blt b a = false:=List.Pairwise.imp (fun {a b} (h : a < b)=>yaf (by omega)) h
theorem zjg {l : List Int} (h : l.Pairwise (· < ·)) : l.Nodup:=List.Pairwise.imp (fun {a b} (q : a < b)=>by omega) h
theorem zqf {l m : List Int} (h1 : l.Pairwise (· < ·)) (h2 : m.Pairwise (· < ·)) (e : ∀ x,x∈l↔x∈m) : l = m:=by
 have p:=(ycx (zjg h1) (zjg h2)).mpr e
 rw [zdY p (zlb h1),zhQ (zlb h2)]
theorem znt {row : List Int} {x : Int} (h : row.Pairwise (· < ·)) (n : x∉row) : zcJ (row ++ [x]) = putR row x:=by
 refine (zdY ?_ (zlb (zlM h n))).symm
 unfold putR
 have:=(ybN (l₁:=[x]) (l₂:=row.drop (loN row x))).append_left (row.take (loN row x))
 rwa [← yaK,← yaK,yaM] at this
theorem zkx {row : List Int} {x : Int} (h : row.Pairwise (· < ·)) (hx : x∈row) : row.filter (fun y=>!decide (y = x)) = outR row x:=by
 refine zqf (h.sublist List.filter_sublist) (h.sublist (zdP _ _)) fun y=>?_
 rw [ziC h hx,ya8]
 simp
def zjs (K : Frag) : Sp:=fun vs H Q _=>∃ (r : Addr) (kn : Nat) (x : Int) (b : Bool) (rows : List (List Int)) (as : List Addr),vs = [.ref r,.int kn,.int x,.bl b]∧zdk H r as rows∧kn < rows.length∧rows.length≤60∧zaB rows∧(∀ k,(zak rows k).length≤400)∧(b = !decide (x∈zak rows kn))∧
 ∀ (r' : Addr) (as' : List Addr) (H' : Hp),H r' = none→Same H H'→zdk H' r' as' (za3 rows kn x b)→Q (.ref r') H'
theorem zl8 (T : Txt K mg) (D_l_behind : DF K mg "_law_behind" zdr zcT) : FC P w K mg base 1 "_law_behind" zcT (zjs K):=by
 refine D_l_behind.ok sc_l_behind (fun vs H Q E h=>?_) (fun f cdv A outer s H vs Q E hr h=>?_)
 ·obtain ⟨r,kn,x,b,rows,as,rfl,_⟩:=h
  rfl
 obtain ⟨r,kn,x,b,rows,as,rfl,hR,hkn,hz0,R,hz,hb,q⟩:=h
 refine ⟨_,(zaf (zar (i:=4) sc_l_behind.nd rfl (Or.inl rfl) (zaN zdi rfl T.m_list boot_list (zaa (pv 0) zac)))
   (zaD (zba (zc7 (pv 3)) (zae (zgr (zaN zaJ rfl T.m_tuple boot_tuple (zaa (zap (zgJ Int) rfl T.m_sorted boot_sorted (zaa (zay ziE (za0 zbA (pv 4) (pv 1) (fun _ _=>rfl)) (zbr (zaa (pv 2) zac))) zac)) zac)) (zhX (pv 4) (pv 1) zdZ))) (zae (zgr (zaN zaJ rfl T.m_tuple boot_tuple (zaa (zcw (N:=["_law_other","_law_key_here"]) (own:=1) (cap:=[2]) rfl (zfH (za0 zbA (pv 4) (pv 1) (fun _ _=>rfl))) ⟨rfl,rfl,rfl,rfl,rfl,rfl⟩ (fun _ _ _ _ _=>(zas (i:=0) (show List.Nodup (["_law_other","_law_key_here"] : List Str) by decide +kernel) rfl (Or.inl rfl))) (fun _ _ _ _ _=>(zfG (zaw zqK (pv 0) (pv 1) (zaF _)))) (fun _ _ _ _ _=>(pv 0))) zac)) (zhX (pv 4) (pv 1) zdZ))))
   (zae (zav (zaN zaJ rfl T.m_tuple boot_tuple (zaa (pv 4) zac)))))),?_⟩
 obtain ⟨a,ha,hrow⟩:=hR.get hkn
 have hl:=hz kn
 have hal:=hR.rows.length
 refine ⟨_,rfl,r,_,rfl,.inr (SqT.of hR.at_),fun l hl0=>?_⟩
 have s1:=zai hl0 (.lst (as.map V.ref))
 have h1 : upd H l (.lst (as.map V.ref)) l = some (.lst (as.map V.ref)):=zab
 generalize upd H l (.lst (as.map V.ref)) = H1 at s1 h1 ⊢
 refine ⟨fun σ' H'=>∃ v : Addr,σ' = [some (.ref r),some (.int kn),some (.int x),some (.bl b),some (.ref l)]∧H' l = some (.lst ((as.map V.ref).set kn (.ref v)))∧H' v = some (.tup ((zdS b (zak rows kn) x).map V.int))∧Same H H',?_,?_⟩
 ·have ha1:=s1 _ _ hrow
  have nal : ∀ {c : Addr} {us : List V} {H' : Hp},H' l = some (.lst (as.map V.ref))→H' c = some (.tup us)→c≠l:=fun e1 e2 z=>by rw [z,e1] at e2; cases e2
  have fin : ∀ (v : Addr) (H' : Hp),Same H1 H'→H' v = some (.tup ((zdS b (zak rows kn) x).map V.int))→∃ v' : Addr,[some (V.ref r),some (.int kn),some (.int x),some (.bl b),some (.ref l)] = [some (.ref r),some (.int kn),some (.int x),some (.bl b),some (.ref l)]∧upd H' l (.lst ((as.map V.ref).set kn (.ref v))) l = some (.lst ((as.map V.ref).set kn (.ref v')))∧upd H' l (.lst ((as.map V.ref).set kn (.ref v))) v' = some (.tup ((zdS b (zak rows kn) x).map V.int))∧Same H (upd H' l (.lst ((as.map V.ref).set kn (.ref v)))):=fun v H' s' hv=>
   ⟨v,rfl,zab,by rw [zah (nal (s' _ _ h1) hv)]; exact hv,fun c o e=>by rw [zah (zad e hl0)]; exact s' _ _ (s1 _ _ e)⟩
  refine ⟨_,rfl,_,rfl,?_⟩
  cases b with
  | true=>
   refine iteT ?_
   have hx : x∉zak rows kn:=fun z=>by rw [yag z] at hb; cases hb
   refine ⟨_,rfl,_,rfl,_,_,_,_,rfl,rfl,SqL.of h1,ha,_,rfl,(by show 1≤sizeLine; decide),fun u hu=>?_⟩
   have s2:=zai hu (.tup [.int x])
   have h2 : upd H1 u (.tup [.int x]) u = some (.tup [.int x]):=zab
   generalize upd H1 u (.tup [.int x]) = H2 at s2 h2 ⊢
   refine zkc (s2 _ _ ha1) h2 (fun z=>nomatch z) (ya2 (zaq (by rw [yab]; show _ + 1≤1000; omega))) fun v3 H3 s3 h3=>?_
   rw [show (zak rows kn).map V.int ++ [V.int x] = (zak rows kn ++ [x]).map V.int by rw [yav]; rfl] at h3
   refine ⟨v3,_,zak rows kn ++ [x],rfl,SqT.of h3,zal.ints,fun l4 ws hl4 hw=>?_⟩
   rw [hw.toInts,znt (R.at_up kn) hx]
   have s4:=zai hl4 (.lst ((putR (zak rows kn) x).map V.int))
   refine ⟨l4,_,rfl,.inl ⟨SqL.of zab,fun v5 hv5=>?_⟩⟩
   have s5:=zai hv5 (.tup ((putR (zak rows kn) x).map V.int))
   have s15 : Same H1 _:=s2.trans (s3.trans (s4.trans s5))
   refine ⟨_,rfl,_,rfl,l,_,_,kn,rfl,rfl,s15 _ _ h1,zfU (by rw [yab,hal]; exact hkn),?_⟩
   exact fin v5 _ s15 zab
  | false=>
   refine iteF ?_
   have hx : x∈zak rows kn:=Classical.byContradiction fun z=>by rw [yaf z] at hb; cases hb
   refine ⟨_,rfl,_,rfl,_,_,_,_,rfl,rfl,SqL.of h1,ha,a,rfl,⟨_,SqT.of ha1⟩,fun D hD=>?_⟩
   refine zet (xs:=(zak rows kn).map V.int) (fun i σ H2=>∃ x0 : Option V,σ = [x0,some (.int x)]∧H2 D = some (.lst ((((zak rows kn).take i).filter (fun y=>!decide (y = x))).map V.int))∧But D H1 H2) ?_ ?_ ?_ ?_
   ·exact ⟨_,rfl,zab,fun b o n e=>by rw [zah n]; exact e⟩
   ·rintro i σ H2 _ ⟨x0,rfl,_,k2⟩
    exact SqT.of (k2 _ _ (zad ha1 hD) ha1)
   ·rintro i m v σ H2 hv hm ⟨x0,rfl,h2,k2⟩
    rw [yab] at hm
    rw [yau] at hv
    obtain ⟨y,hy,rfl⟩:=ybM.mp hv
    obtain ⟨hi,rfl⟩:=yan.mp hy
    have hfl:=ybf (fun y=>!decide (y = x)) ((zak rows kn).take i)
    rw [yap] at hfl
    rw [yaP hi,ybl]
    refine ⟨_,rfl,_,rfl,rfl,_,rfl,?_⟩
    by_cases c : (zak rows kn)[i] = x
    ·refine zkL (show V.int _ = V.int _ by rw [c]) ?_
     refine ⟨m - 1,by omega,by rw [yab]; omega,_,rfl,?_,k2⟩
     rw [ybW (by rw [yag c]; decide),List.filter_nil,yaH]
     exact h2
    ·refine zrD (fun z=>c (V.int.inj z)) ?_
     refine ⟨_,rfl,_,h2,zaq (by rw [yab]; omega),m - 1,by omega,by rw [yab]; omega,_,rfl,?_,fun b o n e=>by rw [zah n]; exact k2 b o n e⟩
     rw [zab,ybr (by rw [yaf c]; rfl),List.filter_nil,yav]
     rfl
   ·rintro σ H2 ⟨x0,rfl,h2,k2⟩
    rw [yab,yar (yaa _),zkx (R.at_up kn) hx] at h2
    have s2 : Same H1 H2:=fun b o e=>k2 b o (zad e hD) e
    refine ⟨D,_,rfl,.inl ⟨SqL.of h2,fun v5 hv5=>?_⟩⟩
    have s15 : Same H1 _:=s2.trans (zai hv5 (.tup ((outR (zak rows kn) x).map V.int)))
    refine ⟨_,rfl,_,rfl,l,_,_,kn,rfl,rfl,s15 _ _ h1,zfU (by rw [yab,hal]; exact hkn),?_⟩
    exact fin v5 _ s15 zab
 rintro _ H2 ⟨v,rfl,h2,hv,s2⟩
 refine ⟨_,rfl,l,_,rfl,.inl ⟨SqL.of h2,fun r' hr'=>?_⟩⟩
 have s3:=zai hr' (.tup ((as.map V.ref).set kn (.ref v)))
 have s03:=s2.trans s3
 refine q r' (as.set kn v) _ (s2.free hr') s03 ⟨?_,zcP (s3 _ _ hv) kn (hR.rows.ext s03)⟩
 rw [zab,ybF]
def optL (ps : List Nat) : List (Option Int):=none :: ps.map fun (p : Nat)=>some (Int.ofNat p)
theorem zni {K : Frag} {H : Hp} (ps : List Nat) : zal K H (optL ps) (zbZ ps):=by
 refine .cons rfl ?_
 induction ps with
 | nil=>exact .nil
 | cons p ps ih=>exact .cons rfl ih
theorem zjy {K : Frag} {H : Hp} : ∀ {as : List Addr} {rows : List (List Int)},zaE H as rows→zal K H (rows.map Tup.mk) (as.map V.ref)
 | _,_,.nil=>.nil
 | _,_,.cons h t=>.cons ⟨_,_,rfl,SqT.of h,zal.ints⟩ (zjy t)
abbrev StD : Type:=Tup (Option Int)×Tup (Tup Int)
def zjn (ps : List Nat) (rows : List (List Int)) : StD:=(⟨optL ps⟩,⟨rows.map Tup.mk⟩)
theorem zlq {K : Frag} {H : Hp} {st t rs : Addr} {ps : List Nat} {rows : List (List Int)} {as : List Addr} (S : zbp H st ps rows t rs as) : Rep.has K H (zjn ps rows) (.ref st):=
 ⟨st,_,_,rfl,S.st,⟨_,_,rfl,SqT.of S.tr,zni ps⟩,⟨_,_,rfl,SqT.of S.rs,zjy S.at_⟩⟩
def zrg (ps : List Nat) (rows : List (List Int)) : List (List En):=(List.range (ps.length + 1)).map (zam ps rows)
theorem zko {ps : List Nat} {rows rows' : List (List Int)} (h : zjn ps rows = zjn ps rows') : rows = rows':=by
 have h2 : (⟨rows.map Tup.mk⟩ : Tup (Tup Int)) = ⟨rows'.map Tup.mk⟩:=congrArg (·.2) h
 have h3 : rows.map Tup.mk = rows'.map Tup.mk:=congrArg Tup.l h2
 have h4 : (rows.map Tup.mk).map Tup.l = (rows'.map Tup.mk).map Tup.l:=by rw [h3]
 rw [ybd,ybd] at h4
 have e : ∀ l : List (List Int),l.map (Tup.l ∘ Tup.mk) = l:=fun l=>by
  induction l with
  | nil=>rfl
  | cons a l ih=>rw [yao,ih]; rfl
 rwa [e,e] at h4
structure zex (Av : List Addr) (H : Hp) : Prop where
 some : ∀ a∈Av,H a≠none
 tup : zge Av H
theorem zex.fresh {Av : List Addr} {H : Hp} (A : zex Av H) {b : Addr} (h : H b = none) : b∉Av:=fun z=>A.some b z h
theorem zex.same {Av : List Addr} {H H' : Hp} (A : zex Av H) (s : Same H H') : zex Av H':=by
 refine ⟨fun a ha z=>?_,fun a ha us z=>?_⟩
 ·cases e : H a with
  | none=>exact A.some a ha e
  | some o=>
   rw [s _ _ e] at z
   cases z
 ·cases e : H a with
  | none=>exact A.some a ha e
  | some o=>
   rw [s _ _ e] at z
   exact A.tup a ha us (e.trans z)
theorem zpZ {D : Addr} {Av : List Addr} {H H' : Hp} (k : But D H H') : Same (dl (D :: Av) H) (dl Av H'):=fun b o e=>by
 unfold dl at e ⊢
 split at e
 ·cases e
 ·rename_i n
  rw [if_neg (fun z=>n (yaD _ z))]
  exact k b o (fun z=>n (z ▸ yaC)) e
theorem zoS {D : Addr} {Av : List Addr} {H H' : Hp} (k : But D H H') : Same (dl (D :: Av) H) (dl (D :: Av) H'):=zbV fun b o n e=>k b o (fun z=>n (z ▸ yaC)) e
structure FsI (K : Frag) (Av : List Addr) (H H2 : Hp) (D : Addr) (ps : List Nat) (rows : List (List Int)) (us : List V) (i : Nat) : Prop where
 at_ : H2 D = some (.lst us)
 has : zal K (dl (D :: Av) H2) ((List.range i).map (zam ps rows)) us
 but : But D H H2
theorem FsI.go {K : Frag} {CS : Addr} {Av : List Addr} {H H2 : Hp} {D : Addr} {ps : List Nat} {rows : List (List Int)} {us ws : List V} {i : Nat} {E : Addr} (I : FsI K Av H H2 D ps rows us i) (A : zex Av H) (hD : H D = none) (hE : H2 E = none) (hw : zal K H2 (zam ps rows i) ws) :
  FsI K Av H (upd (upd H2 E (.lst ws)) D (.lst (us ++ [.ref E]))) D ps rows (us ++ [.ref E]) (i + 1):=by
 have s1:=zai hE (.lst ws)
 have e1 : upd H2 E (.lst ws) E = some (.lst ws):=zab
 have nED : E≠D:=fun z=>by rw [z,I.at_] at hE; cases hE
 have D1:=s1 _ _ I.at_
 have kb : But D (upd H2 E (.lst ws)) (upd (upd H2 E (.lst ws)) D (.lst (us ++ [.ref E]))):=fun b o n e=>by rw [zah n]; exact e
 have nE : E∉D :: Av:=fun z=>by
  rcases yak.mp z with z | z
  ·exact nED z
  ·cases e : H E with
   | none=>exact A.some E z e
   | some o=>rw [I.but _ _ nED e] at hE; cases hE
 have n2 : zge (D :: Av) H2:=fun a ha us' z=>by
  rcases yak.mp ha with y | y
  ·rw [y,I.at_] at z; cases z
  ·cases e : H a with
   | none=>exact A.some a y e
   | some o=>
    have:=I.but _ _ (fun q=>by rw [q,hD] at e; cases e) e
    rw [z] at this
    exact A.tup a y us' (e.trans this.symm)
 refine ⟨zab,?_,fun b o n e=>kb b o n (s1 _ _ (I.but b o n e))⟩
 rw [ybV,yav]
 have t2 : Tp H2 (dl (D :: Av) (upd (upd H2 E (.lst ws)) D (.lst (us ++ [.ref E])))):=fun b vs e=>by
  have nb:=n2.out e
  rw [zmO nb]
  exact kb _ _ (fun z=>nb (z ▸ yaC)) (s1 _ _ e)
 refine zal.append (I.has.mono (Same.ext ?_)) (.one ⟨E,ws,rfl,SqL.of ?_,zaU t2 hw⟩)
 ·exact (zbV (KpV.of s1)).trans (zoS kb)
 ·rw [zmO nE,zah nED]
  exact zab
abbrev ToT : Type:=Tri Int (List En) (List En)
def zln (t : ToT) : ToT:=⟨t.a,t.c,t.b⟩
section
variable {ps : List Nat} {rows rows' : List (List Int)} {k : Nat}
theorem zfz : ∀ m : Nat,zbf ps rows' rows k m = (zbf ps rows rows' k m).map zln
 | 0=>rfl
 | m + 1=>by
  unfold zbf
  rw [zfz m,yav]
  cases upN ps k m <;> rfl
theorem ze8.swap {m : Nat} (h : ze8 ps rows rows' k m) : ze8 ps rows' rows k m:=⟨fun m' j h1 h2 ⟨z1,z2⟩=>h.1 m' j h1 h2 ⟨z2,z1⟩,h.2.imp id fun ⟨j,h1,h2,h3⟩=>⟨j,h1,h3,h2⟩⟩
theorem zk9 {m : Nat} (h : upN ps k m = none) : ∀ d,upN ps k (m + d) = none
 | 0=>h
 | d + 1=>by
  show (upN ps k (m + d)).bind (par ps) = none
  rw [zk9 h d]
  rfl
theorem zhG {m : Nat} (h : upN ps k m = none) : ∀ d,zbf ps rows rows' k (m + d) = zbf ps rows rows' k m
 | 0=>rfl
 | d + 1=>by
  show zbf ps rows rows' k (m + d) ++ ((upN ps k (m + d)).map (znj ps rows rows')).toList = _
  rw [zhG h d,zk9 h d]
  exact yaH _
theorem zlj {m n : Nat} (h1 : ze8 ps rows rows' k m) (h2 : ze8 ps rows rows' k n) (h : m≤n) : zbf ps rows rows' k n = zbf ps rows rows' k m:=by
 rcases ybA m n with z | z
 ·rcases h1.2 with y | ⟨j,y1,y2,y3⟩
  ·have:=zhG (rows:=rows) (rows':=rows') y (n - m)
   rwa [show m + (n - m) = n by omega] at this
  ·exact absurd ⟨y2,y3⟩ (h2.1 m j z y1)
 ·rw [show m = n by omega]
theorem zjk {m n : Nat} (h1 : ze8 ps rows rows' k m) (h2 : ze8 ps rows rows' k n) : zbf ps rows rows' k m = zbf ps rows rows' k n:=by
 rcases Nat.le_total m n with z | z
 ·exact (zlj h1 h2 z).symm
 ·exact zlj h2 h1 z
theorem zgT (T : zax ps) : ∀ m : Nat,(zbf ps rows rows' k m).length≤m∧(zbf ps rows rows' k m).length≤k + 1
 | 0=>⟨yaa _,yaE _⟩
 | m + 1=>by
  obtain ⟨h1,h2⟩:=zgT T m
  unfold zbf
  rw [yam]
  cases e : upN ps k m with
  | none=>exact ⟨Nat.le_succ_of_le h1,h2⟩
  | some j=>
   have:=zji T e
   show _ + 1≤_∧_ + 1≤_
   omega
theorem zo5 {m : Nat} (h : ze8 ps rows rows' k m) (hd : ¬(zaG (zam ps rows k) (zam ps rows' k) = []∧zaG (zam ps rows' k) (zam ps rows k) = [])) : zbf ps rows rows' k m≠[]:=by
 cases m with
 | zero=>
  rcases h.2 with z | ⟨j,z1,z2,z3⟩
  ·cases z
  ·have : k = j:=yad z1
   subst this
   exact absurd ⟨z2,z3⟩ hd
 | succ m=>
  have : ∀ m,zbf ps rows rows' k (m + 1)≠[]:=fun m=>by
   induction m with
   | zero=>exact fun z=>nomatch z
   | succ m ih=>
    intro z
    exact ih (List.append_eq_nil_iff.mp z).1
  exact this m
end
section
variable {rows : List (List Int)} {kn : Nat} {x : Int} {b : Bool}
theorem zj8 {row : List Int} (h : row.Pairwise (· < ·)) (hb : b = !decide (x∈row)) : (zdS b row x).Pairwise (· < ·):=by
 cases b with
 | true=>exact zlM h fun z=>by rw [yag z] at hb; cases hb
 | false=>exact h.sublist (zdP _ _)
theorem zf0 {row : List Int} (h : row.Pairwise (· < ·)) (hb : b = !decide (x∈row)) {y : Int} : y∈zdS b row x↔(y = x∧b = true)∨(y≠x∧y∈row):=by
 cases b with
 | true=>
  have hx : x∉row:=fun z=>by rw [yag z] at hb; cases hb
  show y∈putR row x↔_
  rw [zg6]
  constructor
  ·rintro (z | z)
   ·exact .inr ⟨fun e=>hx (e ▸ z),z⟩
   ·exact .inl ⟨z,rfl⟩
  ·rintro (⟨z,_⟩ | ⟨_,z⟩)
   ·exact .inr z
   ·exact .inl z
 | false=>
  have hx : x∈row:=Classical.byContradiction fun z=>by rw [yaf z] at hb; cases hb
  show y∈outR row x↔_
  rw [ziC h hx]
  constructor
  ·rintro ⟨z1,z2⟩
   exact .inr ⟨z2,z1⟩
  ·rintro (⟨_,z⟩ | ⟨z1,z2⟩)
   ·cases z
   ·exact ⟨z2,z1⟩
theorem zgD {row : List Int} (h : row.Pairwise (· < ·)) (hb : b = !decide (x∈row)) : (!b) = !decide (x∈zdS b row x):=by
 have:=zf0 h hb (y:=x)
 cases b with
 | true=>rw [yag (this.mpr (.inl ⟨rfl,rfl⟩))]
 | false=>rw [yaf fun z=>(this.mp z).elim (fun q=>nomatch q.2) fun q=>q.1 rfl]
theorem zkR {row : List Int} (h : row.Pairwise (· < ·)) (hb : b = !decide (x∈row)) : zdS (!b) (zdS b row x) x = row:=by
 have hu:=zj8 h hb
 have hf:=zgD h hb
 refine zqf (zj8 hu hf) h fun y=>?_
 rw [zf0 hu hf,zf0 h hb]
 by_cases e : y = x
 ·subst e
  rw [hb]
  by_cases m : y∈row <;> simp [m]
 ·simp [e]
theorem zib : (za3 rows kn x b).length = rows.length:=ybu
theorem zj9 (hk : kn < rows.length) : zak (za3 rows kn x b) kn = zdS b (zak rows kn) x:=zc6 hk
theorem zgG (hk : kn < rows.length) (h : (zak rows kn).Pairwise (· < ·)) (hb : b = !decide (x∈zak rows kn)) : za3 (za3 rows kn x b) kn x (!b) = rows:=by
 show (za3 rows kn x b).set kn (zdS (!b) (zak (za3 rows kn x b) kn) x) = rows
 rw [zj9 hk,zkR h hb]
 show (rows.set kn _).set kn (zak rows kn) = rows
 rw [List.set_set]
 have : zak rows kn = rows[kn]:=by
  unfold zak
  rw [yah,yac hk]
  rfl
 rw [this]
 exact List.set_getElem_self hk
theorem zgF (hk : kn < rows.length) (h : (zak rows kn).Pairwise (· < ·)) (hb : b = !decide (x∈zak rows kn)) : (!b) = !decide (x∈zak (za3 rows kn x b) kn):=by
 rw [zj9 hk]
 exact zgD h hb
theorem zgE (hk : kn < rows.length) : zbQ (za3 rows kn x b)≤zbQ rows + 1:=by
 have:=zfq (r:=zdS b (zak rows kn) x) hk
 unfold za3
 cases b with
 | true=>
  have e : (zdS true (zak rows kn) x).length = (zak rows kn).length + 1:=zlN
  omega
 | false=>
  have e : (zdS false (zak rows kn) x).length≤(zak rows kn).length:=(zdP _ _).length_le
  omega
theorem zmP {ps : List Nat} (T : zax ps) (R : zaB rows) (R' : zaB (za3 rows kn x b)) (hl : rows.length = ps.length + 1) (hk : kn < ps.length + 1) (hb : b = !decide (x∈zak rows kn)) : (zaG (zam ps rows kn) (zam ps (za3 rows kn x b) kn) = if b then [] else [(x,(kn : Int))])∧zaG (zam ps (za3 rows kn x b) kn) (zam ps rows kn) = if b then [(x,(kn : Int))] else []:=by
 have hkr : kn < rows.length:=by omega
 have L:=zfX T R R' hk (zf9 (rows:=rows) (r:=zdS b (zak rows kn) x))
 rw [← L.gone,← L.come]
 cases b with
 | true=>
  have hx : x∉zak rows kn:=fun z=>by rw [yag z] at hb; cases hb
  exact ⟨zjD hkr,zjE hkr (R.at_up kn) (zek R' kn) hx⟩
 | false=>
  have hx : x∈zak rows kn:=Classical.byContradiction fun z=>by rw [yaf z] at hb; cases hb
  exact ⟨zjN hkr (R.at_up kn) (zek R kn) hx,zjO hkr⟩
theorem zia {ps : List Nat} (T : zax ps) (R : zaB rows) (R' : zaB (za3 rows kn x b)) (hl : rows.length = ps.length + 1) (hk : kn < ps.length + 1) (hb : b = !decide (x∈zak rows kn)) : ¬(zaG (zam ps rows kn) (zam ps (za3 rows kn x b) kn) = []∧zaG (zam ps (za3 rows kn x b) kn) (zam ps rows kn) = []):=fun ⟨z1,z2⟩=>by
 obtain ⟨h1,h2⟩:=zmP T R R' hl hk hb
 cases b with
 | true=>rw [h2] at z2; cases z2
 | false=>rw [h1] at z1; cases z1
end
structure ze4 (K : Frag) (CS mp : Addr) (H H' : Hp) (sh dx p D : Addr) (us : List V) (m : Nat) (qs qs' : List Addr) (st' t rs' : Addr) (as' : List Addr) (ps : List Nat) (rows rows' : List (List Int)) (kn : Nat) : Prop where
 stops : ze8 ps rows rows' kn m
 new : H D = none
 qn : ∀ q∈qs',q∈qs∨H q = none
 kd : Kd sh p mp H H'
 shelf : zaH K CS H' sh dx st' p qs' ps rows' t rs' as'
 tab : zbE H' mp zep lamQ
 at_ : H' D = some (.lst us)
 told : zbh K H' D (fun b=>H b = none) (zbf ps rows rows' kn m) us
theorem zbh.dl {K : Frag} {H H' : Hp} {D : Addr} {Av : List Addr} (A : zex Av H) (A' : zge Av H') : ∀ {es : List ToT} {us : List V},zbh K H' D (fun b=>H b = none) es us→zal K (dl Av H') es us
 | _,_,.nil=>.nil
 | _,_,.cons ⟨u,g,c,gw,cw,e1,e2,e3,e4,e5,e6,n1,n2,n3,n4⟩ r=>.cons ⟨u,_,_,_,e1,A'.dl e2,rfl,⟨g,gw,rfl,SqL.of (ze7 e3 (A.fresh n3)),zaU A'.tp e4⟩,⟨c,cw,rfl,SqL.of (ze7 e5 (A.fresh n4)),zaU A'.tp e6⟩⟩ (zbh.dl A A' r)
section
variable {K : Frag} {CS mp : Addr} {H H' : Hp} {sh dx p D : Addr} {us : List V} {m : Nat} {qs qs' : List Addr} {st' t rs' : Addr} {as' : List Addr} {ps : List Nat} {rows rows' : List (List Int)} {kn : Nat} {Av : List Addr}
theorem ze4.apart (X : ze4 K CS mp H H' sh dx p D us m qs qs' st' t rs' as' ps rows rows' kn) (A : zex Av H) : zex Av H':=by
 have h : ∀ a∈Av,∃ o,H' a = some o∧∀ us,o≠.tup us:=fun a ha=>by
  by_cases z1 : a = sh
  ·rw [z1]
   exact ⟨_,X.shelf.ins,fun _ z=>by cases z⟩
  ·by_cases z2 : a = p
   ·rw [z2]
    exact ⟨_,X.shelf.full.at_,fun _ z=>by cases z⟩
   ·by_cases z3 : a = mp
    ·obtain ⟨tab,e,_⟩:=X.tab.ex
     rw [z3]
     exact ⟨_,e,fun _ z=>by cases z⟩
    ·cases e : H a with
     | none=>exact absurd e (A.some a ha)
     | some o=>exact ⟨o,X.kd a o z1 z2 z3 e,fun us z=>A.tup a ha us (by rw [e,z])⟩
 refine ⟨fun a ha z=>?_,fun a ha us z=>?_⟩
 ·obtain ⟨o,e,_⟩:=h a ha
  rw [e] at z
  cases z
 ·obtain ⟨o,e,n⟩:=h a ha
  rw [e] at z
  exact n us (yad z)
theorem ze4.kp (X : ze4 K CS mp H H' sh dx p D us m qs qs' st' t rs' as' ps rows rows' kn) (h1 : sh∈Av) (h2 : p∈Av) (h3 : mp∈Av) : KpV Av H H':=fun b o n e=>X.kd b o (fun z=>n (z ▸ h1)) (fun z=>n (z ▸ h2)) (fun z=>n (z ▸ h3)) e
theorem ze4.data (X : ze4 K CS mp H H' sh dx p D us m qs qs' st' t rs' as' ps rows rows' kn) (A : zex Av H) : Rep.has K (dl Av H') (zbf ps rows rows' kn m) (.ref D):=
 ⟨D,us,rfl,SqL.of (ze7 X.at_ (A.fresh X.new)),X.told.dl A (X.apart A).tup⟩
theorem zaH.same (S : zaH K CS H sh dx st' p qs ps rows t rs' as') (s : Same H H') : zaH K CS H' sh dx st' p qs ps rows t rs' as':=⟨s _ _ S.own,s _ _ S.ins,S.stand.same s,S.full.ext s.ext⟩
theorem zaH.ext (S : zaH K CS H sh dx st' p qs ps rows t rs' as') (e : Ext H H') : zaH K CS H' sh dx st' p qs ps rows t rs' as':=⟨e _ _ S.own (fun _ z=>nomatch z),e _ _ S.ins (fun _ z=>nomatch z),zbF (fun b us h=>e _ _ h (fun _ z=>nomatch z)) S.stand,S.full.ext e⟩
theorem zaH.but {c : Addr} {zs : List V} (S : zaH K CS H sh dx st' p qs ps rows t rs' as') (k : But c H H') (hc : H c = some (.lst zs)) (n1 : c≠p) (n2 : c∉qs) : zaH K CS H' sh dx st' p qs ps rows t rs' as':=by
 have nl : ∀ {b : Addr} {o : HO},H b = some o→(∀ us,o≠.lst us)→H' b = some o:=fun {b o} e n=>k b o (fun z=>by
  rw [z,hc] at e
  exact n _ (yad e).symm) e
 have tp : Tp H H':=fun b us e=>nl e (fun _ z=>nomatch z)
 refine ⟨nl S.own (fun _ z=>nomatch z),nl S.ins (fun _ z=>nomatch z),zbF tp S.stand,k _ _ n1.symm S.full.at_,S.full.len,S.full.nd,S.full.np,fun j q hq=>?_⟩
 obtain ⟨ws,h1,h2⟩:=S.full.get j q hq
 exact ⟨ws,k _ _ (fun z=>n2 (z ▸ yaJ hq)) h1,zaU tp h2⟩
theorem zaH.dl (S : zaH K CS H sh dx st' p qs ps rows t rs' as') (A : zge Av H) (h1 : sh∉Av) (h2 : dx∉Av) (h3 : p∉Av) (h4 : ∀ q∈qs,q∉Av) : zaH K CS (dl Av H) sh dx st' p qs ps rows t rs' as':=by
 refine ⟨ze7 S.own h2,ze7 S.ins h1,zbF A.tp S.stand,ze7 S.full.at_ h3,S.full.len,S.full.nd,S.full.np,fun j q hq=>?_⟩
 obtain ⟨ws,g1,g2⟩:=S.full.get j q hq
 exact ⟨ws,ze7 g1 (h4 q (yaJ hq)),zaU A.tp g2⟩
end
def Kp0 (H H' : Hp) : Prop:=∀ b o,(∀ tab,o≠.tbl tab)→H b = some o→H' b = some o
theorem zqZ {L d : Addr} {H H' : Hp} (s : LS K L d H) (g : Kp0 H H') : LS K L d H':=by
 obtain ⟨ns,a,l,e,q⟩:=s.ex
 refine ⟨ns,a,l,g _ _ (fun _ z=>nomatch z) e,?_⟩
 rcases q with (q | ⟨o,q⟩) | q
 ·exact .inl (.inl (g _ _ (fun _ z=>nomatch z) q))
 ·exact .inl (.inr ⟨o,g _ _ (fun _ z=>nomatch z) q⟩)
 ·exact .inr q
theorem zpH {L d : Addr} {Bv : List Addr} {H H' : Hp} (s : LS K L d (dl Bv H)) (k : Keep d H H') (s' : LS K L d H') : LS K L d (dl Bv H'):=by
 obtain ⟨ns,a,l,e,q⟩:=s.ex
 obtain ⟨ns',a',l',e',_⟩:=s'.ex
 have nd : d∉Bv:=fun z=>by
  unfold dl at e
  rw [if_pos z] at e
  cases e
 have k' : Keep d (dl Bv H) (dl Bv H'):=fun b o n h=>by
  unfold dl at h ⊢
  split at h
  ·cases h
  ·rename_i nb
   rw [if_neg nb]
   exact k b o n h
 exact ⟨ns,a',l',ze7 e' nd,zfb e k' q⟩
theorem zgw {K : Frag} {CS : Addr} {H : Hp} {sh dx st : Addr} {ps : List Nat} {rows : List (List Int)} {t rs : Addr} {as : List Addr} {Q : VK} {E : XK} (S : zbp H st ps rows t rs as) (hsh : H sh = none) (hdx : H dx = none) (hne : dx≠sh)
  (q : ∀ (p : Addr) (qs : List Addr) (H' : Hp),H p = none→(∀ q∈qs,H q = none)→Same H H'→zaH K CS H' sh dx st p qs ps rows t rs as→Q .non H') : zlB K CS [.ref sh,.ref st] (upd (upd H dx (.own sh)) sh (.ins CS dx [])) Q E:=by
 have s1:=zai hdx (.own sh)
 have hsh1 : upd H dx (.own sh) sh = none:=by rw [zah (Ne.symm hne)]; exact hsh
 have s2:=zai hsh1 (.ins CS dx [])
 have s12:=s1.trans s2
 refine ⟨sh,dx,st,ps,rows,t,rs,as,rfl,s2 _ _ zab,zab,S.same s12,fun p qs H' hp hq hb S'=>?_⟩
 exact q p qs H' (s12.free hp) (fun x hx=>s12.free (hq x hx)) (fun b o e=>hb b o (zad e hsh) (s12 _ _ e)) S'
abbrev zrL : Type:=List (List En)×StD
def zc3 (ps : List Nat) (rows : List (List Int)) : zrL:=(zrg ps rows,zjn ps rows)
def zoE (K : Frag) (CS : Addr) : Sp:=fun vs H Q _=>∃ (sh dx st p t0 : Addr) (qs : List Addr) (ps : List Nat) (rows : List (List Int)) (t rs : Addr) (as Av : List Addr),vs = [.ref sh,.ref t0]∧zaH K CS H sh dx st p qs ps rows t rs as∧H t0 = some (.tup (zbZ ps))∧zex Av H∧
 ∀ (u : Addr) (H' : Hp),H u = none→Same H H'→Rep.has K (dl Av H') (zc3 ps rows) (.ref u)→Q (.ref u) H'
theorem zpw (T : Txt K mg) {CS : Addr} (O : OwnC K mg CS) (D_l_seen : DF K mg "_law_seen" zfi zed) (F_Shelf_full : FM P w K mg base CS 4 "full" zb3 (zlD K CS)) (F_Shelf_stand : FM P w K mg base CS 1 "stand" zbH (zlu CS)) : FC P w K mg base 5 "_law_seen" zed (zoE K CS):=by
 refine D_l_seen.ok sc_l_seen (fun vs H Q E h=>?_) (fun f cdv A outer s H vs Q E hr h=>?_)
 ·obtain ⟨sh,dx,st,p,t0,qs,ps,rows,t,rs,as,Av,rfl,_⟩:=h
  rfl
 obtain ⟨sh,dx,st,p,t0,qs,ps,rows,t,rs,as,Av,rfl,S,ht,A,q⟩:=h
 refine ⟨_,(zaf (zg7 (i:=2) (N:=["_law_knot","_law_shelf"]) (own:=1) (cap:=[0]) sc_l_seen.nd rfl rfl rfl (zbP rfl T.m_range (zaa (zap zao rfl T.m_len boot_len (zaa (pv 1) zac)) zac)) ⟨rfl,rfl,rfl,rfl,rfl,rfl⟩ (fun _ _ _ _ _=>(zas (i:=0) (show List.Nodup (["_law_knot","_law_shelf"] : List Str) by decide +kernel) rfl (Or.inl rfl))) (fun _ _ _ _ _=>zcQ) (fun _ _ _ _ _=>(ziA F_Shelf_full O.cl hr (pv 1) (zaa (pv 0) zac))))
   (zae (zav (zbr (zaa (pv 2) (zaa (zqE F_Shelf_stand O.cl hr (pv 0)) zac)))))),?_⟩
 have el:=zat ps
 have hfew:=S.stand.few
 refine ⟨_,rfl,_,_,rfl,.inr (SqT.of ht),_,rfl,by omega,by omega,fun D hD=>?_⟩
 rw [el,ybb]
 refine zeM (n:=ps.length + 1) (fun i σ H2=>∃ (x0 : Option V) (us : List V),σ = [x0,some (.ref sh)]∧FsI K Av H H2 D ps rows us i) ?_ ?_ ?_
 ·exact ⟨_,[],rfl,zab,.nil,fun b o n e=>by rw [zah n]; exact e⟩
 ·rintro i m σ H2 hm hi ⟨x0,us,rfl,I⟩
  rw [ybX]
  have ul:=I.has.length
  rw [yab,ya7] at ul
  have s2 : Same H H2:=fun b o e=>I.but b o (zad e hD) e
  have S2 : zaH K CS H2 sh dx st p qs ps rows t rs as:=⟨s2 _ _ S.own,s2 _ _ S.ins,S.stand.same s2,S.full.ext s2.ext⟩
  refine zeq ?_
  refine ⟨_,rfl,sh,dx,_,rfl,S2.ins,rfl,_,rfl,sh,dx,st,p,i,qs,ps,rows,t,rs,as,rfl,S2,hi,fun B ws hB hw=>?_⟩
  have I3:=I.go (CS:=CS) A hD hB hw
  exact ⟨_,by rw [zah (fun z=>by rw [← z,I.at_] at hB; cases hB)]; exact I.at_,zaq (by omega),m - 1,by omega,by omega,_,_,rfl,I3⟩
 ·rintro σ H2 ⟨x0,us,rfl,I⟩
  have s2 : Same H H2:=fun b o e=>I.but b o (zad e hD) e
  refine ⟨_,rfl,_,rfl,sh,dx,_,rfl,s2 _ _ S.ins,rfl,sh,dx,st,p,rfl,s2 _ _ S.ins,(by show 2≤sizeLine; decide),fun u hu=>?_⟩
  have s3:=zai hu (.tup [.ref D,.ref st])
  have s03:=s2.trans s3
  have A3:=A.same s03
  have nD:=A.fresh hD
  refine q u _ (s2.free hu) s03 ⟨u,_,_,rfl,ze7 zab (A.fresh (s2.free hu)),⟨D,us,rfl,SqL.of (ze7 (s3 _ _ I.at_) nD),?_⟩,?_⟩
  ·exact I.has.mono ((zpZ fun b o _ e=>s3 b o e).ext)
  ·exact zlq (zbF A3.tup.tp (S.stand.same s03))
def zjS (b : Bool) (rows : List (List Int)) (kn : Nat) (x : Int) : Prop:=(b = true→zpC rows kn x)∧(b = false→zpD rows kn x)
def zoH (K : Frag) (CS mp : Addr) : Sp:=fun vs H Q _=>∃ (sh dx st p : Addr) (kn : Nat) (x : Int) (b : Bool) (qs : List Addr) (ps : List Nat) (rows : List (List Int)) (t rs : Addr) (as : List Addr),vs = [.ref sh,.int kn,.int x,.bl b]∧zaH K CS H sh dx st p qs ps rows t rs as∧kn < ps.length + 1∧zjc x∧zjS b rows kn x∧zbE H mp zep lamQ∧
 ∀ (D : Addr) (us : List V) (m : Nat) (qs' : List Addr) (st' rs' : Addr) (as' : List Addr) (H' : Hp),ze4 K CS mp H H' sh dx p D us m qs qs' st' t rs' as' ps rows (za3 rows kn x b) kn→Q (.ref D) H'
theorem zpA (T : Txt K mg) {mp : Addr} {CS : Addr} (O : OwnC K mg CS) (D_l_done : DF K mg "_law_done" zfk zeg) (F_Shelf_put : FM P w K mg base CS 8 "put" zco (zjr K CS mp putR zpC)) (F_Shelf_out : FM P w K mg base CS 8 "out" zcp (zjr K CS mp outR zpD)) : FC P w K mg base 9 "_law_done" zeg (zoH K CS mp):=by
 refine D_l_done.ok sc_l_done (fun vs H Q E h=>?_) (fun f cdv A outer s H vs Q E hr h=>?_)
 ·obtain ⟨sh,dx,st,p,kn,x,b,qs,ps,rows,t,rs,as,rfl,_⟩:=h
  rfl
 obtain ⟨sh,dx,st,p,kn,x,b,qs,ps,rows,t,rs,as,rfl,S,hk,hx,hok,hT,q⟩:=h
 refine ⟨_,(zaD (zba (zc7 (pv 3)) (zae (zav (ziA F_Shelf_put O.cl hr (pv 0) (zaa (pv 1) (zaa (pv 2) zac))))) zaA)
   (zae (zav (ziA F_Shelf_out O.cl hr (pv 0) (zaa (pv 1) (zaa (pv 2) zac)))))),?_⟩
 refine ⟨fun σ' H'=>b = false∧σ' = [some (.ref sh),some (.int kn),some (.int x),some (.bl b)]∧H' = H,?_,?_⟩
 ·refine ⟨_,rfl,_,rfl,?_⟩
  cases b with
  | true=>
   refine iteT ?_
   refine ⟨_,rfl,sh,dx,_,rfl,S.ins,rfl,_,rfl,_,rfl,sh,dx,st,p,kn,x,qs,ps,rows,t,rs,as,rfl,S,hk,hx,hok.1 rfl,hT,fun D us m qs' st' rs' as' H' h1 h2 h3 h4 h5 h6 h7 h8=>?_⟩
   exact q D us m qs' st' rs' as' H' ⟨h1,h2,h3,h4,h5,h6,h7,h8⟩
  | false=>exact iteF ⟨rfl,rfl,rfl⟩
 rintro _ _ ⟨rfl,rfl,rfl⟩
 refine ⟨_,rfl,sh,dx,_,rfl,S.ins,rfl,_,rfl,_,rfl,sh,dx,st,p,kn,x,qs,ps,rows,t,rs,as,rfl,S,hk,hx,hok.2 rfl,hT,fun D us m qs' st' rs' as' H' h1 h2 h3 h4 h5 h6 h7 h8=>?_⟩
 exact q D us m qs' st' rs' as' H' ⟨h1,h2,h3,h4,h5,h6,h7,h8⟩
def zlt (K : Frag) : Sp:=fun vs H Q _=>∃ (D : Addr) (es : List ToT),vs = [.ref D]∧Rep.has K H es (.ref D)∧es.length≤900∧
 ∀ (B : Addr) (H' : Hp),Same H H'→Rep.has K H' (es.map zln) (.ref B)→Q (.ref B) H'
theorem znD (T : Txt K mg) (D_l_turned_back : DF K mg "_law_turned_back" zbu zbn) : FC P w K mg base 1 "_law_turned_back" zbn (zlt K):=by
 refine D_l_turned_back.ok sc_l_turned_back (fun vs H Q E h=>?_) (fun f cdv A outer s H vs Q E hr h=>?_)
 ·obtain ⟨D,es,rfl,_⟩:=h
  rfl
 obtain ⟨D,es,rfl,hD,hz,q⟩:=h
 obtain ⟨_,xs,e,hS,hA⟩:=hD
 cases e
 have hl:=hA.length
 refine ⟨_,(zae (zav (zcw (N:=["_law_knot","_law_gone","_law_come"]) (own:=3) (cap:=[]) rfl (zdN (pv 0)) ⟨rfl,rfl,rfl,rfl,rfl,rfl⟩ (fun _ _ _ _ _=>(zlQ (K:=K) (n:=3) rfl (zaZ (zas (i:=0) (show List.Nodup (["_law_knot","_law_gone","_law_come"] : List Str) by decide +kernel) rfl (Or.inl rfl)) (zaZ (zas (i:=1) (show List.Nodup (["_law_knot","_law_gone","_law_come"] : List Str) by decide +kernel) rfl (Or.inl rfl)) (zaZ (zas (i:=2) (show List.Nodup (["_law_knot","_law_gone","_law_come"] : List Str) by decide +kernel) rfl (Or.inl rfl)) zfJ))))) (fun _ _ _ _ _=>zcQ) (fun _ _ _ _ _=>(zbr (zaa (pv 0) (zaa (pv 2) (zaa (pv 1) zac)))))))),?_⟩
 refine ⟨_,rfl,D,rfl,⟨_,hS⟩,fun B hB=>?_⟩
 refine zcG (xs:=xs) (fun i σ H2=>∃ (x0 x1 x2 : Option V) (us : List V),σ = [x0,x1,x2]∧H2 B = some (.lst us)∧zal K (dl [B] H2) ((es.take i).map zln) us∧But B H H2) ?_ ?_ ?_ ?_
 ·exact ⟨_,_,_,[],rfl,zab,.nil,fun b o n e=>by rw [zah n]; exact e⟩
 ·rintro i σ H2 _ ⟨x0,x1,x2,us,rfl,_,_,k2⟩
  exact k2.sq hS hB
 ·rintro i m v σ H2 hv hm ⟨x0,x1,x2,us,rfl,h2,hu,k2⟩
  obtain ⟨e,he,u,y1,y2,y3,rfl,w1,w2,w3,w4⟩:=hA.get hv
  have hi:=(yan.mp he).1
  have s2 : Same H H2:=fun b o e=>k2 b o (zad e hB) e
  have ul:=hu.length
  rw [yab,yap] at ul
  refine ⟨u,_,rfl,SqT.of (s2 _ _ w1),rfl,_,_,rfl,_,_,rfl,_,_,rfl,rfl,?_⟩
  refine zo6 (iteT ?_)
  refine ⟨_,rfl,_,rfl,_,rfl,(by show 3≤sizeLine; decide),fun c hc=>?_⟩
  have s3:=zai hc (.tup [y1,y3,y2])
  have nc : c≠B:=fun z=>by rw [z,h2] at hc; cases hc
  have kb : But B (upd H2 c (.tup [y1,y3,y2])) (upd (upd H2 c (.tup [y1,y3,y2])) B (.lst (us ++ [.ref c]))):=fun b o n e=>by rw [zah n]; exact e
  have e2 : Ext H (dl [B] (upd (upd H2 c (.tup [y1,y3,y2])) B (.lst (us ++ [.ref c])))):=fun b o e _=>by
   have n:=zad e hB
   rw [zmO (fun z=>n (yal.mp z))]
   exact kb _ _ n (s3 _ _ (s2 _ _ e))
  refine ⟨_,s3 _ _ h2,zaq (by omega),m - 1,by omega,by omega,_,_,_,_,rfl,zab,?_,fun b o n e=>kb b o n (s3 _ _ (k2 b o n e))⟩
  rw [yaP hi,yav]
  refine zal.append (hu.mono (Same.ext ?_)) (.one ?_)
  ·exact (zbV (KpV.of s3)).trans (zoS kb)
  ·rw [(yan.mp he).2]
   refine ⟨c,_,_,_,rfl,?_,Rep.mono e2 w2,Rep.mono e2 w4,Rep.mono e2 w3⟩
   rw [zmO (fun z=>nc (yal.mp z)),zah nc]
   exact zab
 ·rintro σ H2 ⟨x0,x1,x2,us,rfl,h2,hu,k2⟩
  rw [← hl,yar (yaa _)] at hu
  exact q B H2 (fun b o e=>k2 b o (zad e hB) e) ⟨B,us,rfl,SqL.of h2,hu.mono zbU.ext⟩
abbrev Dd : Type:=Nat×Int×Bool
def zbL (rows : List (List Int)) (es : List Dd) (j : Nat) : List (List Int):=(es.take j).foldl (fun r e=>za3 r e.1 e.2.1 e.2.2) rows
theorem zfE {rows : List (List Int)} {es : List Dd} {e : Dd} {j : Nat} (h : j≤es.length) : zbL rows (es ++ [e]) j = zbL rows es j:=by
 unfold zbL
 rw [List.take_append_of_le_length h]
theorem zcB {rows : List (List Int)} {es : List Dd} {j : Nat} {e : Dd} (h : es[j]? = some e) : zbL rows es (j + 1) = za3 (zbL rows es j) e.1 e.2.1 e.2.2:=by
 obtain ⟨hj,rfl⟩:=yan.mp h
 unfold zbL
 rw [yaP hj,List.foldl_append]
 rfl
theorem zhU {rows : List (List Int)} {es : List Dd} (j : Nat) : (zbL rows es j).length = rows.length:=by
 unfold zbL
 generalize es.take j = l
 induction l generalizing rows with
 | nil=>rfl
 | cons e l ih=>rw [ycc,ih,zib]
theorem zgp {rows : List (List Int)} {es : List Dd} (h : ∀ e∈es,e.1 < rows.length) : ∀ j,zbQ (zbL rows es j)≤zbQ rows + j
 | 0=>yaa _
 | j + 1=>by
  have ih:=zgp h j
  cases e : es[j]? with
  | none=>
   have hj:=List.getElem?_eq_none_iff.mp e
   have : zbL rows es (j + 1) = zbL rows es j:=by
    unfold zbL
    rw [yar (by omega),yar hj]
   rw [this]
   omega
  | some d=>
   rw [zcB e]
   have:=zgE (rows:=zbL rows es j) (kn:=d.1) (x:=d.2.1) (b:=d.2.2) (by rw [zhU]; exact h d (yaJ e))
   omega
structure TrE (K : Frag) (G : Hp) (ps : List Nat) (rows rows' : List (List Int)) (e : Dd) (v : V) : Prop where
 ex : ∃ (u D s : Addr) (m : Nat),v = .ref u∧G u = some (.tup [.int e.1,.int e.2.1,.bl e.2.2,.ref D,.ref s])∧ze8 ps rows rows' e.1 m∧Rep.has K G (zbf ps rows rows' e.1 m) (.ref D)∧Rep.has K G (zc3 ps rows) (.ref s)
 kn : e.1 < ps.length + 1
 key : zjc e.2.1
 flag : e.2.2 = !decide (e.2.1∈zak rows e.1)
 up : (zak rows e.1).Pairwise (· < ·)
theorem TrE.same {K : Frag} {G G' : Hp} {ps : List Nat} {rows rows' : List (List Int)} {e : Dd} {v : V} (h : TrE K G ps rows rows' e v) (s : Same G G') : TrE K G' ps rows rows' e v:=by
 obtain ⟨u,D,s',m,h1,h2,h3,h4,h5⟩:=h.ex
 exact ⟨⟨u,D,s',m,h1,s _ _ h2,h3,Rep.mono s.ext h4,Rep.mono s.ext h5⟩,h.kn,h.key,h.flag,h.up⟩
structure TrAt (K : Frag) (G : Hp) (ps : List Nat) (rows : List (List Int)) (es : List Dd) (us : List V) : Prop where
 len : us.length = es.length
 get : ∀ j e v,es[j]? = some e→us[j]? = some v→TrE K G ps (zbL rows es j) (zbL rows es (j + 1)) e v
theorem TrAt.same {K : Frag} {G G' : Hp} {ps : List Nat} {rows : List (List Int)} {es : List Dd} {us : List V} (h : TrAt K G ps rows es us) (s : Same G G') : TrAt K G' ps rows es us:=⟨h.len,fun j e v h1 h2=>(h.get j e v h1 h2).same s⟩
theorem TrAt.snoc {K : Frag} {G : Hp} {ps : List Nat} {rows : List (List Int)} {es : List Dd} {us : List V} {e : Dd} {v : V} (h : TrAt K G ps rows es us) (g : TrE K G ps (zbL rows es es.length) (za3 (zbL rows es es.length) e.1 e.2.1 e.2.2) e v) : TrAt K G ps rows (es ++ [e]) (us ++ [v]):=by
 refine ⟨by rw [yam,yam,h.len]; rfl,fun j e' v' h1 h2=>?_⟩
 rw [zcB h1]
 rcases ybA j es.length with c | c
 ·rw [ybi c] at h1
  rw [ybi (by rw [h.len]; exact c)] at h2
  have:=h.get j e' v' h1 h2
  rw [zcB h1] at this
  rw [zfE (by omega)]
  exact this
 ·have hj:=(yan.mp h1).1
  rw [yam,ya5] at hj
  have : j = es.length:=by omega
  subst this
  rw [ya4 (yaa _),Nat.sub_self] at h1
  rw [ya4 (by rw [h.len]; exact yaa _),h.len,Nat.sub_self] at h2
  cases h1
  cases h2
  rw [zfE (yaa _)]
  exact g
structure zjb (K : Frag) (CS : Addr) (G : Hp) (tw ss t : Addr) (ps : List Nat) (rows : List (List Int)) (es : List Dd) (us : List V) : Prop where
 twin : ∃ dx st p qs t' rs as,zaH K CS G tw dx st p qs ps rows t' rs as
 start : Rep.has K G (zc3 ps rows) (.ref ss)
 trail : TrAt K G ps rows es us
 tree : G t = some (.tup (zbZ ps))
theorem zjb.same {K : Frag} {CS : Addr} {G G' : Hp} {tw ss t : Addr} {ps : List Nat} {rows : List (List Int)} {es : List Dd} {us : List V} (h : zjb K CS G tw ss t ps rows es us) (s : Same G G') : zjb K CS G' tw ss t ps rows es us:=by
 obtain ⟨dx,st,p,qs,t',rs,as,S⟩:=h.twin
 exact ⟨⟨dx,st,p,qs,t',rs,as,S.same s⟩,Rep.mono s.ext h.start,h.trail.same s,s _ _ h.tree⟩
structure LNow (K : Frag) (CS mp a : Addr) (H : Hp) (d sh p tr : Addr) (qs : List Addr) (ps : List Nat) (rows : List (List Int)) (us : List V) : Prop where
 shelf : ∃ dx st t rs as,zaH K CS H sh dx st p qs ps rows t rs as
 tab : zbE H mp zep lamQ
 ls : LS K a d (dl [sh,p,mp,tr] H)
 trl : H tr = some (.lst us)
 np : tr≠p
 nq : tr∉qs
section
variable {K : Frag} {CS mp a d sh p tr : Addr} {H H' : Hp} {qs : List Addr} {ps : List Nat} {rows : List (List Int)} {us : List V}
theorem LNow.lsH (h : LNow K CS mp a H d sh p tr qs ps rows us) : LS K a d H:=h.ls.same zbU
theorem zkg {Av : List Addr} {H : Hp} (all : ∀ b∈Av,∃ o,H b = some o∧∀ us,o≠.tup us) : zex Av H:=by
 refine ⟨fun b hb z=>?_,fun b hb us z=>?_⟩
 ·obtain ⟨o,e,_⟩:=all b hb
  rw [e] at z
  cases z
 ·obtain ⟨o,e,n⟩:=all b hb
  rw [e] at z
  exact n us (yad z)
theorem LNow.apart (h : LNow K CS mp a H d sh p tr qs ps rows us) : zex [d,sh,p,mp,tr] H:=by
 obtain ⟨dx,st,t,rs,as,S⟩:=h.shelf
 obtain ⟨ns,x,l,e,_⟩:=h.lsH.ex
 obtain ⟨tab,e2,_⟩:=h.tab.ex
 have all : ∀ b∈[d,sh,p,mp,tr],∃ o,H b = some o∧∀ us,o≠.tup us:=fun b hb=>by
  simp only [yak,yaV,or_false] at hb
  rcases hb with rfl | rfl | rfl | rfl | rfl
  ·exact ⟨_,e,fun _ z=>by cases z⟩
  ·exact ⟨_,S.ins,fun _ z=>by cases z⟩
  ·exact ⟨_,S.full.at_,fun _ z=>by cases z⟩
  ·exact ⟨_,e2,fun _ z=>by cases z⟩
  ·exact ⟨_,h.trl,fun _ z=>by cases z⟩
 exact zkg all
theorem LNow.same (h : LNow K CS mp a H d sh p tr qs ps rows us) (s : Same H H') : LNow K CS mp a H' d sh p tr qs ps rows us:=by
 obtain ⟨dx,st,t,rs,as,S⟩:=h.shelf
 exact ⟨⟨dx,st,t,rs,as,S.same s⟩,h.tab.ext s.ext,h.ls.same (zbV (KpV.of s)),s _ _ h.trl,h.np,h.nq⟩
theorem LNow.take (h : LNow K CS mp a H d sh p tr qs ps rows us) (k : Keep d H H') (s : LS K a d H') : LNow K CS mp a H' d sh p tr qs ps rows us:=by
 obtain ⟨dx,st,t,rs,as,S⟩:=h.shelf
 have e:=h.lsH.ext k
 exact ⟨⟨dx,st,t,rs,as,S.ext e⟩,h.tab.ext e,zpH h.ls k s,e _ _ h.trl (fun _ z=>nomatch z),h.np,h.nq⟩
theorem LNow.app {us' : List V} (h : LNow K CS mp a H d sh p tr qs ps rows us) : LNow K CS mp a (upd H tr (.lst us')) d sh p tr qs ps rows us':=by
 obtain ⟨dx,st,t,rs,as,S⟩:=h.shelf
 have k : But tr H (upd H tr (.lst us')):=fun b o n e=>by rw [zah n]; exact e
 exact ⟨⟨dx,st,t,rs,as,S.but k h.trl h.np h.nq⟩,zfA h.tab k (fun tab z=>by rw [h.trl] at z; cases z) (fun f z=>by rw [h.trl] at z; cases z),h.ls.same (zbV fun b o n e=>k b o (fun z=>n (by simp [z])) e),zab,h.np,h.nq⟩
theorem zeG (k : Keep d H H') : KpV [d,sh,p,mp,tr] H H':=fun b o n e=>k b o (fun z=>n (z ▸ yaC)) e
theorem LNow.deed {dx D : Addr} {zs : List V} {m : Nat} {qs' : List Addr} {st' t rs' : Addr} {as' : List Addr} {rows' : List (List Int)} {kn : Nat} (h : LNow K CS mp a H d sh p tr qs ps rows us) (X : ze4 K CS mp H H' sh dx p D zs m qs qs' st' t rs' as' ps rows rows' kn) : LNow K CS mp a H' d sh p tr qs' ps rows' us:=by
 have kb : KpV [sh,p,mp,tr] H H':=X.kp (by simp) (by simp) (by simp)
 refine ⟨⟨dx,st',t,rs',as',X.shelf⟩,X.tab,h.ls.same (zbV kb),?_,h.np,fun z=>?_⟩
 ·obtain ⟨dx,st,t,rs,as,S⟩:=h.shelf
  obtain ⟨tab,e2,_⟩:=h.tab.ex
  exact X.kd _ _ (fun z=>by have:=h.trl; rw [z,S.ins] at this; cases this) h.np (fun z=>by have:=h.trl; rw [z,e2] at this; cases this) h.trl
 ·rcases X.qn tr z with y | y
  ·exact h.nq y
  ·rw [h.trl] at y
   cases y
end
theorem zmq {m : Nat} : ∀ {rows : List (List Int)},(∀ row∈rows,row.length≤m)→zbQ rows≤rows.length * m
 | [],_=>yaE _
 | r :: rows,h=>by
  have h1:=h r yaC
  have h2:=zmq (m:=m) (rows:=rows) fun x hx=>h x (yaD _ hx)
  unfold zbQ at h2 ⊢
  rw [yao,yaG,yaI,Nat.succ_mul]
  omega
theorem zjz {rows : List (List Int)} (k : Nat) : (zak rows k).length≤zbQ rows:=by
 unfold zak
 rw [yah]
 cases e : rows[k]? with
 | none=>exact yaE _
 | some r=>exact zfr (yaJ e)
def zhN (K : Frag) (mp : Addr) : Sp:=fun vs H Q _=>∃ (a : Addr) (ns : List Int),vs = [.ref a]∧SqL K H a (ns.map V.int)∧ns.length≤63∧H mp = some (.tbl #[])∧∀ H',Q (.bl true) H'
theorem zqQ (T : Txt K mg) {mp : Addr} {CS : Addr} (O : OwnC K mg CS) (D_law : DF K mg "law" znr zjG) (F_l_begin : FC P w K mg base 1 "_law_begin" zdy (zlE K)) (F_l_take : FC P w K mg base 2 "_law_take" zbx (zfB K)) (F_l_tree : FC P w K mg base 3 "_law_tree" zeb (zoC K)) (F_l_rows : FC P w K mg base 5 "_law_rows" zee (zoF K)) (F_tree_of : FC P w K mg base 3 "tree_of" zdw (zjp K)) (F_stand_of : FC P w K mg base 4 "stand_of" zcR (zhM K)) (F_Shelf : FI P w K mg base CS 9 zbd (zlB K CS)) (F_l_seen : FC P w K mg base 5 "_law_seen" zed (zoE K CS)) (F_l_step : FC P w K mg base 4 "_law_step" zec (zoD K)) (F_l_behind : FC P w K mg base 1 "_law_behind" zcT (zjs K)) (F_l_done : FC P w K mg base 9 "_law_done" zeg (zoH K CS mp)) (F_l_turned_back : FC P w K mg base 1 "_law_turned_back" zbn (zlt K)) : FC P w K mg base 11 "law" zjG (zhN K mp):=by
 refine D_law.ok sc_law (fun vs H Q E h=>?_) (fun f cdv A outer s H vs Q E hr h=>?_)
 ·obtain ⟨a,ns,rfl,_⟩:=h
  rfl
 obtain ⟨a,ns,rfl,hS,_,hmp,q⟩:=h
 have hT0 : zbE H mp zep lamQ:=⟨#[],hmp,trivial,.inl rfl⟩
 refine ⟨_,(zaf (zar (i:=1) sc_law.nd rfl (Or.inl rfl) (zau F_l_begin hr (zaa (pv 0) zac)))
   (zaf (zar (i:=2) sc_law.nd rfl (Or.inl rfl) (zau F_l_tree hr (zaa (pv 1) (zaa zaj zac))))
   (zaf (zar (i:=3) sc_law.nd rfl (Or.inl rfl) (zau F_l_rows hr (zaa (pv 1) (zaa (zap zao rfl T.m_len boot_len (zaa (pv 2) zac)) (zaa zaj zac)))))
   (zaf (zar (i:=4) sc_law.nd rfl (Or.inl rfl) (zqF F_Shelf hr O.mgC (zaa (zau F_stand_of hr (zaa (zau F_tree_of hr (zaa (pv 2) zac)) (zaa (pv 3) zac))) zac)))
   (zaf (zar (i:=5) sc_law.nd rfl (Or.inl rfl) (zqF F_Shelf hr O.mgC (zaa (zau F_stand_of hr (zaa (zau F_tree_of hr (zaa (pv 2) zac)) (zaa (pv 3) zac))) zac)))
   (zaf (zar (i:=6) sc_law.nd rfl (Or.inl rfl) (zau F_l_seen hr (zaa (pv 5) (zaa (pv 2) zac))))
   (zaf (zar (i:=7) sc_law.nd rfl (Or.inl rfl) (zbW zac))
   (zaf (zbO PassesOwn.never rfl (zbP rfl T.m_range (zaa (zau F_l_take hr (zaa (pv 1) (zaa zaj zac))) zac)) (zas (i:=8) sc_law.nd rfl (Or.inl rfl)) (zaf (zar (i:=9) sc_law.nd rfl (Or.inl rfl) (zau F_l_seen hr (zaa (pv 4) (zaa (pv 2) zac))))
   (zaf (zgr (zau F_l_step hr (zaa (pv 1) (zaa (pv 2) (zaa (pv 3) zac)))) (zjI rfl (zaZ (zas (i:=10) sc_law.nd rfl (Or.inl rfl)) (zaZ (zas (i:=11) sc_law.nd rfl (Or.inl rfl)) (zaZ (zas (i:=12) sc_law.nd rfl (Or.inl rfl)) zfJ)))))
   (zaf (zar (i:=13) sc_law.nd rfl (Or.inl rfl) (zau F_l_done hr (zaa (pv 4) (zaa (pv 10) (zaa (pv 11) (zaa (pv 12) zac))))))
   (zaD (zba (PW.pt (zph (zaw (zjQ (List (Tri Int (List (Int×Int)) (List (Int×Int)))) (huD hr)) (pv 13) (zbW zac) (zaF _)) (zlL (zaw (zjQ (List (List (Int×Int))×(Tup (Option Int)×Tup (Tup Int))) (huD hr)) (zau F_l_seen hr (zaa (pv 4) (zaa (pv 2) zac))) (pv 9) (zaF _))))) (zae (zav zhb)) zaA)
   (zae (zba (zaw zgh (zau F_l_take hr (zaa (pv 1) (zaa zaj zac))) zaj (zaF _)) (zaD (zba (zaw (zjP (List (Tri Int (List (Int×Int)) (List (Int×Int)))) (huD hr)) (zau F_l_done hr (zaa (pv 4) (zaa (pv 10) (zaa (pv 11) (zaa (zlR (pv 12)) zac))))) (zau F_l_turned_back hr (zaa (pv 13) zac)) (zaF _)) (zae (zav zhb)) zaA)
   (zae (zba (zaw (zjP (List (List (Int×Int))×(Tup (Option Int)×Tup (Tup Int))) (huD hr)) (zau F_l_seen hr (zaa (pv 4) (zaa (pv 2) zac))) (pv 9) (zaF _)) (zae (zav zhb)) zaA))) (zaf (zbT (zha F.plainAttrs_list F.slot_list_append F.type_list_append zbz (pv 7) (zaa (zbr (zaa (pv 10) (zaa (pv 11) (zaa (pv 12) (zaa (pv 13) (zaa (pv 9) zac)))))) zac)))
   (zae (zar (i:=3) sc_law.nd rfl (Or.inl rfl) (zau F_l_behind hr (zaa (pv 3) (zaa (pv 10) (zaa (pv 11) (zaa (pv 12) zac)))))))))))))))
   (zaf (zbO PassesOwn.never rfl (zfI rfl T.m_reversed (zaa (pv 7) zac)) (zjI rfl (zaZ (zas (i:=10) sc_law.nd rfl (Or.inl rfl)) (zaZ (zas (i:=11) sc_law.nd rfl (Or.inl rfl)) (zaZ (zas (i:=12) sc_law.nd rfl (Or.inl rfl)) (zaZ (zas (i:=13) sc_law.nd rfl (Or.inl rfl)) (zaZ (zas (i:=9) sc_law.nd rfl (Or.inl rfl)) zfJ)))))) (zae (zba (PW.pt (zph (zaw (zjP (List (Tri Int (List (Int×Int)) (List (Int×Int)))) (huD hr)) (zau F_l_done hr (zaa (pv 4) (zaa (pv 10) (zaa (pv 11) (zaa (zlR (pv 12)) zac))))) (zau F_l_turned_back hr (zaa (pv 13) zac)) (zaF _)) (zlL (zaw (zjP (List (List (Int×Int))×(Tup (Option Int)×Tup (Tup Int))) (huD hr)) (zau F_l_seen hr (zaa (pv 4) (zaa (pv 2) zac))) (pv 9) (zaF _))))) (zae (zav zhb)) zaA)))
   (zae (zav (zjL (zfK (zjQ (List (List (Int×Int))×(Tup (Option Int)×Tup (Tup Int))) (huD hr)) (zau F_l_seen hr (zaa (pv 4) (zaa (pv 2) zac))) (pv 6) (zaF _)) (zjJ (zfK (zjQ (List (List (Int×Int))×(Tup (Option Int)×Tup (Tup Int))) (huD hr)) (zau F_l_seen hr (zaa (pv 5) (zaa (pv 2) zac))) (pv 6) (zaF _))))))))))))))),?_⟩
 refine ⟨_,rfl,a,ns,rfl,hS,fun d H1 _ g1 s1=>?_⟩
 refine ⟨_,rfl,d,a,9,rfl,by decide,s1,fun t ps H2 ht hT hl h2 k2 s2=>?_⟩
 refine ⟨_,rfl,_,rfl,_,_,rfl,.inr (SqT.of h2),?_⟩
 refine ⟨d,a,(zbZ ps).length,12,rfl,by rw [zat]; omega,by omega,s2,fun r as rows H3 hr1 A1 hl1 R1 f1 h3 k3 s3=>?_⟩
 rw [zat] at hl1
 have h3t:=zho s2 k3 _ _ h2
 have w1:=zmq f1
 have hkeys : zbQ rows≤108:=by omega
 have hps : ps.length≤20:=by omega
 have hT3 : zbE H3 mp zep lamQ:=((hT0.ext g1.ext).ext (s1.ext k2)).ext (s2.ext k3)
 refine ⟨_,rfl,t,ps,rfl,h3t,hT,by omega,fun H4 s4=>?_⟩
 refine ⟨_,rfl,t,r,ps,rows,as,rfl,s4 _ _ h3t,s4 _ _ h3,A1.ext s4,hl1,hT,R1,by omega,by omega,fun st rs bs H5 hst s5 S5=>?_⟩
 intro sh dx hsh hdx hne
 refine zgw S5 hsh hdx hne fun p qs H6 hp hqs s6 S6=>⟨rfl,?_⟩
 have s36:=s4.trans (s5.trans s6)
 refine ⟨_,rfl,t,ps,rfl,s36 _ _ h3t,hT,by omega,fun H7 s7=>?_⟩
 have s37:=s36.trans s7
 refine ⟨_,rfl,t,r,ps,rows,as,rfl,s37 _ _ h3t,s37 _ _ h3,A1.ext s37,hl1,hT,R1,by omega,by omega,fun st2 rs2 bs2 H8 hst2 s8 S8=>?_⟩
 intro tw dx2 htw hdx2 hne2
 refine zgw S8 htw hdx2 hne2 fun p2 qs2 H9 hp2 hqs2 s9 S9=>⟨rfl,?_⟩
 have s68:=s7.trans s8
 have s69:=s68.trans s9
 have s38:=s36.trans s68
 have s39:=s36.trans s69
 have hT8:=hT3.ext s38.ext
 have A8 : zex [d,sh,p,mp] H8:=by
  obtain ⟨ns,x,l,e,_⟩:=(s3.same s38).ex
  obtain ⟨tab,e2,_⟩:=hT8.ex
  exact zkg fun b hb=>by
   simp only [yak,yaV,or_false] at hb
   rcases hb with rfl | rfl | rfl | rfl
   ·exact ⟨_,e,fun _ z=>by cases z⟩
   ·exact ⟨_,s68 _ _ S6.ins,fun _ z=>by cases z⟩
   ·exact ⟨_,s68 _ _ S6.full.at_,fun _ z=>by cases z⟩
   ·exact ⟨_,e2,fun _ z=>by cases z⟩
 refine ⟨_,rfl,_,rfl,tw,dx2,st2,p2,t,qs2,ps,rows,t,rs2,bs2,[d,sh,p,mp],rfl,S9,s39 _ _ h3t,A8.same s9,fun ss H10 hss s10 hseen=>?_⟩
 refine ⟨(by show 0≤sizeLine; decide),fun tr htr=>?_⟩
 have s11:=zai htr (.lst [])
 have htl : upd H10 tr (.lst []) tr = some (.lst []):=zab
 have s911:=s10.trans s11
 have s311:=s39.trans s911
 have ntr : ∀ {b : Addr} {o : HO},H10 b = some o→b≠tr:=fun e=>zad e htr
 have N0 : LNow K CS mp a (upd H10 tr (.lst [])) d sh p tr qs ps rows []:=by
  refine ⟨⟨dx,st,t,rs,bs,S6.same (s69.trans s911)⟩,hT3.ext s311.ext,zqZ s3 fun b o n e=>?_,htl,?_,fun z=>?_⟩
  ·refine ze7 (s311 _ _ e) fun z=>?_
   simp only [yak,yaV,or_false] at z
   have e5:=s5 _ _ (s4 _ _ e)
   rcases z with rfl | rfl | rfl | rfl
   ·rw [hsh] at e5; cases e5
   ·rw [hp] at e5; cases e5
   ·obtain ⟨tab,e2,_⟩:=hT3.ex
    rw [e2] at e
    exact n _ (yad e).symm
   ·exact ntr (s10 _ _ (s39 _ _ e)) rfl
  ·exact (ntr (s10 _ _ (s69 _ _ S6.full.at_))).symm
  ·obtain ⟨j,hj,e⟩:=ya3 z
   obtain ⟨ws,w1,_⟩:=S6.full.get j tr (by rw [yac hj,e])
   exact ntr (s10 _ _ (s69 _ _ w1)) rfl
 have D0 : zjb K CS (dl [d,sh,p,mp,tr] (upd H10 tr (.lst []))) tw ss t ps rows [] []:=by
  have nv : ∀ {b : Addr} {o : HO},H8 b = none→H10 b = some o→b∉[d,sh,p,mp,tr]:=fun {b o} e1 e2 z=>by
   have n1:=A8.fresh e1
   simp only [yak,yaV,or_false] at z n1
   rcases z with z | z | z | z | z
   ·exact n1 (.inl z)
   ·exact n1 (.inr (.inl z))
   ·exact n1 (.inr (.inr (.inl z)))
   ·exact n1 (.inr (.inr (.inr z)))
   ·exact ntr e2 z
  refine ⟨⟨dx2,st2,p2,qs2,t,rs2,bs2,(S9.same s911).dl N0.apart.tup (nv htw (s10 _ _ S9.ins)) (nv hdx2 (s10 _ _ S9.own)) (nv hp2 (s10 _ _ S9.full.at_)) fun x hx=>?_⟩,Rep.mono (Same.ext ?_) hseen,⟨rfl,fun j e v h=>by cases h⟩,N0.apart.tup.dl (s311 _ _ h3t)⟩
  ·obtain ⟨j,hj,e⟩:=ya3 hx
   obtain ⟨ws,w1,_⟩:=S9.full.get j x (by rw [yac hj,e])
   exact nv (hqs2 x hx) (s10 _ _ w1)
  ·intro b o e
   unfold dl at e ⊢
   split at e
   ·cases e
   ·rename_i n
    simp only [yak,yaV,or_false] at n
    rw [if_neg (fun z=>by
     simp only [yak,yaV,or_false] at z
     rcases z with z | z | z | z | z
     ·exact n (.inl z)
     ·exact n (.inr (.inl z))
     ·exact n (.inr (.inr (.inl z)))
     ·exact n (.inr (.inr (.inr z)))
     ·exact ntr e z)]
    exact s11 _ _ e
 have R0 : zdk (upd H10 tr (.lst [])) r as rows:=⟨s311 _ _ h3,A1.ext s311⟩
 generalize upd H10 tr (.lst []) = H11 at N0 D0 R0 ⊢
 clear hseen s311 s911 htl s11 htr s10 ntr
 refine ⟨_,rfl,d,a,11,rfl,by decide,N0.lsH,fun n H12 n0 n1 k12 s12=>⟨_,rfl,by omega,by omega,?_⟩⟩
 have D1:=D0.same (zbV (zeG k12))
 have R1:=R0.tp (zho N0.lsH k12)
 have N1:=N0.take k12 s12
 clear D0 R0 N0
 refine zbB (n:=n.toNat) (fun i σ HA=>∃ (r : Addr) (asr : List Addr) (es : List Dd) (us : List V) (qs : List Addr) (x8 x9 x10 x11 x12 x13 : Option V),σ = [some (.ref a),some (.ref d),some (.ref t),some (.ref r),some (.ref sh),some (.ref tw),some (.ref ss),some (.ref tr),x8,x9,x10,x11,x12,x13]∧es.length≤i∧zdk HA r asr (zbL rows es es.length)∧LNow K CS mp a HA d sh p tr qs ps (zbL rows es es.length) us∧zjb K CS (dl [d,sh,p,mp,tr] HA) tw ss t ps rows es us∧zbQ (zbL rows es es.length)≤108 + es.length) ?_ ?_ ?_
 ·exact ⟨r,as,[],[],qs,_,_,_,_,_,_,rfl,yaE _,R1,N1,D1,hkeys⟩
 ·rintro i σ HA hi ⟨r,asr,es,us,qs,x8,x9,x10,x11,x12,x13,rfl,hei,RA,NA,DA,hkA⟩
  obtain ⟨ro,hro⟩ : ∃ ro,ro = zbL rows es es.length:=⟨_,rfl⟩
  rw [← hro] at RA NA hkA
  obtain ⟨dx,st,tS,rs,ass,SA⟩:=NA.shelf
  have hlen:=SA.stand.len
  refine ⟨_,rfl,_,rfl,sh,dx,st,p,t,qs,ps,ro,tS,rs,ass,[d,sh,p,mp,tr],rfl,SA,zbU _ _ DA.tree,NA.apart,fun s1 HB hs1 sB hasB=>?_⟩
  have NB:=NA.same sB
  have DB:=DA.same (zbV (KpV.of sB))
  have RB:=RA.tp fun b us e=>sB _ _ e
  refine ⟨_,rfl,_,rfl,_,rfl,d,a,t,r,ps,ro,asr,rfl,zbU _ _ DB.tree,by omega,RB,hlen,SA.stand.R,fun k=>yay (zjz k) (by omega),NB.lsH,fun u kn x HC hu hkn hx huT kC sC=>?_⟩
  refine ⟨u,_,rfl,SqT.of huT,rfl,_,_,rfl,_,_,rfl,_,_,rfl,rfl,?_⟩
  have NC:=NB.take kC sC
  have DC:=DB.same (zbV (zeG kC))
  have RC:=RB.tp (zho NB.lsH kC)
  have hasC:=zc0 (zeG (sh:=sh) (p:=p) (mp:=mp) (tr:=tr) kC) hasB
  generalize hb : (!decide (x∈zak ro kn)) = b
  have hb:=hb.symm
  clear DA RA NB DB RB hasB huT SA NA
  obtain ⟨dx,st,tS,rs,ass,SC⟩:=NC.shelf
  have hkr : kn < ro.length:=by omega
  have hok : zjS b ro kn x:=⟨fun z=>⟨fun y=>(by rw [z,yag y] at hb; cases hb),by omega⟩,fun z=>show x∈zak ro kn from Classical.byContradiction fun y=>by rw [z,yaf y] at hb; cases hb⟩
  refine ⟨_,rfl,_,rfl,_,rfl,_,rfl,sh,dx,st,p,kn,x,b,qs,ps,ro,tS,rs,ass,rfl,SC,hkn,hx,hok,NC.tab,fun D zs m qs' st' rs' as' HD X=>?_⟩
  have ND:=NC.deed X
  have kpD : KpV [d,sh,p,mp,tr] HC HD:=X.kp (by simp) (by simp) (by simp)
  have DD:=DC.same (zbV kpD)
  have RD:=RC.tp (kpD.tp NC.apart.tup)
  have hasD:=zc0 kpD hasC
  have toldD:=X.data NC.apart
  have S':=X.shelf
  have hst:=X.stops
  have hne:=zia SC.stand.T SC.stand.R S'.stand.R hlen hkn hb
  have hrne : ro≠za3 ro kn x b:=fun z=>hne (by rw [← z,zh9]; exact ⟨rfl,rfl⟩)
  refine ⟨fun σ' H'=>σ' = [some (.ref a),some (.ref d),some (.ref t),some (.ref r),some (.ref sh),some (.ref tw),some (.ref ss),some (.ref tr),some (.int (0 + (i : Int))),some (.ref s1),some (.int kn),some (.int x),some (.bl b),some (.ref D)]∧Same HD H',?_,?_⟩
  ·refine ⟨_,rfl,(by show 0≤sizeLine; decide),fun l hl=>?_⟩
   have sl:=zai hl (.lst [])
   have hll : upd HD l (.lst []) l = some (.lst []):=zab
   generalize upd HD l (.lst []) = HE at sl hll ⊢
   refine ⟨zbf ps ro (za3 ro kn x b) kn m,[],Rep.mono sl.ext (zce toldD),⟨l,[],rfl,SqL.of hll,.nil⟩,_,rfl,?_⟩
   refine zmw (zo5 hst hne) ?_
   refine ⟨_,rfl,_,rfl,sh,dx,st',p,t,qs',ps,za3 ro kn x b,tS,rs',as',[],rfl,S'.same sl,sl _ _ (zbU _ _ DD.tree),⟨(fun _ z=>nomatch z),(fun _ z=>nomatch z)⟩,fun u2 HF hu2 sF hasF=>?_⟩
   refine ⟨_,rfl,zc3 ps (za3 ro kn x b),zc3 ps ro,zce hasF,Rep.mono (sl.trans sF).ext (zce hasD),_,rfl,?_⟩
   exact zmw (fun z=>hrne (zko (congrArg Prod.snd z)).symm) ⟨rfl,sl.trans sF⟩
  rintro _ HE ⟨rfl,sE⟩
  have NE:=ND.same sE
  have DE:=DD.same (zbV (KpV.of sE))
  have RE:=RD.tp fun b us e=>sE _ _ e
  have hasE:=zc0 (KpV.of sE) hasD
  have toldE:=zc0 (KpV.of sE) toldD
  refine ⟨_,rfl,d,a,2,rfl,by decide,NE.lsH,fun v HF _ _ kF sF=>⟨rfl,_,rfl,?_⟩⟩
  have NF:=NE.take kF sF
  have DF:=DE.same (zbV (zeG kF))
  have RF:=RE.tp (zho NE.lsH kF)
  have hasF:=zc0 (zeG (sh:=sh) (p:=p) (mp:=mp) (tr:=tr) kF) hasE
  have toldF:=zc0 (zeG (sh:=sh) (p:=p) (mp:=mp) (tr:=tr) kF) toldE
  clear NE DE RE hasE toldE ND DD RD hasD toldD NC DC RC hasC
  have hf2:=zgF hkr (SC.stand.R.at_up kn) hb
  have hbk:=zgG hkr (SC.stand.R.at_up kn) hb
  have hk2:=zgE (x:=x) (b:=b) hkr
  have hlen2 : (za3 ro kn x b).length = ps.length + 1:=by rw [zib]; exact hlen
  refine ite2 (fun _=>?_) (fun _=>?_)
  ·obtain ⟨dx,st2,t2,rs2,as2,SF⟩:=NF.shelf
   have hok2 : zjS (!b) (za3 ro kn x b) kn x:=⟨fun z=>⟨fun y=>(by rw [z,yag y] at hf2; cases hf2),by omega⟩,fun z=>show x∈zak (za3 ro kn x b) kn from Classical.byContradiction fun y=>by rw [z,yaf y] at hf2; cases hf2⟩
   refine ⟨fun σ' H'=>σ' = [some (.ref a),some (.ref d),some (.ref t),some (.ref r),some (.ref sh),some (.ref tw),some (.ref ss),some (.ref tr),some (.int (0 + (i : Int))),some (.ref s1),some (.int kn),some (.int x),some (.bl b),some (.ref D)]∧zdk H' r asr ro∧(∃ qs3,LNow K CS mp a H' d sh p tr qs3 ps ro us)∧zjb K CS (dl [d,sh,p,mp,tr] H') tw ss t ps rows es us∧Rep.has K (dl [d,sh,p,mp,tr] H') (zc3 ps ro) (.ref s1),?_,?_⟩
   ·refine ⟨_,rfl,_,rfl,_,rfl,_,rfl,_,rfl,sh,dx,st2,p,kn,x,!b,qs',ps,za3 ro kn x b,t2,rs2,as2,rfl,SF,hkn,hx,hok2,NF.tab,fun D2 zs2 m2 qs3 st3 rs3 as3 HG X2=>?_⟩
    rw [hbk] at X2
    have kpG : KpV [d,sh,p,mp,tr] HF HG:=X2.kp (by simp) (by simp) (by simp)
    refine ⟨_,rfl,D,_,rfl,zce (zc0 kpG toldF),by have:=(zgT (rows:=ro) (rows':=za3 ro kn x b) (k:=kn) SF.stand.T m).2; omega,fun B HH sH hasH=>?_⟩
    refine ⟨zbf ps (za3 ro kn x b) ro kn m2,(zbf ps ro (za3 ro kn x b) kn m).map zln,Rep.mono sH.ext (zce (X2.data NF.apart)),hasH,_,rfl,?_⟩
    refine zkL ((zjk X2.stops hst.swap).trans (zfz m)) ?_
    exact ⟨rfl,(RF.tp (kpG.tp NF.apart.tup)).tp (fun b us e=>sH _ _ e),⟨qs3,(NF.deed X2).same sH⟩,(DF.same (zbV kpG)).same (zbV (KpV.of sH)),zc0 (KpV.of sH) (zc0 kpG hasF)⟩
   rintro _ HG ⟨rfl,RG,⟨qs3,NG⟩,DG,hasG⟩
   obtain ⟨dx3,st3,t3,rs3,as3,SG⟩:=NG.shelf
   refine ⟨_,rfl,_,rfl,sh,dx3,st3,p,t,qs3,ps,ro,t3,rs3,as3,[],rfl,SG,zbU _ _ DG.tree,⟨(fun _ z=>nomatch z),(fun _ z=>nomatch z)⟩,fun u3 HH hu3 sH hasH=>?_⟩
   refine ⟨_,rfl,zc3 ps ro,zc3 ps ro,zce hasH,Rep.mono sH.ext (zce hasG),_,rfl,?_⟩
   refine zkL (Eq.refl (zc3 ps ro)) ?_
   refine ⟨r,asr,es,us,qs3,_,_,_,_,_,_,rfl,by omega,?_⟩
   rw [← hro]
   exact ⟨RG.tp (fun b us e=>sH _ _ e),NG.same sH,DG.same (zbV (KpV.of sH)),hkA⟩
  ·have hul:=DF.trail.len
   refine ⟨_,rfl,.inl ⟨rfl,_,SqL.of NF.trl⟩,_,rfl,_,rfl,_,rfl,_,rfl,_,rfl,(by show 5≤sizeLine; decide),fun u2 hu2=>?_⟩
   have sG:=zai hu2 (.tup [.int kn,.int x,.bl b,.ref D,.ref s1])
   have huT : upd HF u2 (.tup [.int kn,.int x,.bl b,.ref D,.ref s1]) u2 = some (.tup [.int kn,.int x,.bl b,.ref D,.ref s1]):=zab
   generalize upd HF u2 (.tup [.int kn,.int x,.bl b,.ref D,.ref s1]) = HG at sG huT ⊢
   have NG:=NF.same sG
   refine ⟨_,_,_,rfl,rfl,NG.trl,zaq (by omega),?_⟩
   have kG : KpV [d,sh,p,mp,tr] HG (upd HG tr (.lst (us ++ [.ref u2]))):=fun b o n e=>by rw [zah (fun z=>n (by simp [z]))]; exact e
   have NH:=NG.app (us':=us ++ [.ref u2])
   have sdG:=(zbV (KpV.of (Av:=[d,sh,p,mp,tr]) sG)).trans (zbV kG)
   have E1 : TrE K (dl [d,sh,p,mp,tr] (upd HG tr (.lst (us ++ [.ref u2])))) ps (zbL rows es es.length) (za3 (zbL rows es es.length) kn x b) (kn,x,b) (.ref u2):=by
    rw [← hro]
    refine ⟨⟨u2,D,s1,m,rfl,?_,hst,Rep.mono sdG.ext toldF,Rep.mono sdG.ext hasF⟩,hkn,hx,hb,SC.stand.R.at_up kn⟩
    exact (zbV kG) _ _ (NG.apart.tup.dl huT)
   have DH:=DF.same sdG
   have RH:=(RF.tp (fun b us e=>sG _ _ e)).tp (kG.tp NG.apart.tup)
   generalize upd HG tr (.lst (us ++ [.ref u2])) = HH at NH DH RH E1 ⊢
   refine ⟨_,rfl,_,rfl,_,rfl,_,rfl,r,kn,x,b,ro,asr,rfl,RH,hkr,by omega,SC.stand.R,fun k=>yay (zjz k) (by omega),hb,fun r' as' HI hr' sI RI=>?_⟩
   have er : zbL rows (es ++ [(kn,x,b)]) (es ++ [(kn,x,b)]).length = za3 ro kn x b:=by
    rw [yam,ya5,zcB (j:=es.length) (e:=(kn,x,b)) (by rw [ya4 (yaa _),Nat.sub_self]; rfl),zfE (yaa _),← hro]
   refine ⟨r',as',es ++ [(kn,x,b)],us ++ [.ref u2],qs',_,_,_,_,_,_,rfl,by rw [yam,ya5]; omega,?_⟩
   rw [er]
   refine ⟨RI,NH.same sI,?_,by rw [yam,ya5]; omega⟩
   have D2:=DH.same (zbV (KpV.of (Av:=[d,sh,p,mp,tr]) sI))
   exact ⟨D2.twin,D2.start,D2.trail.snoc (E1.same (zbV (KpV.of sI))),D2.tree⟩
 ·rintro σ HA ⟨r,asr,es,us,qs,x8,x9,x10,x11,x12,x13,rfl,hei,RA,NA,DA,hkA⟩
  have hul:=DA.trail.len
  have hval : ∀ e∈es,e.1 < rows.length:=fun e he=>by
   obtain ⟨j,hj,z⟩:=ya3 he
   have:=(DA.trail.get j e _ (by rw [yac hj,z]) (yac (by omega))).kn
   omega
  have hJk:=zgp hval
  clear RA hkA
  refine ⟨_,rfl,tr,us,rfl,SqL.of NA.trl,?_⟩
  refine zmL (xs:=us) (fun i σ HB=>∃ (qs : List Addr) (x8 x9 x10 x11 x12 x13 : Option V),σ = [some (.ref a),some (.ref d),some (.ref t),some (.ref r),some (.ref sh),some (.ref tw),some (.ref ss),some (.ref tr),x8,x9,x10,x11,x12,x13]∧LNow K CS mp a HB d sh p tr qs ps (zbL rows es (es.length - i)) us∧zjb K CS (dl [d,sh,p,mp,tr] HB) tw ss t ps rows es us) ?_ ?_ ?_ ?_
  ·exact ⟨qs,_,_,_,_,_,_,rfl,NA,DA⟩
  ·rintro i σ HB _ ⟨qs,y8,y9,y10,y11,y12,y13,rfl,NB,_⟩
   exact SqL.of NB.trl
  ·rintro i v σ HB hv ⟨qs,y8,y9,y10,y11,y12,y13,rfl,NB,DB⟩
   have hi : i < us.length:=by
    have:=(yan.mp hv).1
    rwa [ybH] at this
   obtain ⟨j,hj⟩ : ∃ j,j = us.length - 1 - i:=⟨_,rfl⟩
   rw [yci hi,← hj] at hv
   have hje : j < es.length:=by omega
   obtain ⟨e,he⟩ : ∃ e,es[j]? = some e:=⟨_,yac hje⟩
   have E1:=DB.trail.get j e v he hv
   have hJ1:=hJk (j + 1)
   have hJl:=zhU (rows:=rows) (es:=es) j
   rw [show es.length - i = j + 1 by omega,zcB he] at NB
   rw [zcB he] at E1 hJ1
   rw [show es.length - (i + 1) = j by omega]
   generalize zbL rows es j = ro at NB E1 hJ1 hJl ⊢
   obtain ⟨kn,x,b⟩:=e
   obtain ⟨u,D,s1,m,rfl,hu,hst,toldB,hasB⟩:=E1.ex
   have hkn:=E1.kn
   have hx:=E1.key
   have hb:=E1.flag
   have hup:=E1.up
   dsimp only at hkn hx hb hup hst toldB NB hJ1 hu
   have hkr : kn < ro.length:=by omega
   refine ⟨u,_,rfl,SqT.of (zbU _ _ hu),rfl,_,_,rfl,_,_,rfl,_,_,rfl,_,_,rfl,_,_,rfl,rfl,?_⟩
   have hf2:=zgF hkr hup hb
   have hbk:=zgG hkr hup hb
   obtain ⟨dx,st2,t2,rs2,as2,SB⟩:=NB.shelf
   have hok2 : zjS (!b) (za3 ro kn x b) kn x:=⟨fun z=>⟨fun y=>(by rw [z,yag y] at hf2; cases hf2),by omega⟩,fun z=>show x∈zak (za3 ro kn x b) kn from Classical.byContradiction fun y=>by rw [z,yaf y] at hf2; cases hf2⟩
   refine ⟨_,rfl,_,rfl,_,rfl,_,rfl,_,rfl,sh,dx,st2,p,kn,x,!b,qs,ps,za3 ro kn x b,t2,rs2,as2,rfl,SB,hkn,hx,hok2,NB.tab,fun D2 zs2 m2 qs3 st3 rs3 as3 HG X2=>?_⟩
   rw [hbk] at X2
   have kpG : KpV [d,sh,p,mp,tr] HB HG:=X2.kp (by simp) (by simp) (by simp)
   refine ⟨_,rfl,D,_,rfl,zce (zc0 kpG toldB),by have:=(zgT (rows:=ro) (rows':=za3 ro kn x b) (k:=kn) SB.stand.T m).2; omega,fun B HH sH hasH=>?_⟩
   refine ⟨zbf ps (za3 ro kn x b) ro kn m2,(zbf ps ro (za3 ro kn x b) kn m).map zln,Rep.mono sH.ext (zce (X2.data NB.apart)),hasH,_,rfl,?_⟩
   refine zkL ((zjk X2.stops hst.swap).trans (zfz m)) ?_
   have NH:=(NB.deed X2).same sH
   have DH:=(DB.same (zbV kpG)).same (zbV (KpV.of sH))
   have hasH2:=zc0 (KpV.of sH) (zc0 kpG hasB)
   obtain ⟨dx3,st3,t3,rs3,as3,SH⟩:=NH.shelf
   refine ⟨_,rfl,_,rfl,sh,dx3,st3,p,t,qs3,ps,ro,t3,rs3,as3,[],rfl,SH,zbU _ _ DH.tree,⟨(fun _ z=>nomatch z),(fun _ z=>nomatch z)⟩,fun u3 HI hu3 sI hasI=>?_⟩
   refine ⟨_,rfl,zc3 ps ro,zc3 ps ro,zce hasI,Rep.mono sI.ext (zce hasH2),_,rfl,?_⟩
   refine zkL (Eq.refl (zc3 ps ro)) ?_
   exact ⟨qs3,_,_,_,_,_,_,rfl,NH.same sI,DH.same (zbV (KpV.of sI))⟩
  ·rintro σ HB ⟨qs,y8,y9,y10,y11,y12,y13,rfl,NB,DB⟩
   rw [hul,Nat.sub_self] at NB
   obtain ⟨dx3,st3,t3,rs3,as3,SH⟩:=NB.shelf
   refine ⟨_,rfl,_,rfl,sh,dx3,st3,p,t,qs,ps,rows,t3,rs3,as3,[],rfl,SH,zbU _ _ DB.tree,⟨(fun _ z=>nomatch z),(fun _ z=>nomatch z)⟩,fun u3 HI hu3 sI hasI=>?_⟩
   have DI:=DB.same (zbV (KpV.of sI))
   refine ⟨_,rfl,zc3 ps rows,zc3 ps rows,zce hasI,zce DI.start,_,rfl,?_⟩
   rw [yag (Eq.refl (zc3 ps rows))]
   refine iteT ?_
   obtain ⟨dx4,st4,p4,qs4,t4,rs4,as4,ST⟩:=DI.twin
   refine ⟨_,rfl,_,rfl,tw,dx4,st4,p4,t,qs4,ps,rows,t4,rs4,as4,[],rfl,ST.same zbU,zbU _ _ DI.tree,⟨(fun _ z=>nomatch z),(fun _ z=>nomatch z)⟩,fun u4 HJ hu4 sJ hasJ=>?_⟩
   refine ⟨_,rfl,zc3 ps rows,zc3 ps rows,zce hasJ,Rep.mono sJ.ext (zce DI.start),?_⟩
   rw [yag (Eq.refl (zc3 ps rows))]
   exact q _
abbrev lawRoom : Nat:=11
theorem all_ok (T : Txt K mg) {CS : Addr} (O : OwnC K mg CS) {mc mp : Addr} (hBM : BMAt mg base) (D_is_whole : DF K mg "is_whole" zds zca) (D_is_key : DF K mg "is_key" zfl zc8) (D_need_key : DF K mg "need_key" zdq zcS) (D_code : DF K mg "code" zjv zg8) (D_how_many_below : DF K mg "how_many_below" zbj zbc) (D_place : DFT K mg "place" zeD zd9 mc mp) (D_joined_up : DF K mg "joined_up" zcL zbN) (D_lowest_unlike : DF K mg "lowest_unlike" zbs zbm) (D_turned : DF K mg "turned" zfc zd7) (D_labels : DF K mg "labels" zfe zea) (D_neighbours : DF K mg "neighbours" zck zbw) (D_least_free : DF K mg "least_free" zcl zb2) (D_colours : DF K mg "colours" zd4 zdz) (D_marks : DF K mg "marks" zg0 zfo) (D_handed : DF K mg "handed" zfm zc9) (D_is_one_of_first : DF K mg "is_one_of_first" zbb zaM) (D_tree_of : DF K mg "tree_of" zd1 zdw) (D_need_knot : DF K mg "need_knot" zcK zbM) (D_children : DF K mg "children" zdt zcU) (D_beneath : DF K mg "beneath" zd5 zdA) (D_row_of : DF K mg "row_of" zfd zd8) (D_long_together : DF K mg "long_together" zbt za4) (D_stand_of : DF K mg "stand_of" zdp zcR) (D_with_row : DF K mg "with_row" zdo zb9) (D_own_entries : DF K mg "own_entries" zb0 zbG) (D_full_rows_beneath : DF K mg "full_rows_beneath" zaW zaT) (D_full_rows : DF K mg "full_rows" zcM zcn) (D_without : DF K mg "without" zd0 zdv) (D_l_begin : DF K mg "_law_begin" zd3 zdy) (D_l_mixed : DF K mg "_law_mixed" zd2 zdx) (D_l_take : DF K mg "_law_take" zfg zbx) (D_l_key : DF K mg "_law_key" zg2 zef) (D_l_tree : DF K mg "_law_tree" zff zeb) (D_l_row : DF K mg "_law_row" zg1 zfp) (D_l_rows : DF K mg "_law_rows" zfj zee) (D_l_step : DF K mg "_law_step" zfh zec) (D_l_behind : DF K mg "_law_behind" zdr zcT) (D_l_done : DF K mg "_law_done" zfk zeg) (D_l_seen : DF K mg "_law_seen" zfi zed) (D_l_turned_back : DF K mg "_law_turned_back" zbu zbn) (D_law : DF K mg "law" znr zjG) (D_Shelf___init__ : DI K CS "Shelf.__init__" zbl zbd) (D_Shelf_row_for : DM K CS "row_for" "Shelf.row_for" zbv za5) (D_Shelf_carry_up : DM K CS "carry_up" "Shelf.carry_up" zbk zaV) (D_Shelf_put : DM K CS "put" "Shelf.put" zcN zco) (D_Shelf_out : DM K CS "out" "Shelf.out" zcO zcp) (D_Shelf_stand : DM K CS "stand" "Shelf.stand" zb1 zbH) (D_Shelf_full : DM K CS "full" "Shelf.full" zcm zb3) : FC P w K mg base 11 "law" zjG (zhN K mp):=
 have m:=znI (P:=P) (w:=w) (base:=base) T D_l_mixed
 have t:=zpu T D_l_take m
 have c:=zpB (P:=P) (w:=w) (base:=base) T D_code
 have nb:=zhh (P:=P) (w:=w) (base:=base) T D_neighbours
 have mk:=znJ T D_marks (zl5 T D_labels c (zl2 T D_turned (zqP T D_lowest_unlike))) (zkB T D_colours nb (zhi T D_least_free)) nb
 have hd:=zl7 T D_handed mk
 have ch:=ziF (P:=P) (w:=w) (base:=base) T D_children
 have jo:=zl6 (P:=P) (w:=w) (base:=base) T D_joined_up
 have fr:=zqT T D_full_rows_beneath (zkC T D_beneath) ch hd (zqN T D_own_entries) jo
 have wh:=znC (P:=P) (w:=w) (base:=base) T D_is_whole
 have lg:=zpy (P:=P) (w:=w) (base:=base) T D_long_together
 have ik:=znN T D_is_key wh
 have so:=zkA T D_stand_of (znF T D_row_of ik) lg
 have fi:=znQ T D_is_one_of_first wh
 have ky:=zqR T D_l_key t
 have kn:=znM T D_need_knot fi
 have rf:=zl4 T O D_Shelf_row_for kn (znH T D_need_key ik)
 have pl:=znG (P:=P) (w:=w) (base:=base) T D_place hBM (fun b=>zqS (base:=b) T D_how_many_below)
 have wr:=zpt (P:=P) (w:=w) (base:=base) T D_with_row
 have cu:=znR T O D_Shelf_carry_up hd jo (zkz T D_without)
 have pu:=zqM T O D_Shelf_put rf lg pl wr cu
 have ou:=zqO T O D_Shelf_out rf pl wr cu
 zqQ T O D_law (znS T D_l_begin) t (znK T D_l_tree t) (znL T D_l_rows t (zpx T D_l_row t ky)) (zl3 T D_tree_of fi) so (zpz T O D_Shelf___init__ (znO T D_full_rows fr)) (zpw T O D_l_seen (znP T O D_Shelf_full kn) (znE O D_Shelf_stand)) (zpv T D_l_step t ky) (zl8 T D_l_behind) (zpA T O D_l_done pu ou) (znD T D_l_turned_back)
end
structure AD (K : Frag) (x : Str) (st : Stmt) : Prop where
 ex : ∃ (f : Addr) (oc : Value) (od : Option Addr) (kV dc pm : Value) (an : Option Addr) (cd ct : Value) (sl : Array (Option Value)),nsIn K mainGlobals x = some (some (.ref f))∧K.lookup f = some ⟨oc,od,.func (fnOf x x (zbC st) (za2 st) (zag st) .none kV dc pm an cd ct),sl⟩∧codeIn K cd x = true∧keepIn K (.ref f) = true
theorem AD.of {K : Frag} {x : Str} {st : Stmt} {f : Addr} {oc : Value} {od : Option Addr} {kV dc pm : Value} {an : Option Addr} {cd ct : Value} {sl : Array (Option Value)} (a : nsIn K mainGlobals x = some (some (.ref f))) (l : K.lookup f = some ⟨oc,od,.func (fnOf x x (zbC st) (za2 st) (zag st) .none kV dc pm an cd ct),sl⟩) (c : codeIn K cd x = true) (k : keepIn K (.ref f) = true) : AD K x st:=⟨f,oc,od,kV,dc,pm,an,cd,ct,sl,a,l,c,k⟩
theorem AD.df {K : Frag} {h : Heap} {mg : Str→Option Value} {x : Str} {st : Stmt} {ps : List Str} (a : AD K x st) (X : K.In h) (G : h.Ns mainGlobals mg)
  (hb : ∀ (kV doc pm : Value) (an : Option Addr) (cdv ct : Value) (us : List Value),us.length = ps.length→bindArgs (fnOf x x (zbC st) (za2 st) (zag st) .none kV doc pm an cdv ct) ⟨us,[]⟩ = pure (ps.zip us):=by
   intro _ _ _ _ _ _ u h
   rcases u with _ | ⟨_,_ | ⟨_,_ | ⟨_,_ | ⟨_,_ | ⟨_,_ | ⟨_,_ | ⟨_,u⟩⟩⟩⟩⟩⟩⟩ <;> first | rfl | cases h) : DF K mg x st ps:=by
 obtain ⟨f,oc,od,kV,dc,pm,an,cd,ct,sl,a,l,c,k⟩:=a.ex
 exact ⟨_,_,zfW l c k,(zfW l c k).binds hb,mg_of X G a⟩
theorem AD.dft {K : Frag} {h : Heap} {mg : Str→Option Value} {x : Str} {st : Stmt} {ps : List Str} {mc mp : Addr} (a : AD K x st) (X : K.In h) (G : h.Ns mainGlobals mg) (t : tabIn K x = some (mc,mp)) (hh : codeHdIn K mc mp = true)
  (hb : ∀ (kV doc pm : Value) (an : Option Addr) (cdv ct : Value) (us : List Value),us.length = ps.length→bindArgs (fnOf x x (zbC st) (za2 st) (zag st) .none kV doc pm an cdv ct) ⟨us,[]⟩ = pure (ps.zip us):=by
   intro _ _ _ _ _ _ u h
   rcases u with _ | ⟨_,_ | ⟨_,_ | ⟨_,_ | ⟨_,_ | ⟨_,_ | ⟨_,_ | ⟨_,u⟩⟩⟩⟩⟩⟩⟩ <;> first | rfl | cases h) : DFT K mg x st ps mc mp:=by
 obtain ⟨f,oc,od,kV,dc,pm,an,cd,ct,sl,a,l,c,k⟩:=a.ex
 have e : cd = .ref mc:=L2.znk a l t
 subst e
 exact ⟨⟨_,_,_,_,_,_,_,_,_,l,c,k,mg_of X G a,(zfW l c k).binds hb⟩,hh⟩
structure AM (K : Frag) (C : Addr) (m q : Str) (st : Stmt) : Prop where
 ex : ∃ (f : Addr) (oc : Value) (od : Option Addr) (kV dc pm : Value) (an : Option Addr) (cd ct : Value) (sl : Array (Option Value)),findIn K (.ref C) m = some (some (.ref f))∧PySem.W.isFn K (.ref f) = true∧K.lookup f = some ⟨oc,od,.func (fnOf m q (zbC st) (za2 st) (zag st) .none kV dc pm an cd ct),sl⟩∧codeIn K cd q = true∧keepIn K (.ref f) = true
theorem AM.of {K : Frag} {C : Addr} {m q : Str} {st : Stmt} {f : Addr} {oc : Value} {od : Option Addr} {kV dc pm : Value} {an : Option Addr} {cd ct : Value} {sl : Array (Option Value)} (a : findIn K (.ref C) m = some (some (.ref f))) (i : PySem.W.isFn K (.ref f) = true) (l : K.lookup f = some ⟨oc,od,.func (fnOf m q (zbC st) (za2 st) (zag st) .none kV dc pm an cd ct),sl⟩) (c : codeIn K cd q = true) (k : keepIn K (.ref f) = true) : AM K C m q st:=⟨f,oc,od,kV,dc,pm,an,cd,ct,sl,a,i,l,c,k⟩
theorem AM.dm {K : Frag} {C : Addr} {m q : Str} {st : Stmt} {ps : List Str} (a : AM K C m q st)
  (hb : ∀ (kV doc pm : Value) (an : Option Addr) (cdv ct : Value) (us : List Value),us.length = ps.length→bindArgs (fnOf m q (zbC st) (za2 st) (zag st) .none kV doc pm an cdv ct) ⟨us,[]⟩ = pure (ps.zip us):=by
   intro _ _ _ _ _ _ u h
   rcases u with _ | ⟨_,_ | ⟨_,_ | ⟨_,_ | ⟨_,_ | ⟨_,_ | ⟨_,_ | ⟨_,u⟩⟩⟩⟩⟩⟩⟩ <;> first | rfl | cases h) : DM K C m q st ps:=by
 obtain ⟨f,oc,od,kV,dc,pm,an,cd,ct,sl,a,i,l,c,k⟩:=a.ex
 exact ⟨_,_,zfW l c k,(zfW l c k).binds hb,⟨a,i,k⟩⟩
theorem AM.di {K : Frag} {C : Addr} {q : Str} {st : Stmt} {ps : List Str} (a : AM K C "__init__" q st) (mk : PySem.W.makesIn K C = true) (kc : keepIn K (.ref C) = true)
  (hb : ∀ (kV doc pm : Value) (an : Option Addr) (cdv ct : Value) (us : List Value),us.length = ps.length→bindArgs (fnOf "__init__" q (zbC st) (za2 st) (zag st) .none kV doc pm an cdv ct) ⟨us,[]⟩ = pure (ps.zip us):=by
   intro _ _ _ _ _ _ u h
   rcases u with _ | ⟨_,_ | ⟨_,_ | ⟨_,_ | ⟨_,_ | ⟨_,u⟩⟩⟩⟩⟩ <;> first | rfl | cases h) : DI K C q st ps:=by
 obtain ⟨f,oc,od,kV,dc,pm,an,cd,ct,sl,a,i,l,c,k⟩:=a.ex
 exact ⟨_,_,zfW l c k,(zfW l c k).binds hb,⟨mk,a,i,kc⟩⟩
theorem zro {l : OpenLaw} {w : World} {K : Frag} {h : Heap} {mg : Str→Option Value} {fa mc6 mp6 CS : Addr} (X : K.In h) (G : h.Ns mainGlobals mg) (hfa : mg "law" = some (.ref fa)) {t_KNOT_NUMBERS : Tok} {t_TURNS : Tok} {t_MOST_KNOTS : Tok} {t_MOST_KEYS : Tok} (a1 : AD K "is_whole" zds) (a2 : AD K "is_key" zfl) (a3 : AD K "need_key" zdq) (a4 : AD K "code" zjv) (a5 : AD K "how_many_below" zbj) (a6 : AD K "place" zeD) (a7 : AD K "joined_up" zcL) (a8 : AD K "lowest_unlike" zbs) (a9 : AD K "turned" zfc) (a10 : AD K "labels" zfe) (a11 : AD K "neighbours" zck) (a12 : AD K "least_free" zcl) (a13 : AD K "colours" zd4) (a14 : AD K "marks" zg0) (a15 : AD K "handed" zfm) (a16 : AD K "is_one_of_first" zbb) (a17 : AD K "tree_of" zd1) (a18 : AD K "need_knot" zcK) (a19 : AD K "children" zdt) (a20 : AD K "beneath" zd5) (a21 : AD K "row_of" zfd) (a22 : AD K "long_together" zbt) (a23 : AD K "stand_of" zdp) (a24 : AD K "with_row" zdo) (a25 : AD K "own_entries" zb0) (a26 : AD K "full_rows_beneath" zaW) (a27 : AD K "full_rows" zcM) (a28 : AD K "without" zd0) (a29 : AD K "_law_begin" zd3) (a30 : AD K "_law_mixed" zd2) (a31 : AD K "_law_take" zfg) (a32 : AD K "_law_key" zg2) (a33 : AD K "_law_tree" zff) (a34 : AD K "_law_row" zg1) (a35 : AD K "_law_rows" zfj) (a36 : AD K "_law_step" zfh) (a37 : AD K "_law_behind" zdr) (a38 : AD K "_law_done" zfk) (a39 : AD K "_law_seen" zfi) (a40 : AD K "_law_turned_back" zbu) (a41 : AD K "law" znr) (t6 : tabIn K "place" = some (mc6,mp6)) (h6 : codeHdIn K mc6 mp6 = true) (o_C : nsIn K mainGlobals "Shelf" = some (some (.ref CS))) (o_g : PySem.W.plainGet K CS Str.empty = true) (o_h : PySem.W.hasDictIn K CS = true) (o_p : PySem.W.plainOver K CS = true) (o_s : findIn K (.ref CS) "__setattr__" = some (some (.builtin "object.__setattr__"))) (o_m : PySem.W.makesIn K CS = true) (o_k : keepIn K (.ref CS) = true) (o_nkept : findIn K (.ref CS) "kept" = some none) (o_nfulls : findIn K (.ref CS) "fulls" = some none) (o_Shelf___init__ : AM K CS "__init__" "Shelf.__init__" zbl) (o_Shelf_row_for : AM K CS "row_for" "Shelf.row_for" zbv) (o_Shelf_carry_up : AM K CS "carry_up" "Shelf.carry_up" zbk) (o_Shelf_put : AM K CS "put" "Shelf.put" zcN) (o_Shelf_out : AM K CS "out" "Shelf.out" zcO) (o_Shelf_stand : AM K CS "stand" "Shelf.stand" zb1) (o_Shelf_full : AM K CS "full" "Shelf.full" zcm) (z_abs : nsIn K mainGlobals "abs" = some none) (z_bool : nsIn K mainGlobals "bool" = some none) (z_enumerate : nsIn K mainGlobals "enumerate" = some none) (z_int : nsIn K mainGlobals "int" = some none) (z_isinstance : nsIn K mainGlobals "isinstance" = some none) (z_len : nsIn K mainGlobals "len" = some none) (z_list : nsIn K mainGlobals "list" = some none) (z_max : nsIn K mainGlobals "max" = some none) (z_min : nsIn K mainGlobals "min" = some none) (z_range : nsIn K mainGlobals "range" = some none) (z_reversed : nsIn K mainGlobals "reversed" = some none) (z_set : nsIn K mainGlobals "set" = some none) (z_sorted : nsIn K mainGlobals "sorted" = some none) (z_sum : nsIn K mainGlobals "sum" = some none) (z_tuple : nsIn K mainGlobals "tuple" = some none) (z_zip : nsIn K mainGlobals "zip" = some none) (y_KNOT_NUMBERS : nsIn K mainGlobals "KNOT_NUMBERS" = some (some (.int 64 t_KNOT_NUMBERS))) (y_TURNS : nsIn K mainGlobals "TURNS" = some (some (.int 5 t_TURNS))) (y_MOST_KNOTS : nsIn K mainGlobals "MOST_KNOTS" = some (some (.int 40 t_MOST_KNOTS))) (y_MOST_KEYS : nsIn K mainGlobals "MOST_KEYS" = some (some (.int 300 t_MOST_KEYS))) :
  ∃ fd : FuncData,(∀ (s : Shared) (v : Value),BindsTo s fd ⟨[v],[]⟩ [("_law_script",v)])∧∀ base : Heap,K.In base→base.Ns mainGlobals mg→L2.BMAt mg base→FnOk l.prog w K mg base CX0 lawRoom fa fd ["_law_script"] (zhN K mp6):=by
 obtain ⟨f,oc,od,kV,dc,pm,an,cd,ct,sl,a,l,c,k⟩:=a41.ex
 have e:=hfa.symm.trans (mg_of X G a)
 cases e
 have T : Txt K mg:=⟨mg_none_of X G z_abs,mg_none_of X G z_bool,mg_none_of X G z_enumerate,mg_none_of X G z_int,mg_none_of X G z_isinstance,mg_none_of X G z_len,mg_none_of X G z_list,mg_none_of X G z_max,mg_none_of X G z_min,mg_none_of X G z_range,mg_none_of X G z_reversed,mg_none_of X G z_set,mg_none_of X G z_sorted,mg_none_of X G z_sum,mg_none_of X G z_tuple,mg_none_of X G z_zip,⟨_,mg_of X G y_KNOT_NUMBERS⟩,⟨_,mg_of X G y_TURNS⟩,⟨_,mg_of X G y_MOST_KNOTS⟩,⟨_,mg_of X G y_MOST_KEYS⟩⟩
 have O : OwnC K mg CS:=⟨⟨o_g,o_h,o_p,o_s⟩,mg_of X G o_C,o_nkept,o_nfulls⟩
 exact ⟨_,fun s v=>.of_eq rfl,fun base _ _ hBM=>(all_ok (P:=_) (w:=w) (base:=base) T O hBM (a1.df X G) (a2.df X G) (a3.df X G) (a4.df X G) (a5.df X G) (a6.dft X G t6 h6) (a7.df X G) (a8.df X G) (a9.df X G) (a10.df X G) (a11.df X G) (a12.df X G) (a13.df X G) (a14.df X G) (a15.df X G) (a16.df X G) (a17.df X G) (a18.df X G) (a19.df X G) (a20.df X G) (a21.df X G) (a22.df X G) (a23.df X G) (a24.df X G) (a25.df X G) (a26.df X G) (a27.df X G) (a28.df X G) (a29.df X G) (a30.df X G) (a31.df X G) (a32.df X G) (a33.df X G) (a34.df X G) (a35.df X G) (a36.df X G) (a37.df X G) (a38.df X G) (a39.df X G) (a40.df X G) (a41.df X G) (o_Shelf___init__.di o_m o_k) (o_Shelf_row_for.dm) (o_Shelf_carry_up.dm) (o_Shelf_put.dm) (o_Shelf_out.dm) (o_Shelf_stand.dm) (o_Shelf_full.dm)).at (mg_of X G a) l⟩
theorem walk {l : OpenLaw} {q : Program} {loose : List Str} {XP : (Str→Option Value)→Heap→Prop} {YP : World→Heap→Prop} {d : DefRec} {K : Params→Frag} {mc mp : Addr} (hn : l.most = some 63) (hdf : d.params.defaults = [])
  (hY : ∀ (w : World) (h : Heap),YP w h→(K w.params).In h) (hYT : ∀ (w : World) (h : Heap),YP w h→h.get? mp = some (PySem.W.tabObj #[])) (hC : ∀ (w : World),codeHdIn (K w.params) mc mp = true) (hC2 : ∀ (w : World),(K w.params).lookup mp = none)
  (F : ∀ (w : World) (mg : Str→Option Value) (fa : Addr) (h : Heap),(K w.params).In h→h.Ns mainGlobals mg→mg d.name = some (.ref fa)→
   ∃ fd : FuncData,(∀ (s : Shared) (u : Value),BindsTo s fd ⟨[u],[]⟩ [("_law_script",u)])∧∀ base : Heap,(K w.params).In base→base.Ns mainGlobals mg→L2.BMAt mg base→FnOk l.prog w (K w.params) mg base CX0 lawRoom fa fd ["_law_script"] (zhN (K w.params) mp)) :
  PySem.W.WalkO q loose XP YP l.row.toRowW d [] (fun f vs=>PySem.call f vs):=
 L2.znc (n:=63) (k:=lawRoom) (x := "_law_script") (tabs:=[(mc,mp)]) (sp:=fun w=>zhN (K w.params) mp) hn (by decide) hdf ⟨rfl,by decide,by decide,rfl⟩ hY (fun w h Y q hq=>by rw [yal.mp hq]; exact hYT w h Y) (fun w q hq=>by rw [yal.mp hq]; exact ⟨hC w,hC2 w⟩) F (fun _ _ a ns hl hT hS=>⟨a,ns,rfl,hS,hl,hT (mc,mp) (yal.mpr rfl),fun _=>rfl⟩)
end My
open PySem PySem.W PyProof.Rows
def PySem.W.Fast.tw14881442620873879743 : Nat := 0
def PySem.W.Fast.tw14719087025432033511 : Nat := 0
def PySem.W.Fast.tw15788366234030892899 : Nat := 0
def PySem.W.Fast.tw236991716063554175 : Nat := 0
def PySem.W.Fast.tw11620788900877886530 : Nat := 0
def PySem.W.Fast.tw9291283607144679245 : Nat := 0
def PySem.W.Fast.tw9042536266105840241 : Nat := 0
def PySem.W.Fast.tw16495644621337660930 : Nat := 0
def PySem.W.Fast.tw16854165721620558058 : Nat := 0
def PySem.W.Fast.tw11079943567315703755 : Nat := 0
def PySem.W.Fast.tw11332594970796236843 : Nat := 0
def PySem.W.Fast.tw11445755143108005781 : Nat := 0
def PySem.W.Fast.tw8392703764939896356 : Nat := 0
def PySem.W.Fast.tw5043244433235552234 : Nat := 0
def PySem.W.Fast.tw5023139537934943847 : Nat := 0
def PySem.W.Fast.tw5056448508960402773 : Nat := 0
def PySem.W.Fast.tw18267825900676257526 : Nat := 0
def PySem.W.Fast.tw13010026524410574753 : Nat := 0
def PySem.W.Fast.tw8536525360655606495 : Nat := 0
def PySem.W.Fast.tw15155724798526109312 : Nat := 0
def PySem.W.Fast.tw10993462147434403772 : Nat := 0
def PySem.W.Fast.tw8758580475367977543 : Nat := 0
set_option maxRecDepth 100000 in
set_option maxHeartbeats 0 in
theorem PySem.Challenge.cw_bridgefind_k72_whole_there_and_back_holds : PySem.Challenge.rw_bridgefind_k72_whole_there_and_back.Holds := by
 w_on; o_law; k_head; (case hw=>w_witness2)
 k_fill
 refine My.walk (l:=PySem.Challenge.rw_bridgefind_k72_whole_there_and_back) (mc:=159) (mp:=155) rfl rfl (fun w h Y=>PySem.W.km_in_of Y) (fun w h Y=>PySem.W.km_tabs_of Y 155 yaC) (fun w=>by kernel_rfl) (fun w=>by kernel_rfl) ?F
 case F=>
  intro w mg fa h KX G hmg
  refine' My.zro (mc6:=159) (mp6:=155) KX G hmg ?_ ?_ ?_ ?_ ?_ ?_ ?_ ?_ ?_ ?_ ?_ ?_ ?_ ?_ ?_ ?_ ?_ ?_ ?_ ?_ ?_ ?_ ?_ ?_ ?_ ?_ ?_ ?_ ?_ ?_ ?_ ?_ ?_ ?_ ?_ ?_ ?_ ?_ ?_ ?_ ?_ ?_ ?_ ?_ ?_ ?_ ?_ ?_ ?_ ?_ ?_ ?_ ?_ ?_ ?_ ?_ ?_ ?_ ?_ ?_ ?_ ?_ ?_ ?_ ?_ ?_ ?_ ?_ ?_ ?_ ?_ ?_ ?_ ?_ ?_ ?_ ?_ ?_ ?_
  any_goals k_is
  all_goals first | refine' My.AD.of ?_ ?_ ?_ ?_ | refine' My.AM.of ?_ ?_ ?_ ?_ ?_ | skip
  any_goals k_is
  all_goals kernel_rfl

