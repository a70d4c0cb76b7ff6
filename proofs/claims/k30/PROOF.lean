import PyProof.Rows.All
import Wide.All
import OpenK.AllK
import Wide.FinOn
import PyProof.EqAt
import PyProof.EqKinds
import PyProof.TupleCall
import PyProof.NeKinds
import Lean
import PySem.Challenge.RW_bridgefind_k30_searches_for_each_key
set_option Elab.async false
set_option linter.all false
set_option maxRecDepth 100000
local macro_rules | `(tactic| omega)=>`(tactic| lia)
open PySem.W (Frag nsIn codeIn keepIn tabIn codeHdIn mg_of mg_none_of fnOf OpenLaw)
abbrev yaa:=@Nat.le_refl
abbrev yab:=@List.length_map
abbrev yac:=@List.getElem?_eq_getElem
abbrev yad:=@List.getD_eq_getElem?_getD
abbrev yae:=@PySem.Heap.lt_size
abbrev yaf:=@Option.some.inj
abbrev yag:=@PySem.Heap.get?_push_of_some
abbrev yah:=@List.getElem?_eq_some_iff
abbrev yai:=@List.length_append
abbrev yaj:=@List.getElem?_map
abbrev yak:=@Nat.ne_of_lt
abbrev yal:=@List.mem_cons
abbrev yam:=@decide_eq_false
abbrev yan:=@decide_eq_true
abbrev yao:=@Nat.le_trans
abbrev yap:=@List.mem_singleton
abbrev yaq:=@List.map_append
abbrev yar:=@List.take_of_length_le
abbrev yas:=@List.length_take
abbrev yat:=@Nat.lt_of_lt_of_le
abbrev yau:=@PySem.Heap.get?_push_size
abbrev yav:=@List.mem_cons_self
abbrev yaw:=@List.size_toArray
abbrev yax:=@List.map_cons
abbrev yay:=@List.mem_cons_of_mem
abbrev yaz:=@Bool.false_ne_true
abbrev yaA:=@Nat.zero_le
abbrev yaB:=@List.getElem_mem
abbrev yaC:=@of_decide_eq_true
abbrev yaD:=@List.append_nil
abbrev yaE:=@List.mem_append
abbrev yaF:=@List.mem_map
abbrev yaG:=@List.length_range
abbrev yaH:=@List.take_succ_eq_append_getElem
abbrev yaI:=@List.mem_of_getElem?
abbrev yaJ:=@List.lookup_cons
abbrev yaK:=@List.mem_append_right
abbrev yaL:=@List.pairwise_iff_getElem
abbrev yaM:=@List.getElem?_eq_none
abbrev yaN:=@Nat.le_succ
abbrev yaO:=@List.filter_cons_of_pos
abbrev yaP:=@List.filter_append
abbrev yaQ:=@List.mem_range
abbrev yaR:=@List.nodup_cons
abbrev yaS:=@List.sum_cons
abbrev yaT:=@Nat.lt_irrefl
abbrev yaU:=@Int.toNat_natCast
abbrev yaV:=@List.length_singleton
abbrev yaW:=@List.length_cons
abbrev yaX:=@List.getElem_of_mem
abbrev yaY:=@List.not_mem_nil
abbrev yaZ:=@List.filter_cons_of_neg
abbrev ya0:=@List.mem_filter
abbrev ya1:=@List.all_eq_true
abbrev ya2:=@List.drop_eq_nil_of_le
abbrev ya3:=@Array.length_toList
abbrev ya4:=@Option.map_eq_some_iff
abbrev ya5:=@Nat.lt_of_le_of_lt
abbrev ya6:=@List.length_replicate
abbrev ya7:=@PySem.Heap.get?_update_other
abbrev ya8:=@Bool.and_eq_true
abbrev ya9:=@List.length_filter_le
abbrev yba:=@Int.zero_add
abbrev ybb:=@List.length_drop
abbrev ybc:=@List.ext_getElem?
abbrev ybd:=@Nat.not_lt
abbrev ybe:=@Nat.ne_of_gt
abbrev ybf:=@PySem.Heap.get?_update_self
abbrev ybg:=@Nat.le_of_not_lt
abbrev ybh:=@List.nodup_append
abbrev ybi:=@List.getElem?_range
abbrev ybj:=@List.range_succ
abbrev ybk:=@Nat.le_of_lt
abbrev ybl:=@List.getElem?_append_right
abbrev ybm:=@List.any_cons
abbrev ybn:=@List.nodup_nil
abbrev ybo:=@Nat.min_eq_left
abbrev ybp:=@List.take_append_drop
abbrev ybq:=@Nat.add_zero
abbrev ybr:=@Int.natCast_nonneg
abbrev ybs:=@Bool.and_false
abbrev ybt:=@Array.getElem?_eq_getElem
abbrev ybu:=@List.map_map
abbrev ybv:=@List.pairwise_map
abbrev ybw:=@PySem.Heap.size_push
abbrev ybx:=@Nat.mod_lt
abbrev yby:=@Bool.or_false
abbrev ybz:=@Bool.eq_false_iff
abbrev ybA:=@of_decide_eq_false
abbrev ybB:=@List.getElem?_append_left
abbrev ybC:=@List.find?_cons
abbrev ybD:=@Option.map_some
abbrev ybE:=@List.map_nil
abbrev ybF:=@Nat.add_le_add_right
abbrev ybG:=@Nat.lt_succ_self
abbrev ybH:=@List.append_assoc
abbrev ybI:=@List.map_take
abbrev ybJ:=@Nat.testBit_succ
abbrev ybK:=@Nat.pow_succ
abbrev ybL:=@List.filter_eq_nil_iff
abbrev ybM:=@Nat.zero_add
abbrev ybN:=@List.filterMap_cons
abbrev ybO:=@List.of_mem_zip
abbrev ybP:=@List.length_nil
abbrev ybQ:=@Nat.lt_trans
abbrev ybR:=@Bool.or_eq_true
abbrev ybS:=@Nat.lt_succ_of_lt
abbrev ybT:=@Bool.not_eq_true'
abbrev ybU:=@Nat.min_eq_right
abbrev ybV:=@List.mem_reverse
abbrev ybW:=@List.pairwise_lt_range
abbrev ybX:=@List.any_eq_true
abbrev ybY:=@List.take_zero
abbrev ybZ:=@List.getElem?_set
abbrev yb0:=@Nat.lt_succ_of_le
abbrev yb1:=@List.map_set
abbrev yb2:=@List.length_reverse
abbrev yb3:=@List.filter_congr
abbrev yb4:=@Bool.eq_iff_iff
abbrev yb5:=@List.all_cons
abbrev yb6:=@Bool.false_or
abbrev yb7:=@Int.emod_nonneg
abbrev yb8:=@Int.emod_lt_of_pos
abbrev yb9:=@Bool.false_eq_true
abbrev yca:=@List.eq_nil_of_length_eq_zero
abbrev ycb:=@List.reverse_cons
abbrev ycc:=@List.nil_append
abbrev ycd:=@Nat.pos_of_ne_zero
abbrev yce:=@Nat.not_lt_zero
abbrev ycf:=@Nat.add_sub_cancel
abbrev ycg:=@List.getElem?_take
abbrev ych:=@List.length_zip
abbrev yci:=@Nat.lt_of_not_le
abbrev ycj:=@List.mem_flatten
abbrev yck:=@List.any_append
abbrev ycl:=@List.flatten_append
abbrev ycm:=@List.nodup_range
abbrev ycn:=@List.filter_filter
abbrev yco:=@Option.isSome_iff_exists
abbrev ycp:=@List.getElem?_replicate
abbrev ycq:=@Nat.add_le_add_left
abbrev ycr:=@List.zip_cons_cons
abbrev ycs:=@Array.perm_iff_toList_perm
abbrev yct:=@List.getElem?_reverse
abbrev ycu:=@Array.getElem?_toList
abbrev ycv:=@List.pairwise_append
abbrev ycw:=@List.mem_take_iff_getElem
abbrev ycx:=@List.getElem?_cons_succ
abbrev ycy:=@List.getElem?_drop
abbrev ycz:=@List.filter_eq_self
abbrev ycA:=@List.map_congr_left
abbrev ycB:=@List.mem_or_eq_of_mem_set
namespace L2
open PySem PySem.Spec PyProof.Rows
abbrev Key:=Sum Int Str
def ziF : Key→Value→Bool
  | .inl k,v=>Value.isInt k v
  | .inr x,v=>Value.isStrOf x v
def keyH (w : World) : Key→Int
  | .inl k=>hashInt k
  | .inr x=>hashStr w x
theorem zaY : ∀ {k : Key} {v : Value},ziF k v = true→(∃ i t,k = Sum.inl i∧v = Value.int i t)∨(∃ x t,k = Sum.inr x∧v = Value.str x t)
  | .inl i,v,h=>by
    obtain ⟨t,e⟩:=Value.isInt_shape (k:=i) (v:=v) h
    exact .inl ⟨i,t,rfl,e⟩
  | .inr x,v,h=>by
    obtain ⟨t,e⟩:=Value.isStrOf_shape (x:=x) (v:=v) h
    exact .inr ⟨x,t,rfl,e⟩
theorem zl6 (i : Int) (t : Tok) : ziF (.inl i) (.int i t) = true:=by simp [ziF,Value.isInt]
theorem zl5 (x : Str) (t : Tok) : ziF (.inr x) (.str x t) = true:=by simp [ziF,Value.isStrOf]
theorem zqg (a b : Int) : decide ((Sum.inl a : Key) = Sum.inl b) = (a == b):=by
  by_cases e : a = b
  · subst e; simp
  · have h : ¬ (Sum.inl a : Key) = Sum.inl b:=fun q=>e (Sum.inl.inj q)
    rw [yam h]
    exact (beq_eq_false_iff_ne.mpr e).symm
theorem zqd (a b : Str) : decide ((Sum.inr a : Key) = Sum.inr b) = decide (a = b):=by
  by_cases e : a = b
  · subst e; simp
  · have h : ¬ (Sum.inr a : Key) = Sum.inr b:=fun q=>e (Sum.inr.inj q)
    rw [yam h,yam e]
theorem zqf (a : Int) (b : Str) : decide ((Sum.inl a : Key) = Sum.inr b) = false:=yam (fun q=>nomatch q)
theorem zqe (a : Str) (b : Int) : decide ((Sum.inr a : Key) = Sum.inl b) = false:=yam (fun q=>nomatch q)
def zaH (prog : Program) (w : World) : PySem.KeyKind prog w Key where
  is:=ziF
  hash:=keyH w
  inj:=fun v a b ha hb=>by
    rcases zaY ha with ⟨i,t,rfl,rfl⟩ | ⟨x,t,rfl,rfl⟩
    · rcases zaY hb with ⟨j,u,rfl,e⟩ | ⟨y,u,rfl,e⟩
      · injection e with e1 _; rw [e1]
      · exact nomatch e
    · rcases zaY hb with ⟨j,u,rfl,e⟩ | ⟨y,u,rfl,e⟩
      · exact nomatch e
      · injection e with e1 _; rw [e1]
  byValue:=fun k v h=>by
    rcases zaY h with ⟨i,t,rfl,rfl⟩ | ⟨x,t,rfl,rfl⟩ <;> rfl
  pyHash:=fun hv h=>by
    rcases zaY hv with ⟨i,t,rfl,rfl⟩ | ⟨x,t,rfl,rfl⟩
    · exact wpAny_pyHash_int h
    · exact wpAny_pyHash_str h
  eqBool:=fun hu hv h=>by
    rcases zaY hu with ⟨i,t,rfl,rfl⟩ | ⟨x,t,rfl,rfl⟩
    · rcases zaY hv with ⟨j,u,rfl,rfl⟩ | ⟨y,u,rfl,rfl⟩
      · rw [zqg] at h; exact wpAny_eqBool_int h
      · rw [zqf] at h; exact SeqAt.EqAt.int_str i t y u _ _ _ _ h
    · rcases zaY hv with ⟨j,u,rfl,rfl⟩ | ⟨y,u,rfl,rfl⟩
      · rw [zqe] at h; exact SeqAt.EqAt.str_int x t j u _ _ _ _ h
      · rw [zqd] at h; exact wpAny_eqBool_str h
  «strs»:=fun k x t v h=>by
    rcases zaY h with ⟨i,u,rfl,e⟩ | ⟨y,u,rfl,e⟩
    · exact nomatch e
    · injection e with e1 _
      subst e1
      cases v <;> rfl
theorem zkm (prog : Program) (w : World) (k : Key) (v : Value) : (zaH prog w).is k v = ziF k v:=rfl
theorem ziA (prog : Program) (w : World) (i : Int) (t : Tok) : (zaH prog w).is (.inl i) (.int i t) = true:=zl6 i t
theorem ziz (prog : Program) (w : World) (x : Str) (t : Tok) : (zaH prog w).is (.inr x) (.str x t) = true:=zl5 x t
end L2
namespace L2
open PySem PySem.Spec PyProof.Rows
inductive V where
  | non | bl (b : Bool) | int (i : Int) | str (x : Str) | byt (b : Array UInt8) | flt (b : UInt64) | ref (a : Addr) | ty (n : String)
  deriving DecidableEq
def RelV : V→Value→Prop
  | .non,u=>u = Value.none
  | .bl b,u=>u = Value.bool b
  | .int i,u=>∃ t,u = Value.int i t
  | .str x,u=>∃ t,u = Value.str x t
  | .byt b,u=>∃ t,u = Value.bytes b t
  | .flt b,u=>∃ t,u = Value.float b t
  | .ref a,u=>u = Value.ref a
  | .ty n,u=>u = Value.type n
abbrev Vals : List V→List Value→Prop:=Paired RelV
theorem Vals.length {xs : List V} {us : List Value} (r : Vals xs us) : xs.length = us.length:=Paired.length r
theorem Vals.get : ∀ {xs : List V} {us : List Value} {i : Nat} {x : V},Vals xs us→xs[i]? = some x→∃ u,us[i]? = some u∧RelV x u
  | _,_,_,_,.nil,e=>by simp at e
  | _,_,0,_,.cons r _,e=>by simp at e; subst e; exact ⟨_,rfl,r⟩
  | _,_,i + 1,x,.cons _ t,e=>by
    obtain ⟨u,h1,h2⟩:=Vals.get (i:=i) (x:=x) t (by simpa using e)
    exact ⟨u,by simpa using h1,h2⟩
theorem Vals.set {x : V} {u : Value} (r : RelV x u) : ∀ {xs : List V} {us : List Value} (i : Nat),Vals xs us→Vals (xs.set i x) (us.set i u)
  | _,_,_,.nil=>.nil
  | _,_,0,.cons _ t=>.cons r t
  | _,_,i + 1,.cons q t=>.cons q (Vals.set r i t)
theorem Vals.append : ∀ {xs ys : List V} {us ws : List Value},Vals xs us→Vals ys ws→Vals (xs ++ ys) (us ++ ws)
  | _,_,_,_,.nil,s=>s
  | _,_,_,_,.cons r t,s=>.cons r (Vals.append t s)
theorem Vals.take : ∀ {xs : List V} {us : List Value} (n : Nat),Vals xs us→Vals (xs.take n) (us.take n)
  | _,_,0,_=>.nil
  | _,_,_ + 1,.nil=>.nil
  | _,_,n + 1,.cons r t=>.cons r (Vals.take n t)
theorem Vals.drop : ∀ {xs : List V} {us : List Value} (n : Nat),Vals xs us→Vals (xs.drop n) (us.drop n)
  | _,_,0,r=>r
  | _,_,_ + 1,.nil=>.nil
  | _,_,n + 1,.cons _ t=>Vals.drop n t
def RelO : Option V→Option Value→Prop
  | some v,some u=>RelV v u
  | none,none=>True
  | _,_=>False
def KV {κ : Type} : List (κ×V)→List (κ×Value)→Prop:=Paired fun (p : κ×V) (q : κ×Value)=>p.1 = q.1∧RelV p.2 q.2
def kV : Key→V
  | .inl i=>.int i
  | .inr x=>.str x
inductive HO where
  | lst (xs : List V)
  | tup (xs : List V)
  | dK (kvs : List (Key×V)) | dT (kvs : List (List Key×V))
  | set (S : Int→Bool) (n : Nat)
  | ins (C dx : Addr) (fs : List (Str×V))
  | own (x : Addr)
  | xd (fs : List (Str×V))
  | met (f x : Addr)
  | rng (lo hi : Int)
  | frz (o : Obj) (u : HO)
  | tbl (ps : Array Value)
  | ext (φ : Heap→Prop)
abbrev Hp:=Addr→Option HO
def upd (H : Hp) (a : Addr) (o : HO) : Hp:=fun b=>if b = a then some o else H b
theorem zac {H : Hp} {a : Addr} {o : HO} : upd H a o a = some o:=by unfold upd; rw [if_pos rfl]
theorem zaf {H : Hp} {a b : Addr} {o : HO} (h : b≠a) : upd H a o b = H b:=by unfold upd; rw [if_neg h]
theorem zoi {H : Hp} {a : Addr} {o u : HO} : upd (upd H a o) a u = upd H a u:=by
  funext b; unfold upd; split <;> rfl
theorem zp8 {H : Hp} {a b : Addr} {o u : HO} (h : H a = some o) (h' : H b = some u) (d : o≠u) : a≠b:=by
  intro e; subst e; rw [h] at h'; exact d (yaf h')
theorem zab {H : Hp} {a b : Addr} {o : HO} (h : H a = some o) (h' : H b = none) : a≠b:=by
  intro e; subst e; rw [h] at h'; cases h'
section
variable (P : Program) (w : World)
def zbI (H : Hp) (h : Heap) (a : Addr) : HO→Prop
  | .lst xs=>xs.length≤sizeLine∧∃ (its : List Value) (n : Nat),Vals xs its∧h.get? a = some { cls:=.type "list",data:=.seq its.toArray n }
  | .tup xs=>xs.length≤sizeLine∧∃ its : List Value,Vals xs its∧IsTup h a its.toArray
  | .dK kvs=>kvs.length≤sizeLine∧(a == sysModules) = false∧∃ vs,KV kvs vs∧h.DictOf (zaH P w) a vs
  | .dT kvs=>kvs.length≤sizeLine∧(a == sysModules) = false∧∃ xs : List (List Key×Addr×Value),
      Paired (fun (p : List Key×V) (q : List Key×Addr×Value)=>p.1 = q.1∧H q.2.1 = some (.tup (p.1.map kV))∧RelV p.2 q.2.2) kvs xs∧
      ∃ o es ep,h.get? a = some o∧o.ExactDict∧o.data = .dict es ep∧es.toList = xs.map (entryOfKey (tupleKind (zaH P w)))∧(xs.map (·.1)).Nodup
  | .set S n=>h.SetOf (intKind P w) a S n
  | .ins C dx fs=>H dx = some (.own a)∧fs.length≤1000∧dx≠a∧h.get? a = some (PySem.W.instObj C dx)∧
      ∃ mA,h.Ns1 dx mA∧(∀ f,RelO (fs.lookup f) (mA f))∧PySem.Within mA (fs.map (·.1))
  | .own _=>∃ o,h.get? a = some o
  | .xd fs=>∃ mA,h.Ns1 a mA∧∀ f,RelO (fs.lookup f) (mA f)
  | .rng lo hi=>∃ t u v,h.get? a = some { cls:=.type "range",data:=.fields #[.int lo t,.int hi u,.int 1 v] }
  | .frz o u=>h.get? a = some o∧zbI H h a u
  | .tbl ps=>h.get? a = some { cls:=.none,data:=.fields ps }
  | .met f x=>h.get? a = some (PySem.W.methodObj (.ref f) (.ref x))
  | .ext φ=>φ h∧(∃ o,h.get? a = some o)∧∀ h1 h2 : Heap,φ h1→(∀ o,h1.get? a = some o→h2.get? a = some o)→φ h2
def HOk (H : Hp) (h : Heap) : Prop:=∀ a o,H a = some o→zbI P w H h a o
end
section
variable {P : Program} {w : World} {H H' : Hp} {h h' : Heap} {a : Addr} {o : HO}
theorem zbI.lt (x : zbI P w H h a o) : a < h.objs.size:=by
  cases o with
  | lst xs=>obtain ⟨_,_,_,_,e⟩:=x; exact yae e
  | tup xs=>obtain ⟨_,_,_,p⟩:=x; exact p.lt
  | dK kvs=>obtain ⟨_,_,_,_,o,_,_,e,_⟩:=x; exact yae e
  | dT kvs=>obtain ⟨_,_,_,_,o,_,_,e,_⟩:=x; exact yae e
  | set S n=>obtain ⟨o,_,_,_,e,_⟩:=x; exact yae e
  | ins C dx fs=>obtain ⟨_,_,_,e,_⟩:=x; exact yae e
  | own y=>obtain ⟨_,e⟩:=x; exact yae e
  | xd fs=>obtain ⟨_,⟨_,_,_,e,_⟩,_⟩:=x; exact yae e
  | rng lo hi=>obtain ⟨_,_,_,e⟩:=x; exact yae e
  | frz ob u=>obtain ⟨e,_⟩:=x; exact yae e
  | tbl ps=>exact yae (show h.get? a = some _ from x)
  | met f y=>exact yae (show h.get? a = some _ from x)
  | ext φ=>obtain ⟨_,⟨_,e⟩,_⟩:=x; exact yae e
theorem Paired.mapP {α β : Type} {F G : α→β→Prop} : ∀ {l₁ : List α} {l₂ : List β},Paired F l₁ l₂→(∀ a b,F a b→G a b)→Paired G l₁ l₂
  | _,_,.nil,_=>.nil
  | _,_,.cons r t,f=>.cons (f _ _ r) (Paired.mapP t f)
theorem zbI.stay (x : zbI P w H h a o) (k : ∀ b u,(b = a∨H b = some (.own a))→h.get? b = some u→h'.get? b = some u)
    (ho : ∀ b,H b = some (.own a)→H' b = some (.own a)) (ht : ∀ b xs,H b = some (.tup xs)→H' b = some (.tup xs)) : zbI P w H' h' a o:=by
  induction o with
  | lst xs=>obtain ⟨z,its,n,r,e⟩:=x; exact ⟨z,its,n,r,k _ _ (.inl rfl) e⟩
  | tup xs=>obtain ⟨z,its,r,ob,e,c⟩:=x; exact ⟨z,its,r,ob,k _ _ (.inl rfl) e,c⟩
  | dK kvs=>obtain ⟨z,y,vs,r,ob,es,ep,e,c⟩:=x; exact ⟨z,y,vs,r,ob,es,ep,k _ _ (.inl rfl) e,c⟩
  | dT kvs=>
    obtain ⟨z,y,xs,r,ob,es,ep,e,c⟩:=x
    exact ⟨z,y,xs,Paired.mapP r fun p q z=>⟨z.1,ht _ _ z.2.1,z.2.2⟩,ob,es,ep,k _ _ (.inl rfl) e,c⟩
  | set S n=>obtain ⟨ob,es,ep,t,e,c⟩:=x; exact ⟨ob,es,ep,t,k _ _ (.inl rfl) e,c⟩
  | ins C dx fs=>
    obtain ⟨d,z,ne,e,mA,⟨od,es,ep,e2,c⟩,r⟩:=x
    exact ⟨ho _ d,z,ne,k _ _ (.inl rfl) e,mA,⟨od,es,ep,k _ _ (.inr d) e2,c⟩,r⟩
  | own y=>obtain ⟨ob,e⟩:=x; exact ⟨ob,k _ _ (.inl rfl) e⟩
  | xd fs=>obtain ⟨mA,⟨od,es,ep,e,c⟩,r⟩:=x; exact ⟨mA,⟨od,es,ep,k _ _ (.inl rfl) e,c⟩,r⟩
  | rng lo hi=>obtain ⟨t,u,v,e⟩:=x; exact ⟨t,u,v,k _ _ (.inl rfl) e⟩
  | frz ob u ih=>obtain ⟨e,q⟩:=x; exact ⟨k _ _ (.inl rfl) e,ih q⟩
  | tbl ps=>
    have e : h.get? a = some { cls:=.none,data:=.fields ps }:=x
    show h'.get? a = some { cls:=.none,data:=.fields ps }
    exact k a _ (.inl rfl) e
  | met f y=>
    have e : h.get? a = some (PySem.W.methodObj (.ref f) (.ref y)):=x
    show h'.get? a = some (PySem.W.methodObj (.ref f) (.ref y))
    exact k a _ (.inl rfl) e
  | ext φ=>obtain ⟨p,⟨o,e⟩,st⟩:=x; exact ⟨st _ _ p fun o q=>k _ _ (.inl rfl) q,⟨o,k _ _ (.inl rfl) e⟩,st⟩
theorem HOk.lt (x : HOk P w H h) (e : H a = some o) : a < h.objs.size:=(x a o e).lt
theorem HOk.fresh (x : HOk P w H h) (e : h.objs.size≤a) : H a = none:=by
  cases q : H a with
  | none=>rfl
  | some u=>exact absurd (yat (x.lt q) e) (yaT _)
theorem HOk.kept (x : HOk P w H h) (k : ∀ b u,h.get? b = some u→h'.get? b = some u) : HOk P w H h':=fun a o e=>
  (x a o e).stay (fun b u _ q=>k b u q) (fun _ q=>q) fun _ _ q=>q
theorem HOk.laid (x : HOk P w H h) (k : ∀ b u,h.get? b = some u→h'.get? b = some u) (hp : h.objs.size≤a) (new : zbI P w (upd H a o) h' a o) : HOk P w (upd H a o) h':=fun b u e=>by
  have hn:=x.fresh hp
  by_cases hb : b = a
  · subst hb; rw [zac] at e; cases e; exact new
  · rw [zaf hb] at e
    exact (x b u e).stay (fun c v _ q=>k c v q) (fun c q=>by rw [zaf (zab q hn)]; exact q) fun c xs q=>by rw [zaf (zab q hn)]; exact q
end
def Rd (H : Hp) (a : Addr) (u : HO) : Prop:=H a = some u∨∃ o,H a = some (.frz o u)
theorem Rd.ok {P : Program} {w : World} {H : Hp} {h : Heap} {a : Addr} {u : HO} (r : Rd H a u) (x : HOk P w H h) : zbI P w H h a u:=by
  rcases r with r | ⟨o,r⟩
  · exact x a u r
  · obtain ⟨_,q⟩:=x a _ r
    exact q
def Mut : Option HO→Prop
  | some (.lst _)=>True
  | some (.dK _)=>True
  | some (.dT _)=>True
  | some (.set _ _)=>True
  | some (.ins _ _ _)=>True
  | some (.ext _)=>True
  | _=>False
section
variable {P : Program} {w : World} {H : Hp} {h h' : Heap} {x e : Addr} {o' : HO}
theorem HOk.write (ok : HOk P w H h) (mu : Mut (H x)) (he : e = x∨H e = some (.own x)) (k : ∀ b u,b≠e→h.get? b = some u→h'.get? b = some u) (heo : ∃ u,h'.get? e = some u)
    (new : zbI P w (upd H x o') h' x o') : HOk P w (upd H x o') h':=fun b u q=>by
  have nown : ∀ c y,H c = some (.own y)→c≠x:=fun c y r z=>by subst z; rw [r] at mu; exact mu
  have ntup : ∀ c xs,H c = some (.tup xs)→c≠x:=fun c xs r z=>by subst z; rw [r] at mu; exact mu
  by_cases hb : b = x
  · subst hb; rw [zac] at q; cases q; exact new
  · rw [zaf hb] at q
    by_cases hbe : b = e
    · have q' : H b = some (.own x):=by
        rcases he with z | z
        · exact absurd (hbe.trans z) hb
        · rw [hbe]; exact z
      rw [q] at q'; cases q'
      obtain ⟨v,hv⟩:=heo
      exact ⟨v,by rw [hbe]; exact hv⟩
    · refine (ok b u q).stay (fun c v hc r=>k c v ?_ r) (fun c r=>by rw [zaf (nown c b r)]; exact r) fun c xs r=>by rw [zaf (ntup c xs r)]; exact r
      rcases hc with rfl | hc
      · exact hbe
      · rintro rfl
        rcases he with z | z
        · exact nown c b hc z
        · rw [hc] at z; cases z; exact hb rfl
end
structure Un (fs ex : List Addr) (H H' : Hp) (h h' : Heap) : Prop where
  keep : ∀ b o,h.get? b = some o→H b = none→b∉fs→b∉ex→h'.get? b = some o
  slot : ∀ b o,h.get? b = some o→H b = none→b∈fs→b∉ex→∃ sl,h'.get? b = some { o with slots:=sl }
  free : ∀ b o,h.get? b = some o→H b = none→b∉ex→H' b = none
  there : ∀ b o,h.get? b = some o→b∉ex→∃ o',h'.get? b = some o'
  tups : ∀ b xs,H b = some (.tup xs)→H' b = some (.tup xs)
  frzs : ∀ b o u,H b = some (.frz o u)→H' b = some (.frz o u)
  tbls : ∀ b ps,H b = some (.tbl ps)→∃ more,H' b = some (.tbl (ps ++ more))
section
variable {fs fs' ex ex' : List Addr} {H H1 H2 : Hp} {h h1 h2 h' : Heap} {a x e : Addr} {o : HO}
theorem Un.any (u : Un fs ex H H1 h h1) {b : Addr} {ob : Obj} (q : h.get? b = some ob) (n : H b = none) (hx : b∉ex) : ∃ sl,h1.get? b = some { ob with slots:=sl }:=by
  by_cases hb : b∈fs
  · exact u.slot b ob q n hb hx
  · exact ⟨ob.slots,u.keep b ob q n hb hx⟩
theorem Un.kept (k : ∀ b u,h.get? b = some u→h'.get? b = some u) : Un fs ex H H h h':=
  ⟨fun b ob q _ _ _=>k b ob q,fun b ob q _ _ _=>⟨ob.slots,k b ob q⟩,fun _ _ _ n _=>n,fun b ob q _=>⟨ob,k b ob q⟩,fun _ _ q=>q,fun _ _ _ q=>q,fun _ ps q=>⟨#[],by rw [q]; simp⟩⟩
theorem Un.refl : Un fs ex H H h h:=Un.kept fun _ _ q=>q
theorem Un.laid (k : ∀ b u,h.get? b = some u→h'.get? b = some u) (hp : h.objs.size≤a) (hn : H a = none) : Un fs ex H (upd H a o) h h' where
  keep:=fun b u q _ _ _=>k b u q
  slot:=fun b u q _ _ _=>⟨u.slots,k b u q⟩
  free:=fun b u q n _=>by rw [zaf (yak (yat (yae q) hp))]; exact n
  there:=fun b u q _=>⟨u,k b u q⟩
  tups:=fun b xs q=>by rw [zaf (zab q hn)]; exact q
  frzs:=fun b u xs q=>by rw [zaf (zab q hn)]; exact q
  tbls:=fun b ps q=>⟨#[],by rw [zaf (zab q hn),q]; simp⟩
theorem Un.write (mu : Mut (H x)) (he : e = x∨H e = some (.own x)) (k : ∀ b u,b≠e→h.get? b = some u→h'.get? b = some u) (heo : ∃ u,h'.get? e = some u) : Un fs ex H (upd H x o) h h':=by
  have hx : ∀ b,H b = none→b≠x:=fun b n z=>by subst z; rw [n] at mu; exact mu
  have hb : ∀ b,H b = none→b≠e:=fun b n z=>by
    subst z
    rcases he with r | r
    · exact hx b n r
    · rw [n] at r; cases r
  have hm : ∀ b u,H b = some u→¬ Mut (some u)→b≠x:=fun b u q nm z=>by subst z; rw [q] at mu; exact nm mu
  refine ⟨fun b u q n _ _=>k b u (hb b n) q,fun b u q n _ _=>⟨u.slots,k b u (hb b n) q⟩,fun b u q n _=>by rw [zaf (hx b n)]; exact n,fun b u q _=>?_,
    fun b xs q=>by rw [zaf (hm b _ q fun z=>z)]; exact q,fun b u xs q=>by rw [zaf (hm b _ q fun z=>z)]; exact q,fun b ps q=>⟨#[],by rw [zaf (hm b _ q fun z=>z),q]; simp⟩⟩
  by_cases hbe : b = e
  · subst hbe; exact heo
  · exact ⟨u,k b u hbe q⟩
end
def trk (h : Heap) (H : Hp) : List Addr:=(List.range h.objs.size).filter fun a=>(H a).isSome
def hidT (h : Heap) (H : Hp) : Heap:=PySem.W.hideAll h (trk h H)
theorem zmd (h : Heap) (H : Hp) : (hidT h H).objs.size = h.objs.size:=PySem.W.hideAll_size _ _
theorem znC {h : Heap} {H : Hp} {b : Addr} {o : Obj} (e : h.get? b = some o) (n : H b = none) : (hidT h H).get? b = some o:=
  PySem.W.hideAll_get _ e fun hm=>by
    have q : (H b).isSome = true:=(ya0.mp hm).2
    rw [n] at q; simp at q
theorem zoQ {h : Heap} {H : Hp} {b : Addr} {o : Obj} (e : (hidT h H).get? b = some o) : h.get? b = some o∧H b = none:=by
  have e' : h.get? b = some o:=PySem.W.of_hideAll (trk h H) e
  refine ⟨e',?_⟩
  cases q : H b with
  | none=>rfl
  | some x=>
    have hm : b∈trk h H:=ya0.mpr ⟨yaQ.mpr (yae e'),by simp [q]⟩
    have z : (hidT h H).get? b = none:=PySem.W.hideAll_none (trk h H) hm
    rw [z] at e; cases e
def zpk (g h : Heap) (L : Addr) : List (Addr×Obj):=(List.range h.objs.size).filterMap fun a=>if a = L∨(g.get? a).isSome = true then none else (h.get? a).map fun o=>(a,o)
def rest (g h : Heap) (L d : Addr) : List (Addr×Obj):=(zpk g h L).filter fun p=>decide (p.1≠d)
end L2
namespace L2
open PySem PySem.Spec PyProof.Rows
structure Mod (K : Frag) (mg : Str→Option Value) (base : Heap) : Prop where
  kin : K.In base
  glob : base.Ns mainGlobals mg
  blt : ∃ mb,base.Ns builtinsNs mb∧∀ x : Str,x ≠ "__name__"→mb x = bootBuiltins x
  nolimit : base.NoLimit
structure Cx where
  prog : Program
  w : World
  K : Frag
  mg : Str→Option Value
  base : Heap
  A : Around
  N : List Str
  s₀ : Shared
  H₀ : Hp
  env : Env
  outer : List Env
  stack : List Env
  ex : List Addr
  fn : Str→Bool
  calm : Bool
  pn : List (Addr×Obj)
  xe : Value→Shared→Prop
def frs (l : List Env) : List Addr:=l.filterMap (·.frame)
abbrev Cx.fs (X : Cx) : List Addr:=frs X.outer
def Vis (sc : Scope) (x : Str) : Prop:=sc.names.lookup x = some .local∨sc.names.lookup x = some .cell∨sc.names.lookup x = some .free
def Loc (sc : Scope) (x : Str) : Prop:=sc.names.lookup x = some .local∨sc.names.lookup x = some .cell
def Look (env : Env) (h : Heap) (m : Str→Option Value) (x : Str) (u : Value) : Prop:=
  (env.kindOf x = some .local∧m x = some u)∨((env.kindOf x = some .cell∨env.kindOf x = some .free)∧∃ c,env.cells.lookup x = some c∧h.IsCell c (some u))
structure Cx.Ok (X : Cx) : Prop where
  mod : Mod X.K X.mg X.base
  kind : X.env.scope.kind = .function
  glob : X.env.globals = mainGlobals
  blt : X.env.builtins = builtinsNs
  above : X.s₀.heap.objs.size≤X.env.locals
  inj : ∀ x y c,X.env.cells.lookup x = some c→X.env.cells.lookup y = some c→x = y
  has : ∀ x,(X.env.kindOf x = some .cell∨X.env.kindOf x = some .free)→∃ c,X.env.cells.lookup x = some c
  cab : ∀ x c,X.fn x = true→X.env.cells.lookup x = some c→X.s₀.heap.objs.size≤c
  hd : X.calm = true→X.A.handled = none
  frames : X.A.frames = some X.stack
  stk : X.stack = X.outer∨(X.stack = X.env :: X.outer∧X.env.frame = some X.env.locals)
  exf : ∀ b∈X.ex,b≠X.env.locals∧∀ x c,X.env.cells.lookup x = some c→c≠b
  bs : ∀ b o,X.base.get? b = some o→X.s₀.heap.get? b = some o∧X.H₀ b = none
  bsz : X.base.objs.size≤X.s₀.heap.objs.size
  noex : ∀ b o,X.base.get? b = some o→b∉X.ex
  exfs : ∀ b∈X.ex,b∉X.fs
  funs : X.s₀.heap.FunFrames X.base X.outer
  frf : ∀ b∈X.fs,X.H₀ b = none
structure Inv (X : Cx) (pins : List (Addr×Obj)) (σ : List (Option V)) (H : Hp) (s : Shared) : Prop where
  ok : X.Ok
  os : s.os = X.s₀.os
  bare : AllBare s.gens
  base : Un X.fs X.ex X.H₀ H X.s₀.heap s.heap
  loc : ∃ m,s.heap.Ns X.env.locals m∧∀ (i : Nat) (x : Str) (v : V),X.N[i]? = some x→σ[i]? = some (some v)→Vis X.env.scope x→∃ u,RelV v u∧Look X.env s.heap m x u
  cell : ∀ x c,X.env.cells.lookup x = some c→∃ v,s.heap.IsCell c v
  free : H X.env.locals = none
  freeC : ∀ x c,X.env.cells.lookup x = some c→H c = none
  pin : ∀ p∈X.pn ++ pins,s.heap.get? p.1 = some p.2∧H p.1 = none∧p.1≠X.env.locals∧p.1∉X.fs∧∀ v,p.2.data≠.cell v
  hok : HOk X.prog X.w H s.heap
  len : σ.length = X.N.length
section
variable {X : Cx} {pins : List (Addr×Obj)} {σ : List (Option V)} {H H' : Hp} {s : Shared} {h' : Heap}
theorem Cx.Ok.nofr (ok : X.Ok) {b : Addr} {o : Obj} (e : X.base.get? b = some o) : b∉X.fs:=fun hb=>by
  have:=(ok.funs.mem hb).1
  rw [e] at this; cases this
theorem Inv.bs (I : Inv X pins σ H s) : ∀ b o,X.base.get? b = some o→s.heap.get? b = some o∧H b = none:=fun b o e=>
  ⟨I.base.keep b o (I.ok.bs b o e).1 (I.ok.bs b o e).2 (I.ok.nofr e) (I.ok.noex b o e),I.base.free b o (I.ok.bs b o e).1 (I.ok.bs b o e).2 (I.ok.noex b o e)⟩
theorem Inv.bk (I : Inv X pins σ H s) : ∀ b o,X.base.get? b = some o→s.heap.get? b = some o:=fun b o e=>(I.bs b o e).1
theorem Inv.mod (I : Inv X pins σ H s) : Mod X.K X.mg X.base:=I.ok.mod
theorem Inv.kIn (I : Inv X pins σ H s) : X.K.In s.heap:=I.ok.mod.kin.keeps I.bk
theorem Inv.lt (I : Inv X pins σ H s) : X.env.locals < s.heap.objs.size:=let ⟨_,hn,_⟩:=I.loc; hn.lt
theorem Inv.sz (I : Inv X pins σ H s) : X.s₀.heap.objs.size≤s.heap.objs.size:=yao I.ok.above (ybk I.lt)
theorem Inv.nofs (I : Inv X pins σ H s) {a : Addr} (h : s.heap.objs.size≤a) : a∉X.fs:=fun hb=>by
  obtain ⟨_,o,ho,_⟩:=I.ok.funs.mem hb
  exact absurd (yat (yae ho) (yao I.sz h)) (yaT _)
theorem Inv.cne (I : Inv X pins σ H s) : ∀ x c,X.env.cells.lookup x = some c→c≠X.env.locals:=fun x c e z=>by
  obtain ⟨v,o,ho,hd⟩:=I.cell x c e
  obtain ⟨m,⟨o',es,ep,ho',hd',_⟩,_⟩:=I.loc
  rw [z,ho'] at ho; cases ho; rw [hd'] at hd; cases hd
theorem Inv.funs (I : Inv X pins σ H s) : s.heap.FunFrames X.base X.outer:=by
  have all : ∀ (l : List Env),(∀ b∈frs l,b∈X.fs)→X.s₀.heap.FunFrames X.base l→s.heap.FunFrames X.base l:=by
    intro l
    induction l with
    | nil=>intro _ _; trivial
    | cons env r ih=>
      intro hs hl
      obtain ⟨hk,⟨L,o,hf,hn,ho,hd⟩,hr⟩:=hl
      have hL : L∈X.fs:=hs L (by unfold frs; rw [ybN,hf]; exact yav)
      obtain ⟨sl,e⟩:=I.base.slot L o ho (I.ok.frf L hL) hL fun z=>I.ok.exfs L z hL
      exact ⟨hk,⟨L,_,hf,hn,e,hd⟩,ih (fun b hb=>hs b (by unfold frs; rw [ybN,hf]; exact yay _ hb)) hr⟩
  exact all X.outer (fun _ hb=>hb) I.ok.funs
theorem Inv.stack (I : Inv X pins σ H s) : s.heap.FunFrames X.base X.stack:=by
  rcases I.ok.stk with e | ⟨e,hf⟩
  · rw [e]; exact I.funs
  · rw [e]
    obtain ⟨m,hn,_⟩:=I.loc
    refine .cons (by rw [I.ok.kind]; decide) hf hn ?_ I.funs
    exact Heap.get?_none_of_le (yao I.ok.bsz I.ok.above)
theorem Inv.stkSub (I : Inv X pins σ H s) : ∀ b∈frs X.stack,b∈X.env.locals :: X.fs:=fun b hb=>by
  rcases I.ok.stk with e | ⟨e,hf⟩
  · rw [e] at hb; exact yay _ hb
  · rw [e] at hb
    unfold frs at hb
    rw [ybN,hf] at hb
    exact hb
theorem Inv.stkFree (I : Inv X pins σ H s) : ∀ b∈frs X.stack,H b = none:=fun b hb=>by
  rcases yal.mp (I.stkSub b hb) with e | hb
  · rw [e]; exact I.free
  · obtain ⟨_,o,ho,_⟩:=I.ok.funs.mem hb
    exact I.base.free b o ho (I.ok.frf b hb) fun z=>I.ok.exfs b z hb
theorem Inv.step {g' : Array GenState} {t' : Nat} {d' : Drawn} {ch : List Addr} (I : Inv X pins σ H s)
    (hch : ∀ b∈ch,(b∈X.ex∨X.s₀.heap.objs.size≤b)∧b≠X.env.locals∧(∀ x c,X.env.cells.lookup x = some c→c≠b)∧∀ p∈X.pn ++ pins,p.1≠b)
    (keep : ∀ b o,b≠X.env.locals→b∉X.fs→b∉ch→s.heap.get? b = some o→H b = none→h'.get? b = some o)
    (slot : ∀ b o,b≠X.env.locals→b∈X.fs→b∉ch→s.heap.get? b = some o→H b = none→∃ sl,h'.get? b = some { o with slots:=sl }) (free : ∀ b o,b∉ch→s.heap.get? b = some o→H b = none→H' b = none)
    (there : ∀ b o,b∉ch→s.heap.get? b = some o→∃ o',h'.get? b = some o')
    (tups : ∀ b xs,H b = some (.tup xs)→H' b = some (.tup xs)) (frzs : ∀ b o u,H b = some (.frz o u)→H' b = some (.frz o u)) (tbls : ∀ b ps,H b = some (.tbl ps)→∃ more,H' b = some (.tbl (ps ++ more)))
    (ns : ∀ m,s.heap.Ns X.env.locals m→h'.Ns X.env.locals m) (hok : HOk X.prog X.w H' h') (hg : AllBare g') :
    Inv X pins σ H' { s with heap:=h',gens:=g',drawn:=d',toks:=t' }:=by
  have neL : ∀ b o,X.s₀.heap.get? b = some o→b≠X.env.locals:=fun b o e=>yak (yat (yae e) I.ok.above)
  have neC : ∀ b o,X.s₀.heap.get? b = some o→b∉X.ex→b∉ch:=fun b o e hx hb=>by
    rcases (hch b hb).1 with z | z
    · exact hx z
    · exact absurd (yat (yae e) z) (yaT _)
  have cellK : ∀ x c,X.env.cells.lookup x = some c→∀ v,s.heap.IsCell c v→h'.IsCell c v:=fun x c e v ⟨o,ho,hd⟩=>by
    have nch : c∉ch:=fun z=>(hch c z).2.2.1 x c e rfl
    by_cases hc : c∈X.fs
    · obtain ⟨sl,q⟩:=slot c o (I.cne x c e) hc nch ho (I.freeC x c e)
      exact ⟨_,q,hd⟩
    · exact ⟨o,keep c o (I.cne x c e) hc nch ho (I.freeC x c e),hd⟩
  refine ⟨I.ok,I.os,hg,⟨fun b o e n hb hx=>?_,fun b o e n hb hx=>?_,fun b o e n hx=>?_,fun b o e hx=>?_,fun b xs e=>tups b xs (I.base.tups b xs e),fun b o xs e=>frzs b o xs (I.base.frzs b o xs e),fun b ps e=>?_⟩,?_,fun x c e=>?_,?_,fun x c e=>?_,fun p hp=>?_,hok,I.len⟩
  · exact keep b o (neL b o e) hb (neC b o e hx) (I.base.keep b o e n hb hx) (I.base.free b o e n hx)
  · obtain ⟨sl,e1⟩:=I.base.slot b o e n hb hx
    obtain ⟨sl',e2⟩:=slot b _ (neL b o e) hb (neC b o e hx) e1 (I.base.free b o e n hx)
    exact ⟨sl',e2⟩
  · obtain ⟨o',e1⟩:=I.base.there b o e hx
    exact free b o' (neC b o e hx) e1 (I.base.free b o e n hx)
  · obtain ⟨o',e1⟩:=I.base.there b o e hx
    exact there b o' (neC b o e hx) e1
  · obtain ⟨m1,e1⟩:=I.base.tbls b ps e
    obtain ⟨m2,e2⟩:=tbls b _ e1
    exact ⟨m1 ++ m2,by rw [e2,Array.append_assoc]⟩
  · obtain ⟨m,hn,hl⟩:=I.loc
    refine ⟨m,ns m hn,fun i x v e1 e2 e3=>?_⟩
    obtain ⟨u,r,l⟩:=hl i x v e1 e2 e3
    refine ⟨u,r,?_⟩
    rcases l with l | ⟨k,c,e,z⟩
    · exact .inl l
    · exact .inr ⟨k,c,e,cellK x c e _ z⟩
  · obtain ⟨v,z⟩:=I.cell x c e
    exact ⟨v,cellK x c e v z⟩
  · obtain ⟨m,⟨o,_,_,ho,_⟩,_⟩:=I.loc
    exact free _ o (fun z=>(hch _ z).2.1 rfl) ho I.free
  · obtain ⟨v,o,ho,hd⟩:=I.cell x c e
    exact free c o (fun z=>(hch c z).2.2.1 x c e rfl) ho (I.freeC x c e)
  · obtain ⟨e,n,ne,nf,d⟩:=I.pin p hp
    have nch : p.1∉ch:=fun z=>(hch p.1 z).2.2.2 p hp rfl
    exact ⟨keep p.1 p.2 ne nf nch e n,free p.1 p.2 nch e n,ne,nf,d⟩
theorem Inv.un {t' : Nat} (I : Inv X pins σ H s) (u : Un X.fs [] H H' s.heap h') (hok : HOk X.prog X.w H' h') : Inv X pins σ H' { s with heap:=h',toks:=t' }:=by
  obtain ⟨m,⟨o,es,ep,ho,r⟩,_⟩:=id I.loc
  obtain ⟨sl,hL⟩:=u.any ho I.free (by simp)
  exact I.step (g':=s.gens) (d':=s.drawn) (ch:=[]) (fun _ z=>nomatch z) (fun b o _ hb _ e n=>u.keep b o e n hb (by simp)) (fun b o _ hb _ e n=>u.slot b o e n hb (by simp)) (fun b o _ e n=>u.free b o e n (by simp)) (fun b o _ e=>u.there b o e (by simp)) u.tups u.frzs u.tbls (fun m' hm=>by
    obtain ⟨o',es',ep',ho',r'⟩:=hm
    rw [ho] at ho'; cases ho'
    exact ⟨_,es',ep',hL,r'⟩) hok I.bare
theorem Inv.call {g' : Array GenState} {t' : Nat} {d' : Drawn} {ch : List Addr} (I : Inv X pins σ H s) (u : Un (frs X.stack) ch H H' s.heap h') (hok : HOk X.prog X.w H' h') (hg : AllBare g')
    (hch : ∀ b∈ch,(b∈X.ex∨X.s₀.heap.objs.size≤b)∧b≠X.env.locals∧(∀ x c,X.env.cells.lookup x = some c→c≠b)∧∀ p∈X.pn ++ pins,p.1≠b) :
    Inv X pins σ H' { s with heap:=h',gens:=g',drawn:=d',toks:=t' }:=by
  obtain ⟨m,⟨o,es,ep,ho,r⟩,_⟩:=id I.loc
  obtain ⟨sl,hL⟩:=u.any ho I.free fun z=>(hch _ z).2.1 rfl
  exact I.step (ch:=ch) hch (fun b o hL hb hc e n=>u.keep b o e n (fun z=>(yal.mp (I.stkSub b z)).elim hL hb) hc) (fun b o _ _ hc e n=>u.any e n hc) (fun b o hc e n=>u.free b o e n hc) (fun b o hc e=>u.there b o e hc) u.tups u.frzs u.tbls (fun m' hm=>by
    obtain ⟨o',es',ep',ho',r'⟩:=hm
    rw [ho] at ho'; cases ho'
    exact ⟨_,es',ep',hL,r'⟩) hok hg
theorem Inv.turned {t' : Nat} {it : Addr} (I : Inv X pins σ H s) (k : ∀ b o,b≠it→s.heap.get? b = some o→h'.get? b = some o) (hn : H it = none) (hL : it≠X.env.locals)
    (h1 : it∈X.ex∨X.s₀.heap.objs.size≤it) (h2 : ∀ x c,X.env.cells.lookup x = some c→c≠it) (h3 : ∀ p∈X.pn ++ pins,p.1≠it) : Inv X pins σ H { s with heap:=h',toks:=t' }:=by
  have nit : ∀ b u,H b = some u→b≠it:=fun b u e z=>by rw [z,hn] at e; cases e
  refine I.step (g':=s.gens) (d':=s.drawn) (ch:=[it]) (fun b hb=>?_) (fun b o _ _ hc e _=>k b o (fun z=>hc (by simp [z])) e) (fun b o _ _ hc e _=>⟨o.slots,k b o (fun z=>hc (by simp [z])) e⟩) (fun _ _ _ _ n=>n)
    (fun b o hc e=>⟨o,k b o (fun z=>hc (by simp [z])) e⟩) (fun _ _ e=>e) (fun _ _ _ e=>e) (fun b ps e=>⟨#[],by rw [e]; simp⟩) (fun m hm=>?_) (fun b u e=>?_) I.bare
  · have e : b = it:=by simpa using hb
    subst e
    exact ⟨h1,hL,h2,h3⟩
  · obtain ⟨o,es,ep,ho,r⟩:=hm
    exact ⟨o,es,ep,k _ o (Ne.symm hL) ho,r⟩
  · refine (I.hok b u e).stay (fun c v hc q=>k c v ?_ q) (fun _ q=>q) fun _ _ q=>q
    rcases hc with z | z
    · rw [z]; exact nit b u e
    · exact nit c _ z
theorem Inv.tok (I : Inv X pins σ H s) (t : Nat) : Inv X pins σ H { s with toks:=t }:=I.un (h':=s.heap) (t':=t) Un.refl I.hok
theorem Inv.kept {t' : Nat} (I : Inv X pins σ H s) (k : ∀ b u,s.heap.get? b = some u→h'.get? b = some u) : Inv X pins σ H { s with heap:=h',toks:=t' }:=I.un (Un.kept k) (I.hok.kept k)
theorem Inv.laid {a : Addr} {o : HO} {t' : Nat} (I : Inv X pins σ H s) (k : ∀ b u,s.heap.get? b = some u→h'.get? b = some u) (hp : s.heap.objs.size≤a) (new : zbI X.prog X.w (upd H a o) h' a o) :
    Inv X pins σ (upd H a o) { s with heap:=h',toks:=t' }:=I.un (Un.laid k hp (I.hok.fresh hp)) (I.hok.laid k hp new)
theorem Inv.write {x e : Addr} {o : HO} {t' : Nat} (I : Inv X pins σ H s) (mu : Mut (H x)) (he : e = x∨H e = some (.own x)) (k : ∀ b u,b≠e→s.heap.get? b = some u→h'.get? b = some u) (heo : ∃ u,h'.get? e = some u)
    (new : zbI X.prog X.w (upd H x o) h' x o) : Inv X pins σ (upd H x o) { s with heap:=h',toks:=t' }:=I.un (Un.write mu he k heo) (I.hok.write mu he k heo new)
theorem Inv.pins_of {pins' : List (Addr×Obj)} (I : Inv X pins σ H s) (h : ∀ p∈pins',s.heap.get? p.1 = some p.2∧H p.1 = none∧p.1≠X.env.locals∧p.1∉X.fs∧∀ v,p.2.data≠.cell v) : Inv X pins' σ H s:=
  ⟨I.ok,I.os,I.bare,I.base,I.loc,I.cell,I.free,I.freeC,fun p hp=>(yaE.mp hp).elim (fun z=>I.pin p (List.mem_append_left _ z)) (h p),I.hok,I.len⟩
theorem zjB {N : List Str} (hN : N.Nodup) {i j : Nat} {x : Str} (a : N[i]? = some x) (b : N[j]? = some x) : i = j:=by
  obtain ⟨h1,e1⟩:=yah.mp a
  obtain ⟨h2,e2⟩:=yah.mp b
  exact (List.getElem_inj hN).mp (e1.trans e2.symm)
theorem zfF {M : Model} {A : Around} {E : Value→Shared→Prop} {i : Nat} {x : Str} {v : V} {u : Value} {Q : Unit→Shared→Prop} (I : Inv X pins σ H s) (hN : X.N.Nodup) (hi : X.N[i]? = some x) (hx : Loc X.env.scope x) (r : RelV v u)
    (h : ∀ s',Inv X pins (σ.set i (some v)) H s'→(∃ a,Heap.SameBut a s.heap s'.heap∧(a = X.env.locals∨X.env.cells.lookup x = some a))→Q () s') (hf : X.fn x = true∨X.env.scope.names.lookup x = some .local:=by first | exact .inl rfl | exact .inr rfl | assumption) : wpAny M A (storeName X.env x u) Q E s:=by
  obtain ⟨m,hn,hl⟩:=id I.loc
  have hcls : (X.env.scope.kind == .class || (X.env.scope.kind == .module && X.env.locals != X.env.globals)) = false:=by rw [I.ok.kind]; rfl
  have hiσ : i < σ.length:=by rw [I.len]; exact (yah.mp hi).1
  have cne:=I.cne
  have tracked : ∀ {a : Addr} {h' : Heap},(∃ o,s.heap.get? a = some o∧H a = none)→Heap.SameBut a s.heap h'→HOk X.prog X.w H h':=fun {a h'} ha hs b ob e=>by
    obtain ⟨_,_,hfree⟩:=ha
    refine (I.hok b ob e).stay (fun c w' hc q=>(hs.2 c ?_).trans q) (fun _ q=>q) fun _ _ q=>q
    rintro rfl
    rcases hc with rfl | hc
    · rw [hfree] at e; cases e
    · rw [hfree] at hc; cases hc
  rcases hx with hk | hk
  · refine wpAny_storeName_local hk hn (fun h' hn' hs=>?_) hcls
    obtain ⟨oL,_,_,hoL,_⟩:=id hn
    refine h _ ⟨I.ok,I.os,I.bare,⟨fun b o e n hb hx=>?_,fun b o e n hb hx=>?_,I.base.free,fun b o e hx=>?_,I.base.tups,I.base.frzs,I.base.tbls⟩,⟨_,hn',fun j y v' e1 e2 e3=>?_⟩,fun y c e=>?_,I.free,I.freeC,fun p hp=>?_,tracked ⟨oL,hoL,I.free⟩ hs,by simpa using I.len⟩ ⟨_,hs,.inl rfl⟩
    · exact (hs.2 b (yak (yat (yae e) I.ok.above))).trans (I.base.keep b o e n hb hx)
    · obtain ⟨sl,e1⟩:=I.base.slot b o e n hb hx
      exact ⟨sl,(hs.2 b (yak (yat (yae e) I.ok.above))).trans e1⟩
    · obtain ⟨o',e1⟩:=I.base.there b o e hx
      exact ⟨o',(hs.2 b (yak (yat (yae e) I.ok.above))).trans e1⟩
    · by_cases hj : j = i
      · subst hj
        rw [hi] at e1; cases e1
        rw [List.getElem?_set_self hiσ] at e2
        cases e2
        exact ⟨u,r,.inl ⟨hk,by simp⟩⟩
      · rw [List.getElem?_set_ne (Ne.symm hj)] at e2
        obtain ⟨u',r',q⟩:=hl j y v' e1 e2 e3
        refine ⟨u',r',?_⟩
        rcases q with ⟨k,e⟩ | ⟨k,c,e,z⟩
        · refine .inl ⟨k,?_⟩
          have : y≠x:=fun e=>hj (zjB hN e1 (e ▸ hi))
          simp [this,e]
        · exact .inr ⟨k,c,e,z.sameBut hs (cne y c e)⟩
    · obtain ⟨w',z⟩:=I.cell y c e
      exact ⟨w',z.sameBut hs (cne y c e)⟩
    · obtain ⟨e,n,ne,nf,d⟩:=I.pin p hp
      exact ⟨(hs.2 p.1 ne).trans e,n,ne,nf,d⟩
  · have hfn : X.fn x = true:=by
      rcases hf with z | z
      · exact z
      · rw [z] at hk; cases hk
    obtain ⟨c,hc⟩:=I.ok.has x (.inl hk)
    obtain ⟨w',z⟩:=I.cell x c hc
    refine wpAny_storeName_cell I.ok.kind hk hc z (fun h' hc' hs=>?_)
    obtain ⟨oc,hoc,hocd⟩:=id z
    refine h { s with heap:=h' } ⟨I.ok,I.os,I.bare,⟨fun b o e n hb hx=>?_,fun b o e n hb hx=>?_,I.base.free,fun b o e hx=>?_,I.base.tups,I.base.frzs,I.base.tbls⟩,⟨m,hn.sameBut hs (Ne.symm (cne x c hc)),fun j y v' e1 e2 e3=>?_⟩,fun y c' e=>?_,I.free,I.freeC,fun p hp=>?_,tracked ⟨oc,hoc,I.freeC x c hc⟩ hs,by simpa using I.len⟩ ⟨c,hs,.inr hc⟩
    · exact (hs.2 b (yak (yat (yae e) (I.ok.cab x c hfn hc)))).trans (I.base.keep b o e n hb hx)
    · obtain ⟨sl,e1⟩:=I.base.slot b o e n hb hx
      exact ⟨sl,(hs.2 b (yak (yat (yae e) (I.ok.cab x c hfn hc)))).trans e1⟩
    · obtain ⟨o',e1⟩:=I.base.there b o e hx
      exact ⟨o',(hs.2 b (yak (yat (yae e) (I.ok.cab x c hfn hc)))).trans e1⟩
    · by_cases hj : j = i
      · subst hj
        rw [hi] at e1; cases e1
        rw [List.getElem?_set_self hiσ] at e2
        cases e2
        exact ⟨u,r,.inr ⟨.inl hk,c,hc,hc'⟩⟩
      · rw [List.getElem?_set_ne (Ne.symm hj)] at e2
        obtain ⟨u',r',q⟩:=hl j y v' e1 e2 e3
        refine ⟨u',r',?_⟩
        rcases q with q | ⟨k,c',e,z'⟩
        · exact .inl q
        · refine .inr ⟨k,c',e,z'.sameBut hs ?_⟩
          rintro rfl
          exact hj (zjB hN e1 (I.ok.inj _ _ _ e hc ▸ hi))
    · by_cases hcc : c' = c
      · subst hcc; exact ⟨_,hc'⟩
      · obtain ⟨w2,z2⟩:=I.cell y c' e
        exact ⟨w2,z2.sameBut hs hcc⟩
    · obtain ⟨e,n,ne,nf,d⟩:=I.pin p hp
      refine ⟨(hs.2 p.1 ?_).trans e,n,ne,nf,d⟩
      intro q
      rw [q,hoc] at e
      have q' : oc = p.2:=yaf e
      exact d w' (by rw [← q']; exact hocd)
theorem zjc {M : Model} {A : Around} {E : Value→Shared→Prop} {i : Nat} {x : Str} {v : V} {u : Value} {Q : Unit→Shared→Prop} (I : Inv X pins σ H s) (hN : X.N.Nodup) (hi : X.N[i]? = some x) (hx : Loc X.env.scope x) (r : RelV v u)
    (h : ∀ s',Inv X pins (σ.set i (some v)) H s'→Q () s') (hf : X.fn x = true∨X.env.scope.names.lookup x = some .local:=by first | exact .inl rfl | exact .inr rfl | assumption) : wpAny M A (storeName X.env x u) Q E s:=
  zfF I hN hi hx r (fun s' I' _=>h s' I') hf
theorem Inv.call' {s' : Shared} {ch : List Addr} (I : Inv X pins σ H s) (ho : s'.os = s.os) (u : Un (frs X.stack) ch H H' s.heap s'.heap) (hok : HOk X.prog X.w H' s'.heap) (hg : AllBare s'.gens)
    (hch : ∀ b∈ch,(b∈X.ex∨X.s₀.heap.objs.size≤b)∧b≠X.env.locals∧(∀ x c,X.env.cells.lookup x = some c→c≠b)∧∀ p∈X.pn ++ pins,p.1≠b) : Inv X pins σ H' s':=by
  obtain ⟨h',g',d',t',o'⟩:=s'
  have e : o' = s.os:=ho
  subst e
  exact I.call (g':=g') (t':=t') (d':=d') u hok hg hch
end
abbrev XK:=Value→Option Addr→Hp→Prop
abbrev St:=List (Option V)
abbrev VK:=V→Hp→Prop
abbrev TE:=St→Hp→VK→Prop
abbrev TT:=St→Hp→(Bool→Hp→Prop)→Prop
abbrev TA:=St→Hp→(List V→Hp→Prop)→Prop
structure Ends where
  nx : St→Hp→Prop
  rt : VK
  bk : St→Hp→Prop:=fun _ _=>False
  ct : St→Hp→Prop:=fun _ _=>False
abbrev TS:=Ends→St→Hp→Prop
def EP (X : Cx) (pins : List (Addr×Obj)) (σ : St) (Q : VK) (u : Value) (s' : Shared) : Prop:=∃ v H',Inv X pins σ H' s'∧RelV v u∧Q v H'
def TP (X : Cx) (pins : List (Addr×Obj)) (σ : St) (Q : Bool→Hp→Prop) (b : Bool) (s' : Shared) : Prop:=∃ H',Inv X pins σ H' s'∧Q b H'
def AP (X : Cx) (pins : List (Addr×Obj)) (σ : St) (Q : List V→Hp→Prop) (us : List Value) (s' : Shared) : Prop:=∃ vs H',Inv X pins σ H' s'∧Vals vs us∧Q vs H'
def SP (X : Cx) (pins : List (Addr×Obj)) (D : Ends) (f : Flow) (s' : Shared) : Prop:=
  match f with
  | .next=>∃ σ' H',Inv X pins σ' H' s'∧D.nx σ' H'
  | .brk=>∃ σ' H',Inv X pins σ' H' s'∧D.bk σ' H'
  | .cont=>∃ σ' H',Inv X pins σ' H' s'∧D.ct σ' H'
  | .ret u=>∃ v σ' H',Inv X pins σ' H' s'∧RelV v u∧D.rt v H'
def PE (X : Cx) (e : Expr) (t : TE) : Prop:=
  ∀ (pins : List (Addr×Obj)) (s : Shared) (σ : St) (H : Hp) (Q : VK),Inv X pins σ H s→t σ H Q→wpAny (model X.prog X.w) X.A (eval e X.env) (EP X pins σ Q) X.xe s
def PT (X : Cx) (e : Expr) (t : TT) : Prop:=
  ∀ (pins : List (Addr×Obj)) (s : Shared) (σ : St) (H : Hp) (Q : Bool→Hp→Prop),Inv X pins σ H s→t σ H Q→wpAny (model X.prog X.w) X.A (isTrue e X.env (eval e X.env)) (TP X pins σ Q) X.xe s
def PW (X : Cx) (e : Expr) (t : TT) : Prop:=
  ∀ (whole : Sem Value) (pins : List (Addr×Obj)) (s : Shared) (σ : St) (H : Hp) (Q : Bool→Hp→Prop),Inv X pins σ H s→t σ H Q→wpAny (model X.prog X.w) X.A (isTrue e X.env whole) (TP X pins σ Q) X.xe s
theorem PW.pt {X : Cx} {e : Expr} {t : TT} (h : PW X e t) : PT X e t:=h _
def PA (X : Cx) (es : List Expr) (t : TA) : Prop:=
  ∀ (pos : Pos) (pins : List (Addr×Obj)) (s : Shared) (σ : St) (H : Hp) (Q : List V→Hp→Prop),Inv X pins σ H s→t σ H Q→wpAny (model X.prog X.w) X.A (spliced (backTo pos (starEach es X.env))) (AP X pins σ Q) X.xe s
def PS (X : Cx) (st : Stmt) (t : TS) : Prop:=
  ∀ (pins : List (Addr×Obj)) (s : Shared) (σ : St) (H : Hp) (D : Ends),Inv X pins σ H s→t D σ H→wpAny (model X.prog X.w) X.A (exec st X.env) (SP X pins D) X.xe s
def PSs (X : Cx) (st : List Stmt) (t : TS) : Prop:=
  ∀ (pins : List (Addr×Obj)) (s : Shared) (σ : St) (H : Hp) (D : Ends),Inv X pins σ H s→t D σ H→wpAny (model X.prog X.w) X.A (execs st X.env) (SP X pins D) X.xe s
theorem thn {α : Type} {t : Sem α} {Q Q' : α→Shared→Prop} {M : Model} {A : Around} {E : Value→Shared→Prop} {s : Shared} (h : wpAny M A t Q E s) (hQ : ∀ a s,Q a s→Q' a s) : wpAny M A t Q' E s:=wpAny_mono h hQ fun _ _ x=>x
end L2
namespace L2
open PySem PySem.Spec PyProof.Rows
section
variable {X : Cx}
def tVar (i : Nat) : TE:=fun σ H Q=>∃ v,σ[i]? = some (some v)∧Q v H
def tC (v : V) : TE:=fun _ H Q=>Q v H
theorem zpM {i : Nat} {x : Str} {pos : Pos} (hN : X.N[i]? = some x) (hv : Vis X.env.scope x) (hd : (x == ("__debug__" : Str)) = false:=by decide) (hcd : (x == ("__classdict__" : Str)) = false:=by decide) : PE X (.Name x pos) (tVar i):=by
  intro pins s σ H Q I h
  obtain ⟨v,e,h⟩:=h
  obtain ⟨m,hn,hl⟩:=I.loc
  obtain ⟨u,r,l⟩:=hl i x v hN e hv
  have fin : EP X pins σ Q u s:=⟨v,H,I,r,h⟩
  rcases l with ⟨hk,hm⟩ | ⟨hk,c,hc,hcell⟩
  · exact wpAny_Name (wpAny_loadName_local I.ok.kind hk hn hm fin) hd
  · rcases hk with hk | hk
    · exact wpAny_Name (wpAny_loadName_cell I.ok.kind hk hc hcell fin) hd
    · exact wpAny_Name (wpAny_loadName_free I.ok.kind hk hc hcell fin hcd) hd
theorem zag {i j pos} : PE X (.Constant (.int i) j pos) (tC (.int i)):=fun _ _ _ H _ I h=>wpAny_Constant_int ⟨.int i,H,I.tok _,⟨_,rfl⟩,h⟩
theorem zfh {b j pos} : PE X (.Constant (.bool b) j pos) (tC (.bl b)):=fun _ _ _ H _ I h=>Constant_bool ⟨.bl b,H,I,rfl,h⟩
theorem zpO {j pos} : PE X (.Constant .none j pos) (tC .non):=fun _ _ _ H _ I h=>Constant_none ⟨.non,H,I,rfl,h⟩
theorem zc6 {x j pos} : PE X (.Constant (.str x) j pos) (tC (.str x)):=fun _ _ _ H _ I h=>Calls.Constant_str ⟨.str x,H,I.tok _,⟨_,rfl⟩,h⟩
def Gl (X : Cx) (x : Str) : Prop:=X.env.kindOf x = some .globalImplicit
theorem zhe {E : Value→Shared→Prop} {pins : List (Addr×Obj)} {s : Shared} {σ : St} {H : Hp} {x : Str} {u : Value} {pos : Pos} {Q : Value→Shared→Prop} (I : Inv X pins σ H s) (hg : Gl X x) (hm : X.mg x = some u) (h : Q u s)
    (hd : (x == ("__debug__" : Str)) = false:=by decide) : wpAny (model X.prog X.w) X.A (eval (.Name x pos) X.env) Q E s:=
  Calls.Name_function_global I.ok.kind hg (Calls.loadGlobal_global (by rw [I.ok.glob]; exact I.mod.glob.keeps I.bk) hm h) hd
theorem zfa {E : Value→Shared→Prop} {pins : List (Addr×Obj)} {s : Shared} {σ : St} {H : Hp} {x : Str} {u : Value} {pos : Pos} {Q : Value→Shared→Prop} (I : Inv X pins σ H s) (hg : Gl X x) (hm : X.mg x = none) (hv : bootBuiltins x = some u) (h : Q u s)
    (hn : x ≠ "__name__":=by decide) (hd : (x == ("__debug__" : Str)) = false:=by decide) : wpAny (model X.prog X.w) X.A (eval (.Name x pos) X.env) Q E s:=by
  obtain ⟨mb,h1,h2⟩:=I.mod.blt
  exact Calls.Name_function_global I.ok.kind hg (Calls.loadGlobal_builtin (by rw [I.ok.glob]; exact I.mod.glob.keeps I.bk) hm (by rw [I.ok.blt]; exact h1.keeps I.bk) ((h2 x hn).trans hv) h) hd
theorem zoH {x : Str} {v : V} {u : Value} {pos : Pos} (hg : Gl X x) (hm : X.mg x = some u) (r : RelV v u) (hd : (x == ("__debug__" : Str)) = false:=by decide) : PE X (.Name x pos) (tC v):=
  fun _ _ _ H _ I h=>zhe I hg hm ⟨v,H,I,r,h⟩ hd
variable {a b : Expr} {ta tb : TE} {pos : Pos}
def tB (t : TE) : TT:=fun σ H Q=>t σ H fun x H1=>∃ c,x = .bl c∧Q c H1
theorem zhF {e : Expr} {t : TE} (h : PE X e t) (he : ∀ whole,isTrue e X.env whole = (do let v ← whole; standAt e.pos; holding [v] (truthy v)):=by intro _; rfl) : PT X e (tB t):=by
  intro pins s σ H Q I hw
  refine isTrue_plain (thn (h pins s σ H _ I hw) fun v s1 ⟨x,H1,I1,r1,q1⟩=>?_) (he _)
  obtain ⟨d,rfl,q⟩:=q1
  cases r1
  exact wpAny_truthy_bool ⟨H1,I1,q⟩
variable {tA tB' : TT} {rest : List Expr}
def tAnd (t u : TT) : TT:=fun σ H Q=>t σ H fun c H1=>if c = true then u σ H1 Q else Q false H1
def tOr (t u : TT) : TT:=fun σ H Q=>t σ H fun c H1=>if c = true then Q true H1 else u σ H1 Q
def tNot (t : TT) : TT:=fun σ H Q=>t σ H fun c H1=>Q (!c) H1
theorem zg0 (ha : PT X a tA) : PW X (.BoolOp .And [a] pos) tA:=by
  intro wh pins s σ H Q I h
  refine isTrue_and (thn (ha pins s σ H Q I h) fun c s1 e=>?_)
  cases c with
  | true=>exact isTrue_and_nil e
  | false=>exact e
theorem zpJ (ha : PT X a tA) : PW X (.BoolOp .Or [a] pos) tA:=by
  intro wh pins s σ H Q I h
  refine isTrue_or (thn (ha pins s σ H Q I h) fun c s1 e=>?_)
  cases c with
  | false=>exact isTrue_or_nil e
  | true=>exact e
theorem zjt (ha : PT X a tA) (hb : PW X (.BoolOp .And (b :: rest) pos) tB') : PW X (.BoolOp .And (a :: b :: rest) pos) (tAnd tA tB'):=by
  intro wh pins s σ H Q I h
  refine isTrue_and (thn (ha pins s σ H _ I h) fun c s1 ⟨H1,I1,q1⟩=>?_)
  cases c with
  | true=>exact hb wh pins s1 σ H1 Q I1 q1
  | false=>exact ⟨H1,I1,q1⟩
theorem zqM (ha : PT X a tA) (hb : PW X (.BoolOp .Or (b :: rest) pos) tB') : PW X (.BoolOp .Or (a :: b :: rest) pos) (tOr tA tB'):=by
  intro wh pins s σ H Q I h
  refine isTrue_or (thn (ha pins s σ H _ I h) fun c s1 ⟨H1,I1,q1⟩=>?_)
  cases c with
  | true=>exact ⟨H1,I1,q1⟩
  | false=>exact hb wh pins s1 σ H1 Q I1 q1
theorem zpL (ha : PT X a tA) : PT X (.UnaryOp .Not a pos) (tNot tA):=by
  intro pins s σ H Q I h
  exact isTrue_not (ha pins s σ H (fun c H1=>Q (!c) H1) I h)
def zqI (ta tb : TE) : TE:=fun σ H Q=>ta σ H fun x H1=>∃ c,x = .bl c∧if c = true then tb σ H1 Q else Q (.bl false) H1
theorem zpN {op} {t : TE} (h : PE X a t) : PE X (.BoolOp op [a] pos) t:=fun pins s σ H Q I hw=>BoolOp_one (h pins s σ H Q I hw)
theorem zpQ (ha : PE X a ta) (hb : PE X (.BoolOp .And (b :: rest) pos) tb) : PE X (.BoolOp .And (a :: b :: rest) pos) (zqI ta tb):=by
  intro pins s σ H Q I h
  refine BoolOp_and (thn (ha pins s σ H _ I h) fun v s1 ⟨x,H1,I1,r1,q1⟩=>?_)
  obtain ⟨c,rfl,q1⟩:=q1
  cases r1
  refine wpAny_truthy_bool ?_
  cases c with
  | true=>exact hb pins s1 σ H1 Q I1 q1
  | false=>exact ⟨.bl false,H1,I1,rfl,q1⟩
def tIf (t : TT) (ta tb : TE) : TE:=fun σ H Q=>t σ H fun c H1=>if c = true then ta σ H1 Q else tb σ H1 Q
theorem zjw {c : Expr} (hc : PT X c tA) (ha : PE X a ta) (hb : PE X b tb) : PE X (.IfExp c a b pos) (tIf tA ta tb):=by
  intro pins s σ H Q I h
  refine wpAny_IfExp (thn (hc pins s σ H _ I h) fun d s1 ⟨H1,I1,q1⟩=>?_)
  cases d with
  | true=>exact ha pins s1 σ H1 Q I1 q1
  | false=>exact hb pins s1 σ H1 Q I1 q1
end
end L2
namespace L2
open PySem PySem.Spec PyProof.Rows
def SqL (K : Frag) (H : Hp) (a : Addr) (xs : List V) : Prop:=
  Rd H a (.lst xs)∨
    ∃ (o : Obj) (its : Array Value) (n : Nat),K.lookup a = some o∧o.cls = .type "list"∧o.dict = none∧o.data = .seq its n∧its.size≤sizeLine∧Vals xs its.toList
def SqT (K : Frag) (H : Hp) (a : Addr) (xs : List V) : Prop:=
  Rd H a (.tup xs)∨
    ∃ (o : Obj) (its : Array Value) (n : Nat),K.lookup a = some o∧o.cls = .type "tuple"∧o.data = .seq its n∧its.size≤sizeLine∧Vals xs its.toList
def absV : Value→Option V
  | .none=>some .non
  | .bool b=>some (.bl b)
  | .int i _=>some (.int i)
  | .str x _=>some (.str x)
  | .bytes b _=>some (.byt b)
  | .float b _=>some (.flt b)
  | .ref a=>some (.ref a)
  | .type n=>some (.ty n)
  | _=>none
theorem RelV.abs {x : V} {u : Value} (r : RelV x u) : absV u = some x:=by
  cases x with
  | non=>cases r; rfl
  | bl _=>cases r; rfl
  | int _=>obtain ⟨t,rfl⟩:=r; rfl
  | str _=>obtain ⟨t,rfl⟩:=r; rfl
  | byt _=>obtain ⟨t,rfl⟩:=r; rfl
  | flt _=>obtain ⟨t,rfl⟩:=r; rfl
  | ref _=>cases r; rfl
  | ty _=>cases r; rfl
theorem RelV.inj {x y : V} {u : Value} (r : RelV x u) (q : RelV y u) : x = y:=yaf (r.abs.symm.trans q.abs)
theorem Vals.inj : ∀ {xs ys : List V} {us : List Value},Vals xs us→Vals ys us→xs = ys
  | _,_,_,.nil,.nil=>rfl
  | _,_,_,.cons r t,.cons r' t'=>by rw [r.inj r',Vals.inj t t']
section
variable {X : Cx} {pins : List (Addr×Obj)} {σ : St} {H : Hp} {s : Shared} {a : Addr} {xs ys : List V}
theorem SqL.of {K : Frag} (h : H a = some (.lst xs)) : SqL K H a xs:=.inl (.inl h)
theorem SqT.of {K : Frag} (h : H a = some (.tup xs)) : SqT K H a xs:=.inl (.inl h)
theorem Inv.list (I : Inv X pins σ H s) (h : SqL X.K H a xs) : ∃ its : List Value,Vals xs its∧PlainL s.heap a its.toArray∧xs.length≤sizeLine:=by
  rcases h with h | ⟨o,its,n,hk,hc,hd,hs,hz,r⟩
  · obtain ⟨z,its,n,r,e⟩:=h.ok I.hok
    exact ⟨its,r,⟨_,n,e,rfl,rfl,rfl⟩,z⟩
  · refine ⟨its.toList,r,⟨o,n,I.kIn a o hk,hc,hd,by simpa using hs⟩,?_⟩
    have e:=r.length
    simp only [ya3] at e
    omega
theorem Inv.tuple (I : Inv X pins σ H s) (h : SqT X.K H a xs) : ∃ its : List Value,Vals xs its∧IsTup s.heap a its.toArray∧xs.length≤sizeLine:=by
  rcases h with h | ⟨o,its,n,hk,hc,hs,hz,r⟩
  · obtain ⟨z,its,r,p⟩:=h.ok I.hok
    exact ⟨its,r,p,z⟩
  · refine ⟨its.toList,r,⟨o,I.kIn a o hk,hc,n,by simpa using hs⟩,?_⟩
    have e:=r.length
    simp only [ya3] at e
    omega
theorem Inv.list_inj (I : Inv X pins σ H s) (h : SqL X.K H a xs) (h' : SqL X.K H a ys) : xs = ys:=by
  obtain ⟨its,r,⟨o,n,e,_,_,d⟩,_⟩:=I.list h
  obtain ⟨its',r',⟨o',n',e',_,_,d'⟩,_⟩:=I.list h'
  rw [e] at e'; cases e'
  rw [d] at d'
  injection d' with d1 _
  have : its = its':=by simpa using congrArg Array.toList d1
  subst this
  exact r.inj r'
theorem Inv.tuple_inj (I : Inv X pins σ H s) (h : SqT X.K H a xs) (h' : SqT X.K H a ys) : xs = ys:=by
  obtain ⟨its,r,⟨o,e,_,n,d⟩,_⟩:=I.tuple h
  obtain ⟨its',r',⟨o',e',_,n',d'⟩,_⟩:=I.tuple h'
  rw [e] at e'; cases e'
  rw [d] at d'
  injection d' with d1 _
  have : its = its':=by simpa using congrArg Array.toList d1
  subst this
  exact r.inj r'
end
abbrev Cx.wish (X : Cx) (E : Value→Shared→Prop) : Cx:={ X with xe:=E }
abbrev Cx.nox (X : Cx) : Cx:=X.wish fun _ _=>False
theorem Cx.Ok.wish {X : Cx} (ok : X.Ok) (E : Value→Shared→Prop) : (X.wish E).Ok:=
  ⟨ok.mod,ok.kind,ok.glob,ok.blt,ok.above,ok.inj,ok.has,ok.cab,ok.hd,ok.frames,ok.stk,ok.exf,ok.bs,ok.bsz,ok.noex,ok.exfs,ok.funs,ok.frf⟩
theorem Cx.Ok.unwish {X : Cx} {E : Value→Shared→Prop} (ok : (X.wish E).Ok) : X.Ok:=
  ⟨ok.mod,ok.kind,ok.glob,ok.blt,ok.above,ok.inj,ok.has,ok.cab,ok.hd,ok.frames,ok.stk,ok.exf,ok.bs,ok.bsz,ok.noex,ok.exfs,ok.funs,ok.frf⟩
section
variable {X : Cx} {pins : List (Addr×Obj)} {σ : St} {H : Hp} {s : Shared} {E : Value→Shared→Prop}
theorem Inv.wish (I : Inv X pins σ H s) (E : Value→Shared→Prop) : Inv (X.wish E) pins σ H s:=⟨I.ok.wish E,I.os,I.bare,I.base,I.loc,I.cell,I.free,I.freeC,I.pin,I.hok,I.len⟩
theorem Inv.unwish (I : Inv (X.wish E) pins σ H s) : Inv X pins σ H s:=⟨I.ok.unwish,I.os,I.bare,I.base,I.loc,I.cell,I.free,I.freeC,I.pin,I.hok,I.len⟩
theorem SP.unwish {D : Ends} {f : Flow} {s' : Shared} (h : SP (X.wish E) pins D f s') : SP X pins D f s':=by
  cases f with
  | next=>obtain ⟨σ',H',I,q⟩:=h; exact ⟨σ',H',I.unwish,q⟩
  | brk=>obtain ⟨σ',H',I,q⟩:=h; exact ⟨σ',H',I.unwish,q⟩
  | cont=>obtain ⟨σ',H',I,q⟩:=h; exact ⟨σ',H',I.unwish,q⟩
  | ret u=>obtain ⟨v,σ',H',I,r,q⟩:=h; exact ⟨v,σ',H',I.unwish,r,q⟩
theorem PSs.nox {st : List Stmt} {t : TS} (h : PSs X.nox st t) : PSs X st t:=fun pins s σ H D I hw=>
  wpAny_mono (h pins s σ H D (I.wish _) hw) (fun _ _ q=>q.unwish) fun _ _ z=>False.elim z
end
section
variable {X : Cx} {st : Stmt} {rest : List Stmt} {t u : TS} {e : Expr} {te : TE} {pos : Pos}
def zqE : TS:=fun D σ H=>D.nx σ H
def tSeq (t u : TS) : TS:=fun D σ H=>t { D with nx:=u D } σ H
theorem za7 : PSs X [] zqE:=fun _ _ σ H _ I h=>wpAny_execs_nil ⟨σ,H,I,h⟩
theorem zae (h1 : PS X st t) (h2 : PSs X rest u) : PSs X (st :: rest) (tSeq t u):=by
  intro pins s σ H D I h
  refine wpAny_execs_cons (thn (h1 pins s σ H { D with nx:=u D } I h) fun f s1 q=>?_)
  cases f with
  | next=>
    obtain ⟨σ',H',I',q⟩:=q
    exact h2 pins s1 σ' H' D I' q
  | ret v=>exact q
  | brk=>exact q
  | cont=>exact q
theorem zai (h1 : PS X st t) : PSs X [st] t:=by
  intro pins s σ H D I h
  refine wpAny_execs_cons (thn (h1 pins s σ H D I h) fun f s1 q=>?_)
  cases f with
  | next=>exact wpAny_execs_nil q
  | ret v=>exact q
  | brk=>exact q
  | cont=>exact q
theorem Inv.quiet {pins : List (Addr×Obj)} {σ : St} {H : Hp} {s : Shared} (I : Inv X pins σ H s) : interactive X.env = false:=by simp [interactive,I.ok.kind]
def zqF (te : TE) : TS:=fun D σ H=>te σ H fun _ H1=>D.nx σ H1
theorem zbe (he : PE X e te) (hs : swapsWith e none pos.line X.env = pure false:=by rfl) : PS X (.Expr e pos) (zqF te):=by
  intro pins s σ H D I h
  exact wpAny_Expr_any (thn (he pins s σ H _ I h) fun v s1 ⟨x,H1,I1,r1,q1⟩=>⟨σ,H1,I1,q1⟩) I.quiet hs
def tRet (te : TE) : TS:=fun D σ H=>te σ H D.rt
theorem zaz (he : PE X e te) : PS X (.Return (some e) pos) (tRet te):=by
  intro pins s σ H D I h
  exact wpAny_Return_some (thn (he pins s σ H _ I h) fun v s1 ⟨x,H1,I1,r1,q1⟩=>⟨x,σ,H1,I1,r1,q1⟩)
def tIfS (c : TT) (t u : TS) : TS:=fun D σ H=>c σ H fun b H1=>if b = true then t D σ H1 else u D σ H1
theorem zch {c : Expr} {a b : List Stmt} {tc : TT} (hc : PT X c tc) (ha : PSs X a t) (hb : PSs X b u) : PS X (.If c a b pos) (tIfS tc t u):=by
  intro pins s σ H D I h
  refine wpAny_If (thn (hc pins s σ H _ I h) fun d s1 ⟨H1,I1,q1⟩=>?_)
  cases d with
  | true=>exact ha pins s1 σ H1 D I1 q1
  | false=>exact hb pins s1 σ H1 D I1 q1
end
abbrev TG:=V→St→Hp→(St→Hp→Prop)→Prop
abbrev TGs:=List V→St→Hp→(St→Hp→Prop)→Prop
def PG (X : Cx) (target : Expr) (t : TG) : Prop:=
  ∀ (pins : List (Addr×Obj)) (s : Shared) (σ : St) (H : Hp) (v : V) (u : Value) (Q : St→Hp→Prop),Inv X pins σ H s→RelV v u→t v σ H Q→
    wpAny (model X.prog X.w) X.A (assign target X.env u) (fun _ s'=>∃ σ' H',Inv X pins σ' H' s'∧Q σ' H') X.xe s
def PGs (X : Cx) (ts : List Expr) (t : TGs) : Prop:=
  ∀ (pins : List (Addr×Obj)) (s : Shared) (σ : St) (H : Hp) (vs : List V) (us : List Value) (Q : St→Hp→Prop),Inv X pins σ H s→Vals vs us→t vs σ H Q→
    wpAny (model X.prog X.w) X.A (assignInOrder ((assignEach ts X.env).map (·.2)) us) (fun _ s'=>∃ σ' H',Inv X pins σ' H' s'∧Q σ' H') X.xe s
abbrev TSet:=V→V→V→Hp→(Hp→Prop)→Prop
def PSet (X : Cx) (t : TSet) : Prop:=
  ∀ (pins : List (Addr×Obj)) (s : Shared) (σ : St) (H : Hp) (o i v : V) (ov iv u : Value) (Q : Hp→Prop),Inv X pins σ H s→RelV o ov→RelV i iv→RelV v u→t o i v H Q→
    wpAny (model X.prog X.w) X.A (setItem ov iv u) (fun _ s'=>∃ H',Inv X pins σ H' s'∧Q H') X.xe s
section
variable {X : Cx} {pos : Pos}
def ziK (i : Nat) : TG:=fun v σ H Q=>Q (σ.set i (some v)) H
theorem zan {i : Nat} {x : Str} (hN : X.N.Nodup) (hi : X.N[i]? = some x) (hx : Loc X.env.scope x) (hf : X.fn x = true∨X.env.scope.names.lookup x = some .local:=by first | exact .inl rfl | exact .inr rfl | assumption) : PG X (.Name x pos) (ziK i):=by
  intro pins s σ H v u Q I r h
  exact wpAny_assign_Name (zjc I hN hi hx r (fun s' I'=>⟨_,H,I',h⟩) hf)
def gNil : TGs:=fun vs σ H Q=>vs = []∧Q σ H
def zqW (t : TG) (u : TGs) : TGs:=fun vs σ H Q=>∃ v r,vs = v :: r∧t v σ H fun σ' H'=>u r σ' H' Q
theorem zc5 : PGs X [] gNil:=by
  intro pins s σ H vs us Q I r h
  obtain ⟨e,h⟩:=h
  subst e
  cases r
  exact assignInOrder_nil ⟨σ,H,I,h⟩
theorem za1 {e : Expr} {es : List Expr} {t : TG} {u : TGs} (h1 : PG X e t) (h2 : PGs X es u)
    (hs : (assignEach (e :: es) X.env).map (·.2) = assign e X.env :: (assignEach es X.env).map (·.2):=by rfl) : PGs X (e :: es) (zqW t u):=by
  intro pins s σ H vs us Q I r h
  obtain ⟨v,vr,e1,h⟩:=h
  subst e1
  cases r with
  | cons r rr=>
    rw [hs]
    refine assignInOrder_cons (thn (h1 pins s σ H _ _ _ I r h) fun _ s1 ⟨σ1,H1,I1,q1⟩=>?_)
    exact h2 pins s1 σ1 H1 _ _ Q I1 rr q1
def gTup (K : Frag) (n : Nat) (t : TGs) : TG:=fun v σ H Q=>∃ a xs,v = .ref a∧SqT K H a xs∧xs.length = n∧t xs σ H Q
theorem ze6 {es : List Expr} {k : Nat} {t : TGs} {n : Nat} (hc : X.calm = true) (h : PGs X es t)
    (hn : (assignEach es X.env).length = n:=by rfl) (hst : (assignEach es X.env).findIdx? (·.1) = none:=by rfl) : PG X (.Tuple es k pos) (gTup X.K n t):=by
  intro pins s σ H v u Q I r hw
  obtain ⟨a,xs,e1,hq,hl,hw⟩:=hw
  subst e1
  cases r
  obtain ⟨its,rv,ht,hz⟩:=I.tuple hq
  refine assign_Tuple_tuple (I.ok.hd hc) ht (by simp [hn,← hl,rv.length]) hst fun h' hx=>?_
  have I1 : Inv X pins σ H { s with heap:=h' }:=I.kept (t':=s.toks) fun b o e=>hx b o (yak (yae e)) e
  exact h pins _ σ H xs _ Q I1 (by simpa using rv) hw
def gSub (to ti : TE) (t : TSet) : TG:=fun v σ H Q=>to σ H fun o H1=>ti σ H1 fun i H2=>t o i v H2 fun H3=>Q σ H3
theorem zgt {o i : Expr} {to ti : TE} {t : TSet} (ho : PE X o to) (hi : PE X i ti) (hs : PSet X t)
    (ha : ∀ v,assign (.Subscript o i pos) X.env v = (do
      let ov ← holding [v] (eval o X.env)
      let iv ← holding [v,ov] (eval i X.env)
      standAt pos
      holding [v,ov,iv] (setItem ov iv v)
      release [v,ov,iv] []):=by intro _; rfl) : PG X (.Subscript o i pos) (gSub to ti t):=by
  intro pins s σ H v u Q I r h
  rw [ha]
  refine wpAny_bind (wpAny_holding (thn (ho pins s σ H _ I h) fun ov s1 ⟨x,H1,I1,r1,q1⟩=>?_))
  refine wpAny_bind (wpAny_holding (thn (hi pins s1 σ H1 _ I1 q1) fun iv s2 ⟨y,H2,I2,r2,q2⟩=>?_))
  refine wpAny_bind (wpAny_standAt (wpAny_bind (wpAny_holding (thn (hs pins s2 σ H2 x y v ov iv u _ I2 r1 r2 r q2) fun _ s3 ⟨H3,I3,q3⟩=>?_))))
  exact wpAny_release ⟨σ,H3,I3,q3⟩
def tAsg (te : TE) (g : TG) : TS:=fun D σ H=>te σ H fun x H1=>g x σ H1 D.nx
theorem ze5 {tg e : Expr} {te : TE} {g : TG} (he : PE X e te) (hg : PG X tg g) (hs : swapsWithSole [tg] e pos.line X.env = pure false:=by rfl) (hw : swappedStores [tg] e X.env = pure none:=by rfl)
    (h1 : (assignEach [tg] X.env).map (·.2) = [assign tg X.env]:=by rfl) : PS X (.Assign [tg] e pos) (tAsg te g):=by
  intro pins s σ H D I h
  refine wpAny_Assign_stores (thn (he pins s σ H _ I h) fun v s1 ⟨x,H1,I1,r1,q1⟩=>?_) hs hw
  rw [h1]
  exact thn (hg pins s1 σ H1 x v _ I1 r1 q1) fun _ s2 q=>q
theorem zap {i : Nat} {x : Str} {e : Expr} {te : TE} {pos' : Pos} (hN : X.N.Nodup) (hi : X.N[i]? = some x) (hx : Loc X.env.scope x) (he : PE X e te) (hs : swapsWith e (some (.Name x pos')) pos.line X.env = pure false:=by rfl) (hf : X.fn x = true∨X.env.scope.names.lookup x = some .local:=by first | exact .inl rfl | exact .inr rfl | assumption) :
    PS X (.Assign [.Name x pos'] e pos) (tAsg te (ziK i)):=by
  intro pins s σ H D I h
  refine wpAny_Assign_Name (thn (he pins s σ H _ I h) fun v s1 ⟨y,H1,I1,r1,q1⟩=>?_) hs
  exact zjc I1 hN hi hx r1 (fun s2 I2=>⟨_,H1,I2,q1⟩) hf
end
section
variable {X : Cx} {pos : Pos}
def zkZ (c : TT) (tb : TS) : TS:=fun D σ H=>∃ W : Nat→St→Hp→Prop,(∃ m,W m σ H)∧∀ m σ H,W m σ H→
  c σ H fun b H1=>if b = true then ∃ N : St→Hp→Prop,(∀ σ' H',N σ' H'→∃ m',m' < m∧W m' σ' H')∧tb { D with nx:=N,ct:=N,bk:=D.nx } σ H1 else D.nx σ H1
theorem zem {c : Expr} {body : List Stmt} {tc : TT} {tb : TS} (hp : PassesOwn (model X.prog X.w) X.A X.env X.xe) (hc : PT X c tc) (hb : PSs X body tb) : PS X (.While c body [] pos) (zkZ tc tb):=by
  intro pins s σ H D I h
  obtain ⟨W,⟨m0,w0⟩,turn⟩:=h
  refine wpAny_While (codeAny_whileLoop (fun n s'=>∃ σ' H',Inv X pins σ' H' s'∧W n σ' H') ?_ m0 ⟨σ,H,I,w0⟩)
  rintro n s1 ⟨σ1,H1,I1,w1⟩
  refine wpAny_passesOwn hp (thn (hc pins s1 σ1 H1 _ I1 (turn n σ1 H1 w1)) fun b s2 ⟨H2,I2,q2⟩=>?_)
  cases b with
  | true=>
    obtain ⟨N,hN,q2⟩:=q2
    rw [if_pos rfl]
    refine wpAny_passesOwn hp (thn (hb pins s2 σ1 H2 _ I2 q2) fun f s3 q3=>?_)
    cases f with
    | next=>
      obtain ⟨σ3,H3,I3,n3⟩:=q3
      obtain ⟨m',hm,w3⟩:=hN σ3 H3 n3
      exact ⟨m',hm,σ3,H3,I3,w3⟩
    | cont=>
      obtain ⟨σ3,H3,I3,n3⟩:=q3
      obtain ⟨m',hm,w3⟩:=hN σ3 H3 n3
      exact ⟨m',hm,σ3,H3,I3,w3⟩
    | brk=>exact q3
    | ret v=>exact q3
  | false=>
    rw [if_neg yaz]
    exact wpAny_execs_nil ⟨σ1,H2,I2,q2⟩
end
structure It where
  go : Nat→Hp→Prop
  yld : Nat→Hp→V→Hp→Prop
  stop : Nat→Hp→Prop
def FpOk (X : Cx) (pins : List (Addr×Obj)) (H : Hp) (b : Addr) : Prop:=
  H b = none∧b≠X.env.locals∧b∉X.fs∧(b∈X.ex∨X.s₀.heap.objs.size≤b)∧(∀ x c,X.env.cells.lookup x = some c→c≠b)∧∀ p∈X.pn ++ pins,p.1≠b
theorem Inv.fpOk {X : Cx} {pins : List (Addr×Obj)} {σ : St} {H H' : Hp} {s : Shared} {b : Addr} (I : Inv X pins σ H s) (hb : s.heap.objs.size≤b) (hn : H' b = none) : FpOk X pins H' b:=by
  refine ⟨hn,ybe (yat I.lt hb),I.nofs hb,.inr (yao I.sz hb),fun x c e z=>?_,fun p hp z=>?_⟩
  · obtain ⟨v,q⟩:=I.cell x c e
    exact absurd (yat q.lt (by rw [z]; exact hb)) (yaT _)
  · exact absurd (yat (yae (I.pin p hp).1) (by rw [z]; exact hb)) (yaT _)
structure Turn (P : Program) (w : World) (K : Frag) (tg : Expr) (J : It) (fp : List Addr) (it : Addr) (tn : Nat→Heap→Prop) : Prop where
  mem : it∈fp
  obj : ∀ i h,tn i h→∀ b∈fp,∃ o,h.get? b = some o∧∀ v,o.data≠.cell v
  keep : ∀ i h h',tn i h→(∀ b∈fp,∀ o,h.get? b = some o→h'.get? b = some o)→tn i h'
  item : ∀ (X : Cx),X.prog = P→X.w = w→X.K = K→X.calm = true→∀ (i : Nat) (pins : List (Addr×Obj)) (s : Shared) (σ : St) (H : Hp) (E : Value→Shared→Prop),Inv X pins σ H s→(∀ b∈fp,FpOk X pins H b)→tn i s.heap→J.go i H→
    wpAny (model P w) X.A (pyNext (.ref it)) (fun r s1=>∃ u,r = some u∧
      wpAny (model P w) X.A (letOwnedTupleGo tg (.ref it) u) (fun _ s2=>∃ x H',Inv X pins σ H' s2∧RelV x u∧J.yld i H x H'∧tn (i + 1) s2.heap∧∀ b∈fp,H' b = none) E s1) E s
  done : ∀ (X : Cx),X.prog = P→X.w = w→X.K = K→X.calm = true→∀ (i : Nat) (pins : List (Addr×Obj)) (s : Shared) (σ : St) (H : Hp) (E : Value→Shared→Prop),Inv X pins σ H s→(∀ b∈fp,FpOk X pins H b)→tn i s.heap→J.stop i H→
    wpAny (model P w) X.A (pyNext (.ref it)) (fun r s1=>r = none∧Inv X pins σ H s1) E s
  self : ∀ (A : Around) (i : Nat) (s : Shared) (Q : Value→Shared→Prop) (E : Value→Shared→Prop),tn i s.heap→Q (.ref it) s→wpAny (model P w) A (pyIter (.ref it)) Q E s
abbrev TI:=St→Hp→(It→Hp→Prop)→Prop
def PIE (X : Cx) (pins : List (Addr×Obj)) (σ : St) (tg : Expr) (R : It→Hp→Prop) (itv : Value) (s2 : Shared) : Prop:=
  ∃ (it : Addr) (fp : List Addr) (tn : Nat→Heap→Prop) (J : It) (H' : Hp),itv = .ref it∧Inv X pins σ H' s2∧Turn X.prog X.w X.K tg J fp it tn∧tn 0 s2.heap∧(∀ b∈fp,FpOk X pins H' b)∧R J H'
def PI (X : Cx) (tg iter : Expr) (wi : TI) : Prop:=
  ∀ (pins : List (Addr×Obj)) (s : Shared) (σ : St) (H : Hp) (R : It→Hp→Prop),Inv X pins σ H s→wi σ H R→
    wpAny (model X.prog X.w) X.A (eval iter X.env) (fun v s1=>wpAny (model X.prog X.w) X.A (pyIter v) (PIE X pins σ tg R) X.xe s1) X.xe s
theorem zmi {M : Model} {A : Around} {E : Value→Shared→Prop} {s : Shared} {tg : Expr} {it : Addr} {u : Value} {o : Obj} {n : String} {vs : Array Value} {Q : Unit→Shared→Prop} (ho : s.heap.get? it = some o) (hc : o.cls = .type n) (hd : o.data = .fields vs)
    (hn : ["enumerate","zip","dict_itemiterator","dict_reverseitemiterator","odict_iterator","itertools.zip_longest","itertools.pairwise"].contains n = false) (hQ : Q () s) : wpAny M A (letOwnedTupleGo tg (.ref it) u) Q E s:=by
  unfold letOwnedTupleGo
  cases tg <;> first
    | exact wpAny_pure hQ
    | (cases u <;> first
        | exact wpAny_pure hQ
        | (refine wpAny_bind (wpAny_load ho ?_)
           rw [hc,hd]
           show wpAny M A (if (["enumerate","zip","dict_itemiterator","dict_reverseitemiterator","odict_iterator","itertools.zip_longest","itertools.pairwise"].contains n && vs[0]? == some (rawInt _)) = true then _ else _) Q E s
           rw [if_neg (by intro h; rw [hn,Bool.false_and] at h; cases h)]
           exact wpAny_pure hQ))
def Itl (K : Frag) (a : Addr) : It:=
  ⟨fun i H=>∃ xs x,SqL K H a xs∧xs[i]? = some x,fun i H x H'=>H' = H∧∀ xs,SqL K H a xs→xs[i]? = some x,fun i H=>∃ xs,SqL K H a xs∧xs.length≤i⟩
def Itt (K : Frag) (a : Addr) : It:=
  ⟨fun i H=>∃ xs x,SqT K H a xs∧xs[i]? = some x,fun i H x H'=>H' = H∧∀ xs,SqT K H a xs→xs[i]? = some x,fun i H=>∃ xs,SqT K H a xs∧xs.length≤i⟩
def Itr (lo : Int) (n : Nat) : It:=⟨fun i _=>i < n,fun i H x H'=>H' = H∧x = .int (lo + i),fun i _=>n≤i⟩
theorem zkQ {P : Program} {w : World} {K : Frag} {tg : Expr} (a it : Addr) : Turn P w K tg (Itl K a) [it] it (fun i h=>h.IsListIter it a i) where
  mem:=by simp
  obj:=fun i h st b hb=>by
    have e : b = it:=by simpa using hb
    subst e
    obtain ⟨o,e,c,d⟩:=st
    exact ⟨o,e,fun v z=>by rw [d] at z; cases z⟩
  keep:=fun i h h' st k=>st.at fun o e=>k it (by simp) o e
  item:=by
    intro X hP hw hK hc i pins s σ H E I hf st hg
    subst hP hw hK
    obtain ⟨xs,x,hq,hx⟩:=hg
    obtain ⟨its,rv,p,hz⟩:=I.list hq
    obtain ⟨u,hu,ru⟩:=rv.get hx
    obtain ⟨f0,f1,f2,f3,f4,f5⟩:=hf it (by simp)
    refine wpAny_pyNext_list_item st p.isList (x:=u) (by simpa using hu) fun h' st' sb=>?_
    have I1 : Inv X pins σ H { s with heap:=h' }:=I.turned (t':=s.toks) (fun b o hb e=>(sb.2 b hb).trans e) f0 f1 f3 f4 f5
    obtain ⟨o,e,c,d⟩:=id st'
    exact ⟨u,rfl,zmi (s:={ s with heap:=h' }) e c d (by decide) ⟨x,H,I1,ru,⟨rfl,fun ys hy=>by rw [I.list_inj hy hq]; exact hx⟩,st',fun b hb=>(hf b hb).1⟩⟩
  done:=by
    intro X hP hw hK hc i pins s σ H E I hf st hg
    subst hP hw hK
    obtain ⟨xs,hq,hx⟩:=hg
    obtain ⟨its,rv,p,hz⟩:=I.list hq
    obtain ⟨f0,f1,f2,f3,f4,f5⟩:=hf it (by simp)
    have hl:=rv.length
    exact wpAny_pyNext_list_end (I.ok.hd hc) st p.isList (by simp; omega) fun h' eb=>⟨rfl,I.turned (t':=s.toks) (fun b o hb e=>eb b o hb e) f0 f1 f3 f4 f5⟩
  self:=fun _ _ _ _ _ st h=>wpAny_pyIter_listiter st h
theorem zj7 {P : Program} {w : World} {K : Frag} {tg : Expr} (a it : Addr) : Turn P w K tg (Itt K a) [it] it (fun i h=>h.IsTupleIter it a i) where
  mem:=by simp
  obj:=fun i h st b hb=>by
    have e : b = it:=by simpa using hb
    subst e
    obtain ⟨o,e,c,d⟩:=st
    exact ⟨o,e,fun v z=>by rw [d] at z; cases z⟩
  keep:=fun i h h' st k=>st.at fun o e=>k it (by simp) o e
  item:=by
    intro X hP hw hK hc i pins s σ H E I hf st hg
    subst hP hw hK
    obtain ⟨xs,x,hq,hx⟩:=hg
    obtain ⟨its,rv,p,hz⟩:=I.tuple hq
    obtain ⟨u,hu,ru⟩:=rv.get hx
    obtain ⟨f0,f1,f2,f3,f4,f5⟩:=hf it (by simp)
    refine wpAny_pyNext_tuple_item st (show s.heap.IsTuple a its.toArray from p) (x:=u) (by simpa using hu) fun h' st' sb=>?_
    have I1 : Inv X pins σ H { s with heap:=h' }:=I.turned (t':=s.toks) (fun b o hb e=>(sb.2 b hb).trans e) f0 f1 f3 f4 f5
    obtain ⟨o,e,c,d⟩:=id st'
    exact ⟨u,rfl,zmi (s:={ s with heap:=h' }) e c d (by decide) ⟨x,H,I1,ru,⟨rfl,fun ys hy=>by rw [I.tuple_inj hy hq]; exact hx⟩,st',fun b hb=>(hf b hb).1⟩⟩
  done:=by
    intro X hP hw hK hc i pins s σ H E I hf st hg
    subst hP hw hK
    obtain ⟨xs,hq,hx⟩:=hg
    obtain ⟨its,rv,p,hz⟩:=I.tuple hq
    obtain ⟨f0,f1,f2,f3,f4,f5⟩:=hf it (by simp)
    have hl:=rv.length
    exact wpAny_pyNext_tuple_end (I.ok.hd hc) st (show s.heap.IsTuple a its.toArray from p) (by simp; omega) fun h' eb=>⟨rfl,I.turned (t':=s.toks) (fun b o hb e=>eb b o hb e) f0 f1 f3 f4 f5⟩
  self:=fun _ _ _ _ _ st h=>wpAny_pyIter_tupleiter st h
theorem zj8 {P : Program} {w : World} {K : Frag} {tg : Expr} (it : Addr) (lo : Int) (n : Nat) : Turn P w K tg (Itr lo n) [it] it (fun i h=>IsRangeIter h it (lo + (i : Nat) * 1) ((n : Int) - (i : Nat)) 1) where
  mem:=by simp
  obj:=fun i h st b hb=>by
    have e : b = it:=by simpa using hb
    subst e
    exact ⟨_,st,fun v z=>by
      have z' : Data.fields _ = Data.cell v:=z
      cases z'⟩
  keep:=fun i h h' st k=>k it (by simp) _ st
  item:=by
    intro X hP hw hK hc i pins s σ H E I hf st hg
    subst hP hw hK
    obtain ⟨f0,f1,f2,f3,f4,f5⟩:=hf it (by simp)
    have W:=Walks.range (prog:=X.prog) (w:=X.w) (I.ok.hd hc) it lo 1 n
    refine W.item i s _ _ hg st fun v h' tk hv st' kk=>?_
    obtain ⟨t,rfl⟩:=hv
    have I1 : Inv X pins σ H { s with heap:=h',toks:=tk }:=I.turned (fun b o hb e=>kk b o (by simpa using hb) e) f0 f1 f3 f4 f5
    refine ⟨_,rfl,zmi (s:={ s with heap:=h',toks:=tk }) (n := "range_iterator") st' rfl rfl (by decide) ⟨.int (lo + i),H,I1,⟨t,?_⟩,⟨rfl,rfl⟩,st',fun b hb=>(hf b hb).1⟩⟩
    rw [Int.mul_one]
  done:=by
    intro X hP hw hK hc i pins s σ H E I hf st hg
    subst hP hw hK
    obtain ⟨f0,f1,f2,f3,f4,f5⟩:=hf it (by simp)
    exact wpAny_pyNext_range_end (I.ok.hd hc) st (by have : n≤i:=hg; omega) fun h' eb=>⟨rfl,I.turned (t':=s.toks) (fun b o hb e=>eb b o hb e) f0 f1 f3 f4 f5⟩
  self:=fun _ _ _ _ _ st h=>wpAny_pyIter_rangeiter st h
end L2
namespace L2
open PySem PySem.Spec PyProof.Rows
section
variable {X : Cx} {tg : Expr}
def zqU (K : Frag) (tl : TE) : TI:=fun σ H R=>tl σ H fun x H1=>∃ a,x = .ref a∧(∃ xs,SqL K H1 a xs)∧R (Itl K a) H1
def iTup (K : Frag) (tl : TE) : TI:=fun σ H R=>tl σ H fun x H1=>∃ a,x = .ref a∧(∃ xs,SqT K H1 a xs)∧R (Itt K a) H1
theorem zby {l : Expr} {tl : TE} (hl : PE X l tl) : PI X tg l (zqU X.K tl):=by
  intro pins s σ H R I h
  refine thn (hl pins s σ H _ I h) fun v s1 ⟨x,H1,I1,r1,q1⟩=>?_
  obtain ⟨a,e,⟨xs,hq⟩,q⟩:=q1
  subst e
  cases r1
  obtain ⟨its,rv,p,hz⟩:=I1.list hq
  refine wpAny_pyIter_list p.isList ?_
  refine ⟨s1.heap.objs.size,[s1.heap.objs.size],_,_,H1,rfl,I1.kept (t':=s1.toks) fun b o e=>yag _ e,zkQ a _,⟨_,yau _ rfl,rfl,rfl⟩,fun b hb=>?_,q⟩
  have e : b = s1.heap.objs.size:=by simpa using hb
  subst e
  exact I1.fpOk (yaa _) (I1.hok.fresh (yaa _))
theorem zc2 {l : Expr} {tl : TE} (hl : PE X l tl) : PI X tg l (iTup X.K tl):=by
  intro pins s σ H R I h
  refine thn (hl pins s σ H _ I h) fun v s1 ⟨x,H1,I1,r1,q1⟩=>?_
  obtain ⟨a,e,⟨xs,hq⟩,q⟩:=q1
  subst e
  cases r1
  obtain ⟨its,rv,p,hz⟩:=I1.tuple hq
  refine wpAny_pyIter_tuple (show s1.heap.IsTuple a its.toArray from p) ?_
  refine ⟨s1.heap.objs.size,[s1.heap.objs.size],_,_,H1,rfl,I1.kept (t':=s1.toks) fun b o e=>yag _ e,zj7 a _,⟨_,yau _ rfl,rfl,rfl⟩,fun b hb=>?_,q⟩
  have e : b = s1.heap.objs.size:=by simpa using hb
  subst e
  exact I1.fpOk (yaa _) (I1.hok.fresh (yaa _))
theorem zjs {pins : List (Addr×Obj)} {σ : St} {H : Hp} {s : Shared} {R : It→Hp→Prop} {E : Value→Shared→Prop} {lo hi : Int} {t u v : Tok} {tk : Nat} (I : Inv X pins σ H s) (h1 : -(2 ^ 62)≤lo) (h2 : lo < 2 ^ 62) (h3 : -(2 ^ 62)≤hi) (h4 : hi < 2 ^ 62)
    (q : R (Itr lo (hi - lo).toNat) H) : wpAny (model X.prog X.w) X.A (pyIter (.ref s.heap.objs.size)) (PIE X pins σ tg R) E { s with heap:=s.heap.push { cls:=.type "range",data:=.fields #[.int lo t,.int hi u,.int 1 v] },toks:=tk }:=by
  refine wpAny_pyIter_range (IsRange.new ..) (small_one h1 h2 h3 h4) ?_
  have I1 : Inv X pins σ H { s with heap:=s.heap.push { cls:=.type "range",data:=.fields #[.int lo t,.int hi u,.int 1 v] },toks:=tk }:=I.kept fun b o e=>yag _ e
  refine ⟨(s.heap.push { cls:=.type "range",data:=.fields #[.int lo t,.int hi u,.int 1 v] }).objs.size,[(s.heap.push { cls:=.type "range",data:=.fields #[.int lo t,.int hi u,.int 1 v] }).objs.size],_,_,H,rfl,
    I1.kept (t':=tk) fun b o e=>yag _ e,zj8 _ lo (hi - lo).toNat,?_,fun b hb=>?_,q⟩
  · have e1 : lo + ((0 : Nat) : Int) * 1 = lo:=by simp
    have e2 : (((hi - lo).toNat : Nat) : Int) - ((0 : Nat) : Int) = Builtin.Range.rangeSize lo hi 1:=by rw [rangeSize_one]; split <;> omega
    show IsRangeIter _ _ (lo + ((0 : Nat) : Int) * 1) ((((hi - lo).toNat : Nat) : Int) - ((0 : Nat) : Int)) 1
    rw [e1,e2]
    exact yau _ rfl
  · have e : b = (s.heap.push { cls:=.type "range",data:=.fields #[.int lo t,.int hi u,.int 1 v] }).objs.size:=by simpa using hb
    subst e
    exact I1.fpOk (yaa _) (I1.hok.fresh (yaa _))
def zqT (ta : TA) : TI:=fun σ H R=>ta σ H fun vs H1=>∃ j : Int,vs = [.int j]∧-(2 ^ 62)≤j∧j < 2 ^ 62∧R (Itr 0 j.toNat) H1
def zqS (ta : TA) : TI:=fun σ H R=>ta σ H fun vs H1=>∃ i j : Int,vs = [.int i,.int j]∧(-(2 ^ 62)≤i∧i < 2 ^ 62∧-(2 ^ 62)≤j∧j < 2 ^ 62)∧R (Itr i (j - i).toNat) H1
theorem zba {a : Expr} {ta : TA} {p pos : Pos} (hg : Gl X "range") (hm : X.mg "range" = none) (ha : PA X [a] ta) (hs : starEach [a] X.env = [(false,eval a X.env)]:=by rfl) : PI X tg (.Call (.Name "range" p) [a] [] pos) (zqT ta):=by
  intro pins s σ H R I h
  refine Call_ (zfa I hg hm boot_range (PyProof.Rows.callWith_type1 (thn (ha pos pins s σ H _ I h) fun us s1 ⟨vs,H1,I1,r1,q1⟩=>?_) hs rfl))
  obtain ⟨j,e,q1,q2,q⟩:=q1
  subst e
  cases r1 with
  | cons r rr=>
    cases rr
    obtain ⟨t,rfl⟩:=r
    exact call_range_1 (zjs I1 (by omega) (by omega) q1 q2 (by simpa using q))
theorem zc3 {a b : Expr} {ta : TA} {p pos : Pos} (hg : Gl X "range") (hm : X.mg "range" = none) (ha : PA X [a,b] ta) (hs : starEach [a,b] X.env = [(false,eval a X.env),(false,eval b X.env)]:=by rfl) (hs2 : starEach [b] X.env = [(false,eval b X.env)]:=by rfl) :
    PI X tg (.Call (.Name "range" p) [a,b] [] pos) (zqS ta):=by
  intro pins s σ H R I h
  refine Call_ (zfa I hg hm boot_range (PyProof.Rows.callWith_type1 (thn (ha pos pins s σ H _ I h) fun us s1 ⟨vs,H1,I1,r1,q1⟩=>?_) (by rw [hs,hs2]) (by rw [hs2]; rfl)))
  obtain ⟨i,j,e,⟨q1,q2,q3,q4⟩,q⟩:=q1
  subst e
  cases r1 with
  | cons r rr=>
    cases rr with
    | cons r' rr=>
      cases rr
      obtain ⟨t,rfl⟩:=r
      obtain ⟨t',rfl⟩:=r'
      exact call_range_2 (zjs I1 q1 q2 q3 q4 q)
def tFor (wi : TI) (g : TG) (tb : TS) : TS:=fun D σ H=>wi σ H fun J H1=>∃ W : Nat→Nat→St→Hp→Prop,(∃ m,W 0 m σ H1)∧∀ i m σ H,W i m σ H→
  (J.stop i H∧D.nx σ H)∨(J.go i H∧∃ N : St→Hp→Prop,(∀ σ' H',N σ' H'→∃ m',m' < m∧W (i + 1) m' σ' H')∧∀ x H',J.yld i H x H'→g x σ H' fun σ2 H2=>tb { D with nx:=N,ct:=N,bk:=D.nx } σ2 H2)
def zgs (fp : List Addr) (h : Heap) : List (Addr×Obj):=fp.filterMap fun b=>(h.get? b).map fun o=>(b,o)
theorem zb1 {fp : List Addr} {h : Heap} {b : Addr} {o : Obj} (hb : b∈fp) (e : h.get? b = some o) : (b,o)∈zgs fp h:=List.mem_filterMap.mpr ⟨b,hb,by rw [e]; rfl⟩
theorem zlI {fp : List Addr} {h : Heap} {p : Addr×Obj} (hp : p∈zgs fp h) : p.1∈fp∧h.get? p.1 = some p.2:=by
  obtain ⟨b,hb,e⟩:=List.mem_filterMap.mp hp
  cases q : h.get? b with
  | none=>rw [q] at e; cases e
  | some o=>
    rw [q] at e
    have e' : (b,o) = p:=yaf e
    subst e'
    exact ⟨hb,q⟩
theorem Inv.pinned {pins : List (Addr×Obj)} {σ : St} {H : Hp} {s : Shared} {fp : List Addr} (I : Inv X pins σ H s) (hf : ∀ b∈fp,FpOk X pins H b) (ho : ∀ b∈fp,∃ o,s.heap.get? b = some o∧∀ v,o.data≠.cell v) : Inv X (pins ++ zgs fp s.heap) σ H s:=
  I.pins_of fun p hp=>(yaE.mp hp).elim (fun z=>I.pin p (yaK _ z)) fun z=>by
    obtain ⟨hb,e⟩:=zlI z
    obtain ⟨f0,f1,f2,_⟩:=hf p.1 hb
    obtain ⟨o,e',d⟩:=ho p.1 hb
    rw [e] at e'; cases e'
    exact ⟨e,f0,f1,f2,d⟩
theorem Inv.unpinned {pins pl : List (Addr×Obj)} {σ : St} {H : Hp} {s : Shared} (I : Inv X (pins ++ pl) σ H s) : Inv X pins σ H s:=I.pins_of fun p hp=>I.pin p (yaK _ (List.mem_append_left _ hp))
theorem zaT {iter : Expr} {body : List Stmt} {wi : TI} {g : TG} {tb : TS} {pos : Pos} (hp : PassesOwn (model X.prog X.w) X.A X.env X.xe) (hc : X.calm = true) (hi : PI X tg iter wi) (hg : PG X tg g) (hb : PSs X body tb)
    (hs : ∀ x,foldedSetIterable iter X.env x = pure x:=by intro _; rfl) : PS X (.For tg iter body [] pos) (tFor wi g tb):=by
  intro pins s σ H D I h
  refine wpAny_For (thn (hi pins s σ H _ I h) fun v s1 h1=>thn h1 fun itv s2 h2=>?_) hs
  obtain ⟨it,fp,tn,J,H2,e,I2,T,st2,f2,W,⟨m0,w0⟩,turn⟩:=h2
  subst e
  have stat : ∀ {H' : Hp},(∀ b∈fp,H' b = none)→∀ b∈fp,FpOk X pins H' b:=fun hn b hb=>⟨hn b hb,(f2 b hb).2⟩
  refine codeAny_forLoop_any (fun n s'=>∃ i σ' H',Inv X pins σ' H' s'∧tn i s'.heap∧(∀ b∈fp,H' b = none)∧W i n σ' H') ?_ m0 ⟨0,σ,H2,I2,st2,fun b hb=>(f2 b hb).1,w0⟩
  rintro n s3 ⟨i,σ3,H3,I3,st3,fr3,w3⟩
  rcases turn i n σ3 H3 w3 with ⟨stop,qn⟩ | ⟨go,N,hN,step⟩
  · refine wpAny_passesOwn hp (thn (T.done X rfl rfl rfl hc i pins s3 σ3 H3 X.xe I3 (stat fr3) st3 stop) fun r s4 ⟨hr,I4⟩=>?_)
    subst hr
    exact wpAny_execs_nil ⟨σ3,H3,I4,qn⟩
  · refine wpAny_passesOwn hp (thn (T.item X rfl rfl rfl hc i pins s3 σ3 H3 X.xe I3 (stat fr3) st3 go) fun r s4 ⟨u,hr,h4⟩=>?_)
    subst hr
    refine wpAny_passesOwn hp (thn h4 fun _ s5 ⟨x,H5,I5,r5,y5,st5,fr5⟩=>?_)
    have I5':=I5.pinned (stat fr5) (T.obj _ _ st5)
    refine wpAny_passesOwn hp (thn (hg _ s5 σ3 H5 x u _ I5' r5 (step x H5 y5)) fun _ s6 ⟨σ6,H6,I6,q6⟩=>?_)
    refine wpAny_passesOwn hp (thn (hb _ s6 σ6 H6 _ I6 q6) fun f s7 q7=>?_)
    have again : ∀ {σ7 : St} {H7 : Hp},Inv X (pins ++ zgs fp s5.heap) σ7 H7 s7→N σ7 H7→∃ m,m < n∧∃ i σ' H',Inv X pins σ' H' s7∧tn i s7.heap∧(∀ b∈fp,H' b = none)∧W i m σ' H':=fun {σ7 H7} I7 n7=>by
      obtain ⟨m',hm,w7⟩:=hN σ7 H7 n7
      refine ⟨m',hm,i + 1,σ7,H7,I7.unpinned,T.keep _ _ _ st5 fun b hb o e=>(I7.pin (b,o) (yaK _ (yaK _ (zb1 hb e)))).1,fun b hb=>?_,w7⟩
      obtain ⟨o,e,d⟩:=T.obj _ _ st5 b hb
      exact (I7.pin (b,o) (yaK _ (yaK _ (zb1 hb e)))).2.1
    cases f with
    | next=>obtain ⟨σ7,H7,I7,n7⟩:=q7; exact again I7 n7
    | cont=>obtain ⟨σ7,H7,I7,n7⟩:=q7; exact again I7 n7
    | brk=>obtain ⟨σ7,H7,I7,q7⟩:=q7; exact ⟨σ7,H7,I7.unpinned,q7⟩
    | ret v=>obtain ⟨x7,σ7,H7,I7,r7,q7⟩:=q7; exact ⟨x7,σ7,H7,I7.unpinned,r7,q7⟩
end
theorem zdI {K : Frag} {a : Addr} {xs : List V} {g : TG} {tb : TS} {D : Ends} {σ : St} {H : Hp} (Pv : Nat→St→Hp→Prop) (h0 : Pv 0 σ H) (hl : ∀ i σ H,i≤xs.length→Pv i σ H→SqL K H a xs)
    (hs : ∀ i x σ H,xs[i]? = some x→Pv i σ H→g x σ H fun σ2 H2=>tb { D with nx:=Pv (i + 1),ct:=Pv (i + 1),bk:=D.nx } σ2 H2) (hd : ∀ σ H,Pv xs.length σ H→D.nx σ H) :
    ∃ W : Nat→Nat→St→Hp→Prop,(∃ m,W 0 m σ H)∧∀ i m σ H,W i m σ H→
      ((Itl K a).stop i H∧D.nx σ H)∨((Itl K a).go i H∧∃ N : St→Hp→Prop,(∀ σ' H',N σ' H'→∃ m',m' < m∧W (i + 1) m' σ' H')∧∀ x H',(Itl K a).yld i H x H'→g x σ H' fun σ2 H2=>tb { D with nx:=N,ct:=N,bk:=D.nx } σ2 H2):=by
  refine ⟨fun i m σ H=>m = xs.length - i∧i≤xs.length∧Pv i σ H,⟨xs.length,by simp,yaA _,h0⟩,?_⟩
  rintro i m σ H ⟨rfl,hi,p⟩
  have q:=hl i σ H hi p
  by_cases hlt : i < xs.length
  · refine .inr ⟨⟨xs,xs[i],q,by simp [hlt]⟩,Pv (i + 1),fun σ' H' p'=>⟨xs.length - (i + 1),by omega,rfl,hlt,p'⟩,fun x H' y=>?_⟩
    obtain ⟨e,y⟩:=y
    subst e
    exact hs i x σ _ (y xs q) p
  · have e : i = xs.length:=by omega
    subst e
    exact .inl ⟨⟨xs,q,yaa _⟩,hd σ H p⟩
theorem zeZ {K : Frag} {a : Addr} {xs : List V} {g : TG} {tb : TS} {D : Ends} {σ : St} {H : Hp} (Pv : Nat→St→Hp→Prop) (h0 : Pv 0 σ H) (hl : ∀ i σ H,i≤xs.length→Pv i σ H→SqT K H a xs)
    (hs : ∀ i x σ H,xs[i]? = some x→Pv i σ H→g x σ H fun σ2 H2=>tb { D with nx:=Pv (i + 1),ct:=Pv (i + 1),bk:=D.nx } σ2 H2) (hd : ∀ σ H,Pv xs.length σ H→D.nx σ H) :
    ∃ W : Nat→Nat→St→Hp→Prop,(∃ m,W 0 m σ H)∧∀ i m σ H,W i m σ H→
      ((Itt K a).stop i H∧D.nx σ H)∨((Itt K a).go i H∧∃ N : St→Hp→Prop,(∀ σ' H',N σ' H'→∃ m',m' < m∧W (i + 1) m' σ' H')∧∀ x H',(Itt K a).yld i H x H'→g x σ H' fun σ2 H2=>tb { D with nx:=N,ct:=N,bk:=D.nx } σ2 H2):=by
  refine ⟨fun i m σ H=>m = xs.length - i∧i≤xs.length∧Pv i σ H,⟨xs.length,by simp,yaA _,h0⟩,?_⟩
  rintro i m σ H ⟨rfl,hi,p⟩
  have q:=hl i σ H hi p
  by_cases hlt : i < xs.length
  · refine .inr ⟨⟨xs,xs[i],q,by simp [hlt]⟩,Pv (i + 1),fun σ' H' p'=>⟨xs.length - (i + 1),by omega,rfl,hlt,p'⟩,fun x H' y=>?_⟩
    obtain ⟨e,y⟩:=y
    subst e
    exact hs i x σ _ (y xs q) p
  · have e : i = xs.length:=by omega
    subst e
    exact .inl ⟨⟨xs,q,yaa _⟩,hd σ H p⟩
theorem zbg {lo : Int} {n : Nat} {g : TG} {tb : TS} {D : Ends} {σ : St} {H : Hp} (Pv : Nat→St→Hp→Prop) (h0 : Pv 0 σ H)
    (hs : ∀ i σ H,i < n→Pv i σ H→g (.int (lo + i)) σ H fun σ2 H2=>tb { D with nx:=Pv (i + 1),ct:=Pv (i + 1),bk:=D.nx } σ2 H2) (hd : ∀ σ H,Pv n σ H→D.nx σ H) :
    ∃ W : Nat→Nat→St→Hp→Prop,(∃ m,W 0 m σ H)∧∀ i m σ H,W i m σ H→
      ((Itr lo n).stop i H∧D.nx σ H)∨((Itr lo n).go i H∧∃ N : St→Hp→Prop,(∀ σ' H',N σ' H'→∃ m',m' < m∧W (i + 1) m' σ' H')∧∀ x H',(Itr lo n).yld i H x H'→g x σ H' fun σ2 H2=>tb { D with nx:=N,ct:=N,bk:=D.nx } σ2 H2):=by
  refine ⟨fun i m σ H=>m = n - i∧i≤n∧Pv i σ H,⟨n,by simp,yaA _,h0⟩,?_⟩
  rintro i m σ H ⟨rfl,hi,p⟩
  by_cases hlt : i < n
  · refine .inr ⟨hlt,Pv (i + 1),fun σ' H' p'=>⟨n - (i + 1),by omega,rfl,hlt,p'⟩,fun x H' y=>?_⟩
    obtain ⟨e,y⟩:=y
    subst e y
    exact hs i σ _ hlt p
  · have e : i = n:=by omega
    subst e
    exact .inl ⟨yaa _,hd σ H p⟩
theorem zi5 {c : TT} {tb : TS} {D : Ends} {σ : St} {H : Hp} (Pv : St→Hp→Prop) (μ : St→Hp→Nat) (h0 : Pv σ H)
    (hs : ∀ σ H,Pv σ H→c σ H fun b H1=>if b = true then tb { D with nx:=fun σ' H'=>Pv σ' H'∧μ σ' H' < μ σ H,ct:=fun σ' H'=>Pv σ' H'∧μ σ' H' < μ σ H,bk:=D.nx } σ H1 else D.nx σ H1)
    (mono : ∀ σ H Q Q',(∀ b H1,Q b H1→Q' b H1)→c σ H Q→c σ H Q') : zkZ c tb D σ H:=by
  refine ⟨fun m σ H=>m = μ σ H∧Pv σ H,⟨_,rfl,h0⟩,?_⟩
  rintro m σ H ⟨rfl,p⟩
  refine mono σ H _ _ (fun b H1 q=>?_) (hs σ H p)
  cases b with
  | true=>exact ⟨_,fun σ' H' ⟨p',l⟩=>⟨_,l,rfl,p'⟩,q⟩
  | false=>exact q
end L2
namespace L2
open PySem PySem.Spec PyProof.Rows
abbrev R2:=V→V→Hp→VK→Prop
def OpR (X : Cx) (f : Value→Value→Sem Value) (r : R2) : Prop:=
  ∀ (pins : List (Addr×Obj)) (s : Shared) (σ : St) (H : Hp) (x y : V) (v u : Value) (Q : VK),Inv X pins σ H s→RelV x v→RelV y u→r x y H Q→
    wpAny (model X.prog X.w) X.A (f v u) (EP X pins σ Q) X.xe s
def UnR (X : Cx) (f : Value→Sem Value) (r : V→Hp→VK→Prop) : Prop:=
  ∀ (pins : List (Addr×Obj)) (s : Shared) (σ : St) (H : Hp) (x : V) (v : Value) (Q : VK),Inv X pins σ H s→RelV x v→r x H Q→
    wpAny (model X.prog X.w) X.A (f v) (EP X pins σ Q) X.xe s
def zeL (X : Cx) (f : Value) (r : List V→Hp→VK→Prop) : Prop:=
  ∀ (pins : List (Addr×Obj)) (s : Shared) (σ : St) (H : Hp) (xs : List V) (us : List Value) (Q : VK),Inv X pins σ H s→Vals xs us→r xs H Q→
    wpAny (model X.prog X.w) X.A (call f us) (EP X pins σ Q) X.xe s
def tOp (r : R2) (ta tb : TE) : TE:=fun σ H Q=>ta σ H fun x H1=>tb σ H1 fun y H2=>r x y H2 Q
def tUn (r : V→Hp→VK→Prop) (ta : TE) : TE:=fun σ H Q=>ta σ H fun x H1=>r x H1 Q
def rI (C : Int→Int→Prop) (g : Int→Int→V) : R2:=fun x y H Q=>∃ i j,x = .int i∧y = .int j∧C i j∧Q (g i j) H
def rI0 (g : Int→Int→V) : R2:=fun x y H Q=>∃ i j,x = .int i∧y = .int j∧Q (g i j) H
def rU (g : Int→V) : V→Hp→VK→Prop:=fun x H Q=>∃ i,x = .int i∧Q (g i) H
section
variable {X : Cx} {a b c : Expr} {ta tb tc : TE} {pos : Pos}
theorem binT (ha : PE X a ta) (hb : PE X b tb) {pins : List (Addr×Obj)} {s : Shared} {σ : St} {H : Hp} {R : V→V→Hp→Prop} (I : Inv X pins σ H s)
    (h : ta σ H fun x H1=>tb σ H1 fun y H2=>R x y H2) {Q : Value→Shared→Prop} {f : Value→Value→Sem Value}
    (hf : ∀ v u s2 x y H2,Inv X pins σ H2 s2→RelV x v→RelV y u→R x y H2→wpAny (model X.prog X.w) X.A (f v u) Q X.xe s2) :
    wpAny (model X.prog X.w) X.A (eval a X.env) (fun v s₁=>wpAny (model X.prog X.w) X.A (eval b X.env) (fun u s₂=>wpAny (model X.prog X.w) X.A (f v u) Q X.xe s₂) X.xe s₁) X.xe s:=by
  refine thn (ha pins s σ H _ I h) fun v s1 ⟨x,H1,I1,r1,q1⟩=>?_
  refine thn (hb pins s1 σ H1 _ I1 q1) fun u s2 ⟨y,H2,I2,r2,q2⟩=>?_
  exact hf v u s2 x y H2 I2 r1 r2 q2
theorem zar {op : Operator} {r : R2} (ho : OpR X (binaryOp op) r) (ha : PE X a ta) (hb : PE X b tb) : PE X (.BinOp a op b pos) (tOp r ta tb):=by
  intro pins s σ H Q I h
  exact wpAny_BinOp (binT ha hb I h fun v u s2 x y H2 I2 rx ry q=>ho pins s2 σ H2 x y v u Q I2 rx ry q)
theorem zhH {op : UnaryOp} {r : V→Hp→VK→Prop} (ho : UnR X (unaryOp op) r) (ha : PE X a ta) : PE X (.UnaryOp op a pos) (tUn r ta):=by
  intro pins s σ H Q I h
  exact UnaryOp_ (thn (ha pins s σ H _ I h) fun v s1 ⟨x,H1,I1,r1,q1⟩=>ho pins s1 σ H1 x v Q I1 r1 q1)
theorem opI {f : Value→Value→Sem Value} {C : Int→Int→Prop} {g : Int→Int→Int}
    (rule : ∀ (i j : Int) (t u : Tok) (s : Shared) (Q : Value→Shared→Prop) (E : Value→Shared→Prop),C i j→Q (.int (g i j) s.toks) { s with toks:=s.toks + 1 }→wpAny (model X.prog X.w) X.A (f (.int i t) (.int j u)) Q E s) :
    OpR X f (rI C fun i j=>.int (g i j)):=by
  intro pins s σ H x y v u Q I rx ry h
  obtain ⟨i,j,rfl,rfl,hc,q⟩:=h
  obtain ⟨t,rfl⟩:=rx
  obtain ⟨t',rfl⟩:=ry
  exact rule i j t t' s _ _ hc ⟨.int (g i j),H,I.tok _,⟨_,rfl⟩,q⟩
theorem opI0 {f : Value→Value→Sem Value} {g : Int→Int→Int}
    (rule : ∀ (i j : Int) (t u : Tok) (s : Shared) (Q : Value→Shared→Prop) (E : Value→Shared→Prop),Q (.int (g i j) s.toks) { s with toks:=s.toks + 1 }→wpAny (model X.prog X.w) X.A (f (.int i t) (.int j u)) Q E s) :
    OpR X f (rI0 fun i j=>.int (g i j)):=by
  intro pins s σ H x y v u Q I rx ry h
  obtain ⟨i,j,rfl,rfl,q⟩:=h
  obtain ⟨t,rfl⟩:=rx
  obtain ⟨t',rfl⟩:=ry
  exact rule i j t t' s _ _ ⟨.int (g i j),H,I.tok _,⟨_,rfl⟩,q⟩
theorem opB0 {f : Value→Value→Sem Value} {g : Int→Int→Bool}
    (rule : ∀ (i j : Int) (t u : Tok) (s : Shared) (Q : Value→Shared→Prop) (E : Value→Shared→Prop),Q (.bool (g i j)) s→wpAny (model X.prog X.w) X.A (f (.int i t) (.int j u)) Q E s) :
    OpR X f (rI0 fun i j=>.bl (g i j)):=by
  intro pins s σ H x y v u Q I rx ry h
  obtain ⟨i,j,rfl,rfl,q⟩:=h
  obtain ⟨t,rfl⟩:=rx
  obtain ⟨t',rfl⟩:=ry
  exact rule i j t t' s _ _ ⟨.bl (g i j),H,I,rfl,q⟩
def CDiv (i j : Int) : Prop:=0 < j∧j < 1073741824
def CPow (i j : Int) : Prop:=0≤j∧j≤1000000∧i.natAbs < 2 ^ 64
def CMul (i j : Int) : Prop:=(-(2 ^ 64) < i∧i < 2 ^ 64)∨(-(2 ^ 64) < j∧j < 2 ^ 64)
theorem CMul.ok {i j : Int} (h : CMul i j) : IntMulOk i j:=by
  rcases h with ⟨h1,h2⟩ | ⟨h1,h2⟩
  · exact .of_left (intBits_le_64 h1 h2)
  · exact .of_right (intBits_le_64 h1 h2)
theorem zj6 (k : Nat) : (0 : Int)≤2 ^ k:=by
  rw [two_pow_cast]
  exact ybr _
theorem zaS : OpR X (binaryOp .Add) (rI0 fun i j=>.int (i + j)):=opI0 fun _ _ _ _ _ _ _ q=>add_int q
theorem zbu : OpR X (binaryOp .Sub) (rI0 fun i j=>.int (i - j)):=opI0 fun _ _ _ _ _ _ _ q=>sub_int q
theorem zbB : OpR X (binaryOp .Mult) (rI CMul fun i j=>.int (i * j)):=opI fun _ _ _ _ _ _ _ hc q=>mul_int q hc.ok
theorem zeU : OpR X (binaryOp .FloorDiv) (rI CDiv fun i j=>.int (i / j)):=opI fun i j _ _ _ _ _ hc q=>by
  have h1 : (0 : Int) < j:=hc.1
  have h2 : j < 1073741824:=hc.2
  exact floordiv_int (by omega) (by rw [Int.fdiv_eq_ediv_of_nonneg i (by omega)]; exact q) (.inl (PyProof.noPylong_small (by omega)))
theorem zcV : OpR X (binaryOp .Mod) (rI (fun _ j=>0 < j) fun i j=>.int (i % j)):=opI fun i j _ _ _ _ _ hc q=>by
  have h1 : (0 : Int) < j:=hc
  exact mod_int' (by omega) (by rw [Int.fmod_eq_emod_of_nonneg i (by omega)]; exact q)
theorem zgv : OpR X (binaryOp .Pow) (rI CPow fun i j=>.int (i ^ j.toNat)):=opI fun _ _ _ _ _ _ _ hc q=>pow_int_small hc.1 hc.2.1 hc.2.2 q
theorem zpV : OpR X (binaryOp .RShift) (rI (fun _ j=>0≤j) fun i j=>.int (i / 2 ^ j.toNat)):=opI fun i j _ _ _ _ _ hc q=>
  rshift_int hc (by rw [Int.fdiv_eq_ediv_of_nonneg i (zj6 _)]; exact q)
theorem zn5 : OpR X (binaryOp .BitAnd) (rI0 fun i j=>.int (Builtin.bitAnd i j)):=opI0 fun _ _ _ _ _ _ _ q=>and_int q
theorem zpU : OpR X (binaryOp .BitXor) (rI0 fun i j=>.int (Builtin.bitXor i j)):=opI0 fun _ _ _ _ _ _ _ q=>xor_int q
theorem unI {f : Value→Sem Value} {g : Int→Int}
    (rule : ∀ (i : Int) (t : Tok) (s : Shared) (Q : Value→Shared→Prop) (E : Value→Shared→Prop),Q (.int (g i) s.toks) { s with toks:=s.toks + 1 }→wpAny (model X.prog X.w) X.A (f (.int i t)) Q E s) :
    UnR X f (rU fun i=>.int (g i)):=by
  intro pins s σ H x v Q I rx h
  obtain ⟨i,rfl,q⟩:=h
  obtain ⟨t,rfl⟩:=rx
  exact rule i t s _ _ ⟨.int (g i),H,I.tok _,⟨_,rfl⟩,q⟩
theorem ze4 : UnR X (unaryOp .USub) (rU fun i=>.int (-i)):=unI fun _ _ _ _ _ q=>neg_int q
end
def scal : V→V→Bool
  | .non,.non=>true | .non,.int _=>true | .int _,.non=>true | .non,.bl _=>true | .bl _,.non=>true | .non,.str _=>true | .str _,.non=>true
  | .int _,.int _=>true | .bl _,.bl _=>true | .str _,.str _=>true | .byt _,.byt _=>true
  | .int _,.str _=>true | .str _,.int _=>true | .bl _,.str _=>true | .str _,.bl _=>true
  | _,_=>false
def rEq : R2:=fun x y H Q=>scal x y = true∧Q (.bl (decide (x = y))) H
def rNe : R2:=fun x y H Q=>scal x y = true∧Q (.bl (!decide (x = y))) H
theorem zmr {i j : Int} : decide (V.int i = V.int j) = (i == j):=by
  rw [yb4]
  simp
theorem zod {i j : Bool} : decide (V.bl i = V.bl j) = (i == j):=by
  rw [yb4]
  simp
theorem zmq {i j : Str} : decide (V.str i = V.str j) = (i == j):=by
  rw [yb4]
  simp
theorem zms {i j : Array UInt8} : decide (V.byt i = V.byt j) = (i.toList == j.toList):=by
  rw [yb4]
  cases i
  cases j
  simp
section
variable {X : Cx} {a b c : Expr} {ta tb tc : TE} {pos : Pos}
theorem zaU {pins : List (Addr×Obj)} {σ : St} {H : Hp} {s : Shared} {Q : VK} {k k' : Bool} (I : Inv X pins σ H s) (q : Q (.bl k) H) (e : k = k') : EP X pins σ Q (.bool k') s:=by
  subst e
  exact ⟨.bl k,H,I,rfl,q⟩
theorem zeV : OpR X (compareOp .Eq) rEq:=by
  intro pins s σ H x y v u Q I rx ry h
  obtain ⟨hs,q⟩:=h
  cases x with
  | non=>
    cases rx
    cases y with
    | non=>cases ry; exact PySem.EqNone.eq_none_none (zaU I q (by simp))
    | bl j=>cases ry; exact PySem.EqNone.eq_none_bool (zaU I q (by simp))
    | int j=>obtain ⟨t',rfl⟩:=ry; exact PySem.EqNone.eq_none_int (zaU I q (by simp))
    | str j=>obtain ⟨t',rfl⟩:=ry; exact PySem.EqNone.eq_none_str (zaU I q (by simp))
    | _=>exact absurd (show false = true from hs) yaz
  | bl i=>
    cases rx
    cases y with
    | non=>cases ry; exact PySem.EqNone.eq_bool_none (zaU I q (by simp))
    | bl j=>cases ry; exact eq_bool (zaU I q zod)
    | str j=>obtain ⟨t',rfl⟩:=ry; exact PySem.EqMixed.eq_bool_str (zaU I q (by simp))
    | _=>exact absurd (show false = true from hs) yaz
  | int i=>
    obtain ⟨t,rfl⟩:=rx
    cases y with
    | non=>cases ry; exact PySem.EqNone.eq_int_none (zaU I q (by simp))
    | int j=>obtain ⟨t',rfl⟩:=ry; exact eq_int (zaU I q zmr)
    | str j=>obtain ⟨t',rfl⟩:=ry; exact PySem.EqMixed.eq_int_str (zaU I q (by simp))
    | _=>exact absurd (show false = true from hs) yaz
  | str i=>
    obtain ⟨t,rfl⟩:=rx
    cases y with
    | non=>cases ry; exact PySem.EqNone.eq_str_none (zaU I q (by simp))
    | bl j=>cases ry; exact PySem.EqMixed.eq_str_bool (zaU I q (by simp))
    | int j=>obtain ⟨t',rfl⟩:=ry; exact PySem.EqMixed.eq_str_int (zaU I q (by simp))
    | str j=>obtain ⟨t',rfl⟩:=ry; exact eq_str (zaU I q zmq)
    | _=>exact absurd (show false = true from hs) yaz
  | byt i=>
    obtain ⟨t,rfl⟩:=rx
    cases y with
    | byt j=>obtain ⟨t',rfl⟩:=ry; exact PySem.W.eq_bytes (zaU I q zms)
    | _=>exact absurd (show false = true from hs) yaz
  | _=>cases y <;> exact absurd (show false = true from hs) yaz
theorem zqN : OpR X (compareOp .NotEq) rNe:=by
  intro pins s σ H x y v u Q I rx ry h
  obtain ⟨hs,q⟩:=h
  cases x with
  | non=>
    cases rx
    cases y with
    | non=>cases ry; exact PySem.EqNone.ne_none_none (zaU I q (by simp))
    | bl j=>cases ry; exact PySem.EqNone.ne_none_bool (zaU I q (by simp))
    | int j=>obtain ⟨t',rfl⟩:=ry; exact PySem.EqNone.ne_none_int (zaU I q (by simp))
    | str j=>obtain ⟨t',rfl⟩:=ry; exact PySem.EqNone.ne_none_str (zaU I q (by simp))
    | _=>exact absurd (show false = true from hs) yaz
  | bl i=>
    cases rx
    cases y with
    | non=>cases ry; exact PySem.EqNone.ne_bool_none (zaU I q (by simp))
    | bl j=>cases ry; exact ne_bool (zaU I q (congrArg not zod))
    | str j=>obtain ⟨t',rfl⟩:=ry; exact PySem.EqMixed.ne_bool_str (zaU I q (by simp))
    | _=>exact absurd (show false = true from hs) yaz
  | int i=>
    obtain ⟨t,rfl⟩:=rx
    cases y with
    | non=>cases ry; exact PySem.EqNone.ne_int_none (zaU I q (by simp))
    | int j=>obtain ⟨t',rfl⟩:=ry; exact ne_int (zaU I q (congrArg not zmr))
    | str j=>obtain ⟨t',rfl⟩:=ry; exact PySem.EqMixed.ne_int_str (zaU I q (by simp))
    | _=>exact absurd (show false = true from hs) yaz
  | str i=>
    obtain ⟨t,rfl⟩:=rx
    cases y with
    | non=>cases ry; exact PySem.EqNone.ne_str_none (zaU I q (by simp))
    | bl j=>cases ry; exact PySem.EqMixed.ne_str_bool (zaU I q (by simp))
    | int j=>obtain ⟨t',rfl⟩:=ry; exact PySem.EqMixed.ne_str_int (zaU I q (by simp))
    | str j=>obtain ⟨t',rfl⟩:=ry; exact ne_str (zaU I q (congrArg not zmq))
    | _=>exact absurd (show false = true from hs) yaz
  | byt i=>
    obtain ⟨t,rfl⟩:=rx
    cases y with
    | byt j=>obtain ⟨t',rfl⟩:=ry; exact PySem.W.ne_bytes (zaU I q (congrArg not zms))
    | _=>exact absurd (show false = true from hs) yaz
  | _=>cases y <;> exact absurd (show false = true from hs) yaz
theorem zfM : OpR X (compareOp .Lt) (rI0 fun i j=>.bl (decide (i < j))):=opB0 fun _ _ _ _ _ _ _ q=>lt_int q
theorem zqO : OpR X (compareOp .LtE) (rI0 fun i j=>.bl (decide (i≤j))):=opB0 fun _ _ _ _ _ _ _ q=>le_int q
theorem zlv : OpR X (compareOp .Gt) (rI0 fun i j=>.bl (decide (j < i))):=opB0 fun _ _ _ _ _ _ _ q=>gt_int q
theorem zpY : OpR X (compareOp .GtE) (rI0 fun i j=>.bl (decide (j≤i))):=opB0 fun _ _ _ _ _ _ _ q=>ge_int q
theorem zaN (b : Expr) {op : CmpOp} (h : op≠.In:=by decide) (h2 : op≠.NotIn:=by decide) : behindInMarks op b = false:=by
  have e1 : (op == CmpOp.In) = false:=by cases op <;> first | rfl | exact absurd rfl h
  have e2 : (op == CmpOp.NotIn) = false:=by cases op <;> first | rfl | exact absurd rfl h2
  cases b <;> simp [behindInMarks,e1,e2]
theorem zls {op : CmpOp} {r : R2} (ho : OpR X (compareOp op) r) (ha : PE X a ta) (hb : PE X b tb) (hm : behindInMarks op b = false) : PE X (.Compare a [op] [b] pos) (tOp r ta tb):=by
  intro pins s σ H Q I h
  exact wpAny_Compare1 (binT ha hb I h fun v u s2 x y H2 I2 rx ry q=>ho pins s2 σ H2 x y v u Q I2 rx ry q) hm
def zqC (t : TE) : TT:=fun σ H Q=>t σ H fun x H'=>∃ k,x = .bl k∧Q k H'
theorem zaB {op : CmpOp} {r : R2} (ho : OpR X (compareOp op) r) (ha : PE X a ta) (hb : PE X b tb) (hm : behindInMarks op b = false) : PT X (.Compare a [op] [b] pos) (zqC (tOp r ta tb)):=by
  intro pins s σ H Q I h
  refine wpAny_isTrue_Compare1 (thn (ha pins s σ H _ I h) fun v s1 ⟨x,H1,I1,r1,q1⟩=>thn (hb pins s1 σ H1 _ I1 q1) fun u s2 ⟨y,H2,I2,r2,q2⟩=>
    thn (ho pins s2 σ H2 x y v u _ I2 r1 r2 q2) fun c s3 ⟨z,H3,I3,r3,k,e,q3⟩=>?_) hm
  subst e
  cases r3
  exact wpAny_truthy_bool ⟨H3,I3,q3⟩
def zps (r r' : R2) (ta tb tc : TE) : TE:=fun σ H Q=>ta σ H fun x H1=>tb σ H1 fun y H2=>r x y H2 fun z H3=>∃ k,z = .bl k∧
  (if k = true then tc σ H3 fun w' H4=>r' y w' H4 Q else Q (.bl false) H3)
theorem zm6 {op op' : CmpOp} {r r' : R2} (ho : OpR X (compareOp op) r) (ho' : OpR X (compareOp op') r') (ha : PE X a ta) (hb : PE X b tb) (hc : PE X c tc)
    (hm : lastMarks [op,op'] [b,c] = false:=by with_unfolding_all rfl) : PE X (.Compare a [op,op'] [b,c] pos) (zps r r' ta tb tc):=by
  intro pins s σ H Q I h
  refine Compare_chain (thn (ha pins s σ H _ I h) fun v s1 ⟨x,H1,I1,r1,q1⟩=>chain_link (thn (hb pins s1 σ H1 _ I1 q1) fun u s2 ⟨y,H2,I2,r2,q2⟩=>
    thn (ho pins s2 σ H2 x y v u _ I2 r1 r2 q2) fun d s3 ⟨z,H3,I3,r3,k,e,q3⟩=>?_)) hm
  subst e
  cases r3
  refine wpAny_truthy_bool ?_
  cases k with
  | false=>exact ite_ff ⟨.bl false,H3,I3,rfl,q3⟩
  | true=>exact ite_tt (chain_last (thn (hc pins s3 σ H3 _ I3 q3) fun w' s4 ⟨z',H4,I4,r4,q4⟩=>ho' pins s4 σ H4 y z' u w' Q I4 r2 r4 q4))
theorem zjI : (sizeLine : Nat) < 2 ^ 63:=by rw [sizeLine_eq]; decide
theorem zgf {x : V} {us : List Value} (r : Vals [x] us) : ∃ u,us = [u]∧RelV x u:=by
  cases r with
  | cons r1 r2=>cases r2; exact ⟨_,rfl,r1⟩
theorem zhx {x y : V} {us : List Value} (r : Vals [x,y] us) : ∃ u w',us = [u,w']∧RelV x u∧RelV y w':=by
  cases r with
  | cons r1 r2=>
    cases r2 with
    | cons r3 r4=>cases r4; exact ⟨_,_,rfl,r1,r3⟩
theorem zhm : zeL X (.builtin "abs") (fun xs H Q=>∃ i,xs = [.int i]∧Q (.int (if i < 0 then -i else i)) H):=by
  intro pins s σ H xs us Q I r h
  obtain ⟨i,rfl,q⟩:=h
  obtain ⟨u,rfl,t,rfl⟩:=zgf r
  exact call_abs_int fun u tk=>⟨.int (if i < 0 then -i else i),H,I.tok _,⟨_,rfl⟩,q⟩
theorem zf5 (hc : X.calm = true) : zeL X (.builtin "max") (fun xs H Q=>∃ i j,xs = [.int i,.int j]∧Q (.int (if j > i then j else i)) H):=by
  intro pins s σ H xs us Q I r h
  obtain ⟨i,j,rfl,q⟩:=h
  obtain ⟨u,w',rfl,⟨t,rfl⟩,⟨t',rfl⟩⟩:=zhx r
  refine max_two_ints (I.ok.hd hc) fun h' tk k=>⟨_,H,I.kept k,?_,q⟩
  by_cases hj : j > i
  · rw [if_pos hj,if_pos hj]; exact ⟨_,rfl⟩
  · rw [if_neg hj,if_neg hj]; exact ⟨_,rfl⟩
theorem zmC (hc : X.calm = true) : zeL X (.builtin "min") (fun xs H Q=>∃ i j,xs = [.int i,.int j]∧Q (.int (if j < i then j else i)) H):=by
  intro pins s σ H xs us Q I r h
  obtain ⟨i,j,rfl,q⟩:=h
  obtain ⟨u,w',rfl,⟨t,rfl⟩,⟨t',rfl⟩⟩:=zhx r
  refine min_two_ints (I.ok.hd hc) fun h' tk k=>⟨_,H,I.kept k,?_,q⟩
  by_cases hj : j < i
  · rw [if_pos hj,if_pos hj]; exact ⟨_,rfl⟩
  · rw [if_neg hj,if_neg hj]; exact ⟨_,rfl⟩
end
end L2
namespace L2
open PySem PySem.Spec PyProof.Rows
theorem RelO.some_of {v : V} {o : Option Value} (r : RelO (some v) o) : ∃ u,o = some u∧RelV v u:=by
  cases o with
  | none=>exact (show False from r).elim
  | some u=>exact ⟨u,rfl,r⟩
end L2
namespace L2
open PySem PySem.Spec PyProof.Rows
structure Room (k : Nat) (A : Around) : Prop where
  hd : A.handled = none
  dp : A.depth + 3 * k + 5 < recursionLimit
  un : A.units + 16 * k + 200 < cLine
  gd : A.guards = some []
theorem Room.mono {j k : Nat} {A : Around} (r : Room k A) (h : j≤k) : Room j A:=⟨r.hd,by have:=r.dp; omega,by have:=r.un; omega,r.gd⟩
theorem Room.deeper {k : Nat} {A : Around} (r : Room (k + 1) A) (env : Env) : Room k (A.deeper env):=
  ⟨r.hd,by have:=r.dp; show A.depth + 1 + 3 * k + 5 < _; omega,by have:=r.un; show A.units + 3 + 16 * k + 200 < _; omega,r.gd⟩
theorem Room.depth {k : Nat} {A : Around} (r : Room k A) : A.depth < recursionLimit:=by have:=r.dp; omega
theorem Room.units {k : Nat} {A : Around} (r : Room k A) : A.units + 64 < cLine:=by have:=r.un; omega
def tNil : TA:=fun _ H Q=>Q [] H
def zos (ta : TE) (tr : TA) : TA:=fun σ H Q=>ta σ H fun x H1=>tr σ H1 fun xs H2=>Q (x :: xs) H2
section
variable {X : Cx} {e : Expr} {es : List Expr} {te : TE} {t : TA} {pos : Pos}
theorem zad : PA X [] tNil:=fun _ _ _ _ H Q I h=>Calls.spliced_nil ⟨[],H,I,.nil,h⟩
theorem zaa (ha : PE X e te) (hr : PA X es t) (hs : starEach (e :: es) X.env = (false,eval e X.env) :: starEach es X.env:=by rfl) : PA X (e :: es) (zos te t):=by
  intro pos pins s σ H Q I h
  rw [hs]
  show wpAny _ _ (spliced ((false,eval e X.env) :: backTo pos (starEach es X.env))) _ _ s
  refine Calls.spliced_cons (thn (ha pins s σ H _ I h) fun u s1 ⟨x,H1,I1,r1,q1⟩=>?_)
  exact thn (hr pos pins s1 σ H1 _ I1 q1) fun us s2 ⟨xs,H2,I2,r2,q2⟩=>⟨x :: xs,H2,I2,.cons r1 r2,q2⟩
def tTup (t : TA) : TE:=fun σ H Q=>t σ H fun xs H1=>xs.length≤sizeLine∧∀ p,H1 p = none→Q (.ref p) (upd H1 p (.tup xs))
def tLst (t : TA) : TE:=fun σ H Q=>t σ H fun xs H1=>xs.length≤sizeLine∧∀ p,H1 p = none→Q (.ref p) (upd H1 p (.lst xs))
theorem zbz {x1} (h : PA X es t) : PE X (.Tuple es x1 pos) (tTup t):=by
  intro pins s σ H Q I hq
  refine wpAny_Tuple_spliced (thn (h pos pins s σ H _ I hq) fun us s1 ⟨xs,H1,I1,r,z,q⟩=>⟨by rw [← r.length]; exact z,?_⟩)
  have hf : H1 s1.heap.objs.size = none:=I1.hok.fresh (yaa _)
  refine ⟨.ref s1.heap.objs.size,upd H1 s1.heap.objs.size (.tup xs),I1.laid (t':=s1.toks) (fun b u e=>yag _ e) (yaa _) ?_,rfl,q _ hf⟩
  exact ⟨z,us,r,⟨_,yau _ rfl,rfl,_,rfl⟩⟩
theorem zbF (h : PA X es t) : PE X (.List es pos) (tLst t):=by
  intro pins s σ H Q I hq
  refine wpAny_List_spliced (thn (h pos pins s σ H _ I hq) fun us s1 ⟨xs,H1,I1,r,z,q⟩=>⟨by rw [← r.length]; exact z,?_⟩)
  have hf : H1 s1.heap.objs.size = none:=I1.hok.fresh (yaa _)
  refine ⟨.ref s1.heap.objs.size,upd H1 s1.heap.objs.size (.lst xs),I1.laid (t':=s1.toks) (fun b u e=>yag _ e) (yaa _) ?_,rfl,q _ hf⟩
  exact ⟨z,us,0,r,yau _ rfl⟩
end
abbrev Sp:=List V→Hp→VK→XK→Prop
abbrev CXT:=List Env→Hp→Shared→XK→Value→Shared→Prop
structure Env0 (P : Program) (w : World) (K : Frag) (mg : Str→Option Value) (base : Heap) (A : Around) (outer : List Env) (s : Shared) (H : Hp) : Prop where
  frames : A.frames = some outer
  mod : Mod K mg base
  bs : ∀ b o,base.get? b = some o→s.heap.get? b = some o∧H b = none
  bsz : base.objs.size≤s.heap.objs.size
  funs : s.heap.FunFrames base outer
  frf : ∀ b∈frs outer,H b = none
  hok : HOk P w H s.heap
  bare : AllBare s.gens
def CE (outer : List Env) (P : Program) (w : World) (H : Hp) (s : Shared) (Q : VK) (u : Value) (s' : Shared) : Prop:=
  ∃ v H',s'.os = s.os∧AllBare s'.gens∧Un (frs outer) [] H H' s.heap s'.heap∧HOk P w H' s'.heap∧RelV v u∧Q v H'
def CR (CX : CXT) (outer : List Env) (P : Program) (w : World) (H : Hp) (s : Shared) (Q : VK) (E : XK) (r : Result) (s' : Shared) : Prop:=
  match r with
  | .ok (.ret u)=>CE outer P w H s Q u s'
  | .ok _=>False
  | .error e=>CX outer H s E e s'
structure FnOk (P : Program) (w : World) (K : Frag) (mg : Str→Option Value) (base : Heap) (CX : CXT) (k : Nat) (f : Addr) (fd : FuncData) (ps : List Str) (sp : Sp) : Prop where
  len : ∀ vs H Q E,sp vs H Q E→vs.length = ps.length
  run : ∀ (A : Around) (outer : List Env) (s : Shared) (H : Hp) (args : Args) (us : List Value) (vs : List V) (Q : VK) (E : XK),Room k A→Env0 P w K mg base A outer s H→BindsTo s fd args (ps.zip us)→Vals vs us→sp vs H Q E→
    codeAny (model P w) A (.call (.ref f) args) (CR CX outer P w H s Q E) s
section
variable {X : Cx} {pins : List (Addr×Obj)} {σ : St} {H : Hp} {s s' : Shared}
theorem Inv.env0 (I : Inv X pins σ H s) : Env0 X.prog X.w X.K X.mg X.base X.A X.stack s H:=
  ⟨I.ok.frames,I.ok.mod,I.bs,yao I.ok.bsz I.sz,I.stack,I.stkFree,I.hok,I.bare⟩
theorem Inv.after {Q : VK} {u : Value} (I : Inv X pins σ H s) (h : CE X.stack X.prog X.w H s Q u s') : EP X pins σ Q u s':=by
  obtain ⟨v,H',os,bare,un,hok,r,q⟩:=h
  obtain ⟨hh,g,d,t,os'⟩:=s'
  obtain rfl : os' = s.os:=os
  exact ⟨v,H',I.call (h':=hh) (g':=g) (d':=d) (t':=t) (ch:=[]) un hok bare (fun b z=>absurd z (by simp)),r,q⟩
end
def zpv (sp : Sp) (dvs : List V) (E : XK) (t : TA) : TE:=fun σ H Q=>t σ H fun vs H1=>sp (vs ++ dvs) H1 Q E
def zhu (K : Frag) (fd : FuncData) (ps : List Str) (ds : List Value) : Prop:=
  ∀ (s : Shared) (us : List Value),K.In s.heap→(us ++ ds).length = ps.length→BindsTo s fd ⟨us,[]⟩ (ps.zip (us ++ ds))
theorem zhu.all {K : Frag} {fd : FuncData} {ps : List Str} (h : ∀ us : List Value,us.length = ps.length→bindArgs fd ⟨us,[]⟩ = pure (ps.zip us)) : zhu K fd ps []:=fun s us _ hl=>by
  rw [yaD] at hl ⊢
  exact .of_eq (h us hl)
def zmM (CX : CXT) (X : Cx) (E : XK) : Prop:=∀ (pins : List (Addr×Obj)) (σ : St) (H : Hp) (s : Shared) (e : Value) (s' : Shared),Inv X pins σ H s→CX X.stack H s E e s'→X.xe e s'
section
variable {X : Cx} {CX : CXT} {k : Nat} {f C : Addr} {fd : FuncData} {ps : List Str} {sp : Sp} {dvs : List V} {ds : List Value} {E : XK} {x m : Str} {p pos apos : Pos} {e o : Expr} {es : List Expr} {ta : TE} {t : TA}
theorem zn3 {pins : List (Addr×Obj)} {σ : St} {H : Hp} {s : Shared} {Q : VK} {us : List Value} {vs : List V} (F : FnOk X.prog X.w X.K X.mg X.base CX k f fd ps sp) (hr : Room k X.A) (hb : zhu X.K fd ps ds) (hd : Vals dvs ds) (hx : zmM CX X E)
    (I : Inv X pins σ H s) (r : Vals vs us) (h : sp (vs ++ dvs) H Q E) : wpAny (model X.prog X.w) X.A (call (.ref f) us) (EP X pins σ Q) X.xe s:=by
  have r2 : Vals (vs ++ dvs) (us ++ ds):=r.append hd
  have hl : (us ++ ds).length = ps.length:=by rw [← r2.length]; exact F.len _ _ _ _ h
  refine wpAny_call (codeAny_mono (F.run X.A X.stack s H ⟨us,[]⟩ (us ++ ds) (vs ++ dvs) Q E hr I.env0 (hb s us I.kIn hl) r2 h) fun r s' hq=>?_)
  cases r with
  | error e=>exact hx pins σ H s e s' I hq
  | ok fl=>
    cases fl with
    | ret u=>exact I.after hq
    | next=>exact False.elim hq
    | brk=>exact False.elim hq
    | cont=>exact False.elim hq
theorem zoI (F : FnOk X.prog X.w X.K X.mg X.base CX k f fd ps sp) (hr : Room k X.A) (hg : Gl X x) (hm : X.mg x = some (.ref f)) (hk : keepIn X.K (.ref f) = true) (hb : zhu X.K fd ps ds) (hd : Vals dvs ds) (hx : zmM CX X E)
    (ha : PA X (e :: es) t) (hdb : (x == ("__debug__" : Str)) = false:=by decide) (he : starEach (e :: es) X.env = (false,eval e X.env) :: starEach es X.env:=by rfl) (hpl : (backTo pos (starEach es X.env)).any (·.1) = false:=by rfl) :
    PE X (.Call (.Name x p) (e :: es) [] pos) (zpv sp dvs E t):=by
  intro pins s σ H Q I h
  refine wpAny_Call_Name_kw (zhe I hg hm ?_ hdb)
  refine PySem.W.callWith_K (h₀:=X.base) I.ok.mod.kin hk (thn (ha pos pins s σ H _ I h) fun us s1 ⟨vs,H1,I1,r,q⟩=>⟨I1.kIn,?_⟩) he hpl
  exact zn3 F hr hb hd hx I1 r q
end
structure zat (N P : List Str) (sc : Scope) : Prop where
  kind : sc.kind = .function
  co : sc.isCoroutine = false
  gen : sc.isGenerator = false
  nd : N.Nodup
  pre : N.take P.length = P
  par : ∀ x∈P,sc.names.lookup x = some .local∨sc.names.lookup x = some .cell
  nofree : ∀ y∈sc.names,y.2≠.free
theorem zic {kindOf : Str→Option NameKind} {x : Str} : ∀ {binds : List (Str×Value)} {m : Str→Option Value},(∀ v,(x,v)∉binds)→bindL kindOf binds m x = m x
  | [],_,_=>rfl
  | (n,v) :: r,m,h=>by
    unfold bindL
    rw [zic fun w hw=>h w (yay _ hw)]
    split
    · have : x≠n:=by rintro rfl; exact h v yav
      simp [this]
    · rfl
theorem zie {kindOf : Str→Option NameKind} {x : Str} : ∀ {binds : List (Str×Value)} {m : Str→Option Value},(∀ v,(x,v)∉binds)→bindC kindOf binds m x = m x
  | [],_,_=>rfl
  | (n,v) :: r,m,h=>by
    unfold bindC
    rw [zie fun w hw=>h w (yay _ hw)]
    split
    · rfl
    · have : x≠n:=by rintro rfl; exact h v yav
      simp [this]
theorem zid {kindOf : Str→Option NameKind} {x : Str} {v : Value} : ∀ {P : List Str} {vs : List Value} {i : Nat} {m : Str→Option Value},P.Nodup→P[i]? = some x→vs[i]? = some v→kindOf x = some .local→
    bindL kindOf (P.zip vs) m x = some v
  | [],_,_,_,_,h,_,_=>by simp at h
  | _ :: _,[],_,_,_,_,h,_=>by simp at h
  | p :: P,w :: vs,0,m,nd,h1,h2,hk=>by
    simp at h1 h2; subst h1; subst h2
    show bindL kindOf ((p,w) :: P.zip vs) m p = _
    unfold bindL
    rw [zic fun v hv=>(yaR.mp nd).1 (ybO hv).1,if_pos hk]
    simp
  | p :: P,w :: vs,i + 1,m,nd,h1,h2,hk=>by
    show bindL kindOf ((p,w) :: P.zip vs) m x = _
    unfold bindL
    exact zid (i:=i) (yaR.mp nd).2 (by simpa using h1) (by simpa using h2) hk
theorem zif {kindOf : Str→Option NameKind} {x : Str} {v : Value} : ∀ {P : List Str} {vs : List Value} {i : Nat} {m : Str→Option Value},P.Nodup→P[i]? = some x→vs[i]? = some v→kindOf x≠some .local→
    bindC kindOf (P.zip vs) m x = some v
  | [],_,_,_,_,h,_,_=>by simp at h
  | _ :: _,[],_,_,_,_,h,_=>by simp at h
  | p :: P,w :: vs,0,m,nd,h1,h2,hk=>by
    simp at h1 h2; subst h1; subst h2
    show bindC kindOf ((p,w) :: P.zip vs) m p = _
    unfold bindC
    rw [zie fun v hv=>(yaR.mp nd).1 (ybO hv).1,if_neg hk]
    simp
  | p :: P,w :: vs,i + 1,m,nd,h1,h2,hk=>by
    show bindC kindOf ((p,w) :: P.zip vs) m x = _
    unfold bindC
    exact zif (i:=i) (yaR.mp nd).2 (by simpa using h1) (by simpa using h2) hk
def zcE (N : List Str) (vs : List V) : St:=vs.map some ++ List.replicate (N.length - vs.length) none
def cxOf (CX : CXT) (P : Program) (w : World) (K : Frag) (mg : Str→Option Value) (base : Heap) (N : List Str) (qual : Str) (scope : Scope) (f : Addr) (cd : Value) (A : Around) (outer : List Env) (s : Shared) (H : Hp) (E : XK) : Cx where
  prog:=P
  w:=w
  K:=K
  mg:=mg
  base:=base
  A:=A.deeper (envOfC qual scope s.heap.objs.size f cd)
  N:=N
  s₀:=s
  H₀:=H
  env:=envOfC qual scope s.heap.objs.size f cd
  outer:=outer
  stack:=envOfC qual scope s.heap.objs.size f cd :: outer
  ex:=[]
  calm:=true
  fn:=fun _=>true
  pn:=[]
  xe:=fun e s'=>wpAny (model P w) (A.deeper (envOfC qual scope s.heap.objs.size f cd)) (leaving (envOfC qual scope s.heap.objs.size f cd) e) (fun _ s''=>CX outer H s E e s'') (fun e' s''=>CX outer H s E e' s'') s'
theorem zj1 {sc : Scope} {n : Nat} {x : Str} (h : sc.names.lookup x = some .cell) : ∃ c,(cellsFrom n sc.names []).lookup x = some c:=by
  have q:=PySem.W.cellsFrom_some sc.names n [] (.inl h)
  exact yco.mp q
theorem zl8 {CX : CXT} {P : Program} {w : World} {K : Frag} {mg : Str→Option Value} {base : Heap} {N ps : List Str} {qual : Str} {scope : Scope} {f : Addr} {cd : Value} {A : Around} {outer : List Env} {s s1 : Shared} {H : Hp} {E : XK} {us : List Value} {vs : List V}
    (S : zat N ps scope) (hd : A.handled = none) (e0 : Env0 P w K mg base A outer s H) (hl : vs.length = ps.length) (r : Vals vs us)
    (x : InCallC s s.heap.objs.size (bindL (envOfC qual scope s.heap.objs.size f cd).kindOf (ps.zip us) fun _=>none) (cellsFrom (s.heap.objs.size + 1) scope.names []) (bindC (envOfC qual scope s.heap.objs.size f cd).kindOf (ps.zip us) fun _=>none) s1) :
    Inv (cxOf CX P w K mg base N qual scope f cd A outer s H E) [] (zcE N vs) H s1:=by
  have hpl : ps.length≤N.length:=by have:=congrArg List.length S.pre; rw [yas] at this; omega
  obtain ⟨h1,tk,rfl,hk⟩:=x.done
  have noA : ∀ b : Addr,b∉(cxOf CX P w K mg base N qual scope f cd A outer s H E).ex:=fun b z=>absurd (show b∈([] : List Addr) from z) (by simp)
  refine ⟨⟨e0.mod,S.kind,rfl,rfl,yaa _,fun y z c h1 h2=>?_,fun y hy=>?_,fun y c _ h=>?_,fun _=>hd,Around.frames_deeper e0.frames,.inr ⟨rfl,rfl⟩,fun b z=>absurd z (noA b),e0.bs,e0.bsz,fun b _ _=>noA b,fun b z=>absurd z (noA b),e0.funs,e0.frf⟩,
    rfl,e0.bare,Un.kept hk,⟨_,x.toInCall.ns,fun i y v h1 h2 h3=>?_⟩,fun y c h=>⟨_,x.cell y c h⟩,e0.hok.fresh (yaa _),fun y c h=>?_,fun p hp=>absurd (show p∈([] : List (Addr×Obj)) from hp) (by simp),e0.hok.kept hk,?_⟩
  · exact name_of_addr x.apart (PySem.mem_of_lookup h1) (PySem.mem_of_lookup h2)
  · have hy : scope.names.lookup y = some .cell∨scope.names.lookup y = some .free:=hy
    rcases hy with hy | hy
    · exact zj1 hy
    · exact absurd rfl (S.nofree _ (PySem.mem_of_lookup hy))
  · exact ybk (x.above y c (PySem.mem_of_lookup h))
  · have hi : i < vs.length:=by
      unfold zcE at h2
      by_cases hi : i < vs.length
      · exact hi
      · rw [ybl (by simpa using hi)] at h2
        rw [ycp] at h2
        split at h2 <;> cases h2
    have ha : vs[i]? = some v:=by
      unfold zcE at h2
      rw [ybB (by simpa using hi),yaj] at h2
      cases e : vs[i]? with
      | none=>rw [e] at h2; cases h2
      | some a=>rw [e] at h2; cases h2; rfl
    obtain ⟨u,hu,rv⟩:=r.get ha
    have hp : ps[i]? = some y:=by
      rw [← S.pre,List.getElem?_take_of_lt (by omega)]; exact h1
    have ndP : ps.Nodup:=by rw [← S.pre]; exact S.nd.sublist (List.take_sublist _ _)
    refine ⟨u,rv,?_⟩
    rcases S.par y (yaI hp) with k | k
    · exact .inl ⟨k,zid ndP hp hu k⟩
    · obtain ⟨c,e⟩:=zj1 (n:=s.heap.objs.size + 1) k
      refine .inr ⟨.inl k,c,e,?_⟩
      have q:=x.cell y c e
      rw [zif ndP hp hu (by show scope.names.lookup y≠_; rw [k]; decide)] at q
      exact q
  · exact e0.hok.fresh (ybk (x.above y c (PySem.mem_of_lookup h)))
  · unfold zcE
    show _ = N.length
    rw [yai,yab,ya6]
    omega
theorem zqn {CX : CXT} {P : Program} {w : World} {K : Frag} {mg : Str→Option Value} {base : Heap} {k : Nat} {f : Addr} {name qual : Str} {params : Arguments} {body : List Stmt} {scope : Scope} {dV kV doc pm cdv ct oc : Value} {an od : Option Addr}
    {osl : Array (Option Value)} {N ps : List Str} {sp : Sp} (lk : K.lookup f = some ⟨oc,od,.func (fnOf name qual params body scope dV kV doc pm an cdv ct),osl⟩) (hcd : codeIn K cdv qual = true) (S : zat N ps scope)
    (len : ∀ vs H Q E,sp vs H Q E→vs.length = ps.length)
    (hbody : ∀ (A : Around) (outer : List Env) (s : Shared) (H : Hp) (vs : List V) (Q : VK) (E : XK),Room k (A.deeper (envOfC qual scope s.heap.objs.size f cdv))→sp vs H Q E→
      ∃ t,PSs (cxOf CX P w K mg base N qual scope f cdv A outer s H E) body t∧t { nx:=fun _ H'=>Q .non H',rt:=Q } (zcE N vs) H) :
    FnOk P w K mg base CX (k + 1) f (fnOf name qual params body scope dV kV doc pm an cdv ct) ps sp:=by
  refine ⟨len,fun A outer s H args us vs Q E hr e0 hb r hsp=>?_⟩
  have hl:=len _ _ _ _ hsp
  have KX : K.In s.heap:=e0.mod.kin.keeps fun b o e=>(e0.bs b o e).1
  have lim : s.heap.NoLimit:=e0.mod.nolimit.keeps fun b o e=>(e0.bs b o e).1
  have hkind : ∀ y∈ps.zip us,scope.names.lookup y.1 = some .local∨(scope.names.lookup y.1 = some .cell∧((cellsFrom (s.heap.objs.size + 1) scope.names []).lookup y.1).isSome = true):=fun ⟨n,v⟩ hy=>by
    rcases S.par n (ybO hy).1 with q | q
    · exact .inl q
    · exact .inr ⟨q,PySem.W.cellsFrom_some _ _ _ (.inl q)⟩
  refine codeAny_call_function hr.depth (KX _ _ lk) rfl S.co S.gen rfl (PySem.W.codeRec_of KX hcd) (hb _ _ _ _ ?_)
  refine wpAny_newFunctionEnv_cells S.kind hkind fun env he s1 x=>?_
  subst he
  refine ⟨lim.keeps x.toInCall.keep,codeAny_func ?_⟩
  obtain ⟨t,ht,hq⟩:=hbody A outer s H vs Q E (hr.deeper _) hsp
  have I : Inv (cxOf CX P w K mg base N qual scope f cdv A outer s H E) [] (zcE N vs) H s1:=zl8 S hr.hd e0 hl r x
  refine wpAny_mono (ht [] s1 (zcE N vs) H _ I hq) (fun fl s' hs=>?_) fun e s' hs=>hs
  have fin : ∀ {σ' : St} {H' : Hp} {v : V} {u : Value},Inv (cxOf CX P w K mg base N qual scope f cdv A outer s H E) [] σ' H' s'→RelV v u→Q v H'→CE outer P w H s Q u s':=
    fun {σ' H' v u} J rv q=>⟨v,H',J.os,J.bare,J.base,J.hok,rv,q⟩
  cases fl with
  | ret u=>
    obtain ⟨v,σ',H',J,rv,q⟩:=hs
    exact fin J rv q
  | next=>
    obtain ⟨σ',H',J,q⟩:=hs
    exact fin (v:=V.non) (u:=Value.none) J rfl q
  | brk=>
    obtain ⟨_,_,_,q⟩:=hs
    exact False.elim q
  | cont=>
    obtain ⟨_,_,_,q⟩:=hs
    exact False.elim q
end L2
namespace L2
open PySem PySem.Spec PyProof.Rows
section
variable {X : Cx} {x : Str} {p pos : Pos} {e : Expr} {es : List Expr} {t : TA} {id T : String} {r : List V→Hp→VK→Prop}
def tCB (r : List V→Hp→VK→Prop) (t : TA) : TE:=fun σ H Q=>t σ H fun vs H1=>r vs H1 Q
theorem zas (hc : zeL X (.builtin id) r) (hg : Gl X x) (hm : X.mg x = none) (hv : bootBuiltins x = some (.builtin id)) (ha : PA X (e :: es) t) (hn : x ≠ "__name__":=by decide) (hdb : (x == ("__debug__" : Str)) = false:=by decide)
    (he : starEach (e :: es) X.env = (false,eval e X.env) :: starEach es X.env:=by rfl) (hpl : (backTo pos (starEach es X.env)).any (·.1) = false:=by rfl) : PE X (.Call (.Name x p) (e :: es) [] pos) (tCB r t):=by
  intro pins s σ H Q I h
  refine wpAny_Call_Name_kw (zfa I hg hm hv ?_ hn hdb)
  exact PyProof.Rows.callWith_builtin1 (thn (ha pos pins s σ H _ I h) fun us s1 ⟨vs,H1,I1,r1,q1⟩=>hc pins s1 σ H1 vs us Q I1 r1 q1) he hpl
theorem zbA (hc : zeL X (.type T) r) (hg : Gl X x) (hm : X.mg x = none) (hv : bootBuiltins x = some (.type T)) (ha : PA X (e :: es) t) (hn : x ≠ "__name__":=by decide) (hdb : (x == ("__debug__" : Str)) = false:=by decide)
    (he : starEach (e :: es) X.env = (false,eval e X.env) :: starEach es X.env:=by rfl) (hpl : (backTo pos (starEach es X.env)).any (·.1) = false:=by rfl) : PE X (.Call (.Name x p) (e :: es) [] pos) (tCB r t):=by
  intro pins s σ H Q I h
  refine wpAny_Call_Name_kw (zfa I hg hm hv ?_ hn hdb)
  exact PyProof.Rows.callWith_type1 (thn (ha pos pins s σ H _ I h) fun us s1 ⟨vs,H1,I1,r1,q1⟩=>hc pins s1 σ H1 vs us Q I1 r1 q1) he hpl
end
end L2
namespace HT
open PySem PyProof.Rows
section
variable {prog : Program} {w : World} {A : Around} {E : Value→Shared→Prop} {s : Shared}
theorem cat_tup {t b : Addr} {vs ws : List Value} {Q : Value→Shared→Prop} (ht : IsTup s.heap t vs.toArray) (hb : IsTup s.heap b ws.toArray) (hv : vs≠[])
    (h1 : ws = []→Q (.ref t) s) (h2 : ws≠[]→Q (.ref s.heap.objs.size) { s with heap:=s.heap.push { cls:=.type "tuple",data:=.seq (vs ++ ws).toArray } })
    (hsz : vs.length + ws.length≤sizeLine) : wpAny (model prog w) A (binaryOp .Add (.ref t) (.ref b)) Q E s:=by
  obtain ⟨⟨cls,dd,data,sl⟩,ho,hc,n,hd⟩:=id ht
  obtain ⟨⟨cls2,dd2,data2,sl2⟩,ho2,hc2,n2,hd2⟩:=id hb
  simp only at hc hd hc2 hd2
  subst hc hd hc2 hd2
  have e : vs.toArray ++ ws.toArray = (vs ++ ws).toArray:=by simp
  by_cases hw : ws = []
  · exact concat_meets ⟨_,ho,rfl⟩ ⟨_,ho2,rfl⟩ noFill_tuple_add seq_tuple_add PySem.F.slot_tuple_add PySem.F.entry_tuple_add (PySem.F.args_tuple_add_2 _ _)
      (tuple_addW1 t b vs.toArray ws.toArray n n2 dd dd2 sl sl2 (by simpa using hv) (by simp [hw])) ⟨ho,ho2,h1 hw⟩
  · refine concat_meets ⟨_,ho,rfl⟩ ⟨_,ho2,rfl⟩ noFill_tuple_add seq_tuple_add PySem.F.slot_tuple_add PySem.F.entry_tuple_add (PySem.F.args_tuple_add_2 _ _)
      (tuple_addW2 t b vs.toArray ws.toArray n n2 dd dd2 sl sl2 (by simpa using hv) (by simpa using hw) (by rw [yaw,yaw]; exact hsz)) ⟨ho,ho2,?_⟩
    rw [e]
    exact h2 hw
def sIx (n d : Nat) : Option Int→Nat
  | none=>d
  | some v=>if v < 0 then (v + (n : Int)).toNat else min v.toNat n
theorem zgV (n d k : Nat) : sIx n d (some (k : Int)) = min k n:=by
  show (if (k : Int) < 0 then ((k : Int) + (n : Int)).toNat else min (k : Int).toNat n) = min k n
  rw [if_neg (by omega),yaU]
end
end HT
namespace L2
open PySem PySem.Spec PyProof.Rows
abbrev TO:=St→Hp→(Option Int→Hp→Prop)→Prop
def PO (X : Cx) (e : Option Expr) (t : TO) : Prop:=
  ∀ (pins : List (Addr×Obj)) (s : Shared) (σ : St) (H : Hp) (Q : Option Int→Hp→Prop),Inv X pins σ H s→t σ H Q→
    wpAny (model X.prog X.w) X.A (evalPart e X.env) (fun u s'=>∃ o H',Inv X pins σ H' s'∧IsPart u o∧Q o H') X.xe s
def zor : TO:=fun _ H Q=>Q none H
def zk0 (t : TE) : TO:=fun σ H Q=>t σ H fun x H1=>∃ i,x = .int i∧Q (some i) H1
section
variable {X : Cx} {e : Expr} {te : TE} {lo hi : Option Expr} {tl th : TO} {pos p2 : Pos}
theorem zoE : PO X none zor:=by
  intro pins s σ H Q I h
  rw [evalPart_none]
  exact wpAny_pure ⟨none,H,I,.none,h⟩
theorem zca (h : PE X e te) : PO X (some e) (zk0 te):=by
  intro pins s σ H Q I hw
  rw [evalPart_some]
  refine thn (h pins s σ H _ I hw) fun u s1 ⟨x,H1,I1,r1,q1⟩=>?_
  obtain ⟨i,rfl,q⟩:=q1
  obtain ⟨t,rfl⟩:=r1
  exact ⟨some i,H1,I1,.int i t,q⟩
def SlR (X : Cx) (r : V→Option Int→Option Int→Hp→VK→Prop) : Prop:=
  ∀ (pins : List (Addr×Obj)) (s : Shared) (σ : St) (H : Hp) (x : V) (v vl vu : Value) (lo hi : Option Int) (sl : Addr) (Q : VK),Inv X pins σ H s→RelV x v→s.heap.IsSliceOf sl vl vu .none→IsPart vl lo→IsPart vu hi→r x lo hi H Q→
    ∃ T id,typeLookup (.type T) "__getitem__" = pure (some (.builtin id))∧s.TypeIs v T∧wpAny (model X.prog X.w) X.A (getItem v (.ref sl)) (EP X pins σ Q) X.xe s
def tSl (r : V→Option Int→Option Int→Hp→VK→Prop) (te : TE) (tl th : TO) : TE:=fun σ H Q=>te σ H fun x H1=>tl σ H1 fun l H2=>th σ H2 fun u H3=>r x l u H3 Q
theorem zdC {r : V→Option Int→Option Int→Hp→VK→Prop} (hr : SlR X r) (he : PE X e te) (hl : PO X lo tl) (hu : PO X hi th) : PE X (.Subscript e (.Slice lo hi none p2) pos) (tSl r te tl th):=by
  intro pins s σ H Q I h
  refine Subscript_ (thn (he pins s σ H _ I h) fun v s1 ⟨x,H1,I1,r1,q1⟩=>?_)
  refine wpAny_Slice (thn (hl pins s1 σ H1 _ I1 q1) fun vl s2 ⟨l,H2,I2,pl,q2⟩=>thn (hu pins s2 σ H2 _ I2 q2) fun vu s3 ⟨u,H3,I3,pu,q3⟩=>?_)
  rw [evalPart_none]
  refine wpAny_pure ?_
  have I4 : Inv X pins σ H3 { s3 with heap:=s3.heap.push { cls:=.type "slice",data:=.fields #[vl,vu,.none] } }:=I3.kept (t':=s3.toks) fun b ob q=>yag _ q
  obtain ⟨T,id,hT,ht,hg⟩:=hr pins { s3 with heap:=s3.heap.push { cls:=.type "slice",data:=.fields #[vl,vu,.none] } } σ H3 x v vl vu l u s3.heap.objs.size Q I4 r1 (Heap.IsSliceOf.new ..) pl pu q3
  show wpAny (model X.prog X.w) X.A (subscriptTail e (.Slice lo hi none p2) v (.ref s3.heap.objs.size)) (EP X pins σ Q) X.xe { s3 with heap:=s3.heap.push { cls:=.type "slice",data:=.fields #[vl,vu,.none] } }
  exact tail_any (ops:=[.ref s3.heap.objs.size,v]) ht hT hg (by with_unfolding_all rfl)
def cutV (xs : List V) (lo hi : Option Int) : List V:=(xs.drop (HT.sIx xs.length 0 lo)).take (HT.sIx xs.length xs.length hi - HT.sIx xs.length 0 lo)
theorem ziS (xs : List V) (lo hi : Option Int) : (cutV xs lo hi).length≤xs.length:=by
  unfold cutV
  rw [yas,ybb]
  omega
def zpI (K : Frag) : R2:=fun x y H Q=>∃ a b xs ys,x = .ref a∧y = .ref b∧SqT K H a xs∧SqT K H b ys∧xs≠[]∧xs.length + ys.length≤sizeLine∧
  (ys = []→Q (.ref a) H)∧(ys≠[]→∀ p,H p = none→Q (.ref p) (upd H p (.tup (xs ++ ys))))
theorem Vals.nil_iff {xs : List V} {us : List Value} (r : Vals xs us) : us = []↔xs = []:=by
  cases r with
  | nil=>simp
  | cons _ _=>simp
theorem zoJ : OpR X (binaryOp .Add) (zpI X.K):=by
  intro pins s σ H x y v u Q I rx ry h
  obtain ⟨a,b,xs,ys,rfl,rfl,ha,hb,hx,hz,q1,q2⟩:=h
  cases rx
  cases ry
  obtain ⟨its,r1,p1,_⟩:=I.tuple ha
  obtain ⟨its2,r2,p2,_⟩:=I.tuple hb
  refine HT.cat_tup p1 p2 (fun z=>hx (r1.nil_iff.mp z)) (fun z=>⟨.ref a,H,I,rfl,q1 (r2.nil_iff.mp z)⟩) (fun z=>?_) (by rw [← r1.length,← r2.length]; exact hz)
  refine ⟨.ref s.heap.objs.size,_,I.laid (t':=s.toks) (o:=.tup (xs ++ ys)) (fun b ob q=>yag _ q) (yaa _) ?_,rfl,q2 (fun w=>z (r2.nil_iff.mpr w)) _ (I.hok.fresh (yaa _))⟩
  exact ⟨by rw [yai]; exact hz,_,r1.append r2,IsTup.new _ _⟩
end
end L2
namespace L2
open PySem PySem.Spec PyProof.Rows
def ixN (n : Nat) (i : Int) : Option Nat:=if 0≤i then (if i < n then some i.toNat else none) else if -(n : Int)≤i then some (i + n).toNat else none
def atI {α : Type} (xs : List α) (i : Int) : Option α:=(ixN xs.length i).bind fun j=>xs[j]?
theorem zl7 {n : Nat} {i : Int} {j : Nat} (h : ixN n i = some j) : seqIndex? i n = some j∧j < n∧-(n : Int)≤i∧i < n:=by
  unfold ixN at h
  by_cases h0 : 0≤i
  · rw [if_pos h0] at h
    by_cases h1 : i < n
    · rw [if_pos h1] at h
      have e : i.toNat = j:=yaf h
      exact ⟨by rw [seqIndex_of h0 h1,e],by omega,by omega,h1⟩
    · rw [if_neg h1] at h; cases h
  · rw [if_neg h0] at h
    by_cases h1 : -(n : Int)≤i
    · rw [if_pos h1] at h
      have e : (i + n).toNat = j:=yaf h
      exact ⟨by rw [seqIndex_neg (by omega) h1,e],by omega,h1,by omega⟩
    · rw [if_neg h1] at h; cases h
theorem zmJ {α : Type} {xs : List α} {i : Int} {v : α} (h : atI xs i = some v) : ∃ j,seqIndex? i xs.length = some j∧xs[j]? = some v∧j < xs.length∧-(xs.length : Int)≤i∧i < xs.length:=by
  unfold atI at h
  cases e : ixN xs.length i with
  | none=>rw [e] at h; cases h
  | some j=>
    rw [e] at h
    obtain ⟨h1,h2,h3,h4⟩:=zl7 e
    exact ⟨j,h1,h,h2,h3,h4⟩
theorem zaV {α : Type} {xs : List α} {j : Nat} {v : α} (h : xs[j]? = some v) : atI xs (j : Int) = some v:=by
  have hj : j < xs.length:=(yah.mp h).1
  have e : ixN xs.length (j : Int) = some j:=by
    unfold ixN
    rw [if_pos (by omega),if_pos (by omega)]; simp
  unfold atI; rw [e]; exact h
def zpl (b : Expr) : Prop:=∀ o i,subscripted b false o i = operate [o,i] (getItem o i)
def IxR (X : Cx) (r : R2) : Prop:=
  ∀ (value slice : Expr) (pins : List (Addr×Obj)) (s : Shared) (σ : St) (H : Hp) (x y : V) (v u : Value) (Q : VK),Inv X pins σ H s→RelV x v→RelV y u→r x y H Q→
    subscripted slice false v u = operate [v,u] (getItem v u)→wpAny (model X.prog X.w) X.A (subscriptTail value slice v u) (EP X pins σ Q) X.xe s
def MtR (X : Cx) (id : String) (r : V→List V→Hp→VK→Prop) : Prop:=
  ∀ (pins : List (Addr×Obj)) (s : Shared) (σ : St) (H : Hp) (x : V) (xs : List V) (v : Value) (us : List Value) (Q : VK),Inv X pins σ H s→RelV x v→Vals xs us→r x xs H Q→
    wpAny (model X.prog X.w) X.A (call (.builtin id) (v :: us)) (EP X pins σ Q) X.xe s
section
variable {X : Cx} {a b : Expr} {ta tb : TE} {pos : Pos}
theorem zaC {r : R2} (hr : IxR X r) (ha : PE X a ta) (hb : PE X b tb) (hs : zpl b) : PE X (.Subscript a b pos) (tOp r ta tb):=by
  intro pins s σ H Q I h
  exact Subscript_ (binT ha hb I h fun v u s2 x y H2 I2 rx ry q=>hr a b pins s2 σ H2 x y v u Q I2 rx ry q (hs _ _))
def rIxL (K : Frag) : R2:=fun x y H Q=>∃ p xs i v,x = .ref p∧y = .int i∧SqL K H p xs∧atI xs i = some v∧Q v H
def rIxT (K : Frag) : R2:=fun x y H Q=>∃ p xs i v,x = .ref p∧y = .int i∧SqT K H p xs∧atI xs i = some v∧Q v H
theorem zaw : IxR X (rIxL X.K):=by
  intro value slice pins s σ H x y v u Q I rx ry h hs
  obtain ⟨p,xs,i,z,rfl,rfl,hq,he,q⟩:=h
  cases rx
  obtain ⟨t,rfl⟩:=ry
  obtain ⟨its,r,pl,hz⟩:=I.list hq
  obtain ⟨j,h1,h2,h3,h4,h5⟩:=zmJ he
  obtain ⟨w,ew,rw'⟩:=r.get h2
  have hl:=r.length
  have hn:=zjI
  have fin : EP X pins σ Q w s:=⟨z,H,I,rw',q⟩
  by_cases h0 : 0≤i
  · have hj : i.toNat = j:=by
      rw [seqIndex_of h0 h5] at h1
      exact yaf h1
    exact item_listR pl.isList h0 (by omega) (by rw [hj]; simpa using ew) fin hs
  · have hj : (i + (its.toArray.size : Int)).toNat = j:=by
      rw [seqIndex_neg (by omega) h4] at h1
      rw [yaw,← hl]
      exact yaf h1
    exact subscriptTail_builtinR (x:=w) pl.isList.typeIs slot_list_getitem.lookup
      (wpAny_getItem_list_neg (Q:=fun r s'=>r = w∧EP X pins σ Q r s') pl.isList (by omega) (by rw [yaw] <;> omega) (by omega) (by rw [hj]; simpa using ew) ⟨rfl,fin⟩) hs
theorem zbc : IxR X (rIxT X.K):=by
  intro value slice pins s σ H x y v u Q I rx ry h hs
  obtain ⟨p,xs,i,z,rfl,rfl,hq,he,q⟩:=h
  cases rx
  obtain ⟨t,rfl⟩:=ry
  obtain ⟨its,r,pl,hz⟩:=I.tuple hq
  obtain ⟨j,h1,h2,h3,h4,h5⟩:=zmJ he
  obtain ⟨w,ew,rw'⟩:=r.get h2
  have hl:=r.length
  have hn:=zjI
  have fin : EP X pins σ Q w s:=⟨z,H,I,rw',q⟩
  exact subscriptTail_builtinR (x:=w) pl.typeIs slot_tuple_getitem.lookup
    (getItem_tuple (j:=j) (Q:=fun r s'=>r = w∧EP X pins σ Q r s') pl (by omega) (by omega) (by rw [yaw,← hl]; exact h1) (by simpa using ew) ⟨rfl,fin⟩) hs
theorem zkp (its : List Value) (n j : Nat) (u : Value) : Obj.mapSeq (·.setIfInBounds j u) { cls:=.type "list",data:=.seq its.toArray n } = { cls:=.type "list",data:=.seq (its.set j u).toArray n }:=by
  simp [Obj.mapSeq]
theorem Inv.lst {pins : List (Addr×Obj)} {σ : St} {H : Hp} {s : Shared} {p : Addr} {xs : List V} (I : Inv X pins σ H s) (h : H p = some (.lst xs)) :
    ∃ (its : List Value) (n : Nat),Vals xs its∧s.heap.get? p = some { cls:=.type "list",data:=.seq its.toArray n }∧xs.length≤sizeLine:=by
  obtain ⟨z,its,n,r,e⟩:=I.hok p _ h
  exact ⟨its,n,r,e,z⟩
theorem Inv.lstUpd {pins : List (Addr×Obj)} {σ : St} {H : Hp} {s : Shared} {p : Addr} {xs ys : List V} {its its' : List Value} {n n' : Nat} {f : Obj→Obj} (I : Inv X pins σ H s) (h : H p = some (.lst xs))
    (ho : s.heap.get? p = some { cls:=.type "list",data:=.seq its.toArray n }) (hf : f { cls:=.type "list",data:=.seq its.toArray n } = { cls:=.type "list",data:=.seq its'.toArray n' }) (r : Vals ys its') (hz : ys.length≤sizeLine) (t : Nat) :
    Inv X pins σ (upd H p (.lst ys)) { s with heap:=s.heap.update p f,toks:=t }:=by
  have e : (s.heap.update p f).get? p = some { cls:=.type "list",data:=.seq its'.toArray n' }:=by
    rw [ybf f ho (by rw [hf] <;> rfl),hf]
  refine I.write (x:=p) (e:=p) (by rw [h]; trivial) (.inl rfl) (fun b u hb q=>(ya7 _ _ (Ne.symm hb)).trans q) ⟨_,e⟩ ?_
  exact ⟨hz,its',n',r,e⟩
def zqL : V→V→V→Hp→(Hp→Prop)→Prop:=fun o i v H Q=>∃ p xs k j,o = .ref p∧i = .int k∧H p = some (.lst xs)∧ixN xs.length k = some j∧Q (upd H p (.lst (xs.set j v)))
theorem zdl : PSet X zqL:=by
  intro pins s σ H o i v ov iv u Q I ro ri rv h
  obtain ⟨p,xs,k,j,rfl,rfl,hp,hj,q⟩:=h
  cases ro
  obtain ⟨t,rfl⟩:=ri
  obtain ⟨its,n,r,ho,hz⟩:=I.lst hp
  obtain ⟨h1,h2,h3,h4⟩:=zl7 hj
  have hl:=r.length
  have hn:=zjI
  have I' : Inv X pins σ (upd H p (.lst (xs.set j v))) { s with heap:=s.heap.update p (Obj.mapSeq (·.setIfInBounds j u)) }:=
    I.lstUpd hp ho (zkp its n j u) (r.set rv j) (by rw [List.length_set]; exact hz) s.toks
  by_cases h0 : 0≤k
  · have hk : k.toNat = j:=by
      rw [seqIndex_of h0 h4] at h1
      exact yaf h1
    exact PySem.W.ki_setAt ho h0 (by omega) (by rw [yaw,← hl]; exact h4) (by rw [hk]; exact ⟨_,I',q⟩)
  · have hk : (k + (its.toArray.size : Int)).toNat = j:=by
      rw [seqIndex_neg (by omega) h3] at h1
      rw [yaw,← hl]
      exact yaf h1
    exact PySem.W.ki_setBack ho (by omega) (by rw [yaw,← hl]; exact h3) (by omega) (by rw [hk]; exact ⟨_,I',q⟩)
theorem zhD (lo hi : Option Int) (n : Nat) : (sliceBounds lo hi none n).1 = ((HT.sIx n 0 lo : Nat) : Int)∧(sliceBounds lo hi none n).2.1 = ((HT.sIx n n hi : Nat) : Int)∧(sliceBounds lo hi none n).2.2 = 1:=by
  refine ⟨?_,?_,rfl⟩
  · cases lo with
    | none=>simp [sliceBounds,HT.sIx]
    | some i=>
      simp only [sliceBounds,HT.sIx,Option.getD_none,show (1 : Int) > 0 by decide,if_true]
      by_cases h : i < 0
      · simp only [h,if_true] <;> omega
      · simp only [h,if_false] <;> omega
  · cases hi with
    | none=>simp [sliceBounds,HT.sIx]
    | some i=>
      simp only [sliceBounds,HT.sIx,Option.getD_none,show (1 : Int) > 0 by decide,if_true]
      by_cases h : i < 0
      · simp only [h,if_true] <;> omega
      · simp only [h,if_false] <;> omega
theorem zgQ (its : List Value) (lo hi : Option Int) : slicePick its.toArray lo hi none = ((its.drop (HT.sIx its.length 0 lo)).take (HT.sIx its.length its.length hi - HT.sIx its.length 0 lo)).toArray:=by
  obtain ⟨h1,h2,h3⟩:=zhD lo hi its.toArray.size
  unfold slicePick
  rw [h1,h2,h3]
  simp only [sliceRange_one,pick_run,yaw] <;> rfl
def rSlL (K : Frag) : V→Option Int→Option Int→Hp→VK→Prop:=fun x lo hi H Q=>∃ a xs,x = .ref a∧SqL K H a xs∧∀ p,H p = none→Q (.ref p) (upd H p (.lst (cutV xs lo hi)))
theorem zeR : SlR X (rSlL X.K):=by
  intro pins s σ H x v vl vu lo hi sl Q I rx hs pl pu h
  obtain ⟨a,xs,rfl,hx,q⟩:=h
  cases rx
  obtain ⟨its,r,ht,hz⟩:=I.list hx
  have hlen:=r.length
  refine ⟨"list",_,slot_list_getitem.lookup,ht.isList.typeIs,?_⟩
  refine wpAny_getItem_list_slice ht.isList hs pl pu .none (by simp) ?_ (by rw [yaw] <;> omega)
  rw [zgQ,← hlen]
  refine ⟨.ref s.heap.objs.size,_,I.laid (t':=s.toks) (o:=.lst (cutV xs lo hi)) (fun b ob q=>yag _ q) (yaa _) ?_,rfl,q _ (I.hok.fresh (yaa _))⟩
  exact ⟨yao (ziS xs lo hi) hz,_,0,(r.drop (HT.sIx xs.length 0 lo)).take (HT.sIx xs.length xs.length hi - HT.sIx xs.length 0 lo),yau _ rfl⟩
def zgg : V→Bool
  | .non=>true
  | .bl _=>true
  | .int _=>true
  | .str _=>true
  | _=>false
def eqV : V→V→Bool
  | .non,.non=>true
  | .bl a,.bl b=>a == b
  | .bl a,.int b=>(if a then 1 else 0) == b
  | .int a,.bl b=>a == (if b then 1 else 0)
  | .int a,.int b=>a == b
  | .str a,.str b=>a == b
  | _,_=>false
theorem zqr {A : Around} {s : Shared} {y x : V} {u v : Value} (ry : RelV y u) (rx : RelV x v) (fy : zgg y = true) (fx : zgg x = true) : SeqAt.EqAt A s u v (eqV y x):=by
  cases y with
  | non=>
    cases ry
    cases x with
    | non=>cases rx; exact SeqAt.EqAt.same _
    | bl b=>cases rx; exact SeqAt.EqAt.none_bool b
    | int b=>obtain ⟨t,rfl⟩:=rx; exact SeqAt.EqAt.none_int b t
    | str b=>obtain ⟨t,rfl⟩:=rx; exact SeqAt.EqAt.none_str b t
    | _=>exact absurd (show false = true from fx) yaz
  | bl a=>
    cases ry
    cases x with
    | non=>cases rx; exact SeqAt.EqAt.bool_none a
    | bl b=>cases rx; exact SeqAt.EqAt.bool_bool a b
    | int b=>obtain ⟨t,rfl⟩:=rx; exact SeqAt.EqAt.bool_int a b t
    | str b=>obtain ⟨t,rfl⟩:=rx; exact SeqAt.EqAt.bool_str a b t
    | _=>exact absurd (show false = true from fx) yaz
  | int a=>
    obtain ⟨t',rfl⟩:=ry
    cases x with
    | non=>cases rx; exact SeqAt.EqAt.int_none a t'
    | bl b=>cases rx; exact SeqAt.EqAt.int_bool a t' b
    | int b=>obtain ⟨t,rfl⟩:=rx; exact SeqAt.EqAt.int_int a t' b t
    | str b=>obtain ⟨t,rfl⟩:=rx; exact SeqAt.EqAt.int_str a t' b t
    | _=>exact absurd (show false = true from fx) yaz
  | str a=>
    obtain ⟨t',rfl⟩:=ry
    cases x with
    | non=>cases rx; exact SeqAt.EqAt.str_none a t'
    | bl b=>cases rx; exact SeqAt.EqAt.str_bool a t' b
    | int b=>obtain ⟨t,rfl⟩:=rx; exact SeqAt.EqAt.str_int a t' b t
    | str b=>obtain ⟨t,rfl⟩:=rx; exact SeqAt.EqAt.str_str a t' b t
    | _=>exact absurd (show false = true from fx) yaz
  | _=>exact absurd (show false = true from fy) yaz
def eqU (x : V) (u : Value) : Bool:=match u with
  | .none=>eqV .non x
  | .bool b=>eqV (.bl b) x
  | .int i _=>eqV (.int i) x
  | .str z _=>eqV (.str z) x
  | _=>false
theorem zob {x y : V} {u : Value} (r : RelV y u) (f : zgg y = true) : eqU x u = eqV y x:=by
  cases y with
  | non=>cases r; rfl
  | bl b=>cases r; rfl
  | int i=>obtain ⟨t,rfl⟩:=r; rfl
  | str z=>obtain ⟨t,rfl⟩:=r; rfl
  | _=>exact absurd (show false = true from f) yaz
theorem zgb {x : V} : ∀ {xs : List V} {us : List Value},Vals xs us→xs.all zgg = true→us.any (eqU x) = xs.any fun y=>eqV y x
  | _,_,.nil,_=>rfl
  | y :: xs,u :: us,.cons r t,f=>by
    rw [yb5,ya8] at f
    rw [ybm,ybm,zob r f.1,zgb t f.2]
theorem zex {A : Around} {s : Shared} {x : V} {v : Value} (rx : RelV x v) (fx : zgg x = true) : ∀ {xs : List V} {us : List Value},Vals xs us→xs.all zgg = true→∀ u∈us,SeqAt.EqAt A s u v (eqU x u)
  | _,_,.nil,_=>fun u hu=>by cases hu
  | y :: xs,u :: us,.cons r t,f=>fun u' hu=>by
    rw [yb5,ya8] at f
    rcases yal.mp hu with rfl | hu
    · rw [zob r f.1]; exact zqr r rx f.1 fx
    · exact zex rx fx t f.2 u' hu
def inV (x : V) (xs : List V) : Bool:=xs.any fun y=>eqV y x
def rIn (K : Frag) (neg : Bool) : R2:=fun x y H Q=>∃ p xs,y = .ref p∧(SqL K H p xs∨SqT K H p xs)∧zgg x = true∧xs.all zgg = true∧Q (.bl (if neg then !inV x xs else inV x xs)) H
theorem zlu : OpR X (compareOp .In) (rIn X.K false):=by
  intro pins s σ H x y v u Q I rx ry h
  obtain ⟨p,xs,rfl,hq,fx,fs,q⟩:=h
  cases ry
  rcases hq with hq | hq
  · obtain ⟨its,r,pl,hz⟩:=I.list hq
    refine SeqAt.in_listAt (eqU x) pl.isList (fun w hw=>zex rx fx r fs w (by simpa using hw)) ⟨.bl _,H,I,rfl,?_⟩
    rw [show its.toArray.any (eqU x) = its.any (eqU x) by simp,zgb r fs]
    exact q
  · obtain ⟨its,r,pl,hz⟩:=I.tuple hq
    refine SeqAt.in_tupleAt (eqU x) pl (fun w hw=>zex rx fx r fs w (by simpa using hw)) ⟨.bl _,H,I,rfl,?_⟩
    rw [show its.toArray.any (eqU x) = its.any (eqU x) by simp,zgb r fs]
    exact q
theorem zc9 : OpR X (compareOp .NotIn) (rIn X.K true):=by
  intro pins s σ H x y v u Q I rx ry h
  obtain ⟨p,xs,rfl,hq,fx,fs,q⟩:=h
  cases ry
  rcases hq with hq | hq
  · obtain ⟨its,r,pl,hz⟩:=I.list hq
    refine SeqAt.notIn_listAt (eqU x) pl.isList (fun w hw=>zex rx fx r fs w (by simpa using hw)) ⟨.bl _,H,I,rfl,?_⟩
    rw [show its.toArray.any (eqU x) = its.any (eqU x) by simp,zgb r fs]
    exact q
  · obtain ⟨its,r,pl,hz⟩:=I.tuple hq
    refine SeqAt.notIn_tupleAt (eqU x) pl (fun w hw=>zex rx fx r fs w (by simpa using hw)) ⟨.bl _,H,I,rfl,?_⟩
    rw [show its.toArray.any (eqU x) = its.any (eqU x) by simp,zgb r fs]
    exact q
theorem zam : zeL X (.builtin "len") (fun xs H Q=>∃ p ys,xs = [.ref p]∧(SqL X.K H p ys∨SqT X.K H p ys)∧Q (.int ys.length) H):=by
  intro pins s σ H xs us Q I r h
  obtain ⟨p,ys,rfl,hq,q⟩:=h
  obtain ⟨u,rfl,rx⟩:=zgf r
  cases rx
  have hn:=zjI
  rcases hq with hq | hq
  · obtain ⟨its,r',pl,hz⟩:=I.list hq
    have hlen:=r'.length
    exact Calls.call_len_list pl.isList (by simp only [yaw] <;> omega) ⟨.int ys.length,H,I.tok _,⟨s.toks + 1,by rw [yaw,hlen]⟩,q⟩
  · obtain ⟨its,r',pl,hz⟩:=I.tuple hq
    have hlen:=r'.length
    exact len_tuple pl (by simp only [yaw] <;> omega) ⟨.int ys.length,H,I.tok _,⟨s.toks + 1,by rw [yaw,hlen]⟩,q⟩
theorem zdi : zeL X (.type "list") (fun xs H Q=>∃ p ys,xs = [.ref p]∧(SqL X.K H p ys∨SqT X.K H p ys)∧∀ l,H l = none→Q (.ref l) (upd H l (.lst ys))):=by
  intro pins s σ H xs us Q I r h
  obtain ⟨p,ys,rfl,hq,q⟩:=h
  obtain ⟨u,rfl,rx⟩:=zgf r
  cases rx
  have fin : ∀ (its : List Value),Vals ys its→ys.length≤sizeLine→∀ (h' : Heap) (c' : Nat),(∀ b o',s.heap.get? b = some o'→h'.get? b = some o')→
      h'.get? s.heap.objs.size = some { cls:=.type "list",dict:=none,data:=.seq its.toArray c',slots:=#[] }→EP X pins σ Q (.ref s.heap.objs.size) { s with heap:=h' }:=fun its r' hz h' c' kp e=>
    ⟨.ref s.heap.objs.size,_,I.laid (t':=s.toks) kp (yaa _) (show zbI X.prog X.w _ h' _ (.lst ys) from ⟨hz,its,c',r',e⟩),rfl,q _ (I.hok.fresh (yaa _))⟩
  rcases hq with hq | hq
  · obtain ⟨its,r',pl,hz⟩:=I.list hq
    have hlen:=r'.length
    obtain ⟨o,ho,hc,n,hd⟩:=pl.isList
    exact call_list_seq p (.inl rfl) ho hc hd (fun h' c' kp e=>fin its r' hz h' c' kp e) (by simp only [yaw] <;> omega)
  · obtain ⟨its,r',pl,hz⟩:=I.tuple hq
    have hlen:=r'.length
    obtain ⟨o,ho,hc,n,hd⟩:=pl
    exact call_list_seq p (.inr rfl) ho hc hd (fun h' c' kp e=>fin its r' hz h' c' kp e) (by simp only [yaw] <;> omega)
theorem zcS : zeL X (.type "tuple") (fun xs H Q=>∃ p ys,xs = [.ref p]∧((SqL X.K H p ys∧∀ l,H l = none→Q (.ref l) (upd H l (.tup ys)))∨(SqT X.K H p ys∧Q (.ref p) H))):=by
  intro pins s σ H xs us Q I r h
  obtain ⟨p,ys,rfl,h⟩:=h
  obtain ⟨u,rfl,rx⟩:=zgf r
  cases rx
  rcases h with ⟨hq,q⟩ | ⟨hq,q⟩
  · obtain ⟨its,r',pl,hz⟩:=I.list hq
    have hlen:=r'.length
    refine call_tuple_list pl.isList (fun h' kp=>?_) (by simp only [yaw] <;> omega)
    have I1 : Inv X pins σ H { s with heap:=h' }:=I.kept (t':=s.toks) kp
    have I2 : Inv X pins σ (upd H h'.objs.size (.tup ys)) { s with heap:=h'.push { cls:=.type "tuple",data:=.seq its.toArray } }:=
      I1.laid (t':=s.toks) (fun b o e=>yag _ e) (yaa _) (show zbI X.prog X.w _ _ _ (.tup ys) from ⟨hz,its,r',IsTup.new _ _⟩)
    exact ⟨.ref h'.objs.size,_,I2,rfl,q _ (I1.hok.fresh (yaa _))⟩
  · obtain ⟨its,r',pl,hz⟩:=I.tuple hq
    exact call_tuple_same pl ⟨.ref p,H,I,rfl,q⟩
def tyV (K : Frag) (T : String) (x : V) (H : Hp) : Prop:=match x with
  | .str _=>T = "str"
  | .int _=>T = "int"
  | .ref p=>(T = "list"∧∃ xs,SqL K H p xs)∨(T = "tuple"∧∃ o,K.lookup p = some o∧o.cls = .type "tuple"∧o.dict = none)∨
      (T = "dict"∧((∃ kvs,H p = some (.dK kvs))∨∃ kvs,H p = some (.dT kvs)))∨(T = "set"∧∃ S n,H p = some (.set S n))
  | _=>False
theorem znT {pins : List (Addr×Obj)} {σ : St} {H : Hp} {s : Shared} {T : String} {x : V} {v : Value} (I : Inv X pins σ H s) (r : RelV x v) (ty : tyV X.K T x H) :
    s.TypeIs v T∧∀ a,v = .ref a→∃ ob,s.heap.get? a = some ob∧ob.dict = none:=by
  cases x with
  | str z=>
    obtain ⟨t,rfl⟩:=r
    cases (show T = "str" from ty)
    exact ⟨typeIs_str s z t,fun _ e=>nomatch e⟩
  | int i=>
    obtain ⟨t,rfl⟩:=r
    cases (show T = "int" from ty)
    exact ⟨typeIs_int s i t,fun _ e=>nomatch e⟩
  | ref p=>
    cases r
    rcases ty with ⟨rfl,xs,hq⟩ | ⟨rfl,o,hk,hc,hd⟩ | ⟨rfl,hk⟩ | ⟨rfl,S,n,hk⟩
    · obtain ⟨its,_,pl,_⟩:=I.list hq
      refine ⟨pl.isList.typeIs,fun a e=>?_⟩
      cases e
      obtain ⟨o,n,e,c,hd,_⟩:=pl
      exact ⟨o,e,hd⟩
    · refine ⟨⟨o,I.kIn p o hk,hc⟩,fun a e=>?_⟩
      cases e
      exact ⟨o,I.kIn _ o hk,hd⟩
    · have z : ∃ o,s.heap.get? p = some o∧o.ExactDict:=by
        rcases hk with ⟨kvs,hk⟩ | ⟨kvs,hk⟩
        · obtain ⟨_,_,_,_,o,_,_,e,ex,_⟩:=I.hok p _ hk
          exact ⟨o,e,ex⟩
        · obtain ⟨_,_,_,_,o,_,_,e,ex,_⟩:=I.hok p _ hk
          exact ⟨o,e,ex⟩
      obtain ⟨o,e,ex⟩:=z
      refine ⟨⟨o,e,ex.1⟩,fun a e2=>?_⟩
      cases e2
      exact ⟨o,e,ex.2.1⟩
    · obtain ⟨o,_,_,_,e,ex,_⟩:=I.hok p _ hk
      refine ⟨⟨o,e,ex.1⟩,fun a e2=>?_⟩
      cases e2
      exact ⟨o,e,ex.2.1⟩
  | _=>exact False.elim ty
def tBM0 (K : Frag) (T : String) (r : V→List V→Hp→VK→Prop) (to : TE) : TE:=fun σ H Q=>to σ H fun x H1=>tyV K T x H1∧r x [] H1 Q
def tBM (K : Frag) (T : String) (r : V→List V→Hp→VK→Prop) (to : TE) (t : TA) : TE:=fun σ H Q=>to σ H fun x H1=>tyV K T x H1∧t σ H1 fun xs H2=>r x xs H2 Q
variable {o e : Expr} {es : List Expr} {to : TE} {t : TA} {name : Str} {apos cpos : Pos} {T id : String} {r : V→List V→Hp→VK→Prop}
theorem zpP (pa : PlainAttrs T) (slot : Slot T name id) (hty : typeOf (.builtin id) = pure (.type "method_descriptor")) (hm : MtR X id r) (ho : PE X o to)
    (hbase : attributeBase o name X.env (eval o X.env) = eval o X.env:=by rfl) (hline : (apos.endLine == cpos.line) = true:=by rfl) : PE X (.Call (.Attribute o name apos) [] [] cpos) (tBM0 X.K T r to):=by
  intro pins s σ H Q I h
  refine wpAny_Call_method0_late hbase hline (thn (ho pins s σ H _ I h) fun v s1 ⟨x,H1,I1,r1,ty,q1⟩=>?_)
  obtain ⟨h1,h2⟩:=znT I1 r1 ty
  exact ⟨T,id,pa,slot,hty,h1,h2,Calls.callWith_builtin rfl (PySem.evalArgs_none (hm pins s1 σ H1 x [] v [] Q I1 r1 .nil q1))⟩
theorem zc7 (pa : PlainAttrs T) (slot : Slot T name id) (hty : typeOf (.builtin id) = pure (.type "method_descriptor")) (hm : MtR X id r) (ho : PE X o to) (ha : PA X (e :: es) t)
    (hbase : attributeBase o name X.env (eval o X.env) = eval o X.env:=by rfl)
    (hfew : ((backTo cpos (starEach (e :: es) X.env)).all (fun x=>!x.1) && (backToKw cpos (keywordEach [] X.env)).all (fun x=>x.1.isSome)
      && decide ((e :: es).length + ([] : List Keyword).length + (if ([] : List Keyword).isEmpty then 0 else 1) < 30)) = true:=by rfl)
    (hline : (apos.endLine == cpos.line) = true:=by rfl) (hs : starEach (e :: es) X.env = (false,eval e X.env) :: starEach es X.env:=by rfl) (hplain : (backTo cpos (starEach es X.env)).any (·.1) = false:=by rfl) :
    PE X (.Call (.Attribute o name apos) (e :: es) [] cpos) (tBM X.K T r to t):=by
  intro pins s σ H Q I h
  refine wpAny_Call_method_late hbase hfew hline rfl (thn (ho pins s σ H _ I h) fun v s1 ⟨x,H1,I1,r1,ty,q1⟩=>?_)
  obtain ⟨h1,h2⟩:=znT I1 r1 ty
  refine ⟨T,id,pa,slot,hty,h1,h2,?_⟩
  have hA:=ha cpos pins s1 σ H1 _ I1 q1
  rw [hs] at hA ⊢
  refine Calls.callWith_builtin (by show (false || (backTo cpos (starEach es X.env)).any (·.1)) = false; rw [hplain] <;> rfl) (Calls.evalArgs_plain ?_)
  exact thn hA fun us s2 ⟨vs,H2,I2,r2,q2⟩=>hm pins s2 σ H2 x vs v us Q I2 r1 r2 q2
end
end L2
namespace L2
open PySem PySem.Spec PyProof.Rows
def MtM (X : Cx) (id : String) (r : V→List V→Hp→VK→Prop) : Prop:=
  ∀ (pins : List (Addr×Obj)) (s : Shared) (σ : St) (H : Hp) (x : V) (xs : List V) (v : Value) (us : List Value) (Q : VK),Inv X pins σ H s→RelV x v→Vals xs us→r x xs H Q→
    wpAny (model X.prog X.w) X.A (call (.builtin id) (v :: us)) (EP X pins σ Q) X.xe s
theorem Vals.one : ∀ {x : V} {us : List Value},Vals [x] us→∃ u,us = [u]∧RelV x u
  | _,_,.cons r .nil=>⟨_,rfl,r⟩
section
variable {X : Cx} {pins : List (Addr×Obj)} {σ : St} {H : Hp} {s : Shared} {l b : Addr} {xs ys zs : List V}
theorem Inv.lset {its its' : List Value} {n : Nat} {f : Array Value→Array Value} {t' : Nat} (I : Inv X pins σ H s) (hH : H l = some (.lst xs))
    (e : s.heap.get? l = some { cls:=.type "list",data:=.seq its.toArray n }) (hf : f its.toArray = its'.toArray) (hv : Vals ys its') (hz : ys.length≤sizeLine) :
    Inv X pins σ (upd H l (.lst ys)) { s with heap:=s.heap.update l (Obj.mapSeq f),toks:=t' }:=by
  have q:=PySem.IsL.update e f
  rw [hf] at q
  refine I.write (x:=l) (e:=l) (by rw [hH]; exact trivial) (.inl rfl) (fun b' u hb hu=>(ya7 s.heap (Obj.mapSeq f) (Ne.symm hb)).trans hu) ⟨_,q⟩ ?_
  exact ⟨hz,its',_,hv,q⟩
theorem Inv.lnew {its : List Value} {t' : Nat} (I : Inv X pins σ H s) (hv : Vals ys its) (hz : ys.length≤sizeLine) :
    Inv X pins σ (upd H s.heap.objs.size (.lst ys)) { s with heap:=s.heap.push { cls:=.type "list",data:=.seq its.toArray },toks:=t' }:=
  I.laid (fun _ _ q=>yag _ q) (yaa _) ⟨hz,its,0,hv,yau _ rfl⟩
theorem Inv.fresh (I : Inv X pins σ H s) : H s.heap.objs.size = none:=I.hok.fresh (yaa _)
theorem Inv.lstM (I : Inv X pins σ H s) (hH : H l = some (.lst xs)) : xs.length≤sizeLine∧∃ (its : List Value) (n : Nat),Vals xs its∧xs.length = its.length∧s.heap.get? l = some { cls:=.type "list",data:=.seq its.toArray n }:=by
  obtain ⟨z,its,n,r,e⟩:=I.hok l _ hH
  exact ⟨z,its,n,r,r.length,e⟩
theorem znn {n : Nat} (h : n≤sizeLine) : Builtin.List.listTooLong n = false:=by
  unfold Builtin.List.listTooLong
  exact yam (by omega)
end
section
variable {X : Cx}
def zoC : V→List V→Hp→VK→Prop:=fun x vs H Q=>∃ l xs y,x = .ref l∧vs = [y]∧H l = some (.lst xs)∧xs.length < sizeLine∧Q .non (upd H l (.lst (xs ++ [y])))
theorem zaL : MtM X "list.append" zoC:=by
  intro pins s σ H x vs v us Q I rx rv h
  obtain ⟨l,xs,y,rfl,rfl,hH,hz,q⟩:=h
  cases rx
  obtain ⟨u,rfl,ru⟩:=rv.one
  obtain ⟨z,its,n,r,hl,e⟩:=I.lstM hH
  refine call_meets F.slot_list_append ⟨_,e,rfl⟩ F.entry_list_append (F.args_list_append_2 _ _) (PySem.list_append l its.toArray n u (by rw [yaw]; omega)) ⟨e,?_⟩
  refine ⟨.non,_,I.lset (its':=its ++ [u]) hH e (by simp) (r.append (.cons ru .nil)) ?_,rfl,q⟩
  rw [yai,yaV]
  omega
def zoA : V→List V→Hp→VK→Prop:=fun x vs H Q=>∃ l b xs zs,x = .ref l∧vs = [.ref b]∧H l = some (.lst xs)∧H b = some (.lst zs)∧xs.length + zs.length≤sizeLine∧Q .non (upd H l (.lst (xs ++ zs)))
theorem zlL : MtM X "list.extend" zoA:=by
  intro pins s σ H x vs v us Q I rx rv h
  obtain ⟨l,b,xs,zs,rfl,rfl,hH,hB,hz,q⟩:=h
  cases rx
  obtain ⟨u,rfl,ru⟩:=rv.one
  cases ru
  obtain ⟨z,its,n,r,hl,e⟩:=I.lstM hH
  obtain ⟨z2,its2,n2,r2,hl2,e2⟩:=I.lstM hB
  have hsz : its.toArray.size + its2.toArray.size≤sizeLine:=by rw [yaw,yaw]; omega
  have hlong : ¬ (!its.toArray.isEmpty && Builtin.List.listTooLong (its.toArray.size + its2.toArray.size)) = true:=by
    rw [znn hsz,ybs]
    exact yaz
  refine call_meets F.slot_list_extend ⟨_,e,rfl⟩ F.entry_list_extend (F.args_list_extend_2 _ _)
    (AutoSeq1.list_extend_list_list_0 l its.toArray n b its2.toArray n2 hlong (by rw [yaw]; omega) (by omega)) ⟨e,e2,?_⟩
  refine ⟨.non,_,I.lset (its':=its ++ its2) hH e (by simp) (r.append r2) ?_,rfl,q⟩
  rw [yai]
  omega
def rCat : R2:=fun x y H Q=>∃ l b xs zs,x = .ref l∧y = .ref b∧H l = some (.lst xs)∧H b = some (.lst zs)∧xs.length + zs.length≤sizeLine∧∀ p,H p = none→Q (.ref p) (upd H p (.lst (xs ++ zs)))
theorem zlw : OpR X (binaryOp .Add) rCat:=by
  intro pins s σ H x y v u Q I rx ry h
  obtain ⟨l,b,xs,zs,rfl,rfl,hH,hB,hz,q⟩:=h
  cases rx
  cases ry
  obtain ⟨z,its,n,r,hl,e⟩:=I.lstM hH
  obtain ⟨z2,its2,n2,r2,hl2,e2⟩:=I.lstM hB
  refine PySem.P.add_list e e2 ?_ (by rw [yaw,yaw]; omega)
  have ea : its.toArray ++ its2.toArray = (its ++ its2).toArray:=by simp
  rw [ea]
  exact ⟨.ref _,_,I.lnew (t':=s.toks) (r.append r2) (by rw [yai]; omega),rfl,q _ I.fresh⟩
end
end L2
namespace L2
open PySem PySem.Spec PyProof.Rows
section
variable {κ : Type} [DecidableEq κ]
def valV (kvs : List (κ×V)) (k : κ) : Option V:=(kvs.find? fun kv=>decide (kv.1 = k)).map (·.2)
def putK (kvs : List (κ×V)) (k : κ) (v : V) : List (κ×V):=
  if (kvs.any fun kv=>decide (kv.1 = k)) = true then kvs.map (fun kv=>if kv.1 = k then (kv.1,v) else kv) else kvs ++ [(k,v)]
theorem zaZ {p : κ×V} {r : List (κ×V)} {k : κ} (e : p.1 = k) : valV (p :: r) k = some p.2:=by simp [valV,ybC,e]
theorem zaM {p : κ×V} {r : List (κ×V)} {k : κ} (e : ¬ p.1 = k) : valV (p :: r) k = valV r k:=by simp [valV,ybC,e]
theorem zd6 (k : κ) : ∀ kvs : List (κ×V),(kvs.any fun kv=>decide (kv.1 = k)) = (valV kvs k).isSome
  | []=>rfl
  | p :: r=>by
    rw [ybm]
    by_cases e : p.1 = k
    · simp only [zaZ e,yan e,Bool.true_or,Option.isSome_some]
    · rw [zaM e,yam e,yb6]; exact zd6 k r
theorem zi8 (k j : κ) (y : V) : ∀ kvs : List (κ×V),valV (kvs.map fun kv=>if kv.1 = k then (kv.1,y) else kv) j = (valV kvs j).map fun x=>if j = k then y else x
  | []=>rfl
  | p :: r=>by
    have ih:=zi8 k j y r
    rw [yax]
    by_cases h : p.1 = k
    · rw [if_pos h]
      by_cases e : p.1 = j
      · rw [zaZ (p:=(p.1,y)) e,zaZ e,ybD,if_pos (e.symm.trans h)]
      · rw [zaM (p:=(p.1,y)) e,zaM e,ih]
    · rw [if_neg h]
      by_cases e : p.1 = j
      · rw [zaZ (p:=p) e,zaZ e,ybD,if_neg (fun z=>h (e.trans z))]
      · rw [zaM (p:=p) e,zaM e,ih]
theorem zhy (k j : κ) (y : V) : ∀ kvs : List (κ×V),valV kvs k = none→valV (kvs ++ [(k,y)]) j = if j = k then some y else valV kvs j
  | [],_=>by
    by_cases e : k = j
    · rw [if_pos e.symm]; exact zaZ (p:=(k,y)) e
    · rw [if_neg (fun z=>e z.symm)]; exact zaM (p:=(k,y)) e
  | p :: r,hn=>by
    rw [List.cons_append]
    have hk : ¬ p.1 = k:=fun z=>by rw [zaZ z] at hn; cases hn
    rw [zaM hk] at hn
    have ih:=zhy k j y r hn
    by_cases e : p.1 = j
    · rw [zaZ e,zaZ e,if_neg (fun z=>hk (e.trans z))]
    · rw [zaM e,zaM e,ih]
theorem zmQ (kvs : List (κ×V)) (k j : κ) (y : V) : valV (putK kvs k y) j = if j = k then some y else valV kvs j:=by
  unfold putK
  by_cases a : (kvs.any fun kv=>decide (kv.1 = k)) = true
  · rw [if_pos a,zi8]
    rw [zd6] at a
    by_cases e : j = k
    · obtain ⟨x,hx⟩:=yco.mp a
      rw [if_pos e,e,hx,ybD,if_pos rfl]
    · rw [if_neg e]
      cases valV kvs j with
      | none=>rfl
      | some x=>rw [ybD,if_neg e]
  · rw [if_neg a]
    refine zhy k j y kvs ?_
    rw [zd6] at a
    cases q : valV kvs k with
    | none=>rfl
    | some x=>rw [q] at a; exact (a rfl).elim
theorem zcQ (kvs : List (κ×V)) (k : κ) (v : V) : (putK kvs k v).length≤kvs.length + 1:=by
  unfold putK
  split
  · rw [yab]; omega
  · rw [yai,yaW,ybP]; omega
theorem zcK {kvs : List (κ×V)} {k : κ} (v : V) (h : valV kvs k = none) : putK kvs k v = kvs ++ [(k,v)]:=by
  unfold putK
  rw [zd6,h]
  exact if_neg (by decide)
theorem RelO.isSome_eq {o : Option V} {u : Option Value} (r : RelO o u) : o.isSome = u.isSome:=by
  cases o with
  | none=>cases u with
    | none=>rfl
    | some _=>exact (show False from r).elim
  | some _=>cases u with
    | none=>exact (show False from r).elim
    | some _=>rfl
theorem RelO.getD {o : Option V} {u : Option Value} {d : V} {d' : Value} (r : RelO o u) (rd : RelV d d') : RelV (o.getD d) (u.getD d'):=by
  cases o with
  | none=>cases u with
    | none=>exact rd
    | some _=>exact (show False from r).elim
  | some _=>cases u with
    | none=>exact (show False from r).elim
    | some _=>exact r
theorem KV.val {kvs : List (κ×V)} {vs : List (κ×Value)} (r : KV kvs vs) (k : κ) : RelO (valV kvs k) (valueAt vs k):=by
  unfold KV at r
  induction r with
  | nil=>exact True.intro
  | @cons p q ps qs h t ih=>
    obtain ⟨h1,h2⟩:=h
    by_cases e : p.1 = k
    · have e' : q.1 = k:=h1.symm.trans e
      have b : valueAt (q :: qs) k = some q.2:=by simp [valueAt,ybC,e']
      rw [zaZ e,b]; exact h2
    · have e' : ¬ q.1 = k:=fun z=>e (h1.trans z)
      have b : valueAt (q :: qs) k = valueAt qs k:=by simp [valueAt,ybC,e']
      rw [zaM e,b]; exact ih
theorem KV.any {kvs : List (κ×V)} {vs : List (κ×Value)} (r : KV kvs vs) (k : κ) : (kvs.any fun kv=>decide (kv.1 = k)) = vs.any fun kv=>decide (kv.1 = k):=by
  unfold KV at r
  induction r with
  | nil=>rfl
  | cons h t ih=>rw [ybm,ybm,ih,h.1]
theorem KV.repl {kvs : List (κ×V)} {vs : List (κ×Value)} (r : KV kvs vs) (k : κ) {y : V} {u : Value} (ry : RelV y u) :
    KV (kvs.map fun kv=>if kv.1 = k then (kv.1,y) else kv) (vs.map fun kv=>if kv.1 = k then (kv.1,u) else kv):=by
  unfold KV at r ⊢
  induction r with
  | nil=>exact .nil
  | @cons p q ps qs h t ih=>
    rw [yax,yax]
    refine .cons ?_ ih
    obtain ⟨h1,h2⟩:=h
    by_cases e : p.1 = k
    · rw [if_pos e,if_pos (h1.symm.trans e)]; exact ⟨h1,ry⟩
    · rw [if_neg e,if_neg (fun z=>e (h1.trans z))]; exact ⟨h1,h2⟩
theorem KV.put {kvs : List (κ×V)} {vs : List (κ×Value)} (r : KV kvs vs) (k : κ) {y : V} {u : Value} (ry : RelV y u) : KV (putK kvs k y) (stored vs k u):=by
  unfold putK stored
  rw [r.any k]
  by_cases e : (vs.any fun kv=>decide (kv.1 = k)) = true
  · rw [if_pos e,if_pos e]; exact r.repl k ry
  · rw [if_neg e,if_neg e]; exact Paired.snoc r ⟨rfl,ry⟩
theorem KV.length {kvs : List (κ×V)} {vs : List (κ×Value)} (r : KV kvs vs) : kvs.length = vs.length:=Paired.length r
end
theorem ziG {P : Program} {w : World} {k : Key} {u : Value} (r : RelV (kV k) u) : (zaH P w).is k u = true:=by
  cases k with
  | inl i=>obtain ⟨t,e⟩:=(show ∃ t,u = Value.int i t from r); subst e; exact ziA P w i t
  | inr x=>obtain ⟨t,e⟩:=(show ∃ t,u = Value.str x t from r); subst e; exact ziz P w x t
theorem zhY {P : Program} {w : World} : ∀ {ks : List Key} {us : List Value},Vals (ks.map kV) us→ItemsAre (zaH P w) ks us
  | [],_,r=>by rw [ybE] at r; cases r; exact .nil
  | k :: ks,_,r=>by
    rw [yax] at r
    cases r with
    | cons h t=>exact .cons (ziG h) (zhY t)
abbrev KT (H : Hp) : List (List Key×V)→List (List Key×Addr×Value)→Prop:=Paired fun p q=>p.1 = q.1∧H q.2.1 = some (.tup (p.1.map kV))∧RelV p.2 q.2.2
theorem KT.val {H : Hp} {kvs : List (List Key×V)} {xs : List (List Key×Addr×Value)} (r : KT H kvs xs) (k : List Key) : RelO (valV kvs k) ((atKey xs k).map (·.2)):=by
  induction r with
  | nil=>exact True.intro
  | @cons p q ps qs h t ih=>
    obtain ⟨h1,_,h2⟩:=h
    by_cases e : p.1 = k
    · have e' : q.1 = k:=h1.symm.trans e
      have b : atKey (q :: qs) k = some q.2:=by simp [atKey,ybC,e']
      rw [zaZ e,b]; exact h2
    · have e' : ¬ q.1 = k:=fun z=>e (h1.trans z)
      have b : atKey (q :: qs) k = atKey qs k:=by simp [atKey,ybC,e']
      rw [zaM e,b]; exact ih
theorem KT.repl {H : Hp} {kvs : List (List Key×V)} {xs : List (List Key×Addr×Value)} (r : KT H kvs xs) (k : List Key) {y : V} {u : Value} (ry : RelV y u) :
    KT H (kvs.map fun kv=>if kv.1 = k then (kv.1,y) else kv) (xs.map (putAt k u)):=by
  induction r with
  | nil=>exact .nil
  | @cons p q ps qs h t ih=>
    rw [yax,yax]
    refine .cons ?_ ih
    obtain ⟨h1,h2,h3⟩:=h
    unfold putAt
    by_cases e : p.1 = k
    · rw [if_pos e,if_pos (h1.symm.trans e)]; exact ⟨h1,h2,ry⟩
    · rw [if_neg e,if_neg (fun z=>e (h1.trans z))]; exact ⟨h1,h2,h3⟩
theorem KT.put {H : Hp} {kvs : List (List Key×V)} {xs : List (List Key×Addr×Value)} (r : KT H kvs xs) (k : List Key) {b : Addr} {y : V} {u : Value} (hb : H b = some (.tup (k.map kV))) (ry : RelV y u) :
    KT H (putK kvs k y) (storedH xs k b u):=by
  have e : (kvs.any fun kv=>decide (kv.1 = k)) = (atKey xs k).isSome:=by
    rw [zd6,(r.val k).isSome_eq,Option.isSome_map]
  unfold putK storedH
  rw [e]
  by_cases q : (atKey xs k).isSome = true
  · rw [if_pos q,if_pos q]; exact r.repl k ry
  · rw [if_neg q,if_neg q]; exact Paired.snoc r ⟨rfl,hb,ry⟩
theorem KT.keeps {H H' : Hp} {kvs : List (List Key×V)} {xs : List (List Key×Addr×Value)} (r : KT H kvs xs) (ht : ∀ b ys,H b = some (.tup ys)→H' b = some (.tup ys)) : KT H' kvs xs:=
  Paired.mapP r fun _ _ z=>⟨z.1,ht _ _ z.2.1,z.2.2⟩
section
variable {P : Program} {w : World} {H : Hp} {h : Heap} {a : Addr}
theorem zpG {u : HO} (ok : HOk P w H h) (e : Rd H a u) : zbI P w H h a u:=e.ok ok
theorem zkA {kvs : List (Key×V)} (ok : HOk P w H h) (e : Rd H a (.dK kvs)) : kvs.length≤sizeLine∧(a == sysModules) = false∧∃ vs,KV kvs vs∧h.DictOf (zaH P w) a vs:=
  show zbI P w H h a (.dK kvs) from zpG ok e
theorem zpc {kvs : List (Key×V)} (ok : HOk P w H h) (e : H a = some (.dK kvs)) : kvs.length≤sizeLine∧(a == sysModules) = false∧∃ vs,KV kvs vs∧h.DictOf (zaH P w) a vs:=zkA ok (.inl e)
theorem zhX {ks : List Key} (ok : HOk P w H h) (e : H a = some (.tup (ks.map kV))) : (tupleKind (zaH P w)).is h ks a:=by
  obtain ⟨_,its,r,o,h1,h2,n,h3⟩:=(show zbI P w H h a (.tup (ks.map kV)) from ok a _ e)
  exact ⟨o,its.toArray,n,h1,h2,h3,by simpa using zhY r⟩
theorem zky {kvs : List (List Key×V)} (ok : HOk P w H h) (e : Rd H a (.dT kvs)) : kvs.length≤sizeLine∧(a == sysModules) = false∧
    ∃ xs,KT H kvs xs∧h.DictOfH (tupleKind (zaH P w)) a xs:=by
  obtain ⟨z,y,xs,r,o,es,ep,h1,h2,h3,h4,h5⟩:=(show zbI P w H h a (.dT kvs) from zpG ok e)
  refine ⟨z,y,xs,r,o,es,ep,h1,h2,h3,h4,fun x hx=>?_,h5⟩
  have all : ∀ {l : List (List Key×V)} {m : List (List Key×Addr×Value)},KT H l m→∀ x∈m,(tupleKind (zaH P w)).is h x.1 x.2.1:=by
    intro l m q
    induction q with
    | nil=>intro x hx; exact nomatch hx
    | @cons p q ps qs hq t ih=>
      intro x hx
      rcases yal.mp hx with e | hx
      · subst e
        exact zhX ok (by rw [← hq.1]; exact hq.2.1)
      · exact ih x hx
  exact all r x hx
theorem zqX {kvs : List (List Key×V)} (ok : HOk P w H h) (e : H a = some (.dT kvs)) : kvs.length≤sizeLine∧(a == sysModules) = false∧
    ∃ xs,KT H kvs xs∧h.DictOfH (tupleKind (zaH P w)) a xs:=zky ok (.inl e)
end
def DGet (H : Hp) (a : Addr) (y : V) (r : Option V) : Prop:=
  (∃ kvs k,Rd H a (.dK kvs)∧y = kV k∧r = valV kvs k)∨∃ kvs k b,Rd H a (.dT kvs)∧y = .ref b∧H b = some (.tup (k.map kV))∧r = valV kvs k
def DPut (H : Hp) (a : Addr) (y v : V) (H' : Hp) : Prop:=
  (∃ kvs k,H a = some (.dK kvs)∧y = kV k∧kvs.length < sizeLine∧H' = upd H a (.dK (putK kvs k v)))∨
  ∃ kvs k b,H a = some (.dT kvs)∧y = .ref b∧H b = some (.tup (k.map kV))∧kvs.length < sizeLine∧H' = upd H a (.dT (putK kvs k v))
theorem DGet.k {H : Hp} {a : Addr} {kvs : List (Key×V)} {k : Key} (e : H a = some (.dK kvs)) : DGet H a (kV k) (valV kvs k):=.inl ⟨kvs,k,.inl e,rfl,rfl⟩
theorem DGet.t {H : Hp} {a b : Addr} {kvs : List (List Key×V)} {k : List Key} (e : H a = some (.dT kvs)) (eb : H b = some (.tup (k.map kV))) : DGet H a (.ref b) (valV kvs k):=.inr ⟨kvs,k,b,.inl e,rfl,eb,rfl⟩
theorem DPut.k {H : Hp} {a : Addr} {kvs : List (Key×V)} {k : Key} {v : V} (e : H a = some (.dK kvs)) (hl : kvs.length < sizeLine) : DPut H a (kV k) v (upd H a (.dK (putK kvs k v))):=.inl ⟨kvs,k,e,rfl,hl,rfl⟩
theorem DPut.t {H : Hp} {a b : Addr} {kvs : List (List Key×V)} {k : List Key} {v : V} (e : H a = some (.dT kvs)) (eb : H b = some (.tup (k.map kV))) (hl : kvs.length < sizeLine) :
    DPut H a (.ref b) v (upd H a (.dT (putK kvs k v))):=.inr ⟨kvs,k,b,e,rfl,eb,hl,rfl⟩
section
variable {X : Cx} {pins : List (Addr×Obj)} {σ : St} {H : Hp} {s : Shared} {a : Addr} {y v : V} {u r : Value} {o : Option V} {A : Around} {E : Value→Shared→Prop}
theorem Inv.big (I : Inv X pins σ H s) : sysModules < s.heap.objs.size:=by
  have h : mainGlobals < s.heap.objs.size:=(I.mod.glob.keeps I.bk).lt
  exact ybQ (by decide) h
theorem zmu {Q : Value→Shared→Prop} (hu : A.units + 1 < cLine) (I : Inv X pins σ H s) (g : DGet H a y (some v)) (ry : RelV y u) (h : ∀ w' s',Inv X pins σ H s'→RelV v w'→Q w' s') :
    wpAny (model X.prog X.w) A (getItem (.ref a) u) Q E s:=by
  rcases g with ⟨kvs,k,e,ey,l⟩ | ⟨kvs,k,b,e,ey,eb,l⟩
  · subst ey
    obtain ⟨z,hd,vs,rel,dd⟩:=zkA I.hok e
    obtain ⟨w',hw,rw'⟩:=RelO.some_of (v:=v) (o:=valueAt vs k) (by rw [l]; exact rel.val k)
    exact wpAny_getItem_of (ziG ry) dd.mapOf hw (h w' _ (I.tok _) rw')
  · subst ey
    cases (show u = Value.ref b from ry)
    obtain ⟨z,hd,xs,rel,dd⟩:=zky I.hok e
    obtain ⟨w',hw,rw'⟩:=RelO.some_of (v:=v) (o:=(atKey xs k).map (·.2)) (by rw [l]; exact rel.val k)
    obtain ⟨p,hp,hp2⟩:=ya4.mp hw
    refine wpAny_getItem_heap (tupleKind_room_in1 hu) (zhX I.hok eb) dd hp ?_
    rw [hp2]
    exact h w' _ (I.tok _) rw'
theorem d_in {Q : Value→Shared→Prop} (hu : A.units + 1 < cLine) (I : Inv X pins σ H s) (g : DGet H a y o) (ry : RelV y u) (h : ∀ s',Inv X pins σ H s'→Q (.bool o.isSome) s') :
    wpAny (model X.prog X.w) A (compareOp .In u (.ref a)) Q E s:=by
  rcases g with ⟨kvs,k,e,ey,l⟩ | ⟨kvs,k,b,e,ey,eb,l⟩
  · subst ey
    obtain ⟨z,hd,vs,rel,dd⟩:=zkA I.hok e
    refine wpAny_in_of (ziG ry) hd dd.mapOf ?_
    rw [← (rel.val k).isSome_eq,← l]
    exact h _ (I.tok _)
  · subst ey
    cases (show u = Value.ref b from ry)
    obtain ⟨z,hd,xs,rel,dd⟩:=zky I.hok e
    refine wpAny_in_heap (tupleKind_room_in1 hu) (zhX I.hok eb) hd dd ?_
    have q:=(rel.val k).isSome_eq
    rw [Option.isSome_map] at q
    rw [← q,← l]
    exact h _ (I.tok _)
theorem ziQ {h' : Heap} {t' : Nat} {ob : HO} (I : Inv X pins σ H s) (mu : Mut (H a)) (hs : Heap.SameBut a s.heap h') (he : ∃ q,h'.get? a = some q) (new : zbI X.prog X.w (upd H a ob) h' a ob) :
    Inv X pins σ (upd H a ob) { s with heap:=h',toks:=t' }:=
  I.write (x:=a) (e:=a) mu (.inl rfl) (fun b q hb z=>(hs.2 b hb).trans z) he new
theorem zoc {P : Program} {w : World} {H' : Hp} {h' : Heap} {kvs : List (Key×V)} {vs : List (Key×Value)} (z : kvs.length≤sizeLine) (hd : (a == sysModules) = false) (rel : KV kvs vs) (dd : h'.DictOf (zaH P w) a vs) :
    zbI P w H' h' a (.dK kvs):=⟨z,hd,vs,rel,dd⟩
theorem zmt {H' : Hp} {Q : Unit→Shared→Prop} (hu : A.units + 1 < cLine) (I : Inv X pins σ H s) (g : DPut H a y v H') (ry : RelV y u) (rv : RelV v r) (h : ∀ s',Inv X pins σ H' s'→Q () s') :
    wpAny (model X.prog X.w) A (setItem (.ref a) u r) Q E s:=by
  rcases g with ⟨kvs,k,e,ey,l,eH⟩ | ⟨kvs,k,b,e,ey,eb,l,eH⟩
  · subst ey eH
    obtain ⟨z,hd,vs,rel,dd⟩:=zpc I.hok e
    have hz : vs.length≤sizeLine:=by rw [← rel.length]; exact z
    have hl : (putK kvs k v).length≤sizeLine:=by have:=zcQ kvs k v; omega
    refine wpAny_setItem_pairs (hsz:=hz) (ziG ry) dd fun h' dd' hs=>h _ ?_
    have he : ∃ q,h'.get? a = some q:=let ⟨q,_,_,hq,_⟩:=dd'; ⟨q,hq⟩
    exact ziQ I (by rw [e]; exact True.intro) hs he (zoc hl hd (rel.put k rv) dd')
  · subst ey eH
    cases (show u = Value.ref b from ry)
    obtain ⟨z,hd,xs,rel,dd⟩:=zqX I.hok e
    have hz : xs.length≤sizeLine:=by rw [← Paired.length rel]; exact z
    have hl : (putK kvs k v).length≤sizeLine:=by have:=zcQ kvs k v; omega
    refine wpAny_setItem_heap (hsz:=hz) (tupleKind_room_in1 hu) (zhX I.hok eb) dd fun h' dd' hs=>h _ ?_
    obtain ⟨q,es,ep,hq,h2,h3,h4,_,h5⟩:=dd'
    refine ziQ I (by rw [e]; exact True.intro) hs ⟨q,hq⟩ ⟨hl,hd,_,(rel.put k eb rv).keeps fun c ys ec=>?_,q,es,ep,hq,h2,h3,h4,h5⟩
    rw [zaf (zp8 ec e (fun z=>nomatch z))]
    exact ec
end
def NoSl (i : Expr) : Prop:=∀ ov iv,subscripted i false ov iv = operate [ov,iv] (getItem ov iv)
theorem zov {prog : Program} {w : World} {A : Around} {E : Value→Shared→Prop} {s : Shared} {env : Env} {value slice : Expr} {pos : Pos} {T id : String} {Q : Value→Shared→Prop}
    (hl : typeLookup (.type T) "__getitem__" = pure (some (.builtin id))) (hs : NoSl slice)
    (h : wpAny (model prog w) A (eval value env) (fun o s₁=>wpAny (model prog w) A (eval slice env) (fun i s₂=>s₂.TypeIs o T∧wpAny (model prog w) A (getItem o i) Q E s₂) E s₁) E s) :
    wpAny (model prog w) A (eval (.Subscript value slice pos) env) Q E s:=by
  refine Subscript_ (wpAny_mono h (fun o s₁ h₁=>wpAny_mono h₁ (fun i s₂ h₂=>?_) fun _ _ x=>x) fun _ _ x=>x)
  obtain ⟨hT,h₂⟩:=h₂
  unfold subscriptTail
  refine wpAny_bind ?_
  rw [getitemInPython_of_ne hT.not_modules]
  refine wpAny_bind (wpAny_specialOf hT hl ?_)
  have fin : wpAny (model prog w) A (subscripted slice false o i) (fun r s₃=>wpAny (model prog w) A (letTemporaryGo value o r >>= fun _=>pure r) Q E s₃) E s₂:=by
    rw [hs o i]
    exact wpAny_operating (wpAny_mono h₂ (fun r s₃ h₃=>wpAny_bind (wpAny_letTemporaryGo (wpAny_pure h₃))) fun _ _ x=>x)
  first
    | exact wpAny_pure (wpAny_bind fin)
    | exact wpAny_bind (wpAny_pure (wpAny_bind fin))
    | exact wpAny_bind fin
theorem ziP {X : Cx} {pins : List (Addr×Obj)} {σ : St} {H : Hp} {s : Shared} {a : Addr} {y : V} {o : Option V} (I : Inv X pins σ H s) (g : DGet H a y o) : s.TypeIs (.ref a) "dict":=by
  rcases g with ⟨kvs,k,e,_,_⟩ | ⟨kvs,k,b,e,_,_,_⟩
  · obtain ⟨_,_,vs,_,dd⟩:=zkA I.hok e
    exact dd.typeIs
  · obtain ⟨_,_,xs,_,dd⟩:=zky I.hok e
    exact dd.typeIs
def zqH (td ty : TE) : TE:=fun σ H Q=>td σ H fun x H1=>ty σ H1 fun y H2=>∃ a v,x = .ref a∧DGet H2 a y (some v)∧Q v H2
def zqJ (td ty tv : TE) : TS:=fun D σ H=>tv σ H fun v H1=>td σ H1 fun x H2=>ty σ H2 fun y H3=>∃ a H4,x = .ref a∧DPut H3 a y v H4∧D.nx σ H4
section
variable {X : Cx} {o i e value : Expr} {pos pos' tpos : Pos} {td ty tv : TE}
theorem zcO (hu : X.A.units + 1 < cLine) (ho : PE X o td) (hi : PE X i ty) (hs : NoSl i) : PE X (.Subscript o i pos) (zqH td ty):=by
  intro pins s σ H Q I h
  refine zov PySem.F.slot_dict_getitem.lookup hs (thn (ho pins s σ H _ I h) fun u s1 ⟨x,H1,I1,rx,q1⟩=>thn (hi pins s1 σ H1 _ I1 q1) fun iv s2 ⟨y,H2,I2,ry,a,v,ex,g,q2⟩=>?_)
  subst ex
  obtain rfl : u = Value.ref a:=rx
  exact ⟨ziP I2 g,zmu hu I2 g ry fun w' s3 I3 rw'=>⟨v,H2,I3,rw',q2⟩⟩
theorem zdU (hu : X.A.units + 1 < cLine) (ho : PE X o td) (hi : PE X i ty) (hv : PE X value tv) (hs : swapsWith value (some (.Subscript o i pos')) pos.line X.env = pure false) :
    PS X (.Assign [.Subscript o i pos'] value pos) (zqJ td ty tv):=by
  intro pins s σ H D I h
  refine wpAny_Assign_Subscript (thn (hv pins s σ H _ I h) fun r s1 ⟨v,H1,I1,rv,q1⟩=>thn (ho pins s1 σ H1 _ I1 q1) fun u s2 ⟨x,H2,I2,rx,q2⟩=>thn (hi pins s2 σ H2 _ I2 q2) fun iv s3 ⟨y,H3,I3,ry,a,H4,ex,g,q3⟩=>?_) hs
  subst ex
  obtain rfl : u = Value.ref a:=rx
  exact zmt hu I3 g ry rv fun s4 I4=>⟨σ,H4,I4,q3⟩
end
theorem zjZ {P : Program} {w : World} {H : Hp} (h : Heap) (hb : sysModules < h.objs.size) : zbI P w H (h.push { cls:=.type "dict",data:=.dict #[] }) h.objs.size (.dK []):=
  ⟨yaA _,beq_eq_false_iff_ne.mpr (Ne.symm (yak hb)),[],.nil,Heap.DictOf.new h⟩
theorem znH {P : Program} {w : World} {H : Hp} (h : Heap) (hb : sysModules < h.objs.size) : zbI P w H (h.push { cls:=.type "dict",data:=.dict #[] }) h.objs.size (.dT []):=
  ⟨yaA _,beq_eq_false_iff_ne.mpr (Ne.symm (yak hb)),[],.nil,_,#[],0,yau _ rfl,⟨rfl,rfl,rfl⟩,rfl,rfl,ybn⟩
def zpq : TE:=fun _ H Q=>∀ p,H p = none→Q (.ref p) (upd H p (.dK []))
def zpp : TE:=fun _ H Q=>∀ p,H p = none→Q (.ref p) (upd H p (.dT []))
section
variable {X : Cx} {pos : Pos}
theorem zjx : PE X (.Dict [] [] pos) zpq:=fun pins s σ H Q I h=>
  wpAny_Dict_empty ⟨.ref s.heap.objs.size,_,I.laid (a:=s.heap.objs.size) (o:=.dK []) (t':=s.toks) (fun _ _ q=>yag _ q) (yaa _) (zjZ s.heap I.big),rfl,h _ (I.hok.fresh (yaa _))⟩
theorem zm4 : PE X (.Dict [] [] pos) zpp:=fun pins s σ H Q I h=>
  wpAny_Dict_empty ⟨.ref s.heap.objs.size,_,I.laid (a:=s.heap.objs.size) (o:=.dT []) (t':=s.toks) (fun _ _ q=>yag _ q) (yaa _) (znH s.heap I.big),rfl,h _ (I.hok.fresh (yaa _))⟩
end
def zk1 : List (TE×TE)→St→Hp→(List (V×V)→Hp→Prop)→Prop
  | [],_,H,Q=>Q [] H
  | (tk,tv) :: r,σ,H,Q=>tk σ H fun x H1=>tv σ H1 fun y H2=>zk1 r σ H2 fun ps H3=>Q ((x,y) :: ps) H3
abbrev VV : List (V×V)→List (Value×Value)→Prop:=Paired fun p q=>RelV p.1 q.1∧RelV p.2 q.2
def PPs (X : Cx) (pos : Pos) (keys : List (Option Expr)) (values : List Expr) (trs : List (TE×TE)) : Prop:=
  ∀ (pins : List (Addr×Obj)) (s : Shared) (σ : St) (H : Hp) (Q : List (V×V)→Hp→Prop),Inv X pins σ H s→zk1 trs σ H Q→
    wpAny (model X.prog X.w) X.A (evalPairs (pairTrees keys values X.env pos)) (fun vs s'=>∃ ps H',Inv X pins σ H' s'∧VV ps vs∧Q ps H') X.xe s
theorem zlk {X : Cx} {pos : Pos} : PPs X pos [] [] []:=fun pins s σ H Q I h=>pairTrees_nil_walk ⟨[],H,I,.nil,h⟩
theorem zfy {X : Cx} {pos : Pos} {k v : Expr} {ks : List (Option Expr)} {vs : List Expr} {tk tv : TE} {trs : List (TE×TE)} (hk : PE X k tk) (hv : PE X v tv) (hr : PPs X pos ks vs trs) :
    PPs X pos (some k :: ks) (v :: vs) ((tk,tv) :: trs):=fun pins s σ H Q I h=>
  pairTrees_cons_walk (thn (hk pins s σ H _ I h) fun u s1 ⟨x,H1,I1,rx,q1⟩=>thn (hv pins s1 σ H1 _ I1 q1) fun w2 s2 ⟨y,H2,I2,ry,q2⟩=>
    thn (hr pins s2 σ H2 _ I2 q2) fun ws s3 ⟨ps,H3,I3,rel,q3⟩=>⟨(x,y) :: ps,H3,I3,.cons ⟨rx,ry⟩ rel,q3⟩)
def zda (kvs more : List (Key×V)) : List (Key×V):=more.foldl (fun acc kv=>putK acc kv.1 kv.2) kvs
theorem KV.merge : ∀ {more : List (Key×V)} {rs : List (Key×Value)} {kvs : List (Key×V)} {vs : List (Key×Value)},KV more rs→KV kvs vs→KV (zda kvs more) (merged vs rs):=by
  intro more rs kvs vs r
  unfold KV at r
  induction r generalizing kvs vs with
  | nil=>intro q; exact q
  | @cons p q ps qs h t ih=>
    intro r0
    have e : KV (putK kvs p.1 p.2) (stored vs q.1 q.2):=by
      have:=r0.put p.1 h.2
      rw [← h.1]; exact this
    exact ih e
theorem zeA : ∀ (more kvs : List (Key×V)),(zda kvs more).length≤kvs.length + more.length
  | [],kvs=>by show kvs.length≤kvs.length + 0; omega
  | p :: r,kvs=>by
    have h1:=zeA r (putK kvs p.1 p.2)
    have h2:=zcQ kvs p.1 p.2
    show (zda (putK kvs p.1 p.2) r).length≤_
    rw [yaW]; omega
theorem zgL {P : Program} {w : World} : ∀ {kvs : List (Key×V)} {ws : List (Value×Value)},VV (kvs.map fun kv=>(kV kv.1,kv.2)) ws→∃ rs,Carries (zaH P w) ws rs∧KV kvs rs
  | [],_,r=>by rw [ybE] at r; cases r; exact ⟨[],True.intro,.nil⟩
  | p :: kvs,_,r=>by
    rw [yax] at r
    cases r with
    | @cons a b as bs h t=>
      obtain ⟨rs,c,q⟩:=zgL (P:=P) (w:=w) t
      obtain ⟨b1,b2⟩:=b
      exact ⟨(p.1,b2) :: rs,⟨ziG h.1,rfl,c⟩,.cons ⟨rfl,h.2⟩ q⟩
def zqG (trs : List (TE×TE)) : TE:=fun σ H Q=>∀ p,H p = none→zk1 trs σ (upd H p (.dK [])) fun ps H2=>H2 p = some (.dK [])∧∃ kvs : List (Key×V),ps = kvs.map (fun kv=>(kV kv.1,kv.2))∧kvs.length≤15∧Q (.ref p) (upd H2 p (.dK (zda [] kvs)))
theorem zlr {X : Cx} {pos : Pos} {keys : List (Option Expr)} {values : List Expr} {trs : List (TE×TE)} (h : PPs X pos keys values trs) (hall : keys.all (·.isSome) = true) (hl : keys.length = values.length) (h0 : keys≠[])
    (h15 : keys.length≤15) : PE X (.Dict keys values pos) (zqG trs):=by
  intro pins s σ H Q I q
  have hn:=I.hok.fresh (yaa s.heap.objs.size)
  have I1:=I.laid (a:=s.heap.objs.size) (o:=.dK []) (h':=s.heap.push { cls:=.type "dict",data:=.dict #[] }) (t':=s.toks) (fun _ _ q=>yag _ q) (yaa _) (zjZ s.heap I.big)
  refine wpAny_Dict_walk (knd:=zaH X.prog X.w) hall hl h0 h15 (thn (h pins _ σ _ _ I1 (q _ hn)) fun ws s2 ⟨ps,H2,I2,rel,e,kvs,ep,lk,q2⟩=>?_)
  subst ep
  obtain ⟨rs,c,rk⟩:=zgL (P:=X.prog) (w:=X.w) rel
  obtain ⟨z,hd,vs0,r0,dd⟩:=zpc I2.hok e
  cases r0
  refine ⟨rs,c,dd,fun h' dd' hs=>⟨.ref s.heap.objs.size,_,?_,rfl,q2⟩⟩
  have hz : (zda [] kvs).length≤sizeLine:=by
    have h1:=zeA kvs []
    rw [ybP] at h1
    rw [sizeLine_eq]; omega
  have he : ∃ q,h'.get? s.heap.objs.size = some q:=let ⟨q,_,_,hq,_⟩:=dd'; ⟨q,hq⟩
  exact ziQ I2 (by rw [e]; exact True.intro) hs he (zoc hz hd (rk.merge .nil) dd')
structure M2 (X : Cx) (o : Expr) (m : Str) (apos : Pos) (e f : Expr) (cpos : Pos) : Prop where
  base : attributeBase o m X.env (eval o X.env) = eval o X.env
  few : ((backTo cpos (starEach [e,f] X.env)).all (fun x=>!x.1) && (backToKw cpos (keywordEach [] X.env)).all (fun x=>x.1.isSome)
    && decide (([e,f] : List Expr).length + ([] : List Keyword).length + (if ([] : List Keyword).isEmpty then 0 else 1) < 30)) = true
  line : (apos.endLine == cpos.line) = true
  trees : backTo cpos (starEach [e,f] X.env) = [(false,eval e X.env),(false,eval f X.env)]
def IsD (H : Hp) (a : Addr) : Prop:=(∃ kvs,Rd H a (.dK kvs))∨∃ kvs,Rd H a (.dT kvs)
theorem zqk {X : Cx} {pins : List (Addr×Obj)} {σ : St} {H : Hp} {s : Shared} {a : Addr} (I : Inv X pins σ H s) (d : IsD H a) :
    s.TypeIs (.ref a) "dict"∧(∀ b,Value.ref a = .ref b→∃ ob,s.heap.get? b = some ob∧ob.dict = none)∧(a == sysModules) = false:=by
  rcases d with ⟨kvs,e⟩ | ⟨kvs,e⟩
  · obtain ⟨_,hd,vs,_,dd⟩:=zkA I.hok e
    refine ⟨dd.typeIs,fun b q=>?_,hd⟩
    cases q
    obtain ⟨ob,_,_,h1,h2,_⟩:=dd
    exact ⟨ob,h1,h2.2.1⟩
  · obtain ⟨_,hd,xs,_,dd⟩:=zky I.hok e
    refine ⟨dd.typeIs,fun b q=>?_,hd⟩
    cases q
    obtain ⟨ob,_,_,h1,h2,_⟩:=dd
    exact ⟨ob,h1,h2.2.1⟩
section
variable {X : Cx} {pins : List (Addr×Obj)} {σ : St} {H : Hp} {s : Shared} {a : Addr} {y d : V} {u r : Value} {o : Option V} {A : Around} {E : Value→Shared→Prop}
theorem zqs {Q : Value→Shared→Prop} (hu : A.units + 1 < cLine) (I : Inv X pins σ H s) (g : DGet H a y o) (ry : RelV y u) (rd : RelV d r) (h : ∀ w' s',Inv X pins σ H s'→RelV (o.getD d) w'→Q w' s') :
    wpAny (model X.prog X.w) A (call (.builtin "dict.get") [.ref a,u,r]) Q E s:=by
  rcases g with ⟨kvs,k,e,ey,l⟩ | ⟨kvs,k,b,e,ey,eb,l⟩
  · subst ey
    obtain ⟨z,hd,vs,rel,dd⟩:=zkA I.hok e
    refine call_meetsIn PySem.F.slot_dict_get dd.typeIs PySem.F.entry_dict_get (PySem.F.args_dict_get_3 _ _ _) (meets_dict_get_default (zaH X.prog X.w) a (ziG ry) hd r) ⟨_,dd.mapOf,h _ _ (I.tok _) ?_⟩
    rw [l]
    exact (rel.val k).getD rd
  · subst ey
    cases (show u = Value.ref b from ry)
    obtain ⟨z,hd,xs,rel,dd⟩:=zky I.hok e
    refine call_meetsIn PySem.F.slot_dict_get dd.typeIs PySem.F.entry_dict_get (PySem.F.args_dict_get_3 _ _ _) (meetsH_dict_get_default (tupleKind (zaH X.prog X.w)) a b hd r) ⟨tupleKind_room_in1 hu,k,xs,zhX I.hok eb,dd,h _ _ (I.tok _) ?_⟩
    rw [l]
    exact (rel.val k).getD rd
end
def zpr (td ty tx : TE) : TE:=fun σ H Q=>td σ H fun x H1=>∃ a,x = .ref a∧IsD H1 a∧ty σ H1 fun y H2=>tx σ H2 fun z H3=>∃ o,DGet H3 a y o∧Q (o.getD z) H3
section
variable {X : Cx} {o e f : Expr} {apos cpos : Pos} {td ty tx : TE}
theorem zm5 (hu : X.A.units + 1 < cLine) (ho : PE X o td) (he : PE X e ty) (hf : PE X f tx) (m : M2 X o "get" apos e f cpos) : PE X (.Call (.Attribute o "get" apos) [e,f] [] cpos) (zpr td ty tx):=by
  intro pins s σ H Q I h
  refine wpAny_Call_method m.base m.few m.line PySem.F.plainAttrs_dict PySem.F.slot_dict_get PySem.F.type_dict_get (thn (ho pins s σ H _ I h) fun u s1 ⟨x,H1,I1,rx,a,ex,d,q1⟩=>?_)
  subst ex
  obtain rfl : u = Value.ref a:=rx
  obtain ⟨t1,t2,_⟩:=zqk I1 d
  refine ⟨t1,t2,?_⟩
  rw [m.trees]
  refine Calls.callWith_builtin rfl (Calls.evalArgs_plain (Calls.spliced_cons (thn (he pins s1 σ H1 _ I1 q1) fun iv s2 ⟨y,H2,I2,ry,q2⟩=>
    Calls.spliced_cons (thn (hf pins s2 σ H2 _ I2 q2) fun fv s3 ⟨z,H3,I3,rz,ov,g,q3⟩=>Calls.spliced_nil ?_))))
  exact zqs hu I3 g ry rz fun w' s4 I4 rw'=>⟨_,H3,I4,rw',q3⟩
end
end L2
namespace Att
open PySem PySem.W PySem.Calls PyProof.Rows
theorem zfV {P : Params} {h : Heap} : ∀ (ns : List Int) (vs : List Value),WellAll P h vs (ns.map WData.int)→IntsAre vs ns:=by
  intro ns
  induction ns with
  | nil=>
    intro vs w
    rw [ybE] at w
    cases w
    exact .nil
  | cons n ns ih=>
    intro vs w
    rw [yax] at w
    cases w with
    | cons a b=>
      cases a
      exact .cons _ _ (ih _ b)
theorem zlg {l : OpenLaw} {n : Nat} (hn : l.most = some n) {P : Params} {h : Heap} {args : List WData} {vals : List Value}
    (hpre : l.row.toRowW.claim.pre args = true) (hwl : WellAll P h vals args) :
    ∃ a vs ns,vals = [Value.ref a]∧args = [WData.list (ns.map WData.int)]∧h.get? a = some { cls:=.type "list",data:=.seq vs.toArray }∧IntsAre vs ns∧ns.length≤n:=by
  have hsh : WShape.hasAll [] args [.list .int] = true:=(pre_splitW hpre).1
  have hc : l.pre.holds [] { args:=args } = true:=(pre_splitW hpre).2
  obtain ⟨d,r,rfl,h1,h2⟩:=hasAllW_cons hsh
  obtain rfl:=hasAllW_nil h2
  obtain ⟨xs,rfl,h3⟩:=hasW_list h1
  obtain ⟨ns,rfl⟩:=items_int h3
  have hlen : ns.length≤n:=by
    unfold OpenLaw.pre at hc
    have h4 : (WTm.not (.lt (.lit (.int (n : Int))) (.len (.arg 0)))).holds [] { args:=[.list (ns.map .int)] } = true:=by
      have h4:=(holds_andW hc).1
      rw [hn] at h4
      exact h4
    have h5:=condW_of h4 (w_not (w_lt w_lit (w_len_list (w_arg rfl))))
    rw [yab] at h5
    refine ybg fun q=>?_
    have q' : (n : Int) < ((ns.length : Nat) : Int):=by omega
    first
      | (rw [yan q'] at h5; exact absurd h5 (by decide))
      | (simp at h5; omega)
  cases hwl with
  | cons w1 w2=>
    cases w2
    cases w1 with
    | list ho hall=>exact ⟨_,_,ns,rfl,rfl,ho,zfV ns _ hall,hlen⟩
theorem zll (l : OpenLaw) (args : List WData) : l.row.toRowW.claim.post args (.bool true) args = true:=
  postW_of (r:=l.row.toRowW) (X:=(true == true))
    (show WShape.has [] (.bool true) .bool = true by first | rfl | decide | simp [WShape.has,WShape.arms,WShape.armsAll])
    (show (WTm.eq .res (.lit (.bool true))).value [] { args:=args,res:=some (.bool true),after:=args } = some (.bool (true == true)) from w_eq_bool (w_res rfl) w_lit) rfl
theorem attach_call {l : OpenLaw} {n : Nat} {q : Program} {loose : List Str} {XP : (Str→Option Value)→Heap→Prop} {YP : World→Heap→Prop} {d : DefRec}
    (hn : l.most = some n) (hdf : d.params.defaults = [])
    (call : ∀ (w : World) (s₀ s₁ : Shared) (mg mb : Str→Option Value) (fa : Addr) (o : Obj) (pm cd doc : Value) (a : Addr) (vs : List Value) (ns : List Int),
      Ground q loose [] XP w s₀ mg mb s₁.heap→YP w s₁.heap→
      s₁.heap.get? fa = some o→o.data = .func (docDef d.name d.params d.body d.scope pm cd doc)→s₁.heap.CodeRec cd d.name→mg d.name = some (.ref fa)→
      s₁.heap.get? a = some { cls:=.type "list",data:=.seq vs.toArray }→IntsAre vs ns→ns.length≤n→s₁.gens = #[]→
      codeAny (model l.prog w) callerA (.call (.ref fa) ⟨[.ref a],[]⟩) (fun r s'=>r = .ok (.ret (.bool true))∧OldK s₁.heap s'.heap∧s'.os = s₁.os∧AllBare s'.gens) s₁) :
    WalkO q loose XP YP l.row.toRowW d [] (fun f vs=>PySem.call f vs):=by
  intro w s₀ s₁ mg mb G Y fa o pm cd doc dV kV ho hd hcd hD hmg hg args vals as hpre hlay hrd hwl hlo
  obtain rfl : dV = .none:=Dflts.none hD hdf
  obtain rfl : kV = .none:=Dflts.noKw hD
  obtain ⟨a,vs,ns,rfl,rfl,hobj,hints,hlen⟩:=zlg hn hpre hwl
  refine enter_call (codeAny_mono (call w s₀ s₁ mg mb fa o pm cd doc a vs ns G Y ho (fd_plain hd) hcd hmg hobj hints hlen hg) fun r s' hq=>?_)
  obtain ⟨rfl,h2,h3,h4⟩:=hq
  exact ⟨.inl ⟨.bool true,.bool true,[],rfl,fun _=>rfl,.bool true,zll l _,fun _=>⟨List.Pairwise.nil,fun _ hm=>(nomatch hm)⟩⟩,h2,h3,h4⟩
end Att
namespace L2
open PySem PySem.Spec PyProof.Rows
theorem zhw : ∀ {vs : List Value} {ns : List Int},IntsAre vs ns→Vals (ns.map V.int) vs
  | _,_,.nil=>.nil
  | _,_,.cons n t h=>.cons ⟨t,rfl⟩ (zhw h)
end L2
namespace L2
open PySem PySem.Spec PyProof.Rows
def zcy (s : Stmt) : Arguments:=match s with
  | .FunctionDef _ a _ _ _ _ _ _ _ _=>a
  | _=>{ posonlyargs:=[],args:=[],vararg:=none,kwonlyargs:=[],kw_defaults:=[],kwarg:=none,defaults:=[] }
def zbG (s : Stmt) : List Stmt:=match s with
  | .FunctionDef _ _ b _ _ _ _ _ _ _=>b
  | _=>[]
def zaj (s : Stmt) : Scope:=match s with
  | .FunctionDef _ _ _ _ _ _ sc _ _ _=>sc
  | _=>{ kind:=.function,names:=[],isGenerator:=false,isCoroutine:=false }
abbrev CX0 : CXT:=fun _ _ _ _ _ _=>False
abbrev E0 : XK:=fun _ _ _=>False
theorem zpR {X : Cx} : zmM CX0 X E0:=fun _ _ _ _ _ _ _ h=>h.elim
structure Fun (K : Frag) (x qual : Str) (st : Stmt) (f : Addr) (fd : FuncData) : Prop where
  ex : ∃ (oc : Value) (od : Option Addr) (kV doc pm : Value) (an : Option Addr) (cdv ct : Value) (osl : Array (Option Value)),
    fd = fnOf x qual (zcy st) (zbG st) (zaj st) .none kV doc pm an cdv ct∧K.lookup f = some ⟨oc,od,.func fd,osl⟩∧codeIn K cdv qual = true
  kp : keepIn K (.ref f) = true
section
variable {P : Program} {w : World} {K : Frag} {mg : Str→Option Value} {base : Heap}
theorem Fun.ok {x qual : Str} {st : Stmt} {f : Addr} {fd : FuncData} {N ps : List Str} {k : Nat} {sp : Sp} (F : Fun K x qual st f fd) (S : zat N ps (zaj st)) (len : ∀ vs H Q E,sp vs H Q E→vs.length = ps.length)
    (hbody : ∀ (cdv : Value) (A : Around) (outer : List Env) (s : Shared) (H : Hp) (vs : List V) (Q : VK) (E : XK),Room k (A.deeper (envOfC qual (zaj st) s.heap.objs.size f cdv))→sp vs H Q E→
      ∃ t,PSs (cxOf CX0 P w K mg base N qual (zaj st) f cdv A outer s H E).nox (zbG st) t∧t { nx:=fun _ H'=>Q .non H',rt:=Q } (zcE N vs) H) : FnOk P w K mg base CX0 (k + 1) f fd ps sp:=by
  obtain ⟨oc,od,kV,doc,pm,an,cdv,ct,osl,rfl,lk,hcd⟩:=F.ex
  refine zqn lk hcd S len fun A outer s H vs Q E hr hsp=>?_
  obtain ⟨t,h,q⟩:=hbody cdv A outer s H vs Q E hr hsp
  exact ⟨t,h.nox,q⟩
theorem Fun.binds {x qual : Str} {st : Stmt} {f : Addr} {fd : FuncData} {ps : List Str} (F : Fun K x qual st f fd)
    (h : ∀ (kV doc pm : Value) (an : Option Addr) (cdv ct : Value) (us : List Value),us.length = ps.length→bindArgs (fnOf x qual (zcy st) (zbG st) (zaj st) .none kV doc pm an cdv ct) ⟨us,[]⟩ = pure (ps.zip us)) : zhu K fd ps []:=by
  obtain ⟨oc,od,kV,doc,pm,an,cdv,ct,osl,rfl,lk,hcd⟩:=F.ex
  exact .all (h kV doc pm an cdv ct)
theorem zmk {x qual : Str} {st : Stmt} {f : Addr} {oc : Value} {od an : Option Addr} {osl : Array (Option Value)} {kV doc pm cdv ct : Value} (l : K.lookup f = some ⟨oc,od,.func (fnOf x qual (zcy st) (zbG st) (zaj st) .none kV doc pm an cdv ct),osl⟩)
    (c : codeIn K cdv qual = true) (k : keepIn K (.ref f) = true) : Fun K x qual st f (fnOf x qual (zcy st) (zbG st) (zaj st) .none kV doc pm an cdv ct):=⟨⟨oc,od,kV,doc,pm,an,cdv,ct,osl,rfl,l,c⟩,k⟩
end
theorem zcY {A : Around} {k : Nat} (hr : Room k A) : A.units + 1 < cLine:=ya5 (ycq (by decide : 1≤64) _) hr.units
theorem zao {n : Nat} (h : n≤1000) : n < sizeLine:=ya5 h (by decide)
section
variable {X : Cx}
theorem pv (i : Nat) {x : Str} {pos : Pos} (hN : X.N[i]? = some x:=by rfl) (hv : Vis X.env.scope x:=by first | exact Or.inl rfl | exact Or.inr (Or.inl rfl) | exact Or.inr (Or.inr rfl)) (hd : (x == ("__debug__" : Str)) = false:=by decide)
    (hcd : (x == ("__classdict__" : Str)) = false:=by decide) : PE X (.Name x pos) (tVar i):=zpM hN hv hd hcd
end
theorem iteF {A B : Prop} (h : B) : if false = true then A else B:=by
  rw [if_neg yaz]
  exact h
theorem iteT {A B : Prop} (h : A) : if true = true then A else B:=by
  rw [if_pos rfl]
  exact h
theorem ite2 {c A B : Prop} [Decidable c] (h1 : c→A) (h2 : ¬ c→B) : if c then A else B:=by
  by_cases h : c
  · rw [if_pos h]
    exact h1 h
  · rw [if_neg h]
    exact h2 h
theorem zqQ {c A B : Prop} [Decidable c] (hc : c) (h : B) : if (!decide c) = true then A else B:=by
  rw [yan hc]
  exact iteF h
def Same (H H' : Hp) : Prop:=∀ b o,H b = some o→H' b = some o
theorem Same.trans {H H1 H2 : Hp} (a : Same H H1) (b : Same H1 H2) : Same H H2:=fun c o h=>b c o (a c o h)
theorem Same.free {H H' : Hp} (e : Same H H') {l : Addr} (h : H' l = Option.none) : H l = Option.none:=by
  cases q : H l with
  | none=>rfl
  | some o=>
    rw [e l o q] at h
    cases h
theorem Same.seq {K : Frag} {H H' : Hp} {a : Addr} {xs : List V} (e : Same H H') (h : SqL K H a xs) : SqL K H' a xs:=by
  rcases h with (h | ⟨o,h⟩) | h
  · exact .inl (.inl (e _ _ h))
  · exact .inl (.inr ⟨o,e _ _ h⟩)
  · exact .inr h
end L2
namespace Tim
open PySem PyProof.Rows
set_option autoImplicit false
section
variable {prog : Program} {w : World} {A : Around} {E : Value→Shared→Prop} {s : Shared} {κ : KeyKind} {kd : SortKind} {a₀ : Array Keyed}
def LtG (prog : Program) (w : World) (A : Around) (s : Shared) (κ : KeyKind) (kd : SortKind) : Prop:=
 ∀ (E : Value→Shared→Prop) (x y : Value) (a b : κ.α) (Q : Bool→Shared→Prop),κ.keyOf x = some a→κ.keyOf y = some b→Q (κ.blt a b) s→wpAny (model prog w) A (keyLt' kd x y) Q E s
def ky (κ : KeyKind) (p : Keyed) : κ.α:=(κ.keyOf p.1).getD κ.dflt
def kAt (κ : KeyKind) (xs : Array Keyed) (i : Nat) : κ.α:=match xs[i]? with
 | some p=>ky κ p
 | none=>κ.dflt
theorem ziH {xs : Array Keyed} {i : Nat} (h : i < xs.size) : kAt κ xs i = ky κ xs[i]:=by
 unfold kAt
 rw [ybt h]
def Up (κ : KeyKind) (xs : Array Keyed) (lo hi : Nat) : Prop:=∀ i j,lo≤i→i≤j→j < hi→κ.kle (kAt κ xs i) (kAt κ xs j)
end
end Tim
namespace Tim
open PySem PyProof.Rows
set_option autoImplicit false
section
variable {κ : KeyKind}
def le (κ : KeyKind) (x y : Keyed) : Prop:=κ.kle (ky κ x) (ky κ y)
abbrev SL (κ : KeyKind) (l : List Keyed) : Prop:=l.Pairwise (le κ)
theorem zoW {xs : Array Keyed} (h : Up κ xs 0 xs.size) : SL κ xs.toList:=by
 rw [SL,yaL]
 intro i j hi hj hij
 have hi' : i < xs.size:=by simpa using hi
 have hj' : j < xs.size:=by simpa using hj
 have:=h i j (yaA _) (by omega) hj'
 rw [ziH hi',ziH hj'] at this
 simpa [le] using this
variable {a b out : Array Keyed} {ia ib : Nat}
end
end Tim
namespace Tim
open PySem PyProof.Rows
set_option autoImplicit false
section
variable {κ : KeyKind}
def back (xs : Array Keyed) (lo : Nat) (m : Array Keyed) : Array Keyed:=m.toList.zipIdx.foldl (fun a (q : Keyed×Nat)=>a.setIfInBounds (lo + q.2) q.1) xs
end
end Tim
namespace Tim
open PySem PyProof.Rows
set_option autoImplicit false
section
variable {prog : Program} {w : World} {A : Around} {E : Value→Shared→Prop} {s : Shared} {κ : KeyKind} {kd : SortKind}
def zd3 (a : Addr) (h h' : Heap) : Prop:=∀ b o,b≠a→h.get? b = some o→h'.get? b = some o
def keyV (κ : KeyKind) (v : Value) : κ.α:=(κ.keyOf v).getD κ.dflt
theorem zik : ∀ vs : List Value,vs.zip vs = vs.map fun v=>(v,v)
 | []=>rfl
 | v :: vs=>by rw [ycr,zik vs,yax]
theorem zjA {vs : List Value} {p : Keyed} (h : p∈(pairsOf vs).toList) : p.1 = p.2∧p.1∈vs:=by
 have e : (pairsOf vs).toList = vs.zip vs:=by
  unfold pairsOf
  simp
 rw [e] at h
 rw [zik] at h
 obtain ⟨v,hv,rfl⟩:=yaF.mp h
 exact ⟨rfl,hv⟩
theorem zlt (vs : List Value) : (pairsOf vs).toList.map (·.2) = vs:=by
 have e : (pairsOf vs).toList = vs.zip vs:=by
  unfold pairsOf
  simp
 rw [e,zik,ybu]
 have z : ((fun x : Keyed=>x.2) ∘ fun v : Value=>(v,v)) = id:=rfl
 first
  | rw [z,List.map_id]
  | exact List.map_id vs
theorem zpT {vs : List Value} {xs : Array Keyed} (hp : xs.Perm (pairsOf vs)) (hU : Up κ xs 0 (pairsOf vs).size) :
  (xs.toList.map (·.2)).Perm vs∧(xs.toList.map (·.2)).Pairwise (fun x y=>κ.kle (keyV κ x) (keyV κ y)):=by
 have hpl:=ycs.mp hp
 refine ⟨?_,?_⟩
 ·have:=hpl.map (·.2)
  rwa [zlt] at this
 ·have hs : SL κ xs.toList:=zoW (by rw [hp.size_eq]; exact hU)
  refine ybv.mpr (hs.imp_of_mem fun {a b} ha hb hab=>?_)
  have ea:=(zjA (hpl.mem_iff.mp ha)).1
  have eb:=(zjA (hpl.mem_iff.mp hb)).1
  unfold le ky at hab
  unfold keyV
  rw [← ea,← eb]
  exact hab
theorem zfU {h : Heap} {a : Addr} {vs out : List Value} {n : Nat} (ho : h.get? a = some (seqObj "list" vs.toArray n)) : zd3 a h (sortedHeap h a vs out.toArray)∧∃ c,(sortedHeap h a vs out.toArray).get? a = some (seqObj "list" out.toArray c):=by
 unfold sortedHeap
 refine ⟨fun b o hb e=>(ya7 _ _ (Ne.symm hb)).trans (yag _ (yag _ ((ya7 _ _ (Ne.symm hb)).trans e))),?_⟩
 exact ⟨_,get?_update_seq (yag _ (yag _ (get?_update_seq ho (fun _=>#[])))) fun _=>out.toArray⟩
end
end Tim
namespace L2
open PySem PySem.Spec PyProof.Rows
structure DF (K : Frag) (mg : Str→Option Value) (x : Str) (st : Stmt) (ps : List Str) : Prop where
 ex : ∃ f fd,Fun K x x st f fd∧zhu K fd ps []∧mg x = some (.ref f)
structure FC (P : Program) (w : World) (K : Frag) (mg : Str→Option Value) (base : Heap) (k : Nat) (x : Str) (ps : List Str) (sp : Sp) : Prop where
 ex : ∃ f fd,FnOk P w K mg base CX0 k f fd ps sp∧zhu K fd ps []∧keepIn K (.ref f) = true∧mg x = some (.ref f)∧∃ oc od osl,K.lookup f = some ⟨oc,od,.func fd,osl⟩
theorem FC.at {P : Program} {w : World} {K : Frag} {mg : Str→Option Value} {base : Heap} {k : Nat} {x : Str} {ps : List Str} {sp : Sp} {f : Addr} {fd : FuncData} {oc : Value} {od : Option Addr} {osl : Array (Option Value)} (F : FC P w K mg base k x ps sp) (m : mg x = some (.ref f)) (l : K.lookup f = some ⟨oc,od,.func fd,osl⟩) : FnOk P w K mg base CX0 k f fd ps sp:=by
 obtain ⟨f',fd',ok,_,_,m',oc',od',osl',l'⟩:=F.ex
 rw [m] at m'
 cases m'
 rw [l] at l'
 cases l'
 exact ok
theorem DF.ok {P : Program} {w : World} {K : Frag} {mg : Str→Option Value} {base : Heap} {x : Str} {st : Stmt} {N ps : List Str} {k : Nat} {sp : Sp} (D : DF K mg x st ps) (S : zat N ps (zaj st)) (len : ∀ vs H Q E,sp vs H Q E→vs.length = ps.length)
  (hbody : ∀ (f : Addr) (cdv : Value) (A : Around) (outer : List Env) (s : Shared) (H : Hp) (vs : List V) (Q : VK) (E : XK),Room k (A.deeper (envOfC x (zaj st) s.heap.objs.size f cdv))→sp vs H Q E→
   ∃ t,PSs (cxOf CX0 P w K mg base N x (zaj st) f cdv A outer s H E).nox (zbG st) t∧t { nx:=fun _ H'=>Q .non H',rt:=Q } (zcE N vs) H) : FC P w K mg base (k + 1) x ps sp:=by
 obtain ⟨f,fd,F,b,m⟩:=D.ex
 exact ⟨f,fd,F.ok S len fun cdv A outer s H vs Q E hr h=>hbody f cdv A outer s H vs Q E hr h,b,F.kp,m,by
  obtain ⟨oc,od,kV,doc,pm,an,cdv,ct,osl,rfl,lk,hcd⟩:=F.ex
  exact ⟨oc,od,osl,lk⟩⟩
theorem zaI {X : Cx} {j k : Nat} {x : Str} {ps : List Str} {sp : Sp} {e : Expr} {es : List Expr} {t : TA} {p pos : Pos} (F : FC X.prog X.w X.K X.mg X.base j x ps sp) (hr : Room k X.A) (ha : PA X (e :: es) t) (hjk : j≤k:=by decide) (hg : Gl X x:=by rfl)
  (hdb : (x == ("__debug__" : Str)) = false:=by decide) (he : starEach (e :: es) X.env = (false,eval e X.env) :: starEach es X.env:=by rfl) (hpl : (backTo pos (starEach es X.env)).any (·.1) = false:=by rfl) : PE X (.Call (.Name x p) (e :: es) [] pos) (zpv sp [] E0 t):=by
 obtain ⟨f,fd,ok,b,kp,m,_⟩:=F.ex
 exact zoI ok (hr.mono hjk) hg m kp b .nil zpR ha hdb he hpl
def zqD (t u : TS) : TS:=fun D σ H=>∃ M : St→Hp→Prop,t { D with nx:=M } σ H∧∀ σ' H',M σ' H'→u D σ' H'
theorem zbp {X : Cx} {st : Stmt} {rest : List Stmt} {t u : TS} (h1 : PS X st t) (h2 : PSs X rest u) : PSs X (st :: rest) (zqD t u):=by
 intro pins s σ H D I h
 obtain ⟨M,h,hM⟩:=h
 refine wpAny_execs_cons (thn (h1 pins s σ H { D with nx:=M } I h) fun f s1 q=>?_)
 cases f with
 | next=>
  obtain ⟨σ',H',I',q⟩:=q
  exact h2 pins s1 σ' H' D I' (hM σ' H' q)
 | ret v=>exact q
 | brk=>exact q
 | cont=>exact q
def zqY (i j : Int) : Prop:=0 < j∧j < 2 ^ 4000
section
variable {X : Cx}
def zoB : V→List V→Hp→VK→Prop:=fun x xs H Q=>∃ i,x = .int i∧xs = []∧Q (.int (Builtin.Int.intBits i : Nat)) H
theorem zg8 : MtR X "int.bit_length" zoB:=by
 intro pins s σ H x xs v us Q I rx rv h
 obtain ⟨i,rfl,rfl,q⟩:=h
 obtain ⟨t,rfl⟩:=rx
 cases rv
 exact call_int_bit_length ⟨.int _,H,I.tok _,⟨_,rfl⟩,q⟩
end
theorem zqj {c A B : Prop} [Decidable c] (hc : ¬ c) (h : B) : if decide c = true then A else B:=by
 rw [yam hc]
 exact iteF h
theorem zqi {c A B : Prop} [Decidable c] (hc : c) (h : A) : if decide c = true then A else B:=by
 rw [yan hc]
 exact iteT h
def zcR (L : Addr) (a l : Int) : HO:=.dK [(.inr "script",.ref L),(.inr "at",.int a),(.inr "left",.int l)]
def Keep (d : Addr) (H H' : Hp) : Prop:=∀ b o,b≠d→H b = some o→H' b = some o
theorem Keep.refl (d : Addr) (H : Hp) : Keep d H H:=fun _ _ _ h=>h
theorem Keep.trans {d : Addr} {H H1 H2 : Hp} (a : Keep d H H1) (b : Keep d H1 H2) : Keep d H H2:=fun c o n h=>b c o n (a c o n h)
theorem Same.keep {d : Addr} {H H' : Hp} (s : Same H H') : Keep d H H':=fun b o _ h=>s b o h
structure LS (K : Frag) (L d : Addr) (H : Hp) : Prop where
 ex : ∃ (ns : List Int) (a l : Int),H d = some (zcR L a l)∧SqL K H L (ns.map V.int)
theorem zgR {K : Frag} {H H' : Hp} {L d : Addr} {xs : List V} {L' : Addr} {a l : Int} (hd : H d = some (zcR L' a l)) (k : Keep d H H') (h : SqL K H L xs) : SqL K H' L xs:=by
 have ne : ∀ o,H L = some o→(∀ kvs,o≠.dK kvs)→L≠d:=fun o e n z=>by
  rw [z,hd] at e
  cases e
  exact n _ rfl
 rcases h with (h | ⟨o,h⟩) | h
 ·exact .inl (.inl (k L _ (ne _ h (fun _ z=>nomatch z)) h))
 ·exact .inl (.inr ⟨o,k L _ (ne _ h (fun _ z=>nomatch z)) h⟩)
 ·exact .inr h
theorem LS.set {K : Frag} {d L : Addr} {H : Hp} {ns : List Int} {a l a' l' : Int} (hd : H d = some (zcR L a l)) (h : SqL K H L (ns.map V.int)) : LS K L d (upd H d (zcR L a' l'))∧Keep d H (upd H d (zcR L a' l')):=by
 have k : Keep d H (upd H d (zcR L a' l')):=fun b o n e=>by rw [zaf n]; exact e
 exact ⟨⟨ns,a',l',zac,zgR hd k h⟩,k⟩
theorem LS.same {K : Frag} {L d : Addr} {H H' : Hp} (s : LS K L d H) (k : Same H H') : LS K L d H':=by
 obtain ⟨ns,a,l,e,q⟩:=s.ex
 exact ⟨ns,a,l,k _ _ e,k.seq q⟩
theorem zak {H : Hp} {p : Addr} (h : H p = none) (o : HO) : Same H (upd H p o):=fun b u q=>by rw [zaf (zab q h)]; exact q
theorem LS.put {K : Frag} {L d p : Addr} {H0 H2 : Hp} {o : HO} (s : LS K L d H0) (hp : H0 p = none) (k : ∀ b o,b≠d→b≠p→H0 b = some o→H2 b = some o) (s2 : LS K L d H2) : LS K L d (upd H2 p o):=by
 obtain ⟨ns,a,l,e,q⟩:=s.ex
 obtain ⟨ns2,a2,l2,e2,_⟩:=s2.ex
 have hdp : d≠p:=zab e hp
 have go : ∀ u,H0 L = some u→(∀ kvs,u≠.dK kvs)→upd H2 p o L = some u:=fun u hu hn=>by
  have h1 : L≠p:=zab hu hp
  have h2 : L≠d:=fun z=>by
   rw [z,e] at hu
   cases hu
   exact hn _ rfl
  rw [zaf h1]
  exact k L u h2 h1 hu
 refine ⟨ns,a2,l2,by rw [zaf hdp]; exact e2,?_⟩
 rcases q with (h | ⟨ob,h⟩) | h
 ·exact .inl (.inl (go _ h (fun _ z=>nomatch z)))
 ·exact .inl (.inr ⟨ob,go _ h (fun _ z=>nomatch z)⟩)
 ·exact .inr h
section
variable {H : Hp} {d L : Addr} {a l : Int}
theorem zdP {x y : Str} (h : x≠y) : (Sum.inr x : Key)≠Sum.inr y:=fun z=>h (Sum.inr.inj z)
theorem zku (h : H d = some (zcR L a l)) : DGet H d (.str "script") (some (.ref L)):=.inl ⟨_,.inr "script",.inl h,rfl,by rw [zaZ rfl]⟩
theorem zqm (h : H d = some (zcR L a l)) : DGet H d (.str "at") (some (.int a)):=.inl ⟨_,.inr "at",.inl h,rfl,by rw [zaM (zdP (show ("script" : Str) ≠ "at" by decide +kernel)),zaZ rfl]⟩
theorem zhf (h : H d = some (zcR L a l)) : DGet H d (.str "left") (some (.int l)):=.inl ⟨_,.inr "left",.inl h,rfl,by rw [zaM (zdP (show ("script" : Str) ≠ "left" by decide +kernel)),zaM (zdP (show ("at" : Str) ≠ "left" by decide +kernel)),zaZ rfl]⟩
theorem zn4 {k : Key} {v : V} {kvs kvs' : List (Key×V)} (h : H d = some (.dK kvs)) (hl : kvs.length < sizeLine) (e : putK kvs k v = kvs') : DPut H d (kV k) v (upd H d (.dK kvs')):=by
 subst e
 exact DPut.k h hl
theorem zpK {a' : Int} (h : H d = some (zcR L a l)) : DPut H d (.str "at") (.int a') (upd H d (zcR L a' l)):=
 zn4 (k:=.inr "at") h (by show 3 < sizeLine; decide) (by
  unfold putK
  rw [if_pos (by simp)]
  simp only [yax,ybE,if_neg (zdP (show ("script" : Str) ≠ "at" by decide +kernel)),if_neg (zdP (show ("left" : Str) ≠ "at" by decide +kernel)),if_true])
theorem zju {l' : Int} (h : H d = some (zcR L a l)) : DPut H d (.str "left") (.int l') (upd H d (zcR L a l')):=
 zn4 (k:=.inr "left") h (by show 3 < sizeLine; decide) (by
  unfold putK
  rw [if_pos (by simp)]
  simp only [yax,ybE,if_neg (zdP (show ("script" : Str) ≠ "left" by decide +kernel)),if_neg (zdP (show ("at" : Str) ≠ "left" by decide +kernel)),if_true])
end
def zgp (K : Frag) : Sp:=fun vs H Q _=>∃ (d L : Addr) (m : Int),vs = [.ref d,.int m]∧(0 < m∧m < 1073741824)∧LS K L d H∧∀ (v : Int) (H' : Hp),0≤v→v < m→Keep d H H'→LS K L d H'→Q (.int v) H'
def zla : Sp:=fun vs H Q _=>∃ c k : Int,vs = [.int c,.int k]∧∀ v : Int,Q (.int v) H
def zle (K : Frag) : Sp:=fun vs H Q _=>∃ (L : Addr) (ns : List Int),vs = [.ref L]∧SqL K H L (ns.map V.int)∧∀ (d : Addr) (H' : Hp),H d = none→Same H H'→LS K L d H'→Q (.ref d) H'
theorem zqx {ns : List Int} {k : Int} (h : 0 < ns.length) : ∃ v : Int,atI (ns.map V.int) (k % (((ns.map V.int).length : Nat) : Int)) = some (.int v):=by
 have e : (ns.map V.int).length = ns.length:=yab _
 have h1 : (0 : Int) < (((ns.map V.int).length : Nat) : Int):=by rw [e]; omega
 have z0:=yb7 k (Int.ne_of_gt h1)
 have z1:=yb8 k h1
 generalize hj : k % (((ns.map V.int).length : Nat) : Int) = j at z0 z1
 rw [e] at z1
 have hk : j.toNat < ns.length:=by omega
 obtain ⟨n,rfl⟩ : ∃ n : Nat,j = (n : Int):=⟨j.toNat,by omega⟩
 have hn : n < ns.length:=by omega
 exact ⟨ns[n],zaV (by rw [yaj,yac hn]; rfl)⟩
end L2
namespace L2
open PySem PySem.Spec PyProof.Rows PySem.SeqAt
def Ext (H H' : Hp) : Prop:=∀ b o,H b = some o→(∀ kvs,o≠.dK kvs)→H' b = some o
theorem Same.ext {H H' : Hp} (s : Same H H') : Ext H H':=fun b o h _=>s b o h
theorem Keep.ext {d L : Addr} {a l : Int} {H H' : Hp} (k : Keep d H H') (h : H d = some (zcR L a l)) : Ext H H':=fun b o e n=>k b o (fun z=>by
 rw [z,h] at e
 cases e
 exact n _ rfl) e
theorem LS.ext {K : Frag} {L d : Addr} {H H' : Hp} (s : LS K L d H) (k : Keep d H H') : Ext H H':=by
 obtain ⟨ns,a,l,e,_⟩:=s.ex
 exact k.ext e
theorem LS.of_new {K : Frag} {L d : Addr} {H : Hp} (s : LS K L d H) {p : Addr} (hp : H p = none) (o : HO) : LS K L d (upd H p o):=s.same (zak hp o)
theorem SqL.ext {K : Frag} {H H' : Hp} {a : Addr} {xs : List V} (e : Ext H H') (h : SqL K H a xs) : SqL K H' a xs:=by
 rcases h with (h | ⟨o,h⟩) | h
 ·exact .inl (.inl (e _ _ h (fun _ z=>nomatch z)))
 ·exact .inl (.inr ⟨o,e _ _ h (fun _ z=>nomatch z)⟩)
 ·exact .inr h
theorem SqT.ext {K : Frag} {H H' : Hp} {a : Addr} {xs : List V} (e : Ext H H') (h : SqT K H a xs) : SqT K H' a xs:=by
 rcases h with (h | ⟨o,h⟩) | h
 ·exact .inl (.inl (e _ _ h (fun _ z=>nomatch z)))
 ·exact .inl (.inr ⟨o,e _ _ h (fun _ z=>nomatch z)⟩)
 ·exact .inr h
class Rep (α : Type) where
 dec : DecidableEq α
 depth : Nat
 has : Frag→Hp→α→V→Prop
 mono : ∀ {K : Frag} {H H' : Hp} {a : α} {v : V},Ext H H'→has K H a v→has K H' a v
 inj : ∀ {X : Cx} {pins : List (Addr×Obj)} {σ : St} {H : Hp} {s : Shared} {a b : α} {v : V},Inv X pins σ H s→has X.K H a v→has X.K H b v→a = b
 rc : ∀ {X : Cx} {pins : List (Addr×Obj)} {σ : St} {H : Hp} {s : Shared} {A : Around} {a b : α} {x y : V} {u v : Value},Inv X pins σ H s→A.units + depth < cLine→has X.K H a x→has X.K H b y→RelV x u→RelV y v→RcAt A s u v (dec a b).decide
 rn : ∀ {X : Cx} {pins : List (Addr×Obj)} {σ : St} {H : Hp} {s : Shared} {A : Around} {a b : α} {x y : V} {u v : Value},Inv X pins σ H s→A.units + depth < cLine→has X.K H a x→has X.K H b y→RelV x u→RelV y v→RcNeAt A s u v (!(dec a b).decide)
 eq : ∀ {X : Cx} {pins : List (Addr×Obj)} {σ : St} {H : Hp} {s : Shared} {A : Around} {a b : α} {x y : V} {u v : Value},Inv X pins σ H s→A.units + depth < cLine→has X.K H a x→has X.K H b y→RelV x u→RelV y v→EqAt A s u v (dec a b).decide
instance (priority:=low) repDec {α : Type} [Rep α] : DecidableEq α:=Rep.dec
theorem ziV {i j : Int} : (i == j) = (Int.instDecidableEq i j).decide:=by
 by_cases h : i = j
 ·subst h; simp
 ·rw [beq_eq_false_iff_ne.mpr h]; exact (yam h).symm
instance : Rep Int where
 dec:=Int.instDecidableEq
 depth:=0
 has:=fun _ _ i v=>v = .int i
 mono:=fun _ h=>h
 inj:=fun _ h1 h2=>V.int.inj (h1.symm.trans h2)
 rc:=fun _ _ h1 h2 r1 r2=>by
  subst h1 h2
  obtain ⟨t,rfl⟩:=r1
  obtain ⟨t',rfl⟩:=r2
  rw [← ziV]
  exact RcAt.int_int _ _ _ _
 rn:=fun _ _ h1 h2 r1 r2=>by
  subst h1 h2
  obtain ⟨t,rfl⟩:=r1
  obtain ⟨t',rfl⟩:=r2
  rw [← ziV]
  exact RcNeAt.int_int _ _ _ _
 eq:=fun _ _ h1 h2 r1 r2=>by
  subst h1 h2
  obtain ⟨t,rfl⟩:=r1
  obtain ⟨t',rfl⟩:=r2
  rw [← ziV]
  exact EqAt.int_int _ _ _ _
instance : Rep Bool where
 dec:=instDecidableEqBool
 depth:=0
 has:=fun _ _ i v=>v = .bl i
 mono:=fun _ h=>h
 inj:=fun _ h1 h2=>V.bl.inj (h1.symm.trans h2)
 rc:=fun {_ _ _ _ _ _ a b _ _ _ _} _ _ h1 h2 r1 r2=>by
  subst h1 h2
  cases r1
  cases r2
  have e : (a == b) = (instDecidableEqBool a b).decide:=by cases a <;> cases b <;> rfl
  rw [← e]
  exact RcAt.bool_bool _ _
 rn:=fun {_ _ _ _ _ _ a b _ _ _ _} _ _ h1 h2 r1 r2=>by
  subst h1 h2
  cases r1
  cases r2
  have e : (a == b) = (instDecidableEqBool a b).decide:=by cases a <;> cases b <;> rfl
  rw [← e]
  exact RcNeAt.bool_bool _ _
 eq:=fun {_ _ _ _ _ _ a b _ _ _ _} _ _ h1 h2 r1 r2=>by
  subst h1 h2
  cases r1
  cases r2
  have e : (a == b) = (instDecidableEqBool a b).decide:=by cases a <;> cases b <;> rfl
  rw [← e]
  exact EqAt.bool_bool _ _
def zal {α : Type} [Rep α] (K : Frag) (H : Hp) : List α→List V→Prop:=Paired (Rep.has K H)
section
variable {α : Type} [Rep α] {K : Frag} {H H' : Hp}
theorem zal.mono (e : Ext H H') : ∀ {as : List α} {xs : List V},zal K H as xs→zal K H' as xs
 | _,_,.nil=>.nil
 | _,_,.cons h t=>.cons (Rep.mono e h) (zal.mono e t)
theorem zal.length {as : List α} {xs : List V} (h : zal K H as xs) : as.length = xs.length:=Paired.length h
theorem zal.get : ∀ {as : List α} {xs : List V} {i : Nat} {x : V},zal K H as xs→xs[i]? = some x→∃ a,as[i]? = some a∧Rep.has K H a x
 | _,_,_,_,.nil,e=>by simp at e
 | _,_,0,_,.cons h _,e=>by simp at e; subst e; exact ⟨_,rfl,h⟩
 | _,_,i + 1,x,.cons _ t,e=>by
  obtain ⟨a,h1,h2⟩:=zal.get (i:=i) (x:=x) t (by simpa using e)
  exact ⟨a,by simpa using h1,h2⟩
theorem zal.append : ∀ {as bs : List α} {xs ys : List V},zal K H as xs→zal K H bs ys→zal K H (as ++ bs) (xs ++ ys)
 | _,_,_,_,.nil,s=>s
 | _,_,_,_,.cons r t,s=>.cons r (zal.append t s)
theorem zal.one {a : α} {x : V} (h : Rep.has K H a x) : zal K H [a] [x]:=.cons h .nil
theorem zal.ints : ∀ {ns : List Int},zal K H ns (ns.map V.int)
 | []=>.nil
 | _ :: _=>.cons rfl zal.ints
theorem zal.toInts : ∀ {ns : List Int} {xs : List V},zal K H ns xs→xs = ns.map V.int
 | [],_,.nil=>rfl
 | n :: ns,_,.cons h t=>by
  have e : _ = V.int n:=h
  rw [e,zal.toInts t]
  rfl
theorem zal.inj {X : Cx} {pins : List (Addr×Obj)} {σ : St} {s : Shared} (I : Inv X pins σ H s) : ∀ {as bs : List α} {xs : List V},zal X.K H as xs→zal X.K H bs xs→as = bs
 | _,_,_,.nil,.nil=>rfl
 | _,_,_,.cons h t,.cons h' t'=>by rw [Rep.inj I h h',zal.inj I t t']
end
theorem ze3 {α : Type} [DecidableEq α] : ∀ (as bs : List α),as.length = bs.length→((List.range as.length).all fun j=>decide (as[j]? = bs[j]?)) = decide (as = bs):=by
 intro as bs hl
 by_cases h : as = bs
 ·subst h
  simp
 ·rw [yam h,List.all_eq_false]
  false_or_by_contra
  rename_i z
  apply h
  apply ybc
  intro i
  by_cases hi : i < as.length
  ·false_or_by_contra
   rename_i q
   exact z ⟨i,yaQ.mpr hi,by simpa using q⟩
  ·rw [yaM (by omega),yaM (by omega)]
section
variable {α : Type} [r : Rep α]
theorem zcD {A : Around} : A.in1.units≤A.units + 1:=by
 first
  | exact yaa _
  | (unfold Around.in1; simp)
theorem zfA {X : Cx} {pins : List (Addr×Obj)} {σ : St} {H : Hp} {s : Shared} {A : Around} {as bs : List α} {xs ys : List V} {us vs : List Value} (I : Inv X pins σ H s) (hu : A.units + Rep.depth α < cLine)
  (h1 : zal X.K H as xs) (h2 : zal X.K H bs ys) (r1 : Vals xs us) (r2 : Vals ys vs) : ∀ j (q1 : j < us.toArray.size) (q2 : j < vs.toArray.size),EqAt A s us.toArray[j] vs.toArray[j] (decide (as[j]? = bs[j]?)):=by
 intro j q1 q2
 have l1:=r1.length
 have l2:=r2.length
 have m1:=h1.length
 have m2:=h2.length
 have j1 : j < us.length:=by simpa using q1
 have j2 : j < vs.length:=by simpa using q2
 obtain ⟨a,ea,ha⟩:=h1.get (i:=j) (yac (by omega))
 obtain ⟨b,eb,hb⟩:=h2.get (i:=j) (yac (by omega))
 obtain ⟨u,eu,ru⟩:=r1.get (i:=j) (yac (by omega))
 obtain ⟨v,ev,rv⟩:=r2.get (i:=j) (yac (by omega))
 have gu : us.toArray[j] = u:=by
  have : us[j]? = some us[j]:=yac j1
  rw [eu] at this
  simpa using (yaf this).symm
 have gv : vs.toArray[j] = v:=by
  have : vs[j]? = some vs[j]:=yac j2
  rw [ev] at this
  simpa using (yaf this).symm
 rw [gu,gv,ea,eb]
 have e : decide (some a = some b) = (Rep.dec a b).decide:=by
  by_cases z : a = b
  ·subst z; simp
  ·rw [yam (fun q=>z (yaf q))]; exact (yam z).symm
 rw [e]
 exact Rep.eq I hu ha hb ru rv
end
def hasL {α : Type} [Rep α] (K : Frag) (H : Hp) (as : List α) (v : V) : Prop:=∃ a xs,v = .ref a∧SqL K H a xs∧zal K H as xs
section
variable {α : Type} [r : Rep α] {X : Cx} {pins : List (Addr×Obj)} {σ : St} {H : Hp} {s : Shared} {A : Around} {as bs : List α} {x y : V} {u v : Value}
theorem znD (I : Inv X pins σ H s) (h1 : hasL X.K H as x) (h2 : hasL X.K H bs x) : as = bs:=by
 obtain ⟨a,xs,rfl,q1,h1⟩:=h1
 obtain ⟨b,ys,e,q2,h2⟩:=h2
 cases e
 rw [I.list_inj q2 q1] at h2
 exact h1.inj I h2
theorem zmg (I : Inv X pins σ H s) (hu : A.units + (Rep.depth α + 1) < cLine) (h1 : hasL X.K H as x) (h2 : hasL X.K H bs y) (r1 : RelV x u) (r2 : RelV y v) : RcAt A s u v (decide (as = bs)):=by
 obtain ⟨a,xs,rfl,q1,h1⟩:=h1
 obtain ⟨b,ys,rfl,q2,h2⟩:=h2
 cases r1
 cases r2
 obtain ⟨us,ru,pu,_⟩:=I.list q1
 obtain ⟨vs,rv,pv,_⟩:=I.list q2
 have l1:=ru.length
 have l2:=rv.length
 have m1:=h1.length
 have m2:=h2.length
 have hin : A.in1.units + Rep.depth α < cLine:=ya5 (ybF zcD _) (by omega)
 by_cases hl : as.length = bs.length
 ·have e:=ze3 as bs hl
  rw [← e]
  have z : as.length = us.toArray.size:=by simp; omega
  rw [z]
  exact RcAt.lists pu.isList pv.isList (by simp; omega) (by omega) (zfA I hin h1 h2 ru rv)
 ·rw [yam (fun z=>hl (by rw [z]))]
  exact RcAt.lists_lengths pu.isList pv.isList (by simp; omega) (by omega)
theorem zo2 (I : Inv X pins σ H s) (hu : A.units + (Rep.depth α + 1) < cLine) (h1 : hasL X.K H as x) (h2 : hasL X.K H bs y) (r1 : RelV x u) (r2 : RelV y v) : RcNeAt A s u v (!decide (as = bs)):=by
 obtain ⟨a,xs,rfl,q1,h1⟩:=h1
 obtain ⟨b,ys,rfl,q2,h2⟩:=h2
 cases r1
 cases r2
 obtain ⟨us,ru,pu,_⟩:=I.list q1
 obtain ⟨vs,rv,pv,_⟩:=I.list q2
 have l1:=ru.length
 have l2:=rv.length
 have m1:=h1.length
 have m2:=h2.length
 have hin : A.in1.units + Rep.depth α < cLine:=ya5 (ybF zcD _) (by omega)
 by_cases hl : as.length = bs.length
 ·have e:=ze3 as bs hl
  rw [← e]
  have z : as.length = us.toArray.size:=by simp; omega
  rw [z]
  exact RcNeAt.lists pu.isList pv.isList (by simp; omega) (by omega) (zfA I hin h1 h2 ru rv)
 ·rw [yam (fun z=>hl (by rw [z])),Bool.not_false]
  exact RcNeAt.lists_lengths pu.isList pv.isList (by simp; omega) (by omega)
theorem zo3 (I : Inv X pins σ H s) (hu : A.units + (Rep.depth α + 1) < cLine) (h1 : hasL X.K H as x) (h2 : hasL X.K H bs y) (r1 : RelV x u) (r2 : RelV y v) : EqAt A s u v (decide (as = bs)):=by
 have rc:=zmg (A:=A) I hu h1 h2 r1 r2
 obtain ⟨a,xs,rfl,q1,h1⟩:=h1
 obtain ⟨b,ys,rfl,q2,h2⟩:=h2
 cases r1
 cases r2
 by_cases hab : a = b
 ·subst hab
  rw [I.list_inj q2 q1] at h2
  rw [yan (h1.inj I h2)]
  exact EqAt.same _
 ·exact EqAt.of_refs hab rc
end
instance {α : Type} [Rep α] : Rep (List α) where
 dec:=inferInstance
 depth:=Rep.depth α + 1
 has:=hasL
 mono:=fun e ⟨a,xs,h1,h2,h3⟩=>⟨a,xs,h1,h2.ext e,h3.mono e⟩
 inj:=fun I h1 h2=>znD I h1 h2
 rc:=fun I hu h1 h2 r1 r2=>zmg I hu h1 h2 r1 r2
 rn:=fun I hu h1 h2 r1 r2=>zo2 I hu h1 h2 r1 r2
 eq:=fun I hu h1 h2 r1 r2=>zo3 I hu h1 h2 r1 r2
def hasP {α β : Type} [Rep α] [Rep β] (K : Frag) (H : Hp) (p : α×β) (v : V) : Prop:=∃ a x y,v = .ref a∧H a = some (.tup [x,y])∧Rep.has K H p.1 x∧Rep.has K H p.2 y
section
variable {α β : Type} [ra : Rep α] [rb : Rep β] {X : Cx} {pins : List (Addr×Obj)} {σ : St} {H : Hp} {s : Shared} {A : Around} {p q : α×β} {x y : V} {u v : Value}
theorem zjT (I : Inv X pins σ H s) (h1 : hasP X.K H p x) (h2 : hasP X.K H q x) : p = q:=by
 obtain ⟨a,x1,x2,rfl,q1,e1,e2⟩:=h1
 obtain ⟨b,y1,y2,e,q2,f1,f2⟩:=h2
 cases e
 have z:=I.tuple_inj (SqT.of q2) (SqT.of q1)
 cases z
 have g1:=Rep.inj I e1 f1
 have g2:=Rep.inj I e2 f2
 obtain ⟨p1,p2⟩:=p
 obtain ⟨s1,s2⟩:=q
 cases g1
 cases g2
 rfl
theorem zmf (I : Inv X pins σ H s) (hu : A.units + (Rep.depth α + Rep.depth β + 1) < cLine) (h1 : hasP X.K H p x) (h2 : hasP X.K H q y) (r1 : RelV x u) (r2 : RelV y v) : RcAt A s u v (decide (p = q)):=by
 obtain ⟨a,x1,x2,rfl,q1,e1,e2⟩:=h1
 obtain ⟨b,y1,y2,rfl,q2,f1,f2⟩:=h2
 cases r1
 cases r2
 obtain ⟨us,ru,pu,_⟩:=I.tuple (SqT.of q1)
 obtain ⟨vs,rv,pv,_⟩:=I.tuple (SqT.of q2)
 obtain ⟨u1,u2,rfl,ru1,ru2⟩:=zhx ru
 obtain ⟨v1,v2,rfl,rv1,rv2⟩:=zhx rv
 have hin : ∀ n,n≤Rep.depth α + Rep.depth β→A.in1.units + n < cLine:=fun n hn=>ya5 (ybF zcD _) (by omega)
 have c1:=Rep.eq (A:=A.in1) I (hin _ (by omega)) e1 f1 ru1 rv1
 have c2:=Rep.eq (A:=A.in1) I (hin _ (by omega)) e2 f2 ru2 rv2
 have:=RcAt.tuples (A:=A) (s:=s) (l:=a) (b:=b) (items:=#[u1,u2]) (items2:=#[v1,v2]) (e:=fun j=>if j = 0 then (Rep.dec p.1 q.1).decide else (Rep.dec p.2 q.2).decide) pu pv (by omega) (by
  intro j h1 h2
  have h1' : j < 2:=h1
  have z : j = 0∨j = 1:=by omega
  rcases z with rfl | rfl
  ·exact c1
  ·exact c2)
 have e : ((List.range (min (#[u1,u2] : Array Value).size (#[v1,v2] : Array Value).size)).all (fun j=>if j = 0 then (Rep.dec p.1 q.1).decide else (Rep.dec p.2 q.2).decide) && (#[u1,u2] : Array Value).size == (#[v1,v2] : Array Value).size) = decide (p = q):=by
  obtain ⟨p1,p2⟩:=p
  obtain ⟨s1,s2⟩:=q
  show (((List.range 2).all fun j=>if j = 0 then (Rep.dec p1 s1).decide else (Rep.dec p2 s2).decide) && true) = _
  rw [show List.range 2 = [0,1] from rfl]
  simp only [yb5,List.all_nil,Bool.and_true,if_true]
  rw [if_neg (by decide)]
  by_cases z1 : p1 = s1
  ·by_cases z2 : p2 = s2
   ·subst z1 z2; simp
   ·subst z1; simp [z2]
  ·simp [z1]
 rw [e] at this
 exact this
theorem zo0 (I : Inv X pins σ H s) (hu : A.units + (Rep.depth α + Rep.depth β + 1) < cLine) (h1 : hasP X.K H p x) (h2 : hasP X.K H q y) (r1 : RelV x u) (r2 : RelV y v) : RcNeAt A s u v (!decide (p = q)):=by
 obtain ⟨a,x1,x2,rfl,q1,e1,e2⟩:=h1
 obtain ⟨b,y1,y2,rfl,q2,f1,f2⟩:=h2
 cases r1
 cases r2
 obtain ⟨us,ru,pu,_⟩:=I.tuple (SqT.of q1)
 obtain ⟨vs,rv,pv,_⟩:=I.tuple (SqT.of q2)
 obtain ⟨u1,u2,rfl,ru1,ru2⟩:=zhx ru
 obtain ⟨v1,v2,rfl,rv1,rv2⟩:=zhx rv
 have hin : ∀ n,n≤Rep.depth α + Rep.depth β→A.in1.units + n < cLine:=fun n hn=>ya5 (ybF zcD _) (by omega)
 have c1:=Rep.eq (A:=A.in1) I (hin _ (by omega)) e1 f1 ru1 rv1
 have c2:=Rep.eq (A:=A.in1) I (hin _ (by omega)) e2 f2 ru2 rv2
 have:=RcNeAt.tuples (A:=A) (s:=s) (l:=a) (b:=b) (items:=#[u1,u2]) (items2:=#[v1,v2]) (e:=fun j=>if j = 0 then (Rep.dec p.1 q.1).decide else (Rep.dec p.2 q.2).decide) pu pv (by omega) (by
  intro j h1 h2
  have h1' : j < 2:=h1
  have z : j = 0∨j = 1:=by omega
  rcases z with rfl | rfl
  ·exact c1
  ·exact c2)
 have e : ((List.range (min (#[u1,u2] : Array Value).size (#[v1,v2] : Array Value).size)).all (fun j=>if j = 0 then (Rep.dec p.1 q.1).decide else (Rep.dec p.2 q.2).decide) && (#[u1,u2] : Array Value).size == (#[v1,v2] : Array Value).size) = decide (p = q):=by
  obtain ⟨p1,p2⟩:=p
  obtain ⟨s1,s2⟩:=q
  show (((List.range 2).all fun j=>if j = 0 then (Rep.dec p1 s1).decide else (Rep.dec p2 s2).decide) && true) = _
  rw [show List.range 2 = [0,1] from rfl]
  simp only [yb5,List.all_nil,Bool.and_true,if_true]
  rw [if_neg (by decide)]
  by_cases z1 : p1 = s1
  ·by_cases z2 : p2 = s2
   ·subst z1 z2; simp
   ·subst z1; simp [z2]
  ·simp [z1]
 rw [e] at this
 exact this
theorem zo1 (I : Inv X pins σ H s) (hu : A.units + (Rep.depth α + Rep.depth β + 1) < cLine) (h1 : hasP X.K H p x) (h2 : hasP X.K H q y) (r1 : RelV x u) (r2 : RelV y v) : EqAt A s u v (decide (p = q)):=by
 have rc:=zmf (A:=A) I hu h1 h2 r1 r2
 have h1':=id h1
 have h2':=id h2
 obtain ⟨a,x1,x2,rfl,q1,e1,e2⟩:=h1
 obtain ⟨b,y1,y2,rfl,q2,f1,f2⟩:=h2
 cases r1
 cases r2
 by_cases hab : a = b
 ·subst hab
  rw [yan (zjT I h1' h2')]
  exact EqAt.same _
 ·exact EqAt.of_refs hab rc
end
instance {α β : Type} [Rep α] [Rep β] : Rep (α×β) where
 dec:=inferInstance
 depth:=Rep.depth α + Rep.depth β + 1
 has:=hasP
 mono:=fun e ⟨a,x,y,h1,h2,h3,h4⟩=>⟨a,x,y,h1,e _ _ h2 (fun _ z=>nomatch z),Rep.mono e h3,Rep.mono e h4⟩
 inj:=fun I h1 h2=>zjT I h1 h2
 rc:=fun I hu h1 h2 r1 r2=>zmf I hu h1 h2 r1 r2
 rn:=fun I hu h1 h2 r1 r2=>zo0 I hu h1 h2 r1 r2
 eq:=fun I hu h1 h2 r1 r2=>zo1 I hu h1 h2 r1 r2
theorem huD {A : Around} {k : Nat} {α : Type} [Rep α] (hr : Room k A) (h : Rep.depth α≤64:=by decide) : A.units + Rep.depth α < cLine:=ya5 (ycq h _) hr.units
def rEqD (α : Type) [Rep α] (K : Frag) : R2:=fun x y H Q=>∃ a b : α,Rep.has K H a x∧Rep.has K H b y∧Q (.bl (decide (a = b))) H
def rNeD (α : Type) [Rep α] (K : Frag) : R2:=fun x y H Q=>∃ a b : α,Rep.has K H a x∧Rep.has K H b y∧Q (.bl (!decide (a = b))) H
section
variable {X : Cx}
theorem zpZ (α : Type) [Rep α] (hu : X.A.units + Rep.depth α < cLine) : OpR X (compareOp .Eq) (rEqD α X.K):=by
 intro pins s σ H x y v u Q I rx ry h
 obtain ⟨a,b,ha,hb,q⟩:=h
 refine Rep.rc I hu ha hb rx ry X.prog X.w X.xe _ ⟨.bl _,H,I,rfl,?_⟩
 have e : (Rep.dec a b).decide = decide (a = b):=rfl
 rw [e]
 exact q
theorem zpW (α : Type) [Rep α] (hu : X.A.units + Rep.depth α < cLine) : OpR X (compareOp .NotEq) (rNeD α X.K):=by
 intro pins s σ H x y v u Q I rx ry h
 obtain ⟨a,b,ha,hb,q⟩:=h
 refine Rep.rn I hu ha hb rx ry X.prog X.w X.xe _ ⟨.bl _,H,I,rfl,?_⟩
 have e : (Rep.dec a b).decide = decide (a = b):=rfl
 rw [e]
 exact q
end
end L2
namespace L2
open PySem PySem.Spec PyProof.Rows
section
variable {X : Cx} {pins : List (Addr×Obj)} {σ : St} {H : Hp} {s : Shared} {h' : Heap}
theorem Inv.turnedNew {t' : Nat} {fp : List Addr} {p : Addr} {o : HO} (I : Inv X pins σ H s) (k : ∀ b ob,b∉fp→s.heap.get? b = some ob→h'.get? b = some ob) (hf : ∀ b∈fp,FpOk X pins H b)
  (hp : s.heap.objs.size≤p) (new : zbI X.prog X.w (upd H p o) h' p o) : Inv X pins σ (upd H p o) { s with heap:=h',toks:=t' }:=by
 have hn : H p = none:=I.hok.fresh hp
 have nfp : ∀ b u,H b = some u→b∉fp:=fun b u e z=>by rw [(hf b z).1] at e; cases e
 have nep : ∀ b ob,s.heap.get? b = some ob→b≠p:=fun b ob e=>yak (yat (yae e) hp)
 refine I.step (g':=s.gens) (d':=s.drawn) (ch:=fp) (fun b hb=>?_) (fun b ob _ _ hc e _=>k b ob hc e) (fun b ob _ _ hc e _=>⟨ob.slots,k b ob hc e⟩) (fun b ob _ e n=>by rw [zaf (nep b ob e)]; exact n)
  (fun b ob hc e=>⟨ob,k b ob hc e⟩) (fun b xs e=>by rw [zaf (zab e hn)]; exact e) (fun b ob u e=>by rw [zaf (zab e hn)]; exact e) (fun b ps e=>⟨#[],by rw [zaf (zab e hn),e]; simp⟩) (fun m hm=>?_) (fun b u e=>?_) I.bare
 ·obtain ⟨_,h2,_,h4,h5,h6⟩:=hf b hb
  exact ⟨h4,h2,h5,h6⟩
 ·obtain ⟨ob,es,ep,ho,r⟩:=hm
  exact ⟨ob,es,ep,k _ ob (fun z=>(hf _ z).2.1 rfl) ho,r⟩
 ·by_cases hb : b = p
  ·subst hb; rw [zac] at e; cases e; exact new
  ·rw [zaf hb] at e
   refine (I.hok b u e).stay (fun c v hc q=>k c v ?_ q) (fun c q=>by rw [zaf (zab q hn)]; exact q) fun c xs q=>by rw [zaf (zab q hn)]; exact q
   rcases hc with z | z
   ·rw [z]; exact nfp b u e
   ·exact nfp c _ z
theorem zkV {P : Program} {w : World} {H : Hp} {h : Heap} {p : Addr} {x y : V} {u v : Value} (rx : RelV x u) (ry : RelV y v) (e : h.get? p = some { cls:=.type "tuple",data:=.seq #[u,v] }) : zbI P w H h p (.tup [x,y]):=
 ⟨by show 2≤sizeLine; decide,[u,v],.cons rx (.cons ry .nil),_,e,rfl,0,rfl⟩
end
def Ite (K : Frag) (a : Addr) : It:=
 ⟨fun i H=>∃ xs x,SqL K H a xs∧xs[i]? = some x,fun i H x H'=>∃ p y,x = .ref p∧H p = none∧(∀ xs,SqL K H a xs→xs[i]? = some y)∧H' = upd H p (.tup [.int i,y]),fun i H=>∃ xs,SqL K H a xs∧xs.length≤i⟩
theorem zkS {P : Program} {w : World} {K : Frag} {es : List Expr} {k0} {pos : Pos} (a it e : Addr) (hne : e≠it) : Turn P w K (.Tuple es k0 pos) (Ite K a) [e,it] e (fun i h=>(∃ old,IsEnum h e it i old)∧h.IsListIter it a i) where
 mem:=by simp
 obj:=fun i h st b hb=>by
  obtain ⟨⟨old,he⟩,o,ho,c,d⟩:=st
  rcases yal.mp hb with z | z
  ·subst z
   exact ⟨_,he,fun v z=>by cases z⟩
  ·have z:=yap.mp z
   subst z
   exact ⟨o,ho,fun v z=>by rw [d] at z; cases z⟩
 keep:=fun i h h' st k=>by
  obtain ⟨⟨old,he⟩,hi⟩:=st
  exact ⟨⟨old,k e (by simp) _ he⟩,hi.at fun o q=>k it (by simp) o q⟩
 item:=by
  intro X hP hw hK hc i pins s σ H E I hf st hg
  subst hP hw hK
  obtain ⟨⟨old,he⟩,hi⟩:=st
  obtain ⟨xs,x,hq,hx⟩:=hg
  obtain ⟨its,rv,p,hz⟩:=I.list hq
  obtain ⟨u,hu,ru⟩:=rv.get hx
  refine wpAny_pyNext_enum_item he hi p.isList (x:=u) (by simpa using hu) hne fun h1 he1 hi1 ht1 _ k1=>?_
  refine ⟨_,rfl,wpAny_letOwnedTupleGo_enum (s:={ s with heap:=h1,toks:=s.toks + 1 }) he1 fun h2 he2 sb=>?_⟩
  have np : s.heap.objs.size≠e:=ybe (yae he)
  have ht2 : h2.get? s.heap.objs.size = some { cls:=.type "tuple",data:=.seq #[.int i s.toks,u] }:=(sb.2 _ np).trans ht1
  have I2 : Inv X pins σ (upd H s.heap.objs.size (.tup [.int i,x])) { s with heap:=h2,toks:=s.toks + 1 }:=
   I.turnedNew (fp:=[e,it]) (fun b ob hb q=>(sb.2 b (fun z=>hb (by simp [z]))).trans (k1 b ob (fun z=>hb (by simp [z])) (fun z=>hb (by simp [z])) q)) hf (yaa _) (zkV ⟨_,rfl⟩ ru ht2)
  refine ⟨.ref s.heap.objs.size,_,I2,rfl,⟨_,x,rfl,I.hok.fresh (yaa _),fun ys hy=>by rw [I.list_inj hy hq]; exact hx,rfl⟩,⟨⟨u,?_⟩,?_⟩,fun b hb=>?_⟩
  ·have z : IsEnum h2 e it ((i : Int) + 1) u:=he2
   exact z
  ·exact hi1.at fun o q=>(sb.2 it (Ne.symm hne)).trans q
  ·have z:=(hf b hb).1
   rw [zaf ?_]
   ·exact z
   ·rcases yal.mp hb with q | q
    ·rw [q]; exact Ne.symm np
    ·rw [yap.mp q]
     obtain ⟨o,ho,_⟩:=hi
     exact yak (yae ho)
 done:=by
  intro X hP hw hK hc i pins s σ H E I hf st hg
  subst hP hw hK
  obtain ⟨⟨old,he⟩,hi⟩:=st
  obtain ⟨xs,hq,hx⟩:=hg
  obtain ⟨its,rv,p,hz⟩:=I.list hq
  obtain ⟨f0,f1,f2,f3,f4,f5⟩:=hf it (by simp)
  have hl:=rv.length
  exact wpAny_pyNext_enum_end (I.ok.hd hc) he hi p.isList (by simp; omega) fun h' eb=>⟨rfl,I.turned (t':=s.toks) (fun b o hb q=>eb b o hb q) f0 f1 f3 f4 f5⟩
 self:=fun _ _ _ _ _ st h=>by
  obtain ⟨⟨old,he⟩,_⟩:=st
  exact wpAny_pyIter_enum he h
def zqV (K : Frag) (ta : TA) : TI:=fun σ H R=>ta σ H fun vs H1=>∃ a,vs = [.ref a]∧(∃ xs,SqL K H1 a xs)∧R (Ite K a) H1
section
variable {X : Cx}
theorem zc4 {es : List Expr} {k0} {tp : Pos} {a : Expr} {ta : TA} {p pos : Pos} (hg : Gl X "enumerate") (hm : X.mg "enumerate" = none) (ha : PA X [a] ta) (hs : starEach [a] X.env = [(false,eval a X.env)]:=by rfl) : PI X (.Tuple es k0 tp) (.Call (.Name "enumerate" p) [a] [] pos) (zqV X.K ta):=by
 intro pins s σ H R I h
 refine Call_ (zfa I hg hm boot_enumerate (PyProof.Rows.callWith_type1 (thn (ha pos pins s σ H _ I h) fun us s1 ⟨vs,H1,I1,r1,q1⟩=>?_) hs rfl))
 obtain ⟨l,e,⟨xs,hq⟩,q⟩:=q1
 subst e
 cases r1 with
 | cons r rr=>
  cases rr
  cases r
  obtain ⟨its,rv,pl,hz⟩:=I1.list hq
  refine call_enumerate_list pl.isList fun h' he hi _ hk=>?_
  have I2 : Inv X pins σ H1 { s1 with heap:=h' }:=I1.kept (t':=s1.toks) hk
  refine wpAny_pyIter_enum (s:={ s1 with heap:=h' }) he ⟨_,[s1.heap.objs.size + 1,s1.heap.objs.size],_,_,H1,rfl,I2,zkS l s1.heap.objs.size (s1.heap.objs.size + 1) (Nat.succ_ne_self _),⟨⟨_,he⟩,hi⟩,fun b hb=>?_,q⟩
  have hb' : s1.heap.objs.size≤b:=by
   rcases yal.mp hb with z | z
   ·rw [z]; exact yaN _
   ·rw [yap.mp z]; exact yaa _
  exact I1.fpOk hb' (I1.hok.fresh hb')
end
theorem zhg {K : Frag} {a : Addr} {xs : List V} {g : TG} {tb : TS} {D : Ends} {σ : St} {H : Hp} (Pv : Nat→St→Hp→Prop) (h0 : Pv 0 σ H) (hl : ∀ i σ H,i≤xs.length→Pv i σ H→SqL K H a xs)
  (hs : ∀ i x σ H p,xs[i]? = some x→Pv i σ H→H p = none→g (.ref p) σ (upd H p (.tup [.int i,x])) fun σ2 H2=>tb { D with nx:=Pv (i + 1),ct:=Pv (i + 1),bk:=D.nx } σ2 H2) (hd : ∀ σ H,Pv xs.length σ H→D.nx σ H) :
  ∃ W : Nat→Nat→St→Hp→Prop,(∃ m,W 0 m σ H)∧∀ i m σ H,W i m σ H→((Ite K a).stop i H∧D.nx σ H)∨((Ite K a).go i H∧∃ N : St→Hp→Prop,(∀ σ' H',N σ' H'→∃ m',m' < m∧W (i + 1) m' σ' H')∧∀ x H',(Ite K a).yld i H x H'→g x σ H' fun σ2 H2=>tb { D with nx:=N,ct:=N,bk:=D.nx } σ2 H2):=by
 refine ⟨fun i m σ H=>i + m = xs.length∧Pv i σ H,⟨xs.length,by omega,h0⟩,fun i m σ H ⟨e,pv⟩=>?_⟩
 have hS:=hl i σ H (by omega) pv
 by_cases hi : i < xs.length
 ·refine .inr ⟨⟨xs,xs[i],hS,yac hi⟩,Pv (i + 1),fun σ' H' q=>⟨m - 1,by omega,by omega,q⟩,fun x H' y=>?_⟩
  obtain ⟨p,z,rfl,hp,hz,rfl⟩:=y
  exact hs i z σ H p (hz xs hS) pv hp
 ·have : i = xs.length:=by omega
  subst this
  exact .inl ⟨⟨xs,hS,yaa _⟩,hd σ H pv⟩
def Itz (K : Frag) (a b : Addr) : It:=
 ⟨fun i H=>∃ xs ys x y,SqL K H a xs∧SqL K H b ys∧xs[i]? = some x∧ys[i]? = some y,fun i H x H'=>∃ p y z,x = .ref p∧H p = none∧(∀ xs,SqL K H a xs→xs[i]? = some y)∧(∀ xs,SqL K H b xs→xs[i]? = some z)∧H' = upd H p (.tup [y,z]),fun i H=>∃ xs ys,SqL K H a xs∧SqL K H b ys∧(xs.length≤i∨ys.length≤i)⟩
theorem zmS {P : Program} {w : World} {K : Frag} {es : List Expr} {k0} {pos : Pos} {a b z TI TO i1 i2 : Addr} (D : ZipApart z TI TO i1 i2 a b) : Turn P w K (.Tuple es k0 pos) (Itz K a b) [z,TI,TO,i1,i2] z
  (fun i h=>IsZip h z TI TO .none∧IsPair h TI (.ref i1) (.ref i2)∧(∃ u v,IsPair h TO u v)∧h.IsListIter i1 a i∧h.IsListIter i2 b i) where
 mem:=by simp
 obj:=fun i h st c hc=>by
  obtain ⟨hz,hTI,⟨u,v,hTO⟩,⟨o1,e1,_,d1⟩,⟨o2,e2,_,d2⟩⟩:=st
  simp only [yal,yaY,or_false] at hc
  rcases hc with rfl | rfl | rfl | rfl | rfl
  ·exact ⟨_,hz,fun v q=>by cases q⟩
  ·exact ⟨_,hTI,fun v q=>by cases q⟩
  ·exact ⟨_,hTO,fun v q=>by cases q⟩
  ·exact ⟨o1,e1,fun v q=>by rw [d1] at q; cases q⟩
  ·exact ⟨o2,e2,fun v q=>by rw [d2] at q; cases q⟩
 keep:=fun i h h' st k=>by
  obtain ⟨hz,hTI,⟨u,v,hTO⟩,h1,h2⟩:=st
  exact ⟨k z (by simp) _ hz,k TI (by simp) _ hTI,⟨u,v,k TO (by simp) _ hTO⟩,h1.at fun o q=>k i1 (by simp) o q,h2.at fun o q=>k i2 (by simp) o q⟩
 item:=by
  intro X hP hw hK hc i pins s σ H E I hf st hg
  subst hP hw hK
  obtain ⟨hz,hTI,⟨u0,v0,hTO⟩,h1,h2⟩:=st
  obtain ⟨xs,ys,x,y,hqa,hqb,hx,hy⟩:=hg
  obtain ⟨its,rv,p,_⟩:=I.list hqa
  obtain ⟨jts,rw',p',_⟩:=I.list hqb
  obtain ⟨u,hu,ru⟩:=rv.get hx
  obtain ⟨v,hv,rv'⟩:=rw'.get hy
  refine wpAny_pyNext_zip_item D hz hTI hTO h1 h2 p.isList p'.isList (x:=u) (y:=v) (by simpa using hu) (by simpa using hv) fun h1' hz1 hTO1 hi1 hi2 ht1 _ k1=>?_
  refine ⟨_,rfl,wpAny_letOwnedTupleGo_zip (s:={ s with heap:=h1' }) hz1 fun h2' hz2 sb=>?_⟩
  have np : s.heap.objs.size≠z:=ybe (yae hz)
  have ht2 : h2'.get? s.heap.objs.size = some { cls:=.type "tuple",data:=.seq #[u,v] }:=(sb.2 _ np).trans ht1
  have I2 : Inv X pins σ (upd H s.heap.objs.size (.tup [x,y])) { s with heap:=h2',toks:=s.toks }:=
   I.turnedNew (fp:=[z,TI,TO,i1,i2]) (fun c ob hb q=>(sb.2 c (fun r=>hb (by simp [r]))).trans (k1 c ob (fun r=>hb (by simp [r])) (fun r=>hb (by simp [r])) (fun r=>hb (by simp [r])) (fun r=>hb (by simp [r])) q)) hf (yaa _) (zkV ru rv' ht2)
  refine ⟨.ref s.heap.objs.size,_,I2,rfl,⟨_,x,y,rfl,I.hok.fresh (yaa _),fun ys hy'=>by rw [I.list_inj hy' hqa]; exact hx,fun ys hy'=>by rw [I.list_inj hy' hqb]; exact hy,rfl⟩,⟨hz2,(sb.2 _ D.TIz).trans (k1 TI _ D.TIz D.TITO D.TIi1 D.TIi2 hTI),⟨_,_,(sb.2 _ D.TOz).trans hTO1⟩,hi1.at fun o q=>(sb.2 i1 D.i1z).trans q,hi2.at fun o q=>(sb.2 i2 D.i2z).trans q⟩,fun c hb=>?_⟩
  have zf:=(hf c hb).1
  have lt : c < s.heap.objs.size:=by
   simp only [yal,yaY,or_false] at hb
   obtain ⟨o1,e1,_⟩:=h1
   obtain ⟨o2,e2,_⟩:=h2
   rcases hb with rfl | rfl | rfl | rfl | rfl
   ·exact yae hz
   ·exact yae hTI
   ·exact yae hTO
   ·exact yae e1
   ·exact yae e2
  rw [zaf (yak lt)]
  exact zf
 done:=by
  intro X hP hw hK hc i pins s σ H E I hf st hg
  subst hP hw hK
  obtain ⟨hz,hTI,⟨u0,v0,hTO⟩,h1,h2⟩:=st
  obtain ⟨xs,ys,hqa,hqb,hend⟩:=hg
  obtain ⟨its,rv,p,_⟩:=I.list hqa
  obtain ⟨jts,rw',p',_⟩:=I.list hqb
  have l1:=rv.length
  have l2:=rw'.length
  refine wpAny_pyNext_zip_end (I.ok.hd hc) D hz hTI hTO h1 h2 p.isList p'.isList (by
   rcases hend with q | q
   ·left; simp; omega
   ·right; simp; omega) fun h' kk=>⟨rfl,?_⟩
  refine I.step (g':=s.gens) (d':=s.drawn) (t':=s.toks) (ch:=[z,TI,TO,i1,i2]) (fun c hb=>?_) (fun c ob _ _ hn q _=>kk c ob (fun r=>hn (by simp [r])) (fun r=>hn (by simp [r])) (fun r=>hn (by simp [r])) (fun r=>hn (by simp [r])) q)
   (fun c ob _ _ hn q _=>⟨ob.slots,kk c ob (fun r=>hn (by simp [r])) (fun r=>hn (by simp [r])) (fun r=>hn (by simp [r])) (fun r=>hn (by simp [r])) q⟩) (fun _ _ _ _ n=>n)
   (fun c ob hn q=>⟨ob,kk c ob (fun r=>hn (by simp [r])) (fun r=>hn (by simp [r])) (fun r=>hn (by simp [r])) (fun r=>hn (by simp [r])) q⟩) (fun _ _ q=>q) (fun _ _ _ q=>q) (fun c ps q=>⟨#[],by rw [q]; simp⟩) (fun m hm=>?_) (fun c u e=>?_) I.bare
  ·obtain ⟨_,q2,_,q4,q5,q6⟩:=hf c hb
   exact ⟨q4,q2,q5,q6⟩
  ·obtain ⟨ob,es,ep,ho,r⟩:=hm
   have nL : ∀ c∈[z,TI,TO,i1,i2],X.env.locals≠c:=fun c hc=>Ne.symm (hf c hc).2.1
   exact ⟨ob,es,ep,kk _ ob (nL z (by simp)) (nL TO (by simp)) (nL i1 (by simp)) (nL i2 (by simp)) ho,r⟩
  ·have nf : ∀ c' u,H c' = some u→∀ q∈[z,TI,TO,i1,i2],c'≠q:=fun c' u e q hq r=>by rw [r,(hf q hq).1] at e; cases e
   refine (I.hok c u e).stay (fun c' v hc' q=>?_) (fun _ q=>q) fun _ _ q=>q
   have go : ∀ u',H c' = some u'→h'.get? c' = some v:=fun u' e'=>kk c' v (nf c' _ e' z (by simp)) (nf c' _ e' TO (by simp)) (nf c' _ e' i1 (by simp)) (nf c' _ e' i2 (by simp)) q
   rcases hc' with r | r
   ·exact go u (by rw [r]; exact e)
   ·exact go _ r
 self:=fun _ _ _ _ _ st h=>wpAny_pyIter_zip st.1 h
theorem zkH {l l' n : Nat} (hl : l < n) (hl' : l' < n) : ZipApart (n + 4) (n + 2) (n + 3) n (n + 1) l l':=by
 constructor <;> (intro z; have z' : (_ : Nat) = _:=z; omega)
theorem zpn {n c : Nat} (h : c∈[n + 4,n + 2,n + 3,n,n + 1]) : n≤c:=by
 simp only [yal,yaY,or_false] at h
 omega
def iZip (K : Frag) (ta : TA) : TI:=fun σ H R=>ta σ H fun vs H1=>∃ a b,vs = [.ref a,.ref b]∧(∃ xs,SqL K H1 a xs)∧(∃ xs,SqL K H1 b xs)∧R (Itz K a b) H1
section
variable {X : Cx}
theorem zlp {es : List Expr} {k0} {tp : Pos} {a b : Expr} {ta : TA} {p pos : Pos} (hg : Gl X "zip") (hm : X.mg "zip" = none) (ha : PA X [a,b] ta) (hs : starEach [a,b] X.env = [(false,eval a X.env),(false,eval b X.env)]:=by rfl) (hs2 : starEach [b] X.env = [(false,eval b X.env)]:=by rfl) : PI X (.Tuple es k0 tp) (.Call (.Name "zip" p) [a,b] [] pos) (iZip X.K ta):=by
 intro pins s σ H R I h
 refine Call_ (zfa I hg hm boot_zip (PyProof.Rows.callWith_type1 (thn (ha pos pins s σ H _ I h) fun us s1 ⟨vs,H1,I1,r1,q1⟩=>?_) (by rw [hs,hs2]) (by rw [hs2]; rfl)))
 obtain ⟨l,l',e,⟨xs,hq⟩,⟨ys,hq'⟩,q⟩:=q1
 subst e
 cases r1 with
 | cons r rr=>
  cases rr with
  | cons r' rr=>
   cases rr
   cases r
   cases r'
   obtain ⟨its,rv,pl,hz⟩:=I1.list hq
   obtain ⟨jts,rv',pl',hz'⟩:=I1.list hq'
   have hl : l < s1.heap.objs.size:=by obtain ⟨o,_,e,_⟩:=pl; exact yae e
   have hl' : l' < s1.heap.objs.size:=by obtain ⟨o,_,e,_⟩:=pl'; exact yae e
   refine call_zip_2 pl.isList pl'.isList fun h' hz hTI hTO hi hi' _ hk=>?_
   have I2 : Inv X pins σ H1 { s1 with heap:=h' }:=I1.kept (t':=s1.toks) hk
   refine wpAny_pyIter_zip (s:={ s1 with heap:=h' }) hz ⟨_,[s1.heap.objs.size + 4,s1.heap.objs.size + 2,s1.heap.objs.size + 3,s1.heap.objs.size,s1.heap.objs.size + 1],_,_,H1,rfl,I2,zmS (zkH hl hl'),⟨hz,hTI,⟨_,_,hTO⟩,hi,hi'⟩,fun c hb=>?_,q⟩
   have hb' : s1.heap.objs.size≤c:=zpn hb
   exact I1.fpOk hb' (I1.hok.fresh hb')
end
theorem zo6 {K : Frag} {a b : Addr} {xs ys : List V} {g : TG} {tb : TS} {D : Ends} {σ : St} {H : Hp} (hlen : xs.length = ys.length) (Pv : Nat→St→Hp→Prop) (h0 : Pv 0 σ H) (hl : ∀ i σ H,i≤xs.length→Pv i σ H→SqL K H a xs∧SqL K H b ys)
  (hs : ∀ i x y σ H p,xs[i]? = some x→ys[i]? = some y→Pv i σ H→H p = none→g (.ref p) σ (upd H p (.tup [x,y])) fun σ2 H2=>tb { D with nx:=Pv (i + 1),ct:=Pv (i + 1),bk:=D.nx } σ2 H2) (hd : ∀ σ H,Pv xs.length σ H→D.nx σ H) :
  ∃ W : Nat→Nat→St→Hp→Prop,(∃ m,W 0 m σ H)∧∀ i m σ H,W i m σ H→((Itz K a b).stop i H∧D.nx σ H)∨((Itz K a b).go i H∧∃ N : St→Hp→Prop,(∀ σ' H',N σ' H'→∃ m',m' < m∧W (i + 1) m' σ' H')∧∀ x H',(Itz K a b).yld i H x H'→g x σ H' fun σ2 H2=>tb { D with nx:=N,ct:=N,bk:=D.nx } σ2 H2):=by
 refine ⟨fun i m σ H=>i + m = xs.length∧Pv i σ H,⟨xs.length,by omega,h0⟩,fun i m σ H ⟨e,pv⟩=>?_⟩
 obtain ⟨hS,hS'⟩:=hl i σ H (by omega) pv
 by_cases hi : i < xs.length
 ·refine .inr ⟨⟨xs,ys,xs[i],ys[i]'(by omega),hS,hS',yac hi,yac (by omega)⟩,Pv (i + 1),fun σ' H' q=>⟨m - 1,by omega,by omega,q⟩,fun x H' y=>?_⟩
  obtain ⟨p,z,z',rfl,hp,hz,hz',rfl⟩:=y
  exact hs i z z' σ H p (hz xs hS) (hz' ys hS') pv hp
 ·have : i = xs.length:=by omega
  subst this
  exact .inl ⟨⟨xs,ys,hS,hS',.inl (yaa _)⟩,hd σ H pv⟩
end L2
namespace L2
open PySem PySem.Spec PyProof.Rows
def zbE (X : Cx) (N : List Str) (scope : Scope) (cl : List (Str×Addr)) (C : Addr) (s₂ : Shared) (H₂ : Hp) (fp : List Addr) : Cx:=
 { X with N:=N,s₀:=s₂,H₀:=H₂,env:=compEnvC scope cl C X.env,outer:=X.stack,stack:=X.stack,ex:=fp,fn:=fun _=>false,xe:=fun _ _=>False }
structure zfg (scope : Scope) (env : Env) (cl : List (Str×Addr)) : Prop where
 eq : closureFor scope env = pure cl
 sub : ∀ x c,cl.lookup x = some c→env.cells.lookup x = some c
 has : ∀ x,(x,NameKind.free)∈scope.names→∃ c,cl.lookup x = some c
theorem zf2 {env : Env} : ∀ (names : List (Str×NameKind)) (cs : List (Str×Addr)),(∀ x,(x,NameKind.free)∈names→∃ c,env.cells.lookup x = some c)→(∀ x c,cs.lookup x = some c→env.cells.lookup x = some c)→
  ∃ cl : List (Str×Addr),(forIn names cs (fun (x : Str×NameKind) (r : List (Str×Addr))=>if (x.2 == NameKind.free) = true then (do let c ← cellOf env x.1; pure (ForInStep.yield ((x.1,c) :: r))) else pure (ForInStep.yield r)) : Sem (List (Str×Addr))) = pure cl∧
   (∀ x c,cl.lookup x = some c→env.cells.lookup x = some c)∧(∀ x c,cs.lookup x = some c→∃ c',cl.lookup x = some c')∧∀ x,(x,NameKind.free)∈names→∃ c,cl.lookup x = some c
 | [],cs,_,h2=>⟨cs,by rw [List.forIn_nil],h2,fun x c e=>⟨c,e⟩,fun _ z=>nomatch z⟩
 | (n,k) :: r,cs,h1,h2=>by
  by_cases hk : k = .free
  ·subst hk
   obtain ⟨c,hc⟩:=h1 n yav
   have hn : ∀ x c',((n,c) :: cs).lookup x = some c'→env.cells.lookup x = some c':=fun x c' e=>by
    rw [yaJ] at e
    cases hx : x == n with
    | true=>
     rw [hx] at e
     cases e
     rw [eq_of_beq hx]
     exact hc
    | false=>
     rw [hx] at e
     exact h2 x c' e
   obtain ⟨cl,e,s1,s2,s3⟩:=zf2 r ((n,c) :: cs) (fun x hx=>h1 x (yay _ hx)) hn
   have here : ∃ c',cl.lookup n = some c':=s2 n c (by rw [yaJ,beq_self_eq_true])
   refine ⟨cl,?_,s1,fun x c' q=>?_,fun x hx=>?_⟩
   ·rw [List.forIn_cons,if_pos (by rfl)]
    have q : cellOf env n = pure c:=by unfold cellOf; rw [hc]
    rw [q]
    simp only [pure_bind]
    exact e
   ·cases hxn : x == n with
    | true=>rw [eq_of_beq hxn]; exact here
    | false=>exact s2 x c' (by rw [yaJ,hxn]; exact q)
   ·rcases yal.mp hx with z | z
    ·cases z; exact here
    ·exact s3 x z
  ·obtain ⟨cl,e,s1,s2,s3⟩:=zf2 r cs (fun x hx=>h1 x (yay _ hx)) h2
   refine ⟨cl,?_,s1,s2,fun x hx=>?_⟩
   ·have hb : (k == NameKind.free) = false:=by simpa using hk
    rw [List.forIn_cons,if_neg (by rw [hb]; exact yaz)]
    simp only [pure_bind]
    exact e
   ·rcases yal.mp hx with z | z
    ·cases z; exact absurd rfl hk
    ·exact s3 x z
theorem zdf {scope : Scope} {env : Env} (h : ∀ x,(x,NameKind.free)∈scope.names→∃ c,env.cells.lookup x = some c) : ∃ cl,zfg scope env cl:=by
 obtain ⟨cl,e,s1,_,s3⟩:=zf2 scope.names [] h (fun _ _ z=>nomatch z)
 refine ⟨cl,?_,s1,s3⟩
 unfold closureFor
 exact (by simpa using e)
theorem zbt {env : Env} : ∀ {names : List (Str×NameKind)} {x : Str},names.lookup x = some .free→
  (names.map fun (n,k)=>if (k == NameKind.free && env.scope.kind == .function && env.kindOf n == some .cell) then (n,NameKind.cell) else (n,k)).lookup x = some .cell∨
  (names.map fun (n,k)=>if (k == NameKind.free && env.scope.kind == .function && env.kindOf n == some .cell) then (n,NameKind.cell) else (n,k)).lookup x = some .free
 | [],_,h=>by simp at h
 | (n,k) :: r,x,h=>by
  have ih:=@zbt env r x
  show List.lookup x ((if (k == NameKind.free && env.scope.kind == .function && env.kindOf n == some .cell) = true then (n,NameKind.cell) else (n,k)) :: _) = _∨List.lookup x ((if (k == NameKind.free && env.scope.kind == .function && env.kindOf n == some .cell) = true then (n,NameKind.cell) else (n,k)) :: _) = _
  cases hx : x == n with
  | true=>
   simp only [yaJ,hx] at h
   cases h
   by_cases hc : (NameKind.free == NameKind.free && env.scope.kind == .function && env.kindOf n == some .cell) = true
   ·rw [if_pos hc]; left; simp only [yaJ,hx]
   ·rw [if_neg hc]; right; simp only [yaJ,hx]
  | false=>
   simp only [yaJ,hx] at h
   by_cases hc : (k == NameKind.free && env.scope.kind == .function && env.kindOf n == some .cell) = true
   ·rw [if_pos hc]; simp only [yaJ,hx]; exact ih h
   ·rw [if_neg hc]; simp only [yaJ,hx]; exact ih h
theorem zdS {env : Env} : ∀ {names : List (Str×NameKind)} {x : Str} {k' : NameKind},(names.map fun (n,k)=>if (k == NameKind.free && env.scope.kind == .function && env.kindOf n == some .cell) then (n,NameKind.cell) else (n,k)).lookup x = some k'→k' = .cell∨k' = .free→
  (∀ y∈names,y.2≠.cell)→(x,NameKind.free)∈names
 | [],_,_,h,_,_=>by simp at h
 | (n,k) :: r,x,k',h,hk,hc=>by
  have ih:=@zdS env r x k'
  have h' : List.lookup x ((if (k == NameKind.free && env.scope.kind == .function && env.kindOf n == some .cell) = true then (n,NameKind.cell) else (n,k)) :: r.map fun (n,k)=>if (k == NameKind.free && env.scope.kind == .function && env.kindOf n == some .cell) then (n,NameKind.cell) else (n,k)) = some k':=h
  cases hx : x == n with
  | true=>
   have e:=eq_of_beq hx
   subst e
   by_cases hf : k = .free
   ·subst hf; exact yav
   ·have hb : (k == NameKind.free) = false:=by simpa using hf
    rw [if_neg (by rw [hb]; simp),yaJ,hx] at h'
    cases h'
    rcases hk with z | z
    ·exact absurd z (hc (x,k) yav)
    ·exact absurd z hf
  | false=>
   refine yay _ (ih ?_ hk fun y hy=>hc y (yay _ hy))
   by_cases hcd : (k == NameKind.free && env.scope.kind == .function && env.kindOf n == some .cell) = true
   ·rw [if_pos hcd,yaJ,hx] at h'; exact h'
   ·rw [if_neg hcd,yaJ,hx] at h'; exact h'
def zb7 (own : Nat) (cap : List Nat) (σ : St) : St:=List.replicate own none ++ cap.map fun i=>(σ[i]?).getD none
structure zj3 (X : Cx) (scope : Scope) (N : List Str) (own : Nat) (cap : List Nat) : Prop where
 kind : scope.kind = .function
 nocell : (scope.names.all fun y=>y.2 != .cell) = true
 locs : (scope.names.all fun y=>y.2 != .local || scope.names.lookup y.1 == some .local) = true
 frees : (scope.names.all fun y=>y.2 != .free || (X.env.kindOf y.1 == some .cell || X.env.kindOf y.1 == some .free)) = true
 len : N.length = own + cap.length
 caps : ((List.range cap.length).all fun j=>(N[own + j]? == X.N[cap[j]!]?) && (match N[own + j]? with | some x=>scope.names.lookup x == some .free && (X.env.kindOf x == some .cell || X.env.kindOf x == some .free) | none=>false)) = true
section
variable {prog : Program} {w : World} {A : Around} {R : Result→Shared→Prop} {s : Shared}
theorem zf0 {elt target iter : Expr} {ifs : List Expr} {scope : Scope} {pos : Pos} {it acc : Value} {env : Env} (I : Nat→Shared→Prop)
  (turn : ∀ n s,I n s→wpAny (model prog w) A (pyNext it) (fun r s₁=>match r with
   | none=>R (.ok .next) s₁
   | some v=>wpAny (model prog w) A (letOwnedTupleGo target it v) (fun _ s₁'=>wpAny (model prog w) A (assign target env v) (fun _ s₂=>
     wpAny (model prog w) A (forIn ifs true fun c r=>if r = true then do let ok ← isTrue c env (eval c env); pure (ForInStep.yield ok) else pure (ForInStep.yield r)) (fun ok s₃=>
      if ok = true then wpAny (model prog w) A (eval elt env) (fun x s₄=>
       wpAny (model prog w) A (call (.builtin "list.append") [acc,x]) (fun _ s₅=>∃ m,m < n∧I m s₅) (fun _ _=>False) s₄) (fun _ _=>False) s₃
      else ∃ m,m < n∧I m s₃) (fun _ _=>False) s₂) (fun _ _=>False) s₁') (fun _ _=>False) s₁) (fun _ _=>False) s)
  (n : Nat) (h : I n s) :
  codeAny (model prog w) A (.compLoop (.ListComp elt [⟨target,iter,ifs,0⟩] scope pos) 0 it acc env) R s:=by
 refine codeAny_loop rfl I (fun n s hI=>?_) n h
 show wpAny _ A ((compTurn (.ListComp elt [⟨target,iter,ifs,0⟩] scope pos) 0 it acc env).onRaise (fun x=>do noteFrame x env; theTreesLotGoes x)) _ _ s
 refine wpAny_noted ?_
 rw [compTurn_list]
 refine wpAny_bind (wpAny_standAt (wpAny_bind (wpAny_mono (turn n s hI) (fun r s₁ h₁=>?_) fun _ _ h'=>h'.elim)))
 cases r with
 | none=>exact wpAny_pure h₁
 | some v=>
  refine wpAny_bind (wpAny_mono h₁ (fun _ s₁' h₁'=>?_) fun _ _ h'=>h'.elim)
  refine wpAny_bind (wpAny_mono h₁' (fun _ s₂ h₂=>wpAny_bind (wpAny_mono h₂ (fun ok s₃ h₃=>?_) fun _ _ h'=>h'.elim)) fun _ _ h'=>h'.elim)
  cases ok with
  | true=>
   simp only [if_true] at h₃ ⊢
   exact wpAny_bind (wpAny_bind (wpAny_mono h₃ (fun x s₄ h₄=>wpAny_bind (wpAny_mono h₄ (fun _ s₅ h₅=>wpAny_pure (wpAny_pure ⟨rfl,h₅⟩)) fun _ _ h'=>h'.elim)) fun _ _ h'=>h'.elim))
  | false=>
   simp only [yb9,if_false] at h₃ ⊢
   exact wpAny_pure ⟨rfl,h₃⟩
end
section
variable {X : Cx}
def PTs (X : Cx) (ifs : List Expr) (t : TT) : Prop:=
 ∀ (pins : List (Addr×Obj)) (s : Shared) (σ : St) (H : Hp) (Q : Bool→Hp→Prop),Inv X pins σ H s→t σ H Q→
  wpAny (model X.prog X.w) X.A (forIn ifs true fun c r=>if r = true then do let ok ← isTrue c X.env (eval c X.env); pure (ForInStep.yield ok) else pure (ForInStep.yield r)) (TP X pins σ Q) X.xe s
def tYes : TT:=fun _ H Q=>Q true H
theorem zbP : PTs X [] tYes:=fun _ _ _ H _ I h=>wpAny_tests_nil ⟨H,I,h⟩
theorem zc1 {c : Expr} {t : TT} (h : PT X c t) : PTs X [c] t:=fun pins s σ H Q I q=>wpAny_tests_one (h pins s σ H Q I q)
theorem znz {pins : List (Addr×Obj)} {σ : St} {H : Hp} {s : Shared} {N : List Str} {own : Nat} {cap : List Nat} {scope : Scope} {cl : List (Str×Addr)} {C : Addr} {fp : List Addr} {h₁ : Heap} {tk : Nat} {D : Addr}
  (I : Inv X pins σ H s) (c : zj3 X scope N own cap) (hcl : zfg scope X.env cl) (f : ∀ b∈fp,FpOk X pins H b) (hD : s.heap.objs.size≤D) (hC : s.heap.objs.size≤C) (hCD : D≠C)
  (kp : ∀ b o,s.heap.get? b = some o→h₁.get? b = some o) (hnew : h₁.get? D = some { cls:=.type "list",data:=.seq #[] }) (hns : ∃ m,h₁.Ns C m) (hfp : ∀ b∈fp,b < s.heap.objs.size) (hcalm : X.calm = true) :
  Inv (zbE X N scope cl C s H fp) pins (zb7 own cap σ) (upd H D (.lst [])) { s with heap:=h₁,toks:=tk }:=by
 have hfr : H D = none:=I.hok.fresh hD
 have hfrC : H C = none:=I.hok.fresh hC
 have sz : ∀ b o,s.heap.get? b = some o→b≠D∧b≠C:=fun b o e=>⟨yak (yat (yae e) hD),yak (yat (yae e) hC)⟩
 have cells : ∀ x cc,cl.lookup x = some cc→∃ v,s.heap.IsCell cc v:=fun x cc e=>I.cell x cc (hcl.sub x cc e)
 have cellne : ∀ x cc,cl.lookup x = some cc→cc≠D∧cc≠C:=fun x cc e=>by
  obtain ⟨v,o,ho,_⟩:=cells x cc e
  exact sz cc o ho
 have ok : (zbE X N scope cl C s H fp).Ok:=by
  refine ⟨I.ok.mod,c.kind,I.ok.glob,I.ok.blt,hC,fun x y cc e1 e2=>I.ok.inj x y cc (hcl.sub x cc e1) (hcl.sub y cc e2),fun x hx=>?_,(fun x cc z _=>nomatch z),I.ok.hd,I.ok.frames,.inl rfl,fun b hb=>?_,fun b o e=>I.bs b o e,?_,fun b o e hb=>?_,fun b hb z=>?_,I.stack,fun b hb=>I.stkFree b hb⟩
  ·have hm : (x,NameKind.free)∈scope.names:=by
    rcases hx with z | z
    ·exact zdS (env:=X.env) (names:=scope.names) (x:=x) (k':=.cell) z (.inl rfl) fun y hy q=>by
      have:=ya1.mp c.nocell y hy
      rw [q] at this
      exact absurd this (by decide)
    ·exact zdS (env:=X.env) (names:=scope.names) (x:=x) (k':=.free) z (.inr rfl) fun y hy q=>by
      have:=ya1.mp c.nocell y hy
      rw [q] at this
      exact absurd this (by decide)
   exact hcl.has x hm
  ·exact ⟨yak (yat (hfp b hb) hC),fun x cc e z=>(f b hb).2.2.2.2.1 x cc (hcl.sub x cc e) z⟩
  ·exact yao I.ok.bsz I.sz
  ·obtain ⟨_,_,_,h4,_⟩:=f b hb
   rcases h4 with z | z
   ·exact I.ok.noex b o e z
   ·exact absurd (yat (yae e) (yao I.ok.bsz z)) (yaT _)
  ·obtain ⟨_,h2,h3,_⟩:=f b hb
   rcases yal.mp (I.stkSub b z) with q | q
   ·exact h2 q
   ·exact h3 q
 have hokN : zbI X.prog X.w (upd H D (.lst [])) h₁ D (.lst []):=⟨yaA _,[],0,.nil,hnew⟩
 refine ⟨ok,I.os.symm ▸ rfl,I.bare,Un.laid kp hD hfr,?_,fun x cc e=>?_,?_,fun x cc e=>?_,fun p hp=>?_,I.hok.laid kp hD hokN,?_⟩
 ·obtain ⟨m,hm⟩:=hns
  refine ⟨m,hm,fun i x v e1 e2 e3=>?_⟩
  have hi : own≤i:=by
   false_or_by_contra
   rename_i z
   unfold zb7 at e2
   rw [ybB (by rw [ya6]; omega),ycp] at e2
   split at e2 <;> cases e2
  obtain ⟨j,rfl⟩ : ∃ j,i = own + j:=⟨i - own,by omega⟩
  have hj : j < cap.length:=by
   have:=(yah.mp e1).1
   have z:=c.len
   have this' : own + j < N.length:=this
   omega
  have hc:=ya1.mp c.caps j (yaQ.mpr hj)
  have e1' : N[own + j]? = some x:=e1
  rw [e1'] at hc
  simp only [ya8,beq_iff_eq,ybR] at hc
  obtain ⟨hN,hf,hk⟩:=hc
  have e2' : σ[cap[j]!]? = some (some v):=by
   unfold zb7 at e2
   rw [ybl (by rw [ya6]; omega),ya6,show own + j - own = j by omega,yaj] at e2
   have g : cap[j]! = cap[j]:=by simp [hj]
   rw [yac hj,ybD] at e2
   rw [g]
   have e2:=yaf e2
   cases q : σ[cap[j]]? with
   | none=>rw [q] at e2; cases e2
   | some z=>rw [q] at e2; exact congrArg some e2
  obtain ⟨m0,_,hl⟩:=I.loc
  obtain ⟨u,ru,lk⟩:=hl (cap[j]!) x v hN.symm e2' (by
   rcases hk with z | z
   ·exact .inr (.inl z)
   ·exact .inr (.inr z))
  refine ⟨u,ru,.inr ⟨zbt (env:=X.env) hf,?_⟩⟩
  rcases lk with ⟨z,_⟩ | ⟨_,cc,ec,ic⟩
  ·rcases hk with q | q
   ·rw [q] at z; cases z
   ·rw [q] at z; cases z
  ·obtain ⟨c',hc'⟩:=hcl.has x (by
    have : (x,NameKind.free)∈scope.names:=by
     have hlk:=hf
     obtain ⟨l1,l2,hs,hno⟩:=List.lookup_eq_some_iff.mp hlk
     rw [hs]
     exact yaK _ yav
    exact this)
   have:=hcl.sub x c' hc'
   rw [ec] at this
   cases this
   obtain ⟨o,ho,hd⟩:=ic
   exact ⟨cc,hc',o,kp cc o ho,hd⟩
 ·obtain ⟨v,o,ho,hd⟩:=cells x cc e
  exact ⟨v,o,kp cc o ho,hd⟩
 ·show upd H D (.lst []) C = none
  rw [zaf (Ne.symm hCD)]
  exact hfrC
 ·show upd H D (.lst []) cc = none
  rw [zaf (cellne x cc e).1]
  exact I.freeC x cc (hcl.sub x cc e)
 ·obtain ⟨e,n,ne,nf,d⟩:=I.pin p hp
  refine ⟨kp _ _ e,?_,(sz _ _ e).2,fun z=>?_,d⟩
  ·show upd H D (.lst []) p.1 = none
   rw [zaf (sz _ _ e).1]
   exact n
  ·rcases yal.mp (I.stkSub p.1 z) with q | q
   ·exact ne q
   ·exact nf q
 ·show (zb7 own cap σ).length = N.length
  unfold zb7
  rw [yai,ya6,yab,c.len]
def zot (own : Nat) (cap : List Nat) (wi : TI) (g : TG) (ts : TT) (te : TE) : TE:=fun σ H Q=>wi σ H fun J H1=>∀ D,H1 D = none→∃ W : Nat→Nat→St→Hp→Prop,(∃ m,W 0 m (zb7 own cap σ) (upd H1 D (.lst [])))∧∀ i m σ H,W i m σ H→
 (J.stop i H∧Q (.ref D) H)∨(J.go i H∧∀ x H',J.yld i H x H'→g x σ H' fun σ2 H2=>ts σ2 H2 fun b H3=>if b = true then te σ2 H3 fun y H4=>∃ xs,H4 D = some (.lst xs)∧xs.length < sizeLine∧∃ m',m' < m∧W (i + 1) m' σ2 (upd H4 D (.lst (xs ++ [y]))) else ∃ m',m' < m∧W (i + 1) m' σ2 H3)
theorem zh9 {pins : List (Addr×Obj)} {σ : St} {H2 : Hp} {s2 : Shared} {N : List Str} {own : Nat} {cap : List Nat} {scope : Scope} {cl : List (Str×Addr)} {fp : List Addr} {tg elt iter : Expr} {ifs : List Expr} {pos : Pos} {J : It} {it : Addr} {tn : Nat→Heap→Prop} {g : TG} {ts : TT} {te : TE} {Q : VK}
  {E : Value→Shared→Prop} {RR : Value→Addr→Result→Shared→Prop}
  (hcalm : X.calm = true) (c : zj3 X scope N own cap) (hcl : zfg scope X.env cl)
  (hg : ∀ cl C s₂ H₂ fp,PG (zbE X N scope cl C s₂ H₂ fp) tg g) (hts : ∀ cl C s₂ H₂ fp,PTs (zbE X N scope cl C s₂ H₂ fp) ifs ts) (he : ∀ cl C s₂ H₂ fp,PE (zbE X N scope cl C s₂ H₂ fp) elt te)
  (I2 : Inv X pins σ H2 s2) (T : Turn X.prog X.w X.K tg J fp it tn) (st2 : tn 0 s2.heap) (f2 : ∀ b∈fp,FpOk X pins H2 b)
  (rd : ∀ D,H2 D = none→∃ W : Nat→Nat→St→Hp→Prop,(∃ m,W 0 m (zb7 own cap σ) (upd H2 D (.lst [])))∧∀ i m σ H,W i m σ H→
   (J.stop i H∧Q (.ref D) H)∨(J.go i H∧∀ x H',J.yld i H x H'→g x σ H' fun σ2 H2=>ts σ2 H2 fun b H3=>if b = true then te σ2 H3 fun y H4=>∃ xs,H4 D = some (.lst xs)∧xs.length < sizeLine∧∃ m',m' < m∧W (i + 1) m' σ2 (upd H4 D (.lst (xs ++ [y]))) else ∃ m',m' < m∧W (i + 1) m' σ2 H3))
  (hRR : ∀ D C s' H',Inv X pins σ H' s'→(∃ m,s'.heap.Ns C m)→FpOk X pins H' C→Q (.ref D) H'→RR (.ref D) C (.ok .next) s') :
  wpAny (model X.prog X.w) X.A (newList []) (fun acc s₃=>wpAny (model X.prog X.w) X.A (newFunctionEnv scope X.env.globals cl [] X.env.qual none .none (some X.env)) (fun cenv s₄=>
   codeAny (model X.prog X.w) X.A (.compStart (.ListComp elt [⟨tg,iter,ifs,0⟩] scope pos) 0 (.ref it) acc { cenv with scope:=relabel scope X.env }) (RR acc cenv.locals) s₄) E s₃) E s2:=by
 have hcell : ∀ y∈scope.names,y.2≠.cell:=fun y hy q=>by
  have:=ya1.mp c.nocell y hy
  rw [q] at this
  exact absurd this (by decide)
 have hfp : ∀ b∈fp,b < s2.heap.objs.size:=fun b hb=>by
  obtain ⟨o,e,_⟩:=T.obj 0 _ st2 b hb
  exact yae e
 refine wpAny_newObj_type (wpAny_newFunctionEnv hcell (by intro y hy; simp at hy) (fun h₁ hns₁ hsb₁=>?_) c.kind)
 dsimp only at hns₁ hsb₁ ⊢
 generalize hHH : s2.heap.push { cls:=.type "list",dict:=none,data:=.seq ([] : List Value).toArray } = HH at hns₁ hsb₁ ⊢
 have hC : HH.objs.size = s2.heap.objs.size + 1:=by rw [← hHH,ybw]
 have hDC : s2.heap.objs.size≠HH.objs.size:=by rw [hC]; exact yak (ybG _)
 have hCle : s2.heap.objs.size≤HH.objs.size:=by rw [hC]; exact yaN _
 have old : ∀ b o,s2.heap.get? b = some o→h₁.get? b = some o:=fun b o e=>hsb₁.extBut b o (yak (by rw [hC]; exact ybS (yae e))) (yag _ (hHH ▸ yag _ e))
 have hnew : h₁.get? s2.heap.objs.size = some { cls:=.type "list",data:=.seq #[] }:=hsb₁.extBut _ _ hDC (yag _ (hHH ▸ yau _ rfl))
 have I3 : ∀ tk,Inv (zbE X N scope cl HH.objs.size s2 H2 fp) pins (zb7 own cap σ) (upd H2 s2.heap.objs.size (.lst [])) { s2 with heap:=h₁,toks:=tk }:=fun tk=>
  znz I2 c hcl f2 (yaa _) hCle hDC old hnew ⟨_,hns₁⟩ hfp hcalm
 obtain ⟨W,⟨m0,w0⟩,turn⟩:=rd s2.heap.objs.size (I2.hok.fresh (yaa _))
 have st3 : tn 0 h₁:=T.keep _ _ _ st2 fun b _ o e=>old b o e
 have fr3 : ∀ b∈fp,upd H2 s2.heap.objs.size (.lst []) b = none:=fun b hb=>by rw [zaf (yak (hfp b hb))]; exact (f2 b hb).1
 have stat : ∀ {H' : Hp},(∀ b∈fp,H' b = none)→∀ b∈fp,FpOk (zbE X N scope cl HH.objs.size s2 H2 fp) pins H' b:=fun hn b hb=>by
  obtain ⟨_,h2,h3,_,h5,h6⟩:=f2 b hb
  refine ⟨hn b hb,yak (yat (hfp b hb) hCle),fun z=>?_,.inl hb,fun x cc e=>h5 x cc (hcl.sub x cc e),h6⟩
  rcases yal.mp (I2.stkSub b z) with q | q
  ·exact h2 q
  ·exact h3 q
 have loop : ∀ s₃ : Shared,s₃ = { s2 with heap:=h₁,toks:=s2.toks + ([] : List (Str×Value)).length }→
   codeAny (model X.prog X.w) X.A (.compLoop (.ListComp elt [⟨tg,iter,ifs,0⟩] scope pos) 0 (.ref it) (.ref s2.heap.objs.size) (compEnvC scope cl HH.objs.size X.env)) (RR (.ref s2.heap.objs.size) HH.objs.size) s₃:=by
  rintro s₃ rfl
  refine zf0 (fun n s'=>∃ i σ' H',Inv (zbE X N scope cl HH.objs.size s2 H2 fp) pins σ' H' s'∧tn i s'.heap∧(∀ b∈fp,H' b = none)∧W i n σ' H') ?_ m0 ⟨0,_,_,I3 _,st3,fr3,w0⟩
  rintro n s3 ⟨i,σ3,H3,J3,t3,fr,w3⟩
  rcases turn i n σ3 H3 w3 with ⟨stop,qn⟩ | ⟨go,step⟩
  ·refine thn (T.done (zbE X N scope cl HH.objs.size s2 H2 fp) rfl rfl rfl hcalm i pins s3 σ3 H3 (fun _ _=>False) J3 (stat fr) t3 stop) fun r s4 ⟨hr,I4⟩=>?_
   subst hr
   obtain ⟨mm,hmm,_⟩:=I4.loc
   refine hRR _ _ s4 H3 (I2.call' I4.os I4.base I4.hok I4.bare fun b hb=>?_) ⟨mm,hmm⟩ (I2.fpOk hCle I4.free) qn
   obtain ⟨_,h2,_,h4,h5,h6⟩:=f2 b hb
   exact ⟨h4,h2,h5,h6⟩
  ·refine thn (T.item (zbE X N scope cl HH.objs.size s2 H2 fp) rfl rfl rfl hcalm i pins s3 σ3 H3 (fun _ _=>False) J3 (stat fr) t3 go) fun r s4 ⟨u,hr,h4⟩=>?_
   subst hr
   refine thn h4 fun _ s5 ⟨x,H5,I5,r5,y5,st5,fr5⟩=>?_
   have I5':=I5.pinned (stat fr5) (T.obj _ _ st5)
   have back : ∀ {σ7 : St} {H7 : Hp} {s7 : Shared} {m' : Nat},Inv (zbE X N scope cl HH.objs.size s2 H2 fp) (pins ++ zgs fp s5.heap) σ7 H7 s7→W (i + 1) m' σ7 H7→∃ i σ' H',Inv (zbE X N scope cl HH.objs.size s2 H2 fp) pins σ' H' s7∧tn i s7.heap∧(∀ b∈fp,H' b = none)∧W i m' σ' H':=fun {σ7 H7 s7 m'} I7 w7=>by
    refine ⟨i + 1,σ7,H7,I7.unpinned,T.keep _ _ _ st5 fun b hb o e=>(I7.pin (b,o) (yaK _ (yaK _ (zb1 hb e)))).1,fun b hb=>?_,w7⟩
    obtain ⟨o,e,d⟩:=T.obj _ _ st5 b hb
    exact (I7.pin (b,o) (yaK _ (yaK _ (zb1 hb e)))).2.1
   refine thn (hg cl HH.objs.size s2 H2 fp _ s5 σ3 H5 x u _ I5' r5 (step x H5 y5)) fun _ s6 ⟨σ6,H6,I6,q6⟩=>?_
   refine thn (hts cl HH.objs.size s2 H2 fp _ s6 σ6 H6 _ I6 q6) fun b s7 ⟨H7,I7,q7⟩=>?_
   cases b with
   | false=>
    rw [if_neg yaz] at q7 ⊢
    obtain ⟨m',hm,w7⟩:=q7
    exact ⟨m',hm,back I7 w7⟩
   | true=>
    rw [if_pos rfl] at q7 ⊢
    refine thn (he cl HH.objs.size s2 H2 fp _ s7 σ6 H7 _ I7 q7) fun v s8 ⟨y,H8,I8,r8,q8⟩=>?_
    obtain ⟨xs,hx,hz,m',hm,w8⟩:=q8
    refine thn (zaL (X:=zbE X N scope cl HH.objs.size s2 H2 fp) _ s8 σ6 H8 (.ref s2.heap.objs.size) [y] (.ref s2.heap.objs.size) [v] (fun _ H9=>H9 = upd H8 s2.heap.objs.size (.lst (xs ++ [y]))) I8 rfl (.cons r8 .nil) ⟨_,xs,y,rfl,rfl,hx,hz,rfl⟩) fun _ s9 ⟨_,H9,I9,_,e9⟩=>?_
    subst e9
    exact ⟨m',hm,back I9 w8⟩
 refine codeAny_compStart_list (loop _ rfl) ?_
 exact T.self _ 0 _ _ _ st3 (loop _ rfl)
theorem zbQ {N : List Str} {own : Nat} {cap : List Nat} {scope : Scope} {tg elt iter : Expr} {ifs : List Expr} {pos : Pos} {wi : TI} {g : TG} {ts : TT} {te : TE} (hcalm : X.calm = true) (hi : PI X tg iter wi) (c : zj3 X scope N own cap)
  (hg : ∀ cl C s₂ H₂ fp,PG (zbE X N scope cl C s₂ H₂ fp) tg g) (hts : ∀ cl C s₂ H₂ fp,PTs (zbE X N scope cl C s₂ H₂ fp) ifs ts) (he : ∀ cl C s₂ H₂ fp,PE (zbE X N scope cl C s₂ H₂ fp) elt te)
  (hs : ∀ x,foldedSetIterable iter X.env x = pure x:=by intro _; rfl) : PE X (.ListComp elt [⟨tg,iter,ifs,0⟩] scope pos) (zot own cap wi g ts te):=by
 intro pins s σ H Q I h
 obtain ⟨cl,hcl⟩:=zdf (scope:=scope) (env:=X.env) fun x hx=>I.ok.has x (by
  have:=ya1.mp c.frees _ hx
  simpa using this)
 rw [eval_ListComp]
 refine wpAny_comprehension_free (use:=none) rfl hs hcl.eq c.kind (fun x hx hl=>by
  have:=ya1.mp c.locs x hx
  rw [hl] at this
  simpa using this) (thn (hi pins s σ H _ I h) fun v s1 h1=>thn h1 fun itv s2 h2=>?_)
 obtain ⟨it,fp,tn,J,H2,e,I2,T,st2,f2,rd⟩:=h2
 subst e
 refine zh9 (RR:=fun acc C=>compPost (model X.prog X.w) X.A X.xe none (EP X pins σ Q) acc C) hcalm c hcl hg hts he I2 T st2 f2 rd ?_
 intro D C s' H' I' hm fC q
 obtain ⟨m,hm⟩:=hm
 obtain ⟨f0,f1,f2,f3,f4,f5⟩:=fC
 exact ⟨m,hm,fun h' hsb=>⟨.ref D,H',I'.turned (t':=s'.toks) (fun b o hb e=>(hsb.2 b hb).trans e) f0 f1 f3 f4 f5,rfl,q⟩⟩
theorem zdT {i : Nat} {x : Str} {N : List Str} {own : Nat} {cap : List Nat} {scope : Scope} {tg elt iter : Expr} {ifs : List Expr} {pos pos' spos : Pos} {wi : TI} {g : TG} {ts : TT} {te : TE} (hN : X.N.Nodup) (hxi : X.N[i]? = some x) (hx : X.env.scope.names.lookup x = some .local) (hcalm : X.calm = true) (hi : PI X tg iter wi) (c : zj3 X scope N own cap)
  (hg : ∀ cl C s₂ H₂ fp,PG (zbE X N scope cl C s₂ H₂ fp) tg g) (hts : ∀ cl C s₂ H₂ fp,PTs (zbE X N scope cl C s₂ H₂ fp) ifs ts) (he : ∀ cl C s₂ H₂ fp,PE (zbE X N scope cl C s₂ H₂ fp) elt te)
  (hsw : swapsWith (.ListComp elt [⟨tg,iter,ifs,0⟩] scope pos) (some (.Name x pos')) spos.line X.env = pure true:=by rfl)
  (hs : ∀ x,foldedSetIterable iter X.env x = pure x:=by intro _; rfl) : PS X (.Assign [.Name x pos'] (.ListComp elt [⟨tg,iter,ifs,0⟩] scope pos) spos) (tAsg (zot own cap wi g ts te) (ziK i)):=by
 intro pins s σ H D I h
 obtain ⟨cl,hcl⟩:=zdf (scope:=scope) (env:=X.env) fun x hx=>I.ok.has x (by
  have:=ya1.mp c.frees _ hx
  simpa using this)
 rw [exec_Assign_Name_used _ _ _ _ hsw]
 refine wpAny_bind (wpAny_standAt (wpAny_bind ?_))
 show wpAny _ X.A (do let _ ← comprehension (.ListComp elt [⟨tg,iter,ifs,0⟩] scope pos) scope X.env _ (newList []) false (eval iter X.env) (some (assign (.Name x pos') X.env))) _ _ s
 refine wpAny_bind (wpAny_mono (wpAny_comprehension_free (use:=some (assign (.Name x pos') X.env)) (Q:=fun _ s'=>SP X pins D .next s') rfl hs hcl.eq c.kind (fun x hx hl=>by
  have:=ya1.mp c.locs x hx
  rw [hl] at this
  simpa using this) (thn (hi pins s σ H _ I h) fun v s1 h1=>thn h1 fun itv s2 h2=>?_)) (fun _ s' hq=>wpAny_pure (wpAny_pure hq)) fun _ _ e=>e)
 obtain ⟨it,fp,tn,J,H2,e,I2,T,st2,f2,rd⟩:=h2
 subst e
 refine zh9 (RR:=fun acc C=>compPost (model X.prog X.w) X.A X.xe (some (assign (.Name x pos') X.env)) (fun _ s'=>SP X pins D .next s') acc C) (Q:=fun x H1=>ziK i x σ H1 D.nx) hcalm c hcl hg hts he I2 T st2 f2 rd ?_
 intro Dd C s' H' I' hm fC q
 obtain ⟨m,hm⟩:=hm
 have hne : ∀ a,(a = X.env.locals∨X.env.cells.lookup x = some a)→a≠C:=fun a z=>by
  obtain ⟨f0,f1,f2,f3,f4,f5⟩:=fC
  rcases z with z | z
  ·rw [z]; exact Ne.symm f1
  ·exact f4 x a z
 show wpAny _ X.A (assign (.Name x pos') X.env (.ref Dd)) _ _ _
 refine wpAny_assign_Name (zfF I' hN hxi (.inl hx) (v:=.ref Dd) rfl (fun s'' I'' hch=>?_) (.inr hx))
 obtain ⟨a,hsb,ha⟩:=hch
 refine ⟨m,hm.sameBut hsb (Ne.symm (hne a ha)),fun h' hs'=>?_⟩
 obtain ⟨f0,f1,f2,f3,f4,f5⟩:=fC
 exact ⟨_,H',I''.turned (t':=s''.toks) (fun b o hb e=>(hs'.2 b hb).trans e) f0 f1 f3 f4 f5,q⟩
end
end L2
namespace L2
open PySem PySem.Spec PyProof.Rows PySem.SeqAt
class Srt (α : Type) [Rep α] where
 blt : α→α→Bool
 irrefl : ∀ a,blt a a = false
 trans : ∀ a b c,blt a b = true→blt b c = true→blt a c = true
 negTrans : ∀ a b c,blt a c = true→blt a b = true∨blt b c = true
 total : ∀ a b,blt a b = false→blt b a = false→a = b
 kd : SortKind
 one : α
 lt : ∀ {X : Cx} {pins : List (Addr×Obj)} {σ : St} {H : Hp} {s : Shared} {A : Around} {a b : α} {x y : V} {u v : Value} {Q : Bool→Shared→Prop} {E : Value→Shared→Prop},Inv X pins σ H s→Rep.has X.K H a x→Rep.has X.K H b y→RelV x u→RelV y v→Q (blt a b) s→wpAny (model X.prog X.w) A (keyLt' kd u v) Q E s
 kind : ∀ {X : Cx} {pins : List (Addr×Obj)} {σ : St} {H : Hp} {s : Shared} {A : Around} {as : List α} {xs : List V} {us : List Value} {Q : SortKind→Shared→Prop} {E : Value→Shared→Prop},Inv X pins σ H s→zal X.K H as xs→Vals xs us→2≤us.length→Q kd s→wpAny (model X.prog X.w) A (keyKind' us.toArray) Q E s
section
variable {α : Type} [Rep α] [Srt α]
noncomputable def srtKind (α : Type) [Rep α] [Srt α] (K : Frag) (H : Hp) : PyProof.Rows.KeyKind where
 α:=α
 blt:=Srt.blt
 irrefl:=Srt.irrefl
 trans:=Srt.trans
 negTrans:=Srt.negTrans
 total:=Srt.total
 keyOf:=fun u=>open Classical in if h : ∃ a : α,∃ x,RelV x u∧Rep.has K H a x then some (Classical.choose h) else none
 dflt:=Srt.one
theorem znx {X : Cx} {pins : List (Addr×Obj)} {σ : St} {H : Hp} {s : Shared} {a : α} {x : V} {u : Value} (I : Inv X pins σ H s) (r : RelV x u) (h : Rep.has X.K H a x) : (srtKind α X.K H).keyOf u = some a:=by
 have e : ∃ a : α,∃ x,RelV x u∧Rep.has X.K H a x:=⟨a,x,r,h⟩
 unfold srtKind
 dsimp only
 rw [dif_pos e]
 obtain ⟨y,ry,hy⟩:=Classical.choose_spec e
 have z:=ry.inj r
 subst z
 exact congrArg some (Rep.inj I hy h)
theorem zdF {K : Frag} {H : Hp} {a : α} {u : Value} (h : (srtKind α K H).keyOf u = some a) : ∃ x,RelV x u∧Rep.has K H a x:=by
 unfold srtKind at h
 dsimp only at h
 split at h
 ·rename_i e
  cases h
  exact Classical.choose_spec e
 ·cases h
def zbS (as : List α) : List α:=as.mergeSort fun a b=>!Srt.blt b a
theorem zbZ (as : List α) : (zbS as).Perm as:=List.mergeSort_perm _ _
theorem zea {as : List α} {a : α} : a∈zbS as↔a∈as:=(zbZ as).mem_iff
theorem zci (as : List α) : (zbS as).length = as.length:=(zbZ as).length_eq
theorem zmD {a b : α} (h : Srt.blt a b = true) : Srt.blt b a = false:=by
 cases e : Srt.blt b a with
 | false=>rfl
 | true=>
  have:=Srt.trans _ _ _ h e
  rw [Srt.irrefl] at this
  cases this
theorem zjo (as : List α) : (zbS as).Pairwise fun a b=>Srt.blt b a = false:=by
 have h:=List.pairwise_mergeSort (le:=fun a b : α=>!Srt.blt b a) (fun a b c h1 h2=>by
  simp only [ybT] at h1 h2 ⊢
  cases e : Srt.blt c a with
  | false=>rfl
  | true=>
   rcases Srt.negTrans c b a e with z | z
   ·rw [h2] at z; cases z
   ·rw [h1] at z; cases z) (fun a b=>by
  cases e : Srt.blt b a with
  | false=>rfl
  | true=>rw [zmD e]; rfl) as
 exact h.imp fun {a b} z=>by simpa using z
theorem zjp {as bs : List α} (hp : bs.Perm as) (hs : bs.Pairwise fun a b=>Srt.blt b a = false) : bs = zbS as:=
 List.Perm.eq_of_pairwise (fun a b _ _ h1 h2=>Srt.total a b h2 h1) hs (zjo as) (hp.trans (zbZ as).symm)
theorem zeQ {as : List α} (hn : as.Nodup) : (zbS as).Pairwise fun a b=>Srt.blt a b = true:=by
 have h1:=zjo as
 have h2 : (zbS as).Nodup:=(zbZ as).nodup_iff.mpr hn
 refine (h1.and h2).imp fun {a b} z=>?_
 cases e : Srt.blt a b with
 | true=>rfl
 | false=>exact absurd (Srt.total a b e z.1) z.2
theorem zfQ {K : Frag} {H : Hp} : ∀ {out : List Value},(∀ v∈out,∃ a : α,∃ x,RelV x v∧Rep.has K H a x∧(srtKind α K H).keyOf v = some a)→
  ∃ (ws : List V) (bs : List α),Vals ws out∧zal K H bs ws∧bs = out.map (Tim.keyV (srtKind α K H))
 | [],_=>⟨[],[],.nil,.nil,rfl⟩
 | v :: out,h=>by
  obtain ⟨ws,bs,h1,h2,h3⟩:=zfQ (out:=out) fun u hu=>h u (yay _ hu)
  obtain ⟨a,x,r,e,k⟩:=h v yav
  refine ⟨x :: ws,a :: bs,.cons r h1,.cons e h2,?_⟩
  rw [yax,← h3]
  have z : Tim.keyV (srtKind α K H) v = a:=by
   unfold Tim.keyV
   rw [k]
   rfl
  rw [z]
  rfl
theorem ziE {X : Cx} {pins : List (Addr×Obj)} {σ : St} {H : Hp} {s : Shared} (I : Inv X pins σ H s) : ∀ {as : List α} {xs : List V} {us : List Value},zal X.K H as xs→Vals xs us→us.map (Tim.keyV (srtKind α X.K H)) = as∧∀ v∈us,∃ a : α,∃ x,RelV x v∧Rep.has X.K H a x∧(srtKind α X.K H).keyOf v = some a
 | _,_,_,.nil,.nil=>⟨rfl,fun _ z=>nomatch z⟩
 | _,_,_,.cons e t,.cons r q=>by
  obtain ⟨h1,h2⟩:=ziE I t q
  have k:=znx I r e
  refine ⟨?_,fun v hv=>?_⟩
  ·rw [yax,h1]
   unfold Tim.keyV
   rw [k]
   rfl
  ·rcases yal.mp hv with z | z
   ·subst z
    exact ⟨_,_,r,e,k⟩
   ·exact h2 v z
end
instance : Srt Int where
 blt:=fun a b=>decide (a < b)
 irrefl:=fun a=>by simp
 trans:=fun a b c h1 h2=>by
  simp only [decide_eq_true_eq] at *
  omega
 negTrans:=fun a b c h=>by
  simp only [decide_eq_true_eq] at *
  omega
 total:=fun a b h1 h2=>by
  simp only [decide_eq_false_iff_not] at *
  omega
 kd:=oneType'
 one:=0
 lt:=fun {X pins σ H s A a b x y u v Q E} _ h1 h2 r1 r2 q=>by
  have h1 : x = .int a:=h1
  have h2 : y = .int b:=h2
  subst h1 h2
  obtain ⟨t,rfl⟩:=r1
  obtain ⟨t',rfl⟩:=r2
  exact PySem.W.kat_lt_int q
 kind:=fun {X pins σ H s A as xs us Q E} _ h r hl q=>by
  have e:=zal.toInts h
  subst e
  have hi : IntsAre us as:=by
   clear q hl
   induction as generalizing us with
   | nil=>cases r; exact .nil
   | cons a as ih=>
    cases r with
    | cons r1 r2=>
     obtain ⟨t,rfl⟩:=r1
     exact .cons a t (ih (by first | exact zal.ints | assumption) r2)
  match us,hl,hi with
  | v₁ :: v₂ :: rest,_,hi=>
   rw [keyKind_ints hi]
   exact wpAny_pure q
def pLt (a b : Int×Int) : Bool:=decide (a.1 < b.1) || (decide (a.1 = b.1) && decide (a.2 < b.2))
theorem zcx {a b : Int×Int} : pLt a b = true↔a.1 < b.1∨(a.1 = b.1∧a.2 < b.2):=by
 unfold pLt
 simp
theorem ziv {a b : Int×Int} : pLt a b = false↔¬ (a.1 < b.1∨(a.1 = b.1∧a.2 < b.2)):=by
 rw [← zcx]
 simp
theorem zg4 {X : Cx} {pins : List (Addr×Obj)} {σ : St} {H : Hp} {s : Shared} {a : Int×Int} {x : V} {u : Value} (I : Inv X pins σ H s) (h : Rep.has X.K H a x) (r : RelV x u) :
  ∃ (p : Addr) (o : Obj) (n : Nat) (t t' : Tok),u = .ref p∧s.heap.get? p = some o∧o.cls = .type "tuple"∧o.data = .seq #[.int a.1 t,.int a.2 t'] n:=by
 obtain ⟨p,x1,x2,rfl,q,e1,e2⟩:=(show hasP X.K H a x from h)
 have e1 : x1 = .int a.1:=e1
 have e2 : x2 = .int a.2:=e2
 subst e1 e2
 cases r
 obtain ⟨us,ru,pu,_⟩:=I.tuple (SqT.of q)
 obtain ⟨u1,u2,rfl,⟨t,rfl⟩,⟨t',rfl⟩⟩:=zhx ru
 obtain ⟨o,ho,hc,n,hd⟩:=pu
 exact ⟨p,o,n,t,t',rfl,ho,hc,hd⟩
theorem zn6 {prog : Program} {w : World} {A : Around} {E : Value→Shared→Prop} {s : Shared} {x y : Int} {t u : Tok} {Q : Bool→Shared→Prop} (b : Bool) (h : Q (decide (x < y)) s) : wpAny (model prog w) A (oneLt' b (.int x t) (.int y u)) Q E s:=by
 cases b with
 | true=>
  rw [← keyLt'_oneType]
  exact PySem.W.kat_lt_int h
 | false=>exact PySem.W.kat_one _ _ (lt_int h)
instance : Srt (Int×Int) where
 blt:=pLt
 irrefl:=fun a=>by rw [ziv]; omega
 trans:=fun a b c h1 h2=>by
  rw [zcx] at *
  omega
 negTrans:=fun a b c h=>by
  rw [zcx] at *
  rw [zcx]
  omega
 total:=fun a b h1 h2=>by
  rw [ziv] at *
  obtain ⟨a1,a2⟩:=a
  obtain ⟨b1,b2⟩:=b
  have : a1 = b1∧a2 = b2:=by dsimp only at *; omega
  rw [this.1,this.2]
 kd:=tuples' true
 one:=(0,0)
 lt:=fun {X pins σ H s A a b x y u v Q E} I h1 h2 r1 r2 q=>by
  obtain ⟨p,o,n,t1,t2,rfl,ho,hc,hd⟩:=zg4 I h1 r1
  obtain ⟨p',o',n',t3,t4,rfl,ho',hc',hd'⟩:=zg4 I h2 r2
  refine PySem.W.kat_lt ho hd ho' hd' ?_
  show PySem.W.KatLex X.prog X.w A true _ Q [(.int a.1 t1,.int b.1 t3),(.int a.2 t2,.int b.2 t4)] 0 s
  refine PySem.W.kat_cons (EqAt.int_int a.1 t1 b.1 t3 _ _ _ _ (PySem.W.kat_go (fun e=>PySem.W.kat_yes ?_) (fun e=>PySem.W.kat_no ?_)))
  ·have e1 : a.1 = b.1:=eq_of_beq e
   refine PySem.W.kat_cons (EqAt.int_int a.2 t2 b.2 t4 _ _ _ _ (PySem.W.kat_go (fun e=>PySem.W.kat_yes (PySem.W.kat_nil ?_)) (fun e=>PySem.W.kat_no (zn6 _ ?_))))
   ·have e2 : a.2 = b.2:=eq_of_beq e
    have z : pLt a b = false:=by rw [ziv]; omega
    rw [z] at q
    exact q
   ·have z : pLt a b = decide (a.2 < b.2):=by
     unfold pLt
     rw [yam (by omega : ¬ a.1 < b.1),yan e1]
     rfl
    rw [z] at q
    exact q
  ·have e1 : ¬ a.1 = b.1:=fun z=>by rw [z] at e; simp at e
   refine zn6 _ ?_
   have z : pLt a b = decide (a.1 < b.1):=by
    unfold pLt
    rw [yam e1]
    simp
   rw [z] at q
   exact q
 kind:=fun {X pins σ H s A as xs us Q E} I h r hl q=>by
  have go : ∀ {as : List (Int×Int)} {xs : List V} {us : List Value},zal X.K H as xs→Vals xs us→∃ fs,PySem.W.KatTups s.heap us fs∧fs.length = us.length∧∀ v∈fs,∃ i t,v = Value.int i t:=by
   intro as
   induction as with
   | nil=>
    intro xs us h r
    cases h
    cases r
    exact ⟨[],.nil,rfl,fun _ z=>nomatch z⟩
   | cons a as ih=>
    intro xs us h r
    cases h with
    | cons h1 h2=>
     cases r with
     | cons r1 r2=>
      obtain ⟨fs,f1,f2,f3⟩:=ih h2 r2
      obtain ⟨p,o,n,t,t',rfl,ho,hc,hd⟩:=zg4 I h1 r1
      refine ⟨.int a.1 t :: fs,PySem.W.KatTups.cons ho hc hd rfl f1,by rw [yaW,yaW,f2],fun v hv=>?_⟩
      rcases yal.mp hv with z | z
      ·exact ⟨_,_,z⟩
      ·exact f3 v z
  obtain ⟨fs,f1,f2,f3⟩:=go h r
  refine PySem.W.kat_kind (T:=.type "int") f1 (by omega) (fun v hv=>?_) (by decide) ?_
  ·obtain ⟨i,t,rfl⟩:=f3 v hv
   exact PySem.W.Looks.of_pure rfl
  ·exact q
end L2
namespace L2
open PySem PySem.Spec PyProof.Rows
section
variable {X : Cx}
theorem zg2 {x : Str} {i : Int} {pos : Pos} (hg : Gl X x) (hm : ∃ t,X.mg x = some (.int i t)) (hd : (x == ("__debug__" : Str)) = false:=by decide) : PE X (.Name x pos) (tC (.int i)):=by
 obtain ⟨t,e⟩:=hm
 exact zoH hg e ⟨t,rfl⟩ hd
end
theorem zbO {K : Frag} {a D : Addr} {xs : List V} {g : TG} {ts : TT} {te : TE} {σ : St} {H : Hp} {Q : Hp→Prop} (Pv : Nat→St→Hp→Prop) (h0 : Pv 0 σ H) (hl : ∀ i σ H,i≤xs.length→Pv i σ H→SqL K H a xs)
  (hs : ∀ i m x σ H,xs[i]? = some x→i + m = xs.length→Pv i σ H→g x σ H fun σ2 H2=>ts σ2 H2 fun b H3=>if b = true then te σ2 H3 fun y H4=>∃ zs,H4 D = some (.lst zs)∧zs.length < sizeLine∧∃ m',m' < m∧(i + 1 + m' = xs.length∧Pv (i + 1) σ2 (upd H4 D (.lst (zs ++ [y])))) else ∃ m',m' < m∧(i + 1 + m' = xs.length∧Pv (i + 1) σ2 H3))
  (hd : ∀ σ H,Pv xs.length σ H→Q H) :
  ∃ W : Nat→Nat→St→Hp→Prop,(∃ m,W 0 m σ H)∧∀ i m σ H,W i m σ H→((Itl K a).stop i H∧Q H)∨((Itl K a).go i H∧∀ x H',(Itl K a).yld i H x H'→g x σ H' fun σ2 H2=>ts σ2 H2 fun b H3=>if b = true then te σ2 H3 fun y H4=>∃ xs,H4 D = some (.lst xs)∧xs.length < sizeLine∧∃ m',m' < m∧W (i + 1) m' σ2 (upd H4 D (.lst (xs ++ [y]))) else ∃ m',m' < m∧W (i + 1) m' σ2 H3):=by
 refine ⟨fun i m σ H=>i + m = xs.length∧Pv i σ H,⟨xs.length,by omega,h0⟩,fun i m σ H ⟨e,pv⟩=>?_⟩
 have hS:=hl i σ H (by omega) pv
 by_cases hi : i < xs.length
 ·refine .inr ⟨⟨xs,xs[i],hS,yac hi⟩,fun x H' y=>?_⟩
  obtain ⟨e1,y⟩:=y
  subst e1
  exact hs i m x σ _ (y xs hS) e pv
 ·have : i = xs.length:=by omega
  subst this
  exact .inl ⟨⟨xs,hS,yaa _⟩,hd σ H pv⟩
theorem zb2 {lo : Int} {n : Nat} {D : Addr} {g : TG} {ts : TT} {te : TE} {σ : St} {H : Hp} {Q : Hp→Prop} (Pv : Nat→St→Hp→Prop) (h0 : Pv 0 σ H)
  (hs : ∀ i m σ H,i + m = n→i < n→Pv i σ H→g (.int (lo + i)) σ H fun σ2 H2=>ts σ2 H2 fun b H3=>if b = true then te σ2 H3 fun y H4=>∃ zs,H4 D = some (.lst zs)∧zs.length < sizeLine∧∃ m',m' < m∧(i + 1 + m' = n∧Pv (i + 1) σ2 (upd H4 D (.lst (zs ++ [y])))) else ∃ m',m' < m∧(i + 1 + m' = n∧Pv (i + 1) σ2 H3))
  (hd : ∀ σ H,Pv n σ H→Q H) :
  ∃ W : Nat→Nat→St→Hp→Prop,(∃ m,W 0 m σ H)∧∀ i m σ H,W i m σ H→((Itr lo n).stop i H∧Q H)∨((Itr lo n).go i H∧∀ x H',(Itr lo n).yld i H x H'→g x σ H' fun σ2 H2=>ts σ2 H2 fun b H3=>if b = true then te σ2 H3 fun y H4=>∃ xs,H4 D = some (.lst xs)∧xs.length < sizeLine∧∃ m',m' < m∧W (i + 1) m' σ2 (upd H4 D (.lst (xs ++ [y]))) else ∃ m',m' < m∧W (i + 1) m' σ2 H3):=by
 refine ⟨fun i m σ H=>i + m = n∧Pv i σ H,⟨n,by omega,h0⟩,fun i m σ H ⟨e,pv⟩=>?_⟩
 by_cases hi : i < n
 ·refine .inr ⟨hi,fun x H' y=>?_⟩
  obtain ⟨e1,y⟩:=y
  subst e1 y
  exact hs i m σ _ e hi pv
 ·have : i = n:=by omega
  subst this
  exact .inl ⟨yaa _,hd σ H pv⟩
end L2
namespace L2
open PySem PySem.Spec PyProof.Rows
def metI (ns : List Int) : List Int:=firstMet (fun i=>ns.getD i 0) ns.length
theorem zc0 : ∀ {ns : List Int} {us : List Value},Vals (ns.map V.int) us→IntsAre us ns
 | [],_,.nil=>.nil
 | n :: _,_,.cons ⟨t,e⟩ q=>by
  subst e
  exact .cons n t (zc0 q)
end L2
namespace L2
theorem zcW {i : Nat} {x : V} {σ : St} {H : Hp} {A B : St→Hp→Prop} (h : A (σ.set i (some x)) H) : ziK i x σ H fun σ2 H2=>tYes σ2 H2 fun b H3=>if b = true then A σ2 H3 else B σ2 H3:=by
 show (if true = true then A (σ.set i (some x)) H else B (σ.set i (some x)) H)
 rw [if_pos rfl]
 exact h
end L2
namespace L2
open PySem PySem.Spec PyProof.Rows
section
variable {X : Cx} {K : Frag}
theorem zjO (h : X.K = K:=by rfl) : IxR X (rIxL K):=by
 subst h
 exact zaw
theorem ziI (h : X.K = K:=by rfl) : IxR X (rIxT K):=by
 subst h
 exact zbc
end
end L2
namespace L2
open PySem PySem.Spec PyProof.Rows
section
variable {X : Cx}
def zoz : V→List V→Hp→VK→Prop:=fun x vs H Q=>∃ l xs i y,x = .ref l∧vs = [.int i,y]∧H l = some (.lst xs)∧0≤i∧i < 2 ^ 63∧xs.length < sizeLine∧Q .non (upd H l (.lst (xs.take i.toNat ++ y :: xs.drop i.toNat)))
theorem zmU {α : Type} (l : List α) (k : Nat) : l.take (min k l.length) = l.take k:=by
 by_cases h : k≤l.length
 ·rw [ybo h]
 ·rw [ybU (by omega),yar (yaa _),yar (by omega)]
theorem znI {α : Type} (l : List α) (k : Nat) : l.drop (min k l.length) = l.drop k:=by
 by_cases h : k≤l.length
 ·rw [ybo h]
 ·rw [ybU (by omega),ya2 (yaa _),ya2 (by omega)]
theorem zlK : MtM X "list.insert" zoz:=by
 intro pins s σ H x vs v us Q I rx rv h
 obtain ⟨l,xs,i,y,rfl,rfl,hH,h0,h1,hz,q⟩:=h
 cases rx
 obtain ⟨u,u2,rfl,ru,ru2⟩:=zhx rv
 obtain ⟨t,rfl⟩:=ru
 obtain ⟨z,its,n,r,hl,e⟩:=I.lstM hH
 refine call_meets F.slot_list_insert ⟨_,e,rfl⟩ F.entry_list_insert (F.args_list_insert_3 _ _ _)
  (AutoSeq1.list_insert_list_int_val_1 l its.toArray n i t u2 (by rw [fitsIndex_both (by omega) h1]; decide) (by rw [yaw]; omega)) ⟨e,?_⟩
 refine ⟨.non,_,I.lset (its':=its.take i.toNat ++ u2 :: its.drop i.toNat) hH e ?_ ((r.take i.toNat).append (.cons ru2 (r.drop i.toNat))) ?_,rfl,q⟩
 ·show (its.toArray.extract 0 (if i < 0 then (i + (its.toArray.size : Int)).toNat else min i.toNat its.toArray.size)).push u2 ++ its.toArray.extract (if i < 0 then (i + (its.toArray.size : Int)).toNat else min i.toNat its.toArray.size) = _
  rw [if_neg (by omega),yaw]
  apply Array.ext'
  simp [zmU,znI]
  exact yar (by rw [ybb]; omega)
 ·rw [yai,yaW,yas,ybb]
  omega
end
theorem zfE {c : TT} {tb : TS} {D : Ends} {σ : St} {H : Hp} (Pv Pe : St→Hp→Prop) (μ : St→Hp→Nat) (h0 : Pv σ H)
  (hs : ∀ σ H,Pv σ H→c σ H fun b H1=>if b = true then tb { D with nx:=fun σ' H'=>Pv σ' H'∧μ σ' H' < μ σ H,ct:=fun σ' H'=>Pv σ' H'∧μ σ' H' < μ σ H,bk:=D.nx } σ H1 else Pe σ H1)
  (mono : ∀ σ H Q Q',(∀ b H1,Q b H1→Q' b H1)→c σ H Q→c σ H Q') (he : ∀ σ H,Pe σ H→D.nx σ H) : zkZ c tb D σ H:=by
 refine zi5 Pv μ h0 (fun σ H p=>mono σ H _ _ (fun b H1 q=>?_) (hs σ H p)) mono
 cases b with
 | true=>exact q
 | false=>exact he _ _ q
section
variable {X : Cx} {K : Frag}
theorem zew (h : X.K = K:=by rfl) : OpR X (compareOp .NotIn) (rIn K true):=by
 subst h
 exact zc9
theorem zoG {es : List Expr} {k : Nat} {t : TGs} {n : Nat} {pos : Pos} (hc : X.calm = true) (h : PGs X es t) (hK : X.K = K:=by rfl)
  (hn : (assignEach es X.env).length = n:=by rfl) (hst : (assignEach es X.env).findIdx? (·.1) = none:=by rfl) : PG X (.Tuple es k pos) (gTup K n t):=by
 subst hK
 exact ze6 hc h hn hst
end
theorem znK {K : Frag} {a b D : Addr} {xs ys : List V} {g : TG} {ts : TT} {te : TE} {σ : St} {H : Hp} {Q : Hp→Prop} (hlen : xs.length = ys.length) (Pv : Nat→St→Hp→Prop) (h0 : Pv 0 σ H) (hl : ∀ i σ H,i≤xs.length→Pv i σ H→SqL K H a xs∧SqL K H b ys)
  (hs : ∀ i m x y σ H r,xs[i]? = some x→ys[i]? = some y→i + m = xs.length→Pv i σ H→H r = none→g (.ref r) σ (upd H r (.tup [x,y])) fun σ2 H2=>ts σ2 H2 fun b H3=>if b = true then te σ2 H3 fun y H4=>∃ zs,H4 D = some (.lst zs)∧zs.length < sizeLine∧∃ m',m' < m∧(i + 1 + m' = xs.length∧Pv (i + 1) σ2 (upd H4 D (.lst (zs ++ [y])))) else ∃ m',m' < m∧(i + 1 + m' = xs.length∧Pv (i + 1) σ2 H3))
  (hd : ∀ σ H,Pv xs.length σ H→Q H) :
  ∃ W : Nat→Nat→St→Hp→Prop,(∃ m,W 0 m σ H)∧∀ i m σ H,W i m σ H→((Itz K a b).stop i H∧Q H)∨((Itz K a b).go i H∧∀ x H',(Itz K a b).yld i H x H'→g x σ H' fun σ2 H2=>ts σ2 H2 fun b H3=>if b = true then te σ2 H3 fun y H4=>∃ xs,H4 D = some (.lst xs)∧xs.length < sizeLine∧∃ m',m' < m∧W (i + 1) m' σ2 (upd H4 D (.lst (xs ++ [y]))) else ∃ m',m' < m∧W (i + 1) m' σ2 H3):=by
 refine ⟨fun i m σ H=>i + m = xs.length∧Pv i σ H,⟨xs.length,by omega,h0⟩,fun i m σ H ⟨e,pv⟩=>?_⟩
 obtain ⟨hS,hS'⟩:=hl i σ H (by omega) pv
 by_cases hi : i < xs.length
 ·refine .inr ⟨⟨xs,ys,xs[i],ys[i]'(by omega),hS,hS',yac hi,yac (by omega)⟩,fun x H' y=>?_⟩
  obtain ⟨p,z,z',rfl,hp,hz,hz',rfl⟩:=y
  exact hs i m z z' σ H p (hz xs hS) (hz' ys hS') e pv hp
 ·have : i = xs.length:=by omega
  subst this
  exact .inl ⟨⟨xs,ys,hS,hS',.inl (yaa _)⟩,hd σ H pv⟩
end L2
namespace L2
open PySem PySem.Spec PyProof.Rows
section
variable {X : Cx}
theorem zmB (hc : X.calm = true) : zeL X (.builtin "min") (fun xs H Q=>∃ (p : Addr) (ns : List Int),xs = [.ref p]∧SqL X.K H p (ns.map V.int)∧0 < ns.length∧∀ M,M∈ns→(∀ a,a∈ns→M≤a)→Q (.int M) H):=by
 intro pins s σ H xs us Q I r h
 obtain ⟨p,ns,rfl,hq,hne,q⟩:=h
 obtain ⟨u,rfl,rx⟩:=zgf r
 cases rx
 obtain ⟨its,rv,pl,_⟩:=I.list hq
 have hi:=zc0 rv
 obtain ⟨xs,hx⟩:=hi.allInts.items
 have hl' : s.heap.IsList p (intItems xs):=hx ▸ pl.isList
 have e1 : ns = xs.toList.map (·.1):=by
  rw [← nums_intItems,← hx]
  exact (show numsOf its.toArray.toList = ns from hi.numsOf).symm
 have hsz : 0 < xs.size:=by
  rw [e1,yab,ya3] at hne
  exact hne
 refine min_intList (I.ok.hd hc) hl' hsz fun v h' tk hv hk=>?_
 obtain ⟨t,rfl⟩:=intItems_at hv
 obtain ⟨h1,h2⟩:=argBest_lt (numAt xs) (xs.size - 1)
 refine ⟨.int _,H,Inv.kept (t':=tk) I hk,⟨t,rfl⟩,q _ ?_ fun a ha=>?_⟩
 ·rw [e1,numAt_eq]
  rw [yad,yac (by rw [yab,ya3]; omega)]
  exact yaB _
 ·rw [e1] at ha
  obtain ⟨j,hj,rfl⟩:=mem_getD ha
  rw [yab,ya3] at hj
  rw [← numAt_eq]
  exact h2 j (by omega)
end
theorem zeG {K : Frag} {a D : Addr} {xs : List V} {g : TG} {ts : TT} {te : TE} {σ : St} {H : Hp} {Q : Hp→Prop} (Pv : Nat→St→Hp→Prop) (h0 : Pv 0 σ H) (hl : ∀ i σ H,i≤xs.length→Pv i σ H→SqT K H a xs)
  (hs : ∀ i m x σ H,xs[i]? = some x→i + m = xs.length→Pv i σ H→g x σ H fun σ2 H2=>ts σ2 H2 fun b H3=>if b = true then te σ2 H3 fun y H4=>∃ zs,H4 D = some (.lst zs)∧zs.length < sizeLine∧∃ m',m' < m∧(i + 1 + m' = xs.length∧Pv (i + 1) σ2 (upd H4 D (.lst (zs ++ [y])))) else ∃ m',m' < m∧(i + 1 + m' = xs.length∧Pv (i + 1) σ2 H3))
  (hd : ∀ σ H,Pv xs.length σ H→Q H) :
  ∃ W : Nat→Nat→St→Hp→Prop,(∃ m,W 0 m σ H)∧∀ i m σ H,W i m σ H→((Itt K a).stop i H∧Q H)∨((Itt K a).go i H∧∀ x H',(Itt K a).yld i H x H'→g x σ H' fun σ2 H2=>ts σ2 H2 fun b H3=>if b = true then te σ2 H3 fun y H4=>∃ xs,H4 D = some (.lst xs)∧xs.length < sizeLine∧∃ m',m' < m∧W (i + 1) m' σ2 (upd H4 D (.lst (xs ++ [y]))) else ∃ m',m' < m∧W (i + 1) m' σ2 H3):=by
 refine ⟨fun i m σ H=>i + m = xs.length∧Pv i σ H,⟨xs.length,by omega,h0⟩,fun i m σ H ⟨e,pv⟩=>?_⟩
 have hS:=hl i σ H (by omega) pv
 by_cases hi : i < xs.length
 ·refine .inr ⟨⟨xs,xs[i],hS,yac hi⟩,fun x H' y=>?_⟩
  obtain ⟨e1,y⟩:=y
  subst e1
  exact hs i m x σ _ (y xs hS) e pv
 ·have : i = xs.length:=by omega
  subst this
  exact .inl ⟨⟨xs,hS,yaa _⟩,hd σ H pv⟩
end L2
namespace L2
open PySem PySem.Spec PyProof.Rows
def Itv (K : Frag) (a : Addr) (n : Nat) : It:=
 ⟨fun i H=>i < n∧∃ xs,SqL K H a xs∧xs.length = n,fun i H x H'=>H' = H∧∀ xs,SqL K H a xs→xs.length = n→xs.reverse[i]? = some x,fun i _=>i = n⟩
theorem zmT {P : Program} {w : World} {K : Frag} {tg : Expr} (a it : Addr) (n : Nat) : Turn P w K tg (Itv K a n) [it] it (fun i h=>h.IsRevIter it a ((n : Int) - 1 - (i : Int))) where
 mem:=by simp
 obj:=fun i h st b hb=>by
  have e : b = it:=by simpa using hb
  subst e
  obtain ⟨o,e,c,d⟩:=st
  exact ⟨o,e,fun v z=>by rw [d] at z; cases z⟩
 keep:=fun i h h' st k=>st.at fun o e=>k it (by simp) o e
 item:=by
  intro X hP hw hK hc i pins s σ H E I hf st hg
  subst hP hw hK
  obtain ⟨hi,xs,hq,hn⟩:=hg
  obtain ⟨its,rv,p,hz⟩:=I.list hq
  have hx : xs[n - 1 - i]? = some (xs[n - 1 - i]'(by omega)):=yac (by omega)
  obtain ⟨u,hu,ru⟩:=rv.get hx
  obtain ⟨f0,f1,f2,f3,f4,f5⟩:=hf it (by simp)
  have e1 : (n : Int) - 1 - (i : Int) = ((n - 1 - i : Nat) : Int):=by omega
  rw [e1] at st
  refine wpAny_pyNext_rev_item st p.isList (x:=u) (by simpa using hu) fun h' st' sb=>?_
  have e2 : ((n - 1 - i : Nat) : Int) - 1 = (n : Int) - 1 - ((i + 1 : Nat) : Int):=by omega
  rw [e2] at st'
  have I1 : Inv X pins σ H { s with heap:=h' }:=I.turned (t':=s.toks) (fun b o hb e=>(sb.2 b hb).trans e) f0 f1 f3 f4 f5
  obtain ⟨o,e,c,d⟩:=id st'
  refine ⟨u,rfl,zmi (s:={ s with heap:=h' }) e c d (by decide) ⟨xs[n - 1 - i]'(by omega),H,I1,ru,⟨rfl,fun ys hy hyn=>?_⟩,st',fun b hb=>(hf b hb).1⟩⟩
  rw [I.list_inj hy hq,yct (by omega),show xs.length - 1 - i = n - 1 - i by omega]
  exact hx
 done:=by
  intro X hP hw hK hc i pins s σ H E I hf st hg
  subst hP hw hK
  have hi : i = n:=hg
  subst hi
  obtain ⟨f0,f1,f2,f3,f4,f5⟩:=hf it (by simp)
  have e1 : (i : Int) - 1 - (i : Int) = -1:=by omega
  rw [e1] at st
  exact wpAny_pyNext_rev_end (I.ok.hd hc) st fun h' eb=>⟨rfl,I.turned (t':=s.toks) (fun b o hb e=>eb b o hb e) f0 f1 f3 f4 f5⟩
 self:=fun _ _ _ _ _ st h=>wpAny_pyIter_revIter st h
def iRev (K : Frag) (ta : TA) : TI:=fun σ H R=>ta σ H fun vs H1=>∃ a xs,vs = [.ref a]∧SqL K H1 a xs∧R (Itv K a xs.length) H1
section
variable {X : Cx}
theorem zis {tg : Expr} {a : Expr} {ta : TA} {p pos : Pos} (hg : Gl X "reversed") (hm : X.mg "reversed" = none) (ha : PA X [a] ta) (hs : starEach [a] X.env = [(false,eval a X.env)]:=by rfl) : PI X tg (.Call (.Name "reversed" p) [a] [] pos) (iRev X.K ta):=by
 intro pins s σ H R I h
 refine Call_ (zfa I hg hm boot_reversed (PyProof.Rows.callWith_type1 (thn (ha pos pins s σ H _ I h) fun us s1 ⟨vs,H1,I1,r1,q1⟩=>?_) hs rfl))
 obtain ⟨l,xs,e,hq,q⟩:=q1
 subst e
 cases r1 with
 | cons r rr=>
  cases rr
  cases r
  obtain ⟨its,rv,pl,hz⟩:=I1.list hq
  have hl:=rv.length
  refine call_reversed_list pl.isList ?_
  have I2 : Inv X pins σ H1 { s1 with heap:=s1.heap.push (revObj l ((its.toArray.size : Int) - 1)) }:=I1.kept (t':=s1.toks) fun b o e=>yag _ e
  have hr : (s1.heap.push (revObj l ((its.toArray.size : Int) - 1))).IsRevIter s1.heap.objs.size l (((xs.length : Nat) : Int) - 1 - ((0 : Nat) : Int)):=by
   refine ⟨_,yau _ rfl,rfl,?_⟩
   have : (its.toArray.size : Int) - 1 = ((xs.length : Nat) : Int) - 1 - ((0 : Nat) : Int):=by
    rw [yaw,hl]
    omega
   rw [this]
   rfl
  refine wpAny_pyIter_revIter (s:={ s1 with heap:=s1.heap.push (revObj l ((its.toArray.size : Int) - 1)) }) hr ⟨_,[s1.heap.objs.size],_,_,H1,rfl,I2,zmT l s1.heap.objs.size xs.length,hr,fun b hb=>?_,q⟩
  have e : b = s1.heap.objs.size:=by simpa using hb
  subst e
  exact I1.fpOk (yaa _) (I1.hok.fresh (yaa _))
end
theorem zo7 {K : Frag} {a : Addr} {xs : List V} {g : TG} {tb : TS} {D : Ends} {σ : St} {H : Hp} (Pv : Nat→St→Hp→Prop) (h0 : Pv 0 σ H) (hl : ∀ i σ H,i≤xs.length→Pv i σ H→SqL K H a xs)
  (hs : ∀ i x σ H,xs.reverse[i]? = some x→Pv i σ H→g x σ H fun σ2 H2=>tb { D with nx:=Pv (i + 1),ct:=Pv (i + 1),bk:=D.nx } σ2 H2) (hd : ∀ σ H,Pv xs.length σ H→D.nx σ H) :
  ∃ W : Nat→Nat→St→Hp→Prop,(∃ m,W 0 m σ H)∧∀ i m σ H,W i m σ H→((Itv K a xs.length).stop i H∧D.nx σ H)∨((Itv K a xs.length).go i H∧∃ N : St→Hp→Prop,(∀ σ' H',N σ' H'→∃ m',m' < m∧W (i + 1) m' σ' H')∧∀ x H',(Itv K a xs.length).yld i H x H'→g x σ H' fun σ2 H2=>tb { D with nx:=N,ct:=N,bk:=D.nx } σ2 H2):=by
 refine ⟨fun i m σ H=>i + m = xs.length∧Pv i σ H,⟨xs.length,by omega,h0⟩,fun i m σ H ⟨e,pv⟩=>?_⟩
 have hS:=hl i σ H (by omega) pv
 by_cases hi : i < xs.length
 ·refine .inr ⟨⟨hi,xs,hS,rfl⟩,Pv (i + 1),fun σ' H' q=>⟨m - 1,by omega,by omega,q⟩,fun x H' y=>?_⟩
  obtain ⟨e1,y⟩:=y
  subst e1
  exact hs i x σ _ (y xs hS rfl) pv
 ·have : i = xs.length:=by omega
  subst this
  exact .inl ⟨rfl,hd σ H pv⟩
end L2
namespace L2
open PySem PySem.Spec PyProof.Rows
theorem zli {P : Program} {w : World} {k : Key} {u : Value} (h : (zaH P w).is k u = true) : RelV (kV k) u:=by
 rw [zkm] at h
 rcases zaY h with ⟨i,t,rfl,rfl⟩ | ⟨x,t,rfl,rfl⟩
 ·exact ⟨t,rfl⟩
 ·exact ⟨t,rfl⟩
section
variable {X : Cx}
theorem zkE (hc : X.calm = true) : zeL X (.type "list") (fun xs H Q=>∃ (p : Addr) (kvs : List (Key×V)),xs = [.ref p]∧H p = some (.dK kvs)∧∀ l,H l = none→Q (.ref l) (upd H l (.lst (kvs.map fun kv=>kV kv.1)))):=by
 intro pins s σ H xs us Q I r h
 obtain ⟨p,kvs,rfl,hq,q⟩:=h
 obtain ⟨u,rfl,rx⟩:=zgf r
 cases rx
 obtain ⟨hz,hne,vs,rel,o,es,ep,h1,h2,h3,h4,h5,h6⟩:=zpc I.hok hq
 have hlen : kvs.length = vs.length:=rel.length
 refine PySem.W.kdl_call (PySem.W.kdl_dict (knd:=zaH X.prog X.w) (kvs:=vs) (ep:=ep) hne) (I.ok.hd hc) ⟨o,es,h1,h2,h3,h4,h5,h6⟩ (by omega) fun h' tk acc c k e hi=>?_
 have hv : Vals (kvs.map fun kv=>kV kv.1) acc.toList:=by
  obtain ⟨g1,g2⟩:=hi
  have key : ∀ (m : Nat) (kvs : List (Key×V)) (vs : List (Key×Value)) (us : List Value),KV kvs vs→us.length = vs.length→(∀ (i : Nat) (v : Value),us[i]? = some v→∃ k x,vs[i]? = some (k,x)∧(zaH X.prog X.w).is k v = true)→Vals (kvs.map fun kv=>kV kv.1) us:=by
   intro m kvs
   induction kvs with
   | nil=>
    intro vs us r hl _
    cases r
    have : us = []:=yca hl
    subst this
    exact .nil
   | cons kv kvs ih=>
    intro vs us r hl hh
    cases r with
    | cons a b=>
     cases us with
     | nil=>cases hl
     | cons v us=>
      refine .cons ?_ (ih _ us b (Nat.succ.inj hl) fun i v e=>?_)
      ·obtain ⟨k,x,e1,e2⟩:=hh 0 v rfl
       cases e1
       have h9:=zli e2
       have a1 : kv.1 = k:=a.1
       rw [← a1] at h9
       exact h9
      ·have:=hh (i + 1) v (by simpa using e)
       simpa using this
  refine key 0 kvs vs acc.toList rel (by rw [ya3]; exact g1) fun i v e=>?_
  exact g2 i v (by rw [← ycu]; exact e)
 refine ⟨.ref s.heap.objs.size,_,I.laid (a:=s.heap.objs.size) (o:=.lst (kvs.map fun kv=>kV kv.1)) (t':=tk) k (yaa _) ⟨?_,acc.toList,c,hv,by rw [Array.toArray_toList]; exact e⟩,rfl,q _ (I.hok.fresh (yaa _))⟩
 rw [yab]
 omega
end
end L2
namespace L2
open PySem PySem.Spec PyProof.Rows PySem.SeqAt
def hasO (o : Option Int) (v : V) : Prop:=match o with
 | none=>v = .non
 | some i=>v = .int i
instance : Rep (Option Int) where
 dec:=inferInstance
 depth:=0
 has:=fun _ _ o v=>hasO o v
 mono:=fun _ h=>h
 inj:=fun {_ _ _ _ _ a b v} _ h1 h2=>by
  cases a <;> cases b
  ·rfl
  ·have h1 : v = .non:=h1
   have h2 : v = .int _:=h2
   rw [h1] at h2
   cases h2
  ·have h1 : v = .int _:=h1
   have h2 : v = .non:=h2
   rw [h1] at h2
   cases h2
  ·have h1 : v = .int _:=h1
   have h2 : v = .int _:=h2
   rw [V.int.inj (h1.symm.trans h2)]
 rc:=fun {_ _ _ _ _ _ a b x y u v} _ _ h1 h2 r1 r2=>by
  cases a with
  | none=>
   have h1 : x = .non:=h1
   subst h1
   obtain rfl : u = .none:=r1
   cases b with
   | none=>
    have h2 : y = .non:=h2
    subst h2
    obtain rfl : v = .none:=r2
    exact RcAt.none_none
   | some j=>
    have h2 : y = .int j:=h2
    subst h2
    obtain ⟨t,rfl⟩:=r2
    exact RcAt.none_int _ _
  | some i=>
   have h1 : x = .int i:=h1
   subst h1
   obtain ⟨t,rfl⟩:=r1
   cases b with
   | none=>
    have h2 : y = .non:=h2
    subst h2
    obtain rfl : v = .none:=r2
    exact RcAt.int_none _ _
   | some j=>
    have h2 : y = .int j:=h2
    subst h2
    obtain ⟨t',rfl⟩:=r2
    have e : decide (some i = some j) = (i == j):=by
     by_cases z : i = j
     ·subst z; simp
     ·rw [yam (fun q=>z (yaf q)),beq_eq_false_iff_ne.mpr z]
    have:=RcAt.int_int (A:=‹Around›) (s:=‹Shared›) i t j t'
    rw [← e] at this
    exact this
 rn:=fun {_ _ _ _ _ _ a b x y u v} _ _ h1 h2 r1 r2=>by
  cases a with
  | none=>
   have h1 : x = .non:=h1
   subst h1
   obtain rfl : u = .none:=r1
   cases b with
   | none=>
    have h2 : y = .non:=h2
    subst h2
    obtain rfl : v = .none:=r2
    exact RcNeAt.none_none
   | some j=>
    have h2 : y = .int j:=h2
    subst h2
    obtain ⟨t,rfl⟩:=r2
    exact RcNeAt.none_int _ _
  | some i=>
   have h1 : x = .int i:=h1
   subst h1
   obtain ⟨t,rfl⟩:=r1
   cases b with
   | none=>
    have h2 : y = .non:=h2
    subst h2
    obtain rfl : v = .none:=r2
    exact RcNeAt.int_none _ _
   | some j=>
    have h2 : y = .int j:=h2
    subst h2
    obtain ⟨t',rfl⟩:=r2
    have e : decide (some i = some j) = (i == j):=by
     by_cases z : i = j
     ·subst z; simp
     ·rw [yam (fun q=>z (yaf q)),beq_eq_false_iff_ne.mpr z]
    have:=RcNeAt.int_int (A:=‹Around›) (s:=‹Shared›) i t j t'
    rw [← e] at this
    exact this
 eq:=fun {_ _ _ _ _ _ a b x y u v} _ _ h1 h2 r1 r2=>by
  cases a with
  | none=>
   have h1 : x = .non:=h1
   subst h1
   obtain rfl : u = .none:=r1
   cases b with
   | none=>
    have h2 : y = .non:=h2
    subst h2
    obtain rfl : v = .none:=r2
    exact EqAt.same _
   | some j=>
    have h2 : y = .int j:=h2
    subst h2
    obtain ⟨t,rfl⟩:=r2
    exact EqAt.none_int _ _
  | some i=>
   have h1 : x = .int i:=h1
   subst h1
   obtain ⟨t,rfl⟩:=r1
   cases b with
   | none=>
    have h2 : y = .non:=h2
    subst h2
    obtain rfl : v = .none:=r2
    exact EqAt.int_none _ _
   | some j=>
    have h2 : y = .int j:=h2
    subst h2
    obtain ⟨t',rfl⟩:=r2
    have e : decide (some i = some j) = (i == j):=by
     by_cases z : i = j
     ·subst z; simp
     ·rw [yam (fun q=>z (yaf q)),beq_eq_false_iff_ne.mpr z]
    have:=EqAt.int_int (A:=‹Around›) (s:=‹Shared›) i t j t'
    rw [← e] at this
    exact this
structure Tup (α : Type) where
 l : List α
theorem Tup.ext' {α : Type} {a b : Tup α} (h : a.l = b.l) : a = b:=by
 cases a
 cases b
 cases h
 rfl
instance {α : Type} [DecidableEq α] : DecidableEq (Tup α):=fun a b=>if h : a.l = b.l then .isTrue (Tup.ext' h) else .isFalse fun z=>h (by rw [z])
def hasT {α : Type} [Rep α] (K : Frag) (H : Hp) (t : Tup α) (v : V) : Prop:=∃ a xs,v = .ref a∧SqT K H a xs∧zal K H t.l xs
section
variable {α : Type} [r : Rep α] {X : Cx} {pins : List (Addr×Obj)} {σ : St} {H : Hp} {s : Shared} {A : Around} {as bs : Tup α} {x y : V} {u v : Value}
theorem zjS (I : Inv X pins σ H s) (h1 : hasT X.K H as x) (h2 : hasT X.K H bs x) : as = bs:=by
 obtain ⟨a,xs,rfl,q1,h1⟩:=h1
 obtain ⟨b,ys,e,q2,h2⟩:=h2
 cases e
 rw [I.tuple_inj q2 q1] at h2
 exact Tup.ext' (h1.inj I h2)
theorem zkU {as bs : List α} (n m : Nat) (hn : as.length = n) (hm : bs.length = m) : ((List.range (min n m)).all (fun j=>decide (as[j]? = bs[j]?)) && n == m) = decide (as = bs):=by
 by_cases hl : as.length = bs.length
 ·have e:=ze3 as bs hl
  have z : min n m = as.length:=by omega
  rw [z,e,beq_iff_eq.mpr (by omega : n = m),Bool.and_true]
 ·rw [yam (fun z=>hl (by rw [z])),beq_eq_false_iff_ne.mpr (by omega : n≠m),ybs]
theorem zmp : decide (as = bs) = decide (as.l = bs.l):=by
 by_cases h : as.l = bs.l
 ·rw [yan h,yan (Tup.ext' h)]
 ·rw [yam h,yam (fun z=>h (by rw [z]))]
theorem zme (I : Inv X pins σ H s) (hu : A.units + (Rep.depth α + 1) < cLine) (h1 : hasT X.K H as x) (h2 : hasT X.K H bs y) (r1 : RelV x u) (r2 : RelV y v) : RcAt A s u v (decide (as = bs)):=by
 obtain ⟨a,xs,rfl,q1,h1⟩:=h1
 obtain ⟨b,ys,rfl,q2,h2⟩:=h2
 cases r1
 cases r2
 obtain ⟨us,ru,pu,_⟩:=I.tuple q1
 obtain ⟨vs,rv,pv,_⟩:=I.tuple q2
 have l1:=ru.length
 have l2:=rv.length
 have m1:=h1.length
 have m2:=h2.length
 have hin : A.in1.units + Rep.depth α < cLine:=ya5 (ybF zcD _) (by omega)
 have:=RcAt.tuples (A:=A) (s:=s) (l:=a) (b:=b) (items:=us.toArray) (items2:=vs.toArray) (e:=fun j=>decide (as.l[j]? = bs.l[j]?)) pu pv (by omega) (zfA I hin h1 h2 ru rv)
 rw [zkU (as:=as.l) (bs:=bs.l) us.toArray.size vs.toArray.size (by simp; omega) (by simp; omega),← zmp] at this
 exact this
theorem zoY (I : Inv X pins σ H s) (hu : A.units + (Rep.depth α + 1) < cLine) (h1 : hasT X.K H as x) (h2 : hasT X.K H bs y) (r1 : RelV x u) (r2 : RelV y v) : RcNeAt A s u v (!decide (as = bs)):=by
 obtain ⟨a,xs,rfl,q1,h1⟩:=h1
 obtain ⟨b,ys,rfl,q2,h2⟩:=h2
 cases r1
 cases r2
 obtain ⟨us,ru,pu,_⟩:=I.tuple q1
 obtain ⟨vs,rv,pv,_⟩:=I.tuple q2
 have l1:=ru.length
 have l2:=rv.length
 have m1:=h1.length
 have m2:=h2.length
 have hin : A.in1.units + Rep.depth α < cLine:=ya5 (ybF zcD _) (by omega)
 have:=RcNeAt.tuples (A:=A) (s:=s) (l:=a) (b:=b) (items:=us.toArray) (items2:=vs.toArray) (e:=fun j=>decide (as.l[j]? = bs.l[j]?)) pu pv (by omega) (zfA I hin h1 h2 ru rv)
 rw [zkU (as:=as.l) (bs:=bs.l) us.toArray.size vs.toArray.size (by simp; omega) (by simp; omega),← zmp] at this
 exact this
theorem zoZ (I : Inv X pins σ H s) (hu : A.units + (Rep.depth α + 1) < cLine) (h1 : hasT X.K H as x) (h2 : hasT X.K H bs y) (r1 : RelV x u) (r2 : RelV y v) : EqAt A s u v (decide (as = bs)):=by
 have rc:=zme (A:=A) I hu h1 h2 r1 r2
 have h1':=id h1
 have h2':=id h2
 obtain ⟨a,xs,rfl,q1,h1⟩:=h1
 obtain ⟨b,ys,rfl,q2,h2⟩:=h2
 cases r1
 cases r2
 by_cases hab : a = b
 ·subst hab
  rw [yan (zjS I h1' h2')]
  exact EqAt.same _
 ·exact EqAt.of_refs hab rc
end
instance {α : Type} [Rep α] : Rep (Tup α) where
 dec:=inferInstance
 depth:=Rep.depth α + 1
 has:=hasT
 mono:=fun e ⟨a,xs,h1,h2,h3⟩=>⟨a,xs,h1,h2.ext e,h3.mono e⟩
 inj:=fun I h1 h2=>zjS I h1 h2
 rc:=fun I hu h1 h2 r1 r2=>zme I hu h1 h2 r1 r2
 rn:=fun I hu h1 h2 r1 r2=>zoY I hu h1 h2 r1 r2
 eq:=fun I hu h1 h2 r1 r2=>zoZ I hu h1 h2 r1 r2
end L2
namespace L2
open PySem PySem.Spec PyProof.Rows
section
variable {X : Cx} {K : Frag} {tg : Expr}
theorem zoF {l : Expr} {tl : TE} (hl : PE X l tl) (h : X.K = K:=by rfl) : PI X tg l (iTup K tl):=by
 subst h
 exact zc2 hl
end
end L2
namespace L2
open PySem PySem.Spec PyProof.Rows
def zbk (X : Cx) (N : List Str) (scope : Scope) (z : Str) (cl : List (Str×Addr)) (C : Addr) (s₂ : Shared) (H₂ : Hp) (fp : List Addr) : Cx:=
 { X with N:=N,s₀:=s₂,H₀:=H₂,env:=compEnvC scope ((z,C + 1) :: cl) C X.env,outer:=X.stack,stack:=X.stack,ex:=fp,fn:=fun x=>x == z,xe:=fun _ _=>False }
theorem zgK {n : Nat} {h : Heap} : ∀ {names : List (Str×NameKind)} {acc : List (Str×Addr)},names.filter (fun y=>y.2 == .cell) = []→cellsFrom n names acc = acc∧pushCells h names = h
 | [],_,_=>⟨rfl,rfl⟩
 | (x,k) :: r,acc,e=>by
  cases hk : k == NameKind.cell with
  | true=>
   rw [yaO (by exact hk)] at e
   cases e
  | false=>
   rw [yaZ (by rw [show ((x,k) : Str×NameKind).2 = k from rfl,hk]; decide)] at e
   unfold cellsFrom pushCells
   rw [hk]
   exact zgK e
theorem zf4 {n : Nat} {h : Heap} {z : Str} : ∀ {names : List (Str×NameKind)} {acc : List (Str×Addr)},names.filter (fun y=>y.2 == .cell) = [(z,.cell)]→cellsFrom n names acc = (z,n) :: acc∧pushCells h names = h.push { cls:=.type "cell",data:=.cell none }
 | [],_,e=>by cases e
 | (x,k) :: r,acc,e=>by
  cases hk : k == NameKind.cell with
  | true=>
   rw [yaO (by exact hk)] at e
   obtain ⟨e1,e2⟩:=List.cons.inj e
   have e3 : x = z:=congrArg Prod.fst e1
   subst e3
   unfold cellsFrom pushCells
   rw [hk]
   exact zgK e2
  | false=>
   rw [yaZ (by rw [show ((x,k) : Str×NameKind).2 = k from rfl,hk]; decide)] at e
   unfold cellsFrom pushCells
   rw [hk]
   exact zf4 e
theorem zpb {M : Model} {A : Around} {E : Value→Shared→Prop} {s : Shared} {scope : Scope} {z : Str} {globals : Addr} {closure : List (Str×Addr)} {qual : Str} {env : Env} {Q : Env→Shared→Prop}
  (one : scope.names.filter (fun y=>y.2 == .cell) = [(z,.cell)])
  (hQ : Q { scope,locals:=s.heap.objs.size,globals,cells:=(z,s.heap.objs.size + 1) :: closure,qual,func:=none,code:=env.code,frame:=env.frame,builtins:=env.builtins } { s with heap:=(s.heap.push { cls:=.type "dict",data:=.dict #[] }).push { cls:=.type "cell",data:=.cell none } }) :
  wpAny M A (newFunctionEnv scope globals closure [] qual none .none (some env)) Q E s:=by
 simp only [newFunctionEnv,Option.isSome_some,if_true]
 refine wpAny_bind (wpAny_alloc ?_)
 refine wpAny_bind (wpAny_layCells _ (fun name kind cells=>by cases hkc : kind == NameKind.cell <;> simp [hkc]) _ _ _ _ ?_)
 rw [show ({ s with heap:=s.heap.push { cls:=.type "dict",data:=.dict #[] } } : Shared).heap.objs.size = s.heap.objs.size + 1 from ybw ..]
 rw [(zf4 (n:=s.heap.objs.size + 1) (h:=s.heap) one).1,(zf4 (n:=0) (h:=s.heap.push { cls:=.type "dict",data:=.dict #[] }) (acc:=[]) one).2]
 refine wpAny_bind ?_
 rw [List.forIn_nil]
 exact wpAny_pure (wpAny_pure hQ)
theorem zeS {env : Env} : ∀ {names : List (Str×NameKind)} {x : Str} {k' : NameKind},(names.map fun (n,k)=>if (k == NameKind.free && env.scope.kind == .function && env.kindOf n == some .cell) then (n,NameKind.cell) else (n,k)).lookup x = some k'→k' = .cell∨k' = .free→
  (x,NameKind.free)∈names∨(x,NameKind.cell)∈names
 | [],_,_,h,_=>by simp at h
 | (n,k) :: r,x,k',h,hk=>by
  have ih:=@zeS env r x k'
  have h' : List.lookup x ((if (k == NameKind.free && env.scope.kind == .function && env.kindOf n == some .cell) = true then (n,NameKind.cell) else (n,k)) :: r.map fun (n,k)=>if (k == NameKind.free && env.scope.kind == .function && env.kindOf n == some .cell) then (n,NameKind.cell) else (n,k)) = some k':=h
  cases hx : x == n with
  | true=>
   have e:=eq_of_beq hx
   subst e
   by_cases hf : k = .free
   ·subst hf; exact .inl yav
   ·have hb : (k == NameKind.free) = false:=by simpa using hf
    rw [if_neg (by rw [hb]; simp),yaJ,hx] at h'
    cases h'
    rcases hk with z | z
    ·subst z; exact .inr yav
    ·exact absurd z hf
  | false=>
   refine (ih ?_ hk).imp (yay _) (yay _)
   by_cases hcd : (k == NameKind.free && env.scope.kind == .function && env.kindOf n == some .cell) = true
   ·rw [if_pos hcd,yaJ,hx] at h'; exact h'
   ·rw [if_neg hcd,yaJ,hx] at h'; exact h'
structure zi3 (X : Cx) (scope : Scope) (z : Str) (N : List Str) (own : Nat) (cap : List Nat) : Prop where
 kind : scope.kind = .function
 one : scope.names.filter (fun y=>y.2 == .cell) = [(z,.cell)]
 look : scope.names.lookup z = some .cell
 locs : (scope.names.all fun y=>y.2 != .local || scope.names.lookup y.1 == some .local) = true
 frees : (scope.names.all fun y=>y.2 != .free || (X.env.kindOf y.1 == some .cell || X.env.kindOf y.1 == some .free)) = true
 len : N.length = own + cap.length
 caps : ((List.range cap.length).all fun j=>(N[own + j]? == X.N[cap[j]!]?) && (match N[own + j]? with | some x=>scope.names.lookup x == some .free && (X.env.kindOf x == some .cell || X.env.kindOf x == some .free) | none=>false)) = true
section
variable {X : Cx}
theorem zl9 {z : Str} {pins : List (Addr×Obj)} {σ : St} {H : Hp} {s : Shared} {N : List Str} {own : Nat} {cap : List Nat} {scope : Scope} {cl : List (Str×Addr)} {C : Addr} {fp : List Addr} {h₁ : Heap} {tk : Nat} {D : Addr}
  (I : Inv X pins σ H s) (c : zi3 X scope z N own cap) (hcl : zfg scope X.env cl) (f : ∀ b∈fp,FpOk X pins H b) (hD : s.heap.objs.size≤D) (hC : s.heap.objs.size≤C) (hCD : D≠C)
  (kp : ∀ b o,s.heap.get? b = some o→h₁.get? b = some o) (hnew : h₁.get? D = some { cls:=.type "list",data:=.seq #[] }) (hns : ∃ m,h₁.Ns C m) (hcz : h₁.IsCell (C + 1) none) (hDz : D≠C + 1) (hfp : ∀ b∈fp,b < s.heap.objs.size) (hcalm : X.calm = true) :
  Inv (zbk X N scope z cl C s H fp) pins (zb7 own cap σ) (upd H D (.lst [])) { s with heap:=h₁,toks:=tk }:=by
 have hfr : H D = none:=I.hok.fresh hD
 have hfrC : H C = none:=I.hok.fresh hC
 have sz : ∀ b o,s.heap.get? b = some o→b≠D∧b≠C:=fun b o e=>⟨yak (yat (yae e) hD),yak (yat (yae e) hC)⟩
 have cells : ∀ x cc,cl.lookup x = some cc→∃ v,s.heap.IsCell cc v:=fun x cc e=>I.cell x cc (hcl.sub x cc e)
 have cellne : ∀ x cc,cl.lookup x = some cc→cc≠D∧cc≠C:=fun x cc e=>by
  obtain ⟨v,o,ho,_⟩:=cells x cc e
  exact sz cc o ho
 have czlt : ∀ x cc,cl.lookup x = some cc→cc≠C + 1:=fun x cc e q=>by
  obtain ⟨v,o,ho,_⟩:=cells x cc e
  exact absurd (show C + 1 < s.heap.objs.size from (by rw [← q]; exact yae ho)) (ybd.mpr (yao hC (yaN _)))
 have lk : ∀ x cc,((z,C + 1) :: cl).lookup x = some cc→(x = z∧cc = C + 1)∨(x≠z∧cl.lookup x = some cc):=fun x cc e=>by
  rw [yaJ] at e
  cases hx : x == z with
  | true=>
   rw [hx] at e
   exact .inl ⟨eq_of_beq hx,(yaf e).symm⟩
  | false=>
   rw [hx] at e
   exact .inr ⟨fun q=>(by rw [q,beq_self_eq_true] at hx; cases hx),e⟩
 have hfrZ : H (C + 1) = none:=I.hok.fresh (yao hC (yaN _))
 have ok : (zbk X N scope z cl C s H fp).Ok:=by
  refine ⟨I.ok.mod,c.kind,I.ok.glob,I.ok.blt,hC,fun x y cc e1 e2=>?_,fun x hx=>?_,fun x cc e1 e2=>?_,I.ok.hd,I.ok.frames,.inl rfl,fun b hb=>?_,fun b o e=>I.bs b o e,?_,fun b o e hb=>?_,fun b hb z=>?_,I.stack,fun b hb=>I.stkFree b hb⟩
  ·rcases lk x cc e1 with ⟨q1,q2⟩ | ⟨q1,q2⟩ <;> rcases lk y cc e2 with ⟨r1,r2⟩ | ⟨r1,r2⟩
   ·rw [q1,r1]
   ·exact absurd q2 (czlt y cc r2)
   ·exact absurd r2 (czlt x cc q2)
   ·exact I.ok.inj x y cc (hcl.sub x cc q2) (hcl.sub y cc r2)
  ·show ∃ c,((z,C + 1) :: cl).lookup x = some c
   cases hxz : x == z with
   | true=>exact ⟨C + 1,by rw [yaJ,hxz]⟩
   | false=>
    have hm : (x,NameKind.free)∈scope.names:=by
     have hor : (x,NameKind.free)∈scope.names∨(x,NameKind.cell)∈scope.names:=by
      rcases hx with y | y
      ·exact zeS (env:=X.env) (names:=scope.names) (x:=x) (k':=.cell) y (.inl rfl)
      ·exact zeS (env:=X.env) (names:=scope.names) (x:=x) (k':=.free) y (.inr rfl)
     rcases hor with q | q
     ·exact q
     ·have hf : (x,NameKind.cell)∈scope.names.filter (fun y=>y.2 == .cell):=ya0.mpr ⟨q,rfl⟩
      rw [c.one] at hf
      have e:=congrArg Prod.fst (yap.mp hf)
      have e : x = z:=e
      rw [e,beq_self_eq_true] at hxz
      cases hxz
    obtain ⟨cc,hcc⟩:=hcl.has x hm
    exact ⟨cc,by rw [yaJ,hxz]; exact hcc⟩
  ·have e1 : (x == z) = true:=e1
   rcases lk x cc e2 with ⟨_,q2⟩ | ⟨q1,_⟩
   ·rw [q2]
    exact yao hC (yaN _)
   ·exact absurd (eq_of_beq e1) q1
  ·exact ⟨yak (yat (hfp b hb) hC),fun x cc e q=>by
    rcases lk x cc e with ⟨_,q2⟩ | ⟨_,q2⟩
    ·exact absurd (show C + 1 < s.heap.objs.size from (by rw [← q2,q]; exact hfp b hb)) (ybd.mpr (yao hC (yaN _)))
    ·exact (f b hb).2.2.2.2.1 x cc (hcl.sub x cc q2) q⟩
  ·exact yao I.ok.bsz I.sz
  ·obtain ⟨_,_,_,h4,_⟩:=f b hb
   rcases h4 with z | z
   ·exact I.ok.noex b o e z
   ·exact absurd (yat (yae e) (yao I.ok.bsz z)) (yaT _)
  ·obtain ⟨_,h2,h3,_⟩:=f b hb
   rcases yal.mp (I.stkSub b z) with q | q
   ·exact h2 q
   ·exact h3 q
 have hokN : zbI X.prog X.w (upd H D (.lst [])) h₁ D (.lst []):=⟨yaA _,[],0,.nil,hnew⟩
 refine ⟨ok,I.os.symm ▸ rfl,I.bare,Un.laid kp hD hfr,?_,fun x cc e=>?_,?_,fun x cc e=>?_,fun p hp=>?_,I.hok.laid kp hD hokN,?_⟩
 ·obtain ⟨m,hm⟩:=hns
  refine ⟨m,hm,fun i x v e1 e2 e3=>?_⟩
  have hi : own≤i:=by
   false_or_by_contra
   rename_i z
   unfold zb7 at e2
   rw [ybB (by rw [ya6]; omega),ycp] at e2
   split at e2 <;> cases e2
  obtain ⟨j,rfl⟩ : ∃ j,i = own + j:=⟨i - own,by omega⟩
  have hj : j < cap.length:=by
   have:=(yah.mp e1).1
   have z:=c.len
   have this' : own + j < N.length:=this
   omega
  have hc:=ya1.mp c.caps j (yaQ.mpr hj)
  have e1' : N[own + j]? = some x:=e1
  rw [e1'] at hc
  simp only [ya8,beq_iff_eq,ybR] at hc
  obtain ⟨hN,hf,hk⟩:=hc
  have e2' : σ[cap[j]!]? = some (some v):=by
   unfold zb7 at e2
   rw [ybl (by rw [ya6]; omega),ya6,show own + j - own = j by omega,yaj] at e2
   have g : cap[j]! = cap[j]:=by simp [hj]
   rw [yac hj,ybD] at e2
   rw [g]
   have e2:=yaf e2
   cases q : σ[cap[j]]? with
   | none=>rw [q] at e2; cases e2
   | some z=>rw [q] at e2; exact congrArg some e2
  obtain ⟨m0,_,hl⟩:=I.loc
  obtain ⟨u,ru,lk⟩:=hl (cap[j]!) x v hN.symm e2' (by
   rcases hk with z | z
   ·exact .inr (.inl z)
   ·exact .inr (.inr z))
  refine ⟨u,ru,.inr ⟨zbt (env:=X.env) hf,?_⟩⟩
  rcases lk with ⟨z,_⟩ | ⟨_,cc,ec,ic⟩
  ·rcases hk with q | q
   ·rw [q] at z; cases z
   ·rw [q] at z; cases z
  ·obtain ⟨c',hc'⟩:=hcl.has x (by
    have : (x,NameKind.free)∈scope.names:=by
     have hlk:=hf
     obtain ⟨l1,l2,hs,hno⟩:=List.lookup_eq_some_iff.mp hlk
     rw [hs]
     exact yaK _ yav
    exact this)
   have:=hcl.sub x c' hc'
   rw [ec] at this
   cases this
   obtain ⟨o,ho,hd⟩:=ic
   refine ⟨cc,?_,o,kp cc o ho,hd⟩
   show ((z,C + 1) :: cl).lookup x = some cc
   cases hxz : x == z with
   | true=>
    rw [eq_of_beq hxz,c.look] at hf
    cases hf
   | false=>rw [yaJ,hxz]; exact hc'
 ·rcases lk x cc e with ⟨_,q2⟩ | ⟨_,q2⟩
  ·rw [q2]
   exact ⟨_,hcz⟩
  ·obtain ⟨v,o,ho,hd⟩:=cells x cc q2
   exact ⟨v,o,kp cc o ho,hd⟩
 ·show upd H D (.lst []) C = none
  rw [zaf (Ne.symm hCD)]
  exact hfrC
 ·show upd H D (.lst []) cc = none
  rcases lk x cc e with ⟨_,q2⟩ | ⟨_,q2⟩
  ·rw [q2,zaf (Ne.symm hDz)]
   exact hfrZ
  ·rw [zaf (cellne x cc q2).1]
   exact I.freeC x cc (hcl.sub x cc q2)
 ·obtain ⟨e,n,ne,nf,d⟩:=I.pin p hp
  refine ⟨kp _ _ e,?_,(sz _ _ e).2,fun z=>?_,d⟩
  ·show upd H D (.lst []) p.1 = none
   rw [zaf (sz _ _ e).1]
   exact n
  ·rcases yal.mp (I.stkSub p.1 z) with q | q
   ·exact ne q
   ·exact nf q
 ·show (zb7 own cap σ).length = N.length
  unfold zb7
  rw [yai,ya6,yab,c.len]
theorem zkB {z : Str} {pins : List (Addr×Obj)} {σ : St} {H2 : Hp} {s2 : Shared} {N : List Str} {own : Nat} {cap : List Nat} {scope : Scope} {cl : List (Str×Addr)} {fp : List Addr} {tg elt iter : Expr} {ifs : List Expr} {pos : Pos} {J : It} {it : Addr} {tn : Nat→Heap→Prop} {g : TG} {ts : TT} {te : TE} {Q : VK}
  {E : Value→Shared→Prop} {RR : Value→Addr→Result→Shared→Prop}
  (hcalm : X.calm = true) (c : zi3 X scope z N own cap) (hcl : zfg scope X.env cl)
  (hg : ∀ cl C s₂ H₂ fp,PG (zbk X N scope z cl C s₂ H₂ fp) tg g) (hts : ∀ cl C s₂ H₂ fp,PTs (zbk X N scope z cl C s₂ H₂ fp) ifs ts) (he : ∀ cl C s₂ H₂ fp,PE (zbk X N scope z cl C s₂ H₂ fp) elt te)
  (I2 : Inv X pins σ H2 s2) (T : Turn X.prog X.w X.K tg J fp it tn) (st2 : tn 0 s2.heap) (f2 : ∀ b∈fp,FpOk X pins H2 b)
  (rd : ∀ D,H2 D = none→∃ W : Nat→Nat→St→Hp→Prop,(∃ m,W 0 m (zb7 own cap σ) (upd H2 D (.lst [])))∧∀ i m σ H,W i m σ H→
   (J.stop i H∧Q (.ref D) H)∨(J.go i H∧∀ x H',J.yld i H x H'→g x σ H' fun σ2 H2=>ts σ2 H2 fun b H3=>if b = true then te σ2 H3 fun y H4=>∃ xs,H4 D = some (.lst xs)∧xs.length < sizeLine∧∃ m',m' < m∧W (i + 1) m' σ2 (upd H4 D (.lst (xs ++ [y]))) else ∃ m',m' < m∧W (i + 1) m' σ2 H3))
  (hRR : ∀ D C s' H',Inv X pins σ H' s'→(∃ m,s'.heap.Ns C m)→FpOk X pins H' C→Q (.ref D) H'→RR (.ref D) C (.ok .next) s') :
  wpAny (model X.prog X.w) X.A (newList []) (fun acc s₃=>wpAny (model X.prog X.w) X.A (newFunctionEnv scope X.env.globals cl [] X.env.qual none .none (some X.env)) (fun cenv s₄=>
   codeAny (model X.prog X.w) X.A (.compStart (.ListComp elt [⟨tg,iter,ifs,0⟩] scope pos) 0 (.ref it) acc { cenv with scope:=relabel scope X.env }) (RR acc cenv.locals) s₄) E s₃) E s2:=by
 have hfp : ∀ b∈fp,b < s2.heap.objs.size:=fun b hb=>by
  obtain ⟨o,e,_⟩:=T.obj 0 _ st2 b hb
  exact yae e
 refine wpAny_newObj_type (zpb c.one ?_)
 dsimp only
 generalize hHH : s2.heap.push { cls:=.type "list",dict:=none,data:=.seq ([] : List Value).toArray } = HH
 generalize hh₁ : (HH.push { cls:=.type "dict",data:=.dict #[] }).push { cls:=.type "cell",data:=.cell none } = h₁
 have hC : HH.objs.size = s2.heap.objs.size + 1:=by rw [← hHH,ybw]
 have hDC : s2.heap.objs.size≠HH.objs.size:=by rw [hC]; exact yak (ybG _)
 have hCle : s2.heap.objs.size≤HH.objs.size:=by rw [hC]; exact yaN _
 have kp₁ : ∀ b o,HH.get? b = some o→h₁.get? b = some o:=fun b o e=>hh₁ ▸ yag _ (yag _ e)
 have old : ∀ b o,s2.heap.get? b = some o→h₁.get? b = some o:=fun b o e=>kp₁ b o (hHH ▸ yag _ e)
 have hnew : h₁.get? s2.heap.objs.size = some { cls:=.type "list",data:=.seq #[] }:=kp₁ _ _ (hHH ▸ yau _ rfl)
 have hns₁ : h₁.Ns HH.objs.size fun _=>none:=hh₁ ▸ (Heap.Ns.new HH (.type "dict")).push _
 have hcz : h₁.IsCell (HH.objs.size + 1) none:=by
  refine ⟨{ cls:=.type "cell",data:=.cell none },?_,rfl⟩
  rw [← hh₁]
  have e : (HH.push { cls:=.type "dict",data:=.dict #[] }).objs.size = HH.objs.size + 1:=ybw ..
  rw [← e]
  exact yau _ rfl
 have I3 : ∀ tk,Inv (zbk X N scope z cl HH.objs.size s2 H2 fp) pins (zb7 own cap σ) (upd H2 s2.heap.objs.size (.lst [])) { s2 with heap:=h₁,toks:=tk }:=fun tk=>
  zl9 I2 c hcl f2 (yaa _) hCle hDC old hnew ⟨_,hns₁⟩ hcz (by rw [hC]; exact yak (ybS (ybG _))) hfp hcalm
 obtain ⟨W,⟨m0,w0⟩,turn⟩:=rd s2.heap.objs.size (I2.hok.fresh (yaa _))
 have st3 : tn 0 h₁:=T.keep _ _ _ st2 fun b _ o e=>old b o e
 have fr3 : ∀ b∈fp,upd H2 s2.heap.objs.size (.lst []) b = none:=fun b hb=>by rw [zaf (yak (hfp b hb))]; exact (f2 b hb).1
 have stat : ∀ {H' : Hp},(∀ b∈fp,H' b = none)→∀ b∈fp,FpOk (zbk X N scope z cl HH.objs.size s2 H2 fp) pins H' b:=fun hn b hb=>by
  obtain ⟨_,h2,h3,_,h5,h6⟩:=f2 b hb
  refine ⟨hn b hb,yak (yat (hfp b hb) hCle),fun z=>?_,.inl hb,fun x cc e=>?_,h6⟩
  ·rcases yal.mp (I2.stkSub b z) with q | q
   ·exact h2 q
   ·exact h3 q
  ·have e : ((_,HH.objs.size + 1) :: cl).lookup x = some cc:=e
   rw [yaJ] at e
   split at e
   ·exact fun q=>absurd (show HH.objs.size + 1 < s2.heap.objs.size from (by rw [yaf e,q]; exact hfp b hb)) (ybd.mpr (yao hCle (yaN _)))
   ·exact h5 x cc (hcl.sub x cc e)
 have loop : ∀ s₃ : Shared,s₃ = { s2 with heap:=h₁ }→
   codeAny (model X.prog X.w) X.A (.compLoop (.ListComp elt [⟨tg,iter,ifs,0⟩] scope pos) 0 (.ref it) (.ref s2.heap.objs.size) (compEnvC scope ((z,HH.objs.size + 1) :: cl) HH.objs.size X.env)) (RR (.ref s2.heap.objs.size) HH.objs.size) s₃:=by
  rintro s₃ rfl
  refine zf0 (fun n s'=>∃ i σ' H',Inv (zbk X N scope z cl HH.objs.size s2 H2 fp) pins σ' H' s'∧tn i s'.heap∧(∀ b∈fp,H' b = none)∧W i n σ' H') ?_ m0 ⟨0,_,_,I3 _,st3,fr3,w0⟩
  rintro n s3 ⟨i,σ3,H3,J3,t3,fr,w3⟩
  rcases turn i n σ3 H3 w3 with ⟨stop,qn⟩ | ⟨go,step⟩
  ·refine thn (T.done (zbk X N scope z cl HH.objs.size s2 H2 fp) rfl rfl rfl hcalm i pins s3 σ3 H3 (fun _ _=>False) J3 (stat fr) t3 stop) fun r s4 ⟨hr,I4⟩=>?_
   subst hr
   obtain ⟨mm,hmm,_⟩:=I4.loc
   refine hRR _ _ s4 H3 (I2.call' I4.os I4.base I4.hok I4.bare fun b hb=>?_) ⟨mm,hmm⟩ (I2.fpOk hCle I4.free) qn
   obtain ⟨_,h2,_,h4,h5,h6⟩:=f2 b hb
   exact ⟨h4,h2,h5,h6⟩
  ·refine thn (T.item (zbk X N scope z cl HH.objs.size s2 H2 fp) rfl rfl rfl hcalm i pins s3 σ3 H3 (fun _ _=>False) J3 (stat fr) t3 go) fun r s4 ⟨u,hr,h4⟩=>?_
   subst hr
   refine thn h4 fun _ s5 ⟨x,H5,I5,r5,y5,st5,fr5⟩=>?_
   have I5':=I5.pinned (stat fr5) (T.obj _ _ st5)
   have back : ∀ {σ7 : St} {H7 : Hp} {s7 : Shared} {m' : Nat},Inv (zbk X N scope z cl HH.objs.size s2 H2 fp) (pins ++ zgs fp s5.heap) σ7 H7 s7→W (i + 1) m' σ7 H7→∃ i σ' H',Inv (zbk X N scope z cl HH.objs.size s2 H2 fp) pins σ' H' s7∧tn i s7.heap∧(∀ b∈fp,H' b = none)∧W i m' σ' H':=fun {σ7 H7 s7 m'} I7 w7=>by
    refine ⟨i + 1,σ7,H7,I7.unpinned,T.keep _ _ _ st5 fun b hb o e=>(I7.pin (b,o) (yaK _ (yaK _ (zb1 hb e)))).1,fun b hb=>?_,w7⟩
    obtain ⟨o,e,d⟩:=T.obj _ _ st5 b hb
    exact (I7.pin (b,o) (yaK _ (yaK _ (zb1 hb e)))).2.1
   refine thn (hg cl HH.objs.size s2 H2 fp _ s5 σ3 H5 x u _ I5' r5 (step x H5 y5)) fun _ s6 ⟨σ6,H6,I6,q6⟩=>?_
   refine thn (hts cl HH.objs.size s2 H2 fp _ s6 σ6 H6 _ I6 q6) fun b s7 ⟨H7,I7,q7⟩=>?_
   cases b with
   | false=>
    rw [if_neg yaz] at q7 ⊢
    obtain ⟨m',hm,w7⟩:=q7
    exact ⟨m',hm,back I7 w7⟩
   | true=>
    rw [if_pos rfl] at q7 ⊢
    refine thn (he cl HH.objs.size s2 H2 fp _ s7 σ6 H7 _ I7 q7) fun v s8 ⟨y,H8,I8,r8,q8⟩=>?_
    obtain ⟨xs,hx,hz,m',hm,w8⟩:=q8
    refine thn (zaL (X:=zbk X N scope z cl HH.objs.size s2 H2 fp) _ s8 σ6 H8 (.ref s2.heap.objs.size) [y] (.ref s2.heap.objs.size) [v] (fun _ H9=>H9 = upd H8 s2.heap.objs.size (.lst (xs ++ [y]))) I8 rfl (.cons r8 .nil) ⟨_,xs,y,rfl,rfl,hx,hz,rfl⟩) fun _ s9 ⟨_,H9,I9,_,e9⟩=>?_
    subst e9
    exact ⟨m',hm,back I9 w8⟩
 refine codeAny_compStart_list (loop _ rfl) ?_
 exact T.self _ 0 _ _ _ st3 (loop _ rfl)
theorem zm3 (z : Str) {i : Nat} {x : Str} {N : List Str} {own : Nat} {cap : List Nat} {scope : Scope} {tg elt iter : Expr} {ifs : List Expr} {pos pos' spos : Pos} {wi : TI} {g : TG} {ts : TT} {te : TE} (hN : X.N.Nodup) (hxi : X.N[i]? = some x) (hx : X.env.scope.names.lookup x = some .local) (hcalm : X.calm = true) (hi : PI X tg iter wi) (c : zi3 X scope z N own cap)
  (hg : ∀ cl C s₂ H₂ fp,PG (zbk X N scope z cl C s₂ H₂ fp) tg g) (hts : ∀ cl C s₂ H₂ fp,PTs (zbk X N scope z cl C s₂ H₂ fp) ifs ts) (he : ∀ cl C s₂ H₂ fp,PE (zbk X N scope z cl C s₂ H₂ fp) elt te)
  (hsw : swapsWith (.ListComp elt [⟨tg,iter,ifs,0⟩] scope pos) (some (.Name x pos')) spos.line X.env = pure true:=by rfl)
  (hs : ∀ x,foldedSetIterable iter X.env x = pure x:=by intro _; rfl) : PS X (.Assign [.Name x pos'] (.ListComp elt [⟨tg,iter,ifs,0⟩] scope pos) spos) (tAsg (zot own cap wi g ts te) (ziK i)):=by
 intro pins s σ H D I h
 obtain ⟨cl,hcl⟩:=zdf (scope:=scope) (env:=X.env) fun x hx=>I.ok.has x (by
  have:=ya1.mp c.frees _ hx
  simpa using this)
 rw [exec_Assign_Name_used _ _ _ _ hsw]
 refine wpAny_bind (wpAny_standAt (wpAny_bind ?_))
 show wpAny _ X.A (do let _ ← comprehension (.ListComp elt [⟨tg,iter,ifs,0⟩] scope pos) scope X.env _ (newList []) false (eval iter X.env) (some (assign (.Name x pos') X.env))) _ _ s
 refine wpAny_bind (wpAny_mono (wpAny_comprehension_free (use:=some (assign (.Name x pos') X.env)) (Q:=fun _ s'=>SP X pins D .next s') rfl hs hcl.eq c.kind (fun x hx hl=>by
  have:=ya1.mp c.locs x hx
  rw [hl] at this
  simpa using this) (thn (hi pins s σ H _ I h) fun v s1 h1=>thn h1 fun itv s2 h2=>?_)) (fun _ s' hq=>wpAny_pure (wpAny_pure hq)) fun _ _ e=>e)
 obtain ⟨it,fp,tn,J,H2,e,I2,T,st2,f2,rd⟩:=h2
 subst e
 refine zkB (RR:=fun acc C=>compPost (model X.prog X.w) X.A X.xe (some (assign (.Name x pos') X.env)) (fun _ s'=>SP X pins D .next s') acc C) (Q:=fun x H1=>ziK i x σ H1 D.nx) hcalm c hcl hg hts he I2 T st2 f2 rd ?_
 intro Dd C s' H' I' hm fC q
 obtain ⟨m,hm⟩:=hm
 have hne : ∀ a,(a = X.env.locals∨X.env.cells.lookup x = some a)→a≠C:=fun a z=>by
  obtain ⟨f0,f1,f2,f3,f4,f5⟩:=fC
  rcases z with z | z
  ·rw [z]; exact Ne.symm f1
  ·exact f4 x a z
 show wpAny _ X.A (assign (.Name x pos') X.env (.ref Dd)) _ _ _
 refine wpAny_assign_Name (zfF I' hN hxi (.inl hx) (v:=.ref Dd) rfl (fun s'' I'' hch=>?_) (.inr hx))
 obtain ⟨a,hsb,ha⟩:=hch
 refine ⟨m,hm.sameBut hsb (Ne.symm (hne a ha)),fun h' hs'=>?_⟩
 obtain ⟨f0,f1,f2,f3,f4,f5⟩:=fC
 exact ⟨_,H',I''.turned (t':=s''.toks) (fun b o hb e=>(hs'.2 b hb).trans e) f0 f1 f3 f4 f5,q⟩
end
end L2
namespace L2
open PySem PySem.Spec PyProof.Rows
def ItF (hi : Int) (n : Nat) : It:=⟨fun i _=>i < n,fun i H x H'=>H' = H∧x = .int (hi - i),fun i _=>n≤i⟩
theorem zkR {P : Program} {w : World} {K : Frag} {tg : Expr} (it : Addr) (hi : Int) (n : Nat) : Turn P w K tg (ItF hi n) [it] it (fun i h=>IsRangeIter h it (hi + (i : Nat) * (-1)) ((n : Int) - (i : Nat)) (-1)) where
 mem:=by simp
 obj:=fun i h st b hb=>by
  have e : b = it:=by simpa using hb
  subst e
  exact ⟨_,st,fun v z=>by
   have z' : Data.fields _ = Data.cell v:=z
   cases z'⟩
 keep:=fun i h h' st k=>k it (by simp) _ st
 item:=by
  intro X hP hw hK hc i pins s σ H E I hf st hg
  subst hP hw hK
  obtain ⟨f0,f1,f2,f3,f4,f5⟩:=hf it (by simp)
  have W:=Walks.range (prog:=X.prog) (w:=X.w) (I.ok.hd hc) it hi (-1) n
  refine W.item i s _ _ hg st fun v h' tk hv st' kk=>?_
  obtain ⟨t,rfl⟩:=hv
  have I1 : Inv X pins σ H { s with heap:=h',toks:=tk }:=I.turned (fun b o hb e=>kk b o (by simpa using hb) e) f0 f1 f3 f4 f5
  refine ⟨_,rfl,zmi (s:={ s with heap:=h',toks:=tk }) (n := "range_iterator") st' rfl rfl (by decide) ⟨.int (hi - i),H,I1,⟨t,?_⟩,⟨rfl,rfl⟩,st',fun b hb=>(hf b hb).1⟩⟩
  rw [show hi + ((i : Nat) : Int) * (-1) = hi - i by omega]
 done:=by
  intro X hP hw hK hc i pins s σ H E I hf st hg
  subst hP hw hK
  obtain ⟨f0,f1,f2,f3,f4,f5⟩:=hf it (by simp)
  exact wpAny_pyNext_range_end (I.ok.hd hc) st (by have : n≤i:=hg; omega) fun h' eb=>⟨rfl,I.turned (t':=s.toks) (fun b o hb e=>eb b o hb e) f0 f1 f3 f4 f5⟩
 self:=fun _ _ _ _ _ st h=>wpAny_pyIter_rangeiter st h
theorem zhE (a b : Int) : Builtin.Range.rangeSize a b (-1) = if a > b then a - b else 0:=by
 unfold Builtin.Range.rangeSize
 rw [if_neg (by decide)]
 split
 ·rw [show -(-1 : Int) = 1 from rfl,Int.ediv_one]
  omega
 ·rfl
theorem zkc {a b : Int} (ha : -(2 ^ 62)≤a) (ha' : a < 2 ^ 62) (hb : -(2 ^ 62)≤b) (hb' : b < 2 ^ 62) : Builtin.Range.small a b (-1) = true:=by
 unfold Builtin.Range.small
 rw [zhE]
 simp only [Builtin.Range.rangeFitsLong,ya8,ybR,decide_eq_true_eq,beq_iff_eq,show ¬ (-1 : Int) > 0 by decide,if_false]
 split <;> omega
section
variable {X : Cx} {tg : Expr}
theorem zpa {pins : List (Addr×Obj)} {σ : St} {H : Hp} {s : Shared} {R : It→Hp→Prop} {E : Value→Shared→Prop} {hi lo : Int} {t u v : Tok} {tk : Nat} (I : Inv X pins σ H s) (h1 : -(2 ^ 62)≤hi) (h2 : hi < 2 ^ 62) (h3 : -(2 ^ 62)≤lo) (h4 : lo < 2 ^ 62)
  (q : R (ItF hi (hi - lo).toNat) H) : wpAny (model X.prog X.w) X.A (pyIter (.ref s.heap.objs.size)) (PIE X pins σ tg R) E { s with heap:=s.heap.push { cls:=.type "range",data:=.fields #[.int hi t,.int lo u,.int (-1) v] },toks:=tk }:=by
 refine wpAny_pyIter_range (IsRange.new ..) (zkc h1 h2 h3 h4) ?_
 have I1 : Inv X pins σ H { s with heap:=s.heap.push { cls:=.type "range",data:=.fields #[.int hi t,.int lo u,.int (-1) v] },toks:=tk }:=I.kept fun b o e=>yag _ e
 refine ⟨(s.heap.push { cls:=.type "range",data:=.fields #[.int hi t,.int lo u,.int (-1) v] }).objs.size,[(s.heap.push { cls:=.type "range",data:=.fields #[.int hi t,.int lo u,.int (-1) v] }).objs.size],_,_,H,rfl,
  I1.kept (t':=tk) fun b o e=>yag _ e,zkR _ hi (hi - lo).toNat,?_,fun b hb=>?_,q⟩
 ·have e1 : hi + ((0 : Nat) : Int) * (-1) = hi:=by simp
  have e2 : (((hi - lo).toNat : Nat) : Int) - ((0 : Nat) : Int) = Builtin.Range.rangeSize hi lo (-1):=by rw [zhE]; split <;> omega
  show IsRangeIter _ _ (hi + ((0 : Nat) : Int) * (-1)) ((((hi - lo).toNat : Nat) : Int) - ((0 : Nat) : Int)) (-1)
  rw [e1,e2]
  exact yau _ rfl
 ·have e : b = (s.heap.push { cls:=.type "range",data:=.fields #[.int hi t,.int lo u,.int (-1) v] }).objs.size:=by simpa using hb
  subst e
  exact I1.fpOk (yaa _) (I1.hok.fresh (yaa _))
def zqR (ta : TA) : TI:=fun σ H R=>ta σ H fun vs H1=>∃ i j : Int,vs = [.int i,.int j,.int (-1)]∧(-(2 ^ 62)≤i∧i < 2 ^ 62∧-(2 ^ 62)≤j∧j < 2 ^ 62)∧R (ItF i (i - j).toNat) H1
theorem zlq {a b c : Expr} {ta : TA} {p pos : Pos} (hg : Gl X "range") (hm : X.mg "range" = none) (ha : PA X [a,b,c] ta) (hs : starEach [a,b,c] X.env = [(false,eval a X.env),(false,eval b X.env),(false,eval c X.env)]:=by rfl) (hs2 : starEach [b,c] X.env = [(false,eval b X.env),(false,eval c X.env)]:=by rfl) :
  PI X tg (.Call (.Name "range" p) [a,b,c] [] pos) (zqR ta):=by
 intro pins s σ H R I h
 refine Call_ (zfa I hg hm boot_range (PyProof.Rows.callWith_type1 (thn (ha pos pins s σ H _ I h) fun us s1 ⟨vs,H1,I1,r1,q1⟩=>?_) (by rw [hs,hs2]) (by rw [hs2]; rfl)))
 obtain ⟨i,j,e,⟨q1,q2,q3,q4⟩,q⟩:=q1
 subst e
 cases r1 with
 | cons r rr=>
  cases rr with
  | cons r' rr=>
   cases rr with
   | cons r2 rr=>
    cases rr
    obtain ⟨t,rfl⟩:=r
    obtain ⟨t',rfl⟩:=r'
    obtain ⟨t2,rfl⟩:=r2
    exact call_range_3 (by decide) (zpa I1 q1 q2 q3 q4 q) (Or.inl (PyProof.noPylong_small (by decide)))
end
theorem znG {hi : Int} {n : Nat} {g : TG} {tb : TS} {D : Ends} {σ : St} {H : Hp} (Pv : Nat→St→Hp→Prop) (h0 : Pv 0 σ H)
  (hs : ∀ i σ H,i < n→Pv i σ H→g (.int (hi - i)) σ H fun σ2 H2=>tb { D with nx:=Pv (i + 1),ct:=Pv (i + 1),bk:=D.nx } σ2 H2) (hd : ∀ σ H,Pv n σ H→D.nx σ H) :
  ∃ W : Nat→Nat→St→Hp→Prop,(∃ m,W 0 m σ H)∧∀ i m σ H,W i m σ H→
   ((ItF hi n).stop i H∧D.nx σ H)∨((ItF hi n).go i H∧∃ N : St→Hp→Prop,(∀ σ' H',N σ' H'→∃ m',m' < m∧W (i + 1) m' σ' H')∧∀ x H',(ItF hi n).yld i H x H'→g x σ H' fun σ2 H2=>tb { D with nx:=N,ct:=N,bk:=D.nx } σ2 H2):=by
 refine ⟨fun i m σ H=>m = n - i∧i≤n∧Pv i σ H,⟨n,by simp,yaA _,h0⟩,?_⟩
 rintro i m σ H ⟨rfl,hi,p⟩
 by_cases hlt : i < n
 ·refine .inr ⟨hlt,Pv (i + 1),fun σ' H' p'=>⟨n - (i + 1),by omega,rfl,hlt,p'⟩,fun x H' y=>?_⟩
  obtain ⟨e,y⟩:=y
  subst e y
  exact hs i σ _ hlt p
 ·have e : i = n:=by omega
  subst e
  exact .inl ⟨yaa _,hd σ H p⟩
end L2
namespace L2
open PySem PySem.Spec PyProof.Rows
structure zht (scope : Scope) (ps caps : List Str) : Prop where
 kind : scope.kind = .function
 co : scope.isCoroutine = false
 gen : scope.isGenerator = false
 nocell : ∀ x∈scope.names,x.2≠.cell
 par : ∀ x∈ps,scope.names.lookup x = some .local
 cap : ∀ x∈caps,scope.names.lookup x = some .free
 nd : (ps ++ caps).Nodup
def ziR (P : Program) (w : World) (K : Frag) (mg : Str→Option Value) (base : Heap) (N : List Str) (qual : Str) (scope : Scope) (f : Addr) (cd : Value) (cl : List (Str×Addr)) (A : Around) (outer : List Env) (s : Shared) (H : Hp) : Cx where
 prog:=P
 w:=w
 K:=K
 mg:=mg
 base:=base
 A:=A.deeper (PySem.W.envX qual scope s.heap.objs.size f cd cl)
 N:=N
 s₀:=s
 H₀:=H
 env:=PySem.W.envX qual scope s.heap.objs.size f cd cl
 outer:=outer
 stack:=PySem.W.envX qual scope s.heap.objs.size f cd cl :: outer
 ex:=[]
 calm:=true
 fn:=fun _=>false
 pn:=[]
 xe:=fun _ _=>False
def zkD (c : Addr) (q : Str) : Heap→Prop:=fun h=>h.CodeRec (.ref c) q
def zeK (H : Hp) (c : Addr) (q : Str) : Prop:=H c = some (.ext (zkD c q))
theorem zkC {c : Addr} {q : Str} (h1 h2 : Heap) (x : zkD c q h1) (k : ∀ o,h1.get? c = some o→h2.get? c = some o) : zkD c q h2:=by
 obtain ⟨c',o,vs,t,e,ho,r⟩:=x
 cases e
 exact ⟨c,o,vs,t,rfl,k o ho,r⟩
theorem zeK.rec {P : Program} {w : World} {H : Hp} {h : Heap} {c : Addr} {q : Str} (x : zeK H c q) (ok : HOk P w H h) : h.CodeRec (.ref c) q:=(ok c _ x).1
theorem zgr {x : Str} {u : Value} : ∀ {ps : List Str} {us : List Value} {i : Nat},ps.Nodup→ps[i]? = some x→us[i]? = some u→(ps.zip us).reverse.lookup x = some u
 | [],_,_,_,e,_=>by simp at e
 | _ :: _,[],_,_,_,e=>by simp at e
 | p :: ps,v :: us,0,hn,e1,e2=>by
  have e1 : p = x:=by simpa using e1
  have e2 : v = u:=by simpa using e2
  subst e1 e2
  rw [ycr,ycb,List.lookup_append]
  have z : (ps.zip us).reverse.lookup p = none:=by
   rw [List.lookup_eq_none_iff]
   intro y hy
   have:=ybO (ybV.mp hy)
   simp only [beq_eq_false_iff_ne,ne_eq,bne_iff_ne]
   intro q
   rw [yaR] at hn
   first
    | exact hn.1 (q ▸ this.1)
    | (rw [q] at hn; exact hn.1 this.1)
  rw [z]
  simp
 | p :: ps,v :: us,i + 1,hn,e1,e2=>by
  rw [yaR] at hn
  have ih:=zgr (ps:=ps) (us:=us) (i:=i) hn.2 (by simpa using e1) (by simpa using e2)
  rw [ycr,ycb,List.lookup_append,ih]
  rfl
def zlb (n : Nat) (tb : TE) (vcs : List V) (c : Addr) (q : Str) : Sp:=fun vs H Q _=>vs.length = n∧zeK H c q∧tb (vs.map some ++ vcs.map some) H Q
theorem zqc {P : Program} {w : World} {K : Frag} {mg : Str→Option Value} {base : Heap} {k : Nat} {f c : Addr} {name qual : Str} {params : Arguments} {body : Expr} {scope : Scope} {cl : List (Str×Addr)} {pm ctv : Value} {ps caps : List Str} {vcs : List V} {tb : TE}
  (S : zht scope ps caps) (hf : base.get? f = some (PySem.W.kla_obj name qual params body scope cl pm c ctv)) (hlen : vcs.length = caps.length)
  (hcap : ∀ (j : Nat) (x : Str) (v : V),caps[j]? = some x→vcs[j]? = some v→∃ a u,cl.lookup x = some a∧base.IsCell a (some u)∧RelV v u)
  (hcell : ∀ x a,cl.lookup x = some a→∃ v,base.IsCell a v) (hinj : ∀ x y a,cl.lookup x = some a→cl.lookup y = some a→x = y) (hhas : ∀ x,scope.names.lookup x = some .free→∃ a,cl.lookup x = some a)
  (hb : ∀ (A : Around) (outer : List Env) (s : Shared) (H : Hp),Room k (A.deeper (PySem.W.envX qual scope s.heap.objs.size f (.ref c) cl))→PE (ziR P w K mg base (ps ++ caps) qual scope f (.ref c) cl A outer s H) body tb) :
  FnOk P w K mg base CX0 (k + 1) f (PySem.W.kla_fn name qual params body scope cl pm (.ref c) ctv) ps (zlb ps.length tb vcs c qual):=by
 refine ⟨fun vs H Q E h=>h.1,fun A outer s H args us vs Q E hr e0 hbind r hsp=>?_⟩
 obtain ⟨hl,hc,hq⟩:=hsp
 have bk : ∀ b o,base.get? b = some o→s.heap.get? b = some o:=fun b o e=>(e0.bs b o e).1
 have hul : us.length = ps.length:=by rw [← r.length]; exact hl
 refine PySem.W.kla_callFunE hr.depth (bk _ _ hf) rfl S.co S.gen rfl (hc.rec e0.hok) ?_
 refine hbind _ _ _ _ ?_
 refine wpAny_newFunctionEnv S.nocell (fun y hy=>S.par _ (ybO hy).1) (fun h1 hns hsb=>⟨(e0.mod.nolimit.keeps bk).fresh _ hsb,?_⟩) S.kind
 show codeAny _ _ (.expr body (PySem.W.envX qual scope s.heap.objs.size f (.ref c) cl)) _ _
 have hk : ∀ b o,s.heap.get? b = some o→h1.get? b = some o:=fun b o e=>hsb.extBut b o (yak (yae e)) (yag _ e)
 have cellK : ∀ a v,base.IsCell a v→h1.IsCell a v∧H a = none:=fun a v ⟨o,ho,hd⟩=>⟨⟨o,hk _ _ (bk _ _ ho),hd⟩,(e0.bs _ _ ho).2⟩
 have ndps : ps.Nodup:=(ybh.mp S.nd).1
 have noA : ∀ b : Addr,b∉([] : List Addr):=fun b z=>absurd z (by simp)
 have I : Inv (ziR P w K mg base (ps ++ caps) qual scope f (.ref c) cl A outer s H) [] (vs.map some ++ vcs.map some) H { s with heap:=h1,toks:=s.toks + (ps.zip us).length }:=by
  refine ⟨⟨e0.mod,S.kind,rfl,rfl,yaa _,hinj,fun y hy=>?_,fun y a z _=>(by cases z),fun _=>hr.hd,Around.frames_deeper e0.frames,.inr ⟨rfl,rfl⟩,fun b z=>absurd z (noA b),e0.bs,e0.bsz,fun b _ _=>noA b,fun b z=>absurd z (noA b),e0.funs,e0.frf⟩,
   rfl,e0.bare,Un.kept hk,⟨_,hns,fun i y v h1' h2 h3=>?_⟩,fun y a h=>?_,e0.hok.fresh (yaa _),fun y a h=>?_,fun p hp=>absurd (show p∈([] : List (Addr×Obj)) from hp) (by simp),e0.hok.kept hk,?_⟩
  ·have hy : scope.names.lookup y = some .cell∨scope.names.lookup y = some .free:=hy
   rcases hy with hy | hy
   ·exact absurd rfl (S.nocell _ (PySem.mem_of_lookup hy))
   ·exact hhas y hy
  ·have h1' : (ps ++ caps)[i]? = some y:=h1'
   by_cases hi : i < ps.length
   ·rw [ybB hi] at h1'
    rw [ybB (by rw [yab]; omega),yaj] at h2
    cases e : vs[i]? with
    | none=>rw [e] at h2; cases h2
    | some v'=>
     rw [e] at h2
     cases h2
     obtain ⟨u,hu,ru⟩:=r.get e
     exact ⟨u,ru,.inl ⟨S.par y (yaI h1'),zgr ndps h1' hu⟩⟩
   ·rw [ybl (by omega)] at h1'
    rw [ybl (by rw [yab]; omega),yab,yaj] at h2
    cases e : vcs[i - vs.length]? with
    | none=>rw [e] at h2; cases h2
    | some v'=>
     rw [e] at h2
     cases h2
     rw [hl] at e
     obtain ⟨a,u,e1,e2,ru⟩:=hcap _ _ _ h1' e
     exact ⟨u,ru,.inr ⟨.inr (S.cap y (yaI h1')),a,e1,(cellK _ _ e2).1⟩⟩
  ·obtain ⟨v,z⟩:=hcell y a h
   exact ⟨v,(cellK _ _ z).1⟩
  ·obtain ⟨v,z⟩:=hcell y a h
   exact (cellK _ _ z).2
  ·show (vs.map some ++ vcs.map some).length = (ps ++ caps).length
   rw [yai,yai,yab,yab,hl,hlen]
 refine PySem.W.kla_codeExpr (wpAny_mono (hb A outer s H (hr.deeper _) [] _ _ H Q I hq) (fun u s' hu=>?_) fun _ _ z=>(show False from z).elim)
 obtain ⟨v,H',J,rv,q⟩:=hu
 exact ⟨v,H',J.os,J.bare,J.base,J.hok,rv,q⟩
end L2
namespace L2
open PySem PySem.Spec PyProof.Rows
def Gro (Pt : Addr) (H H' : Hp) : Prop:=∀ b o,b≠Pt→H b = some o→H' b = some o
theorem Gro.refl (Pt : Addr) (H : Hp) : Gro Pt H H:=fun _ _ _ h=>h
structure zaK (H : Hp) (Pt : Addr) (pos : Pos) (q : Str) : Prop where
 ex : ∃ tab : Array Value,H Pt = some (.tbl tab)∧TriplesOk tab.toList∧(codeAmong pos tab.toList = none∨∃ c,codeAmong pos tab.toList = some (.ref c)∧zeK H c q)
theorem zaK.ext {H H' : Hp} {Pt : Addr} {pos : Pos} {q : Str} (x : zaK H Pt pos q) (e : Ext H H') : zaK H' Pt pos q:=by
 obtain ⟨tab,h1,h2,h3⟩:=x.ex
 refine ⟨tab,e _ _ h1 (fun _ z=>nomatch z),h2,?_⟩
 rcases h3 with h3 | ⟨c,h3,h4⟩
 ·exact .inl h3
 ·exact .inr ⟨c,h3,e _ _ h4 (fun _ z=>nomatch z)⟩
theorem zaK.gro {H H' : Hp} {Pt P2 : Addr} {pos : Pos} {q : Str} (x : zaK H Pt pos q) (e : Gro P2 H H') (hne : Pt≠P2) (h2 : ∃ tab,H P2 = some (.tbl tab)) : zaK H' Pt pos q:=by
 obtain ⟨tab,h1,h3,h4⟩:=x.ex
 refine ⟨tab,e _ _ hne h1,h3,?_⟩
 rcases h4 with h4 | ⟨c,h4,h5⟩
 ·exact .inl h4
 ·refine .inr ⟨c,h4,e _ _ (fun z=>?_) h5⟩
  obtain ⟨tab2,y⟩:=h2
  rw [← z,show H c = _ from h5] at y
  cases y
def BMAt (mg : Str→Option Value) (base : Heap) : Prop:=∃ bm o,mg "__builtins__" = some (.ref bm)∧bm≠builtinsNs∧bm≠mainGlobals∧base.get? bm = some o∧o.cls = .type "module"∧o.dict = some builtinsNs∧o.data = .plain
section
variable {X : Cx} {pins : List (Addr×Obj)} {σ : St} {H : Hp} {s : Shared} {params : Arguments} {body : Expr} {scope : Scope} {lpos : Pos} {c Pt : Addr} {Q : Value→Shared→Prop}
theorem zjV {c' : Addr} {q : Str} {tab more : Array Value} {h' : Heap} {tk : Nat} (I : Inv X pins σ H s) (hP : H Pt = some (.tbl tab)) (hx : ∀ b o,b≠Pt→s.heap.get? b = some o→h'.get? b = some o) (hge : s.heap.objs.size≤c')
  (hrec : h'.CodeRec (.ref c') q) (htb : h'.get? Pt = some (PySem.W.tabObj (tab ++ more))) : Inv X pins σ (upd (upd H Pt (.tbl (tab ++ more))) c' (.ext (zkD c' q))) { s with heap:=h',toks:=tk }:=by
 have hfr : H c' = none:=I.hok.fresh hge
 have nPc : Pt≠c':=zab hP hfr
 have low : ∀ b u,H b = some u→b≠c':=fun b u e=>zab e hfr
 have lows : ∀ b o,s.heap.get? b = some o→b≠c':=fun b o e=>yak (yat (yae e) hge)
 have nP : ∀ b,H b = none→b≠Pt:=fun b n z=>by rw [z,hP] at n; cases n
 refine I.un (t':=tk) ⟨fun b o e n _ _=>hx b o (nP b n) e,fun b o e n _ _=>⟨o.slots,hx b o (nP b n) e⟩,fun b o e n _=>?_,fun b o e _=>?_,fun b xs e=>?_,fun b o u e=>?_,fun b ps e=>?_⟩ fun a o e=>?_
 ·rw [zaf (lows b o e),zaf (nP b n)]
  exact n
 ·by_cases z : b = Pt
  ·exact ⟨_,by rw [z]; exact htb⟩
  ·exact ⟨o,hx b o z e⟩
 ·rw [zaf (low b _ e),zaf (fun z=>by rw [z,hP] at e; cases e)]
  exact e
 ·rw [zaf (low b _ e),zaf (fun z=>by rw [z,hP] at e; cases e)]
  exact e
 ·by_cases z : b = Pt
  ·rw [z,hP] at e
   cases e
   exact ⟨more,by rw [z,zaf nPc,zac]⟩
  ·exact ⟨#[],by rw [zaf (low b _ e),zaf z,e]; simp⟩
 ·by_cases z : a = c'
  ·subst z
   rw [zac] at e
   cases e
   obtain ⟨c2,o2,vs,t,e2,ho2,r2⟩:=id hrec
   cases e2
   exact ⟨hrec,⟨o2,ho2⟩,fun h1 h2 x k=>zkC h1 h2 x k⟩
  ·rw [zaf z] at e
   by_cases y : a = Pt
   ·subst y
    rw [zac] at e
    cases e
    exact htb
   ·rw [zaf y] at e
    refine (I.hok a o e).stay (fun b u hb q=>hx b u ?_ q) (fun b q=>?_) fun b xs q=>?_
    ·rcases hb with rfl | hb
     ·exact y
     ·intro z2
      rw [z2,hP] at hb
      cases hb
    ·rw [zaf (low b _ q),zaf (fun z2=>by rw [z2,hP] at q; cases q)]
     exact q
    ·rw [zaf (low b _ q),zaf (fun z2=>by rw [z2,hP] at q; cases q)]
     exact q
theorem znt (I : Inv X pins σ H s) (hdef : defaultsOf params X.env = ([],[])) (hfr : ∀ x,(x,NameKind.free)∈scope.names→(X.env.kindOf x = some .cell∨X.env.kindOf x = some .free)) (hcode : X.env.code = .ref c) (hC : codeHdIn X.K c Pt = true) (hBM : BMAt X.mg X.base)
  (hT : zaK H Pt lpos (X.env.qual ++ "<lambda>"))
  (h : ∀ (f c' : Addr) (cl : List (Str×Addr)) (pm ctv : Value) (H' : Hp) (s' : Shared),zfg scope X.env cl→Inv X pins σ H' s'→s'.heap.get? f = some (PySem.W.kla_obj "<lambda>" (X.env.qual ++ "<lambda>") params body scope cl pm c' ctv)→H' f = none→s.heap.objs.size≤f→
   Gro Pt H H'→zaK H' Pt lpos (X.env.qual ++ "<lambda>")→zeK H' c' (X.env.qual ++ "<lambda>")→Q (.ref f) s') :
  wpAny (model X.prog X.w) X.A (eval (.Lambda params body scope lpos) X.env) Q X.xe s:=by
 obtain ⟨cl,hcl⟩:=zdf (scope:=scope) (env:=X.env) fun x hx=>I.ok.has x (hfr x hx)
 obtain ⟨tab,hP,ht,hor⟩:=hT.ex
 have hPo : s.heap.get? Pt = some (PySem.W.tabObj tab):=I.hok Pt _ hP
 have C : PySem.W.CodeHd s.heap c Pt:=(PySem.W.codeHd_of_K I.ok.mod.kin hC).keeps I.bk
 have hgl:=I.mod.glob.keeps I.bk
 have hgP : mainGlobals≠Pt:=fun z=>by
  obtain ⟨o,es,ep,e,_⟩:=I.mod.glob
  have:=(I.bs _ _ e).2
  rw [z,hP] at this
  cases this
 have hb : s.heap.BuiltinsAt X.mg Pt:=by
  obtain ⟨bm,o,b1,b2,b3,b4,b5⟩:=hBM
  refine ⟨bm,o,b1,b2,b3,fun z=>?_,I.bk _ _ b4,b5⟩
  have:=(I.bs _ _ b4).2
  rw [z,hP] at this
  cases this
 refine PySem.W.kla_eval hdef ?_
 rcases hor with hnone | ⟨c',hsome,hca⟩
 ·refine PySem.W.kla_makeFunction (clos:=cl) hcl.eq I.ok.glob hgl hcode C hPo ht hnone hgP hb fun c' ctv h' tk hx hge hlt hrec htb=>?_
  have hx' : ∀ o2 b o,b≠Pt→s.heap.get? b = some o→(h'.push o2).get? b = some o:=fun o2 b o n e=>yag _ (hx b o n e)
  have I':=zjV (c':=c') (q:=X.env.qual ++ "<lambda>") (tk:=tk) I hP (hx' _) hge (hrec.push (PySem.W.kla_obj "<lambda>" (X.env.qual ++ "<lambda>") params body scope cl ((X.mg "__name__").getD .none) c' ctv)) (yag _ htb)
  have hsz : s.heap.objs.size≤h'.objs.size:=ybk (ya5 hge hlt)
  have nPc : Pt≠c':=zab hP (I.hok.fresh hge)
  have eT : (tab ++ #[rawInt lpos.line,rawInt lpos.col,.ref c']).toList = tab.toList ++ [rawInt lpos.line,rawInt lpos.col,.ref c']:=by simp
  have hTI : zaK (upd (upd H Pt (.tbl (tab ++ #[rawInt lpos.line,rawInt lpos.col,.ref c']))) c' (.ext (zkD c' (X.env.qual ++ "<lambda>")))) Pt lpos (X.env.qual ++ "<lambda>"):=
   ⟨_,by rw [zaf nPc,zac],by rw [eT]; exact TriplesOk_snoc _ _ _ _ ht,.inr ⟨c',by rw [eT]; exact codeAmong_snoc _ ht hnone,zac⟩⟩
  refine h h'.objs.size c' cl _ ctv _ _ hcl I' (yau _ rfl) ?_ hsz ?_ hTI zac
  ·rw [zaf (ybe hlt),zaf (fun z=>?_)]
   ·exact I.hok.fresh hsz
   ·have:=yae hPo
    rw [← z] at this
    exact absurd this (ybd.mpr hsz)
  ·intro b o n e
   rw [zaf (zab e (I.hok.fresh hge)),zaf n]
   exact e
 ·refine PySem.W.kla_makeFunctionHit (clos:=cl) hcl.eq I.ok.glob hgl hcode C hPo ht hsome hb fun ctv h' tk hk hsz=>?_
  exact h h'.objs.size c' cl _ ctv H _ hcl (I.kept (t':=tk) fun b o e=>yag _ (hk b o e)) (yau _ rfl) (I.hok.fresh hsz) hsz (Gro.refl _ _) hT hca
end
end L2
namespace L2
open PySem PySem.Spec PyProof.Rows
def zcw (X : Cx) (s : Shared) (H : Hp) : Heap:=PySem.W.hideAll s.heap (trk s.heap H ++ frs X.stack)
theorem zd0 {h b1 b2 : Heap} : ∀ {l : List Env},h.FunFrames b1 l→(∀ b∈frs l,b2.get? b = none)→h.FunFrames b2 l
 | [],_,_=>trivial
 | env :: l,⟨h1,⟨L,o,h2,h3,h4,h5⟩,h6⟩,k=>by
  have m : ∀ b∈frs l,b∈frs (env :: l):=fun b hb=>by
   unfold frs
   rw [ybN,h2]
   exact yay _ hb
  refine ⟨h1,⟨L,o,h2,k L ?_,h4,h5⟩,zd0 h6 fun b hb=>k b (m b hb)⟩
  unfold frs
  rw [ybN,h2]
  exact yav
section
variable {X : Cx} {pins : List (Addr×Obj)} {σ : St} {H : Hp} {s : Shared}
theorem ze2 {b : Addr} {o : Obj} (e : s.heap.get? b = some o) (n : H b = none) (hf : b∉frs X.stack) : (zcw X s H).get? b = some o:=
 PySem.W.hideAll_get _ e fun hm=>by
  rcases yaE.mp hm with z | z
  ·have q : (H b).isSome = true:=(ya0.mp z).2
   rw [n] at q
   cases q
  ·exact hf z
theorem zhL {b : Addr} {o : Obj} (e : (zcw X s H).get? b = some o) : s.heap.get? b = some o∧H b = none∧b∉frs X.stack:=by
 have e1:=PySem.W.of_hideAll _ e
 have hm : b∉trk s.heap H ++ frs X.stack:=fun z=>by
  unfold zcw at e
  rw [PySem.W.hideAll_none _ z] at e
  cases e
 rw [yaE,not_or] at hm
 refine ⟨e1,?_,hm.2⟩
 cases q : H b with
 | none=>rfl
 | some u=>exact absurd (ya0.mpr ⟨yaQ.mpr (yae e1),by rw [q]; rfl⟩) hm.1
theorem zgN (I : Inv X pins σ H s) : ∀ b o,X.base.get? b = some o→(zcw X s H).get? b = some o:=fun b o e=>by
 obtain ⟨h1,h2⟩:=I.bs b o e
 refine ze2 h1 h2 fun z=>?_
 have:=(I.stack.mem z).1
 rw [e] at this
 cases this
theorem ziX (I : Inv X pins σ H s) : Env0 X.prog X.w X.K X.mg (zcw X s H) X.A X.stack s H:=by
 have sub:=zgN I
 refine ⟨I.ok.frames,⟨I.mod.kin.keeps sub,I.mod.glob.keeps sub,?_,I.mod.nolimit.keeps sub⟩,fun b o e=>⟨(zhL e).1,(zhL e).2.1⟩,Nat.le_of_eq (PySem.W.hideAll_size _ _),zd0 I.stack fun b hb=>PySem.W.hideAll_none _ (yaK _ hb),I.stkFree,I.hok,I.bare⟩
 obtain ⟨mb,h1,h2⟩:=I.mod.blt
 exact ⟨mb,h1.keeps sub,h2⟩
end
structure FV (P : Program) (w : World) (K : Frag) (mg : Str→Option Value) (base : Heap) (k : Nat) (f : Addr) (ps : List Str) (sp : Sp) : Prop where
 ex : ∃ fd,FnOk P w K mg base CX0 k f fd ps sp∧zhu K fd ps []∧PySem.W.FnAt f base
section
variable {X : Cx}
def zpu (X : Cx) (kr : Nat) (tf : TE) (t : TA) : TE:=fun σ H Q=>tf σ H fun x H1=>∃ f k ps sp,x = .ref f∧FV X.prog X.w X.K X.mg X.base k f ps sp∧k≤kr∧t σ H1 fun vs H2=>sp vs H2 Q E0
theorem zg3 {kr : Nat} {x : Str} {e : Expr} {es : List Expr} {tf : TE} {t : TA} {p pos : Pos} (hr : Room kr X.A) (hf : PE X (.Name x p) tf) (ha : PA X (e :: es) t)
  (he : starEach (e :: es) X.env = (false,eval e X.env) :: starEach es X.env:=by rfl) (hpl : (backTo pos (starEach es X.env)).any (·.1) = false:=by rfl) : PE X (.Call (.Name x p) (e :: es) [] pos) (zpu X kr tf t):=by
 intro pins s σ H Q I h
 refine wpAny_Call_Name_kw (thn (hf pins s σ H _ I h) fun u s1 ⟨x1,H1,I1,r1,q1⟩=>?_)
 obtain ⟨f,k,ps,sp,rfl,hF,hk,q⟩:=q1
 cases r1
 obtain ⟨fd,ok,bd,oc,od,fd2,sl,ho⟩:=hF.ex
 refine PySem.W.callWith_F ⟨oc,od,fd2,sl,I1.bk _ _ ho⟩ (thn (ha pos pins s1 σ H1 _ I1 q) fun us s2 ⟨vs,H2,I2,r,q2⟩=>⟨⟨oc,od,fd2,sl,I2.bk _ _ ho⟩,?_⟩) he hpl
 exact zn3 ok (hr.mono hk) bd .nil zpR I2 r (by rw [yaD]; exact q2)
structure zkG (X : Cx) (params : Arguments) (body : Expr) (scope : Scope) (ps caps : List Str) (cap : List Nat) : Prop where
 sc : zht scope ps caps
 frees : ∀ x,(x,NameKind.free)∈scope.names→(X.env.kindOf x = some .cell∨X.env.kindOf x = some .free)
 capAt : ∀ (j : Nat) (x : Str),caps[j]? = some x→∃ i : Nat,cap[j]? = some i∧X.N[i]? = some x∧(X.env.kindOf x = some .cell∨X.env.kindOf x = some .free)
 dflt : defaultsOf params X.env = ([],[])
 binds : ∀ (cl : List (Str×Addr)) (pm cdv ct : Value) (us : List Value),us.length = ps.length→bindArgs (PySem.W.kla_fn "<lambda>" (X.env.qual ++ "<lambda>") params body scope cl pm cdv ct) ⟨us,[]⟩ = pure (ps.zip us)
 own : ∀ x,X.fn x = true
end
end L2
namespace L2
open PySem PySem.Spec PyProof.Rows
theorem zlS {P : Program} {w : World} {K : Frag} {mg mb : Str→Option Value} {CX : CXT} {k : Nat} {fa a : Addr} {fd : FuncData} {x : Str} {sp : Sp} {s₁ : Shared} {vs : List Value} {ns : List Int} {tabs : List (Addr×Addr)}
  (KX : K.In s₁.heap) (hns : s₁.heap.Ns mainGlobals mg) (hb : s₁.heap.Ns builtinsNs mb) (hbb : ∀ x : Str,x ≠ "__name__"→mb x = bootBuiltins x) (hlim : s₁.heap.NoLimit) (hg : s₁.gens = #[]) (hBM : BMAt mg s₁.heap)
  (hT : PySem.W.TabsAt tabs s₁.heap) (hKT : ∀ q∈tabs,K.lookup q.2 = none)
  (ha : s₁.heap.get? a = some { cls:=.type "list",data:=.seq vs.toArray }) (hi : IntsAre vs ns) (hl : ns.length≤sizeLine) (hr : Room k callerA)
  (F : ∀ base : Heap,K.In base→base.Ns mainGlobals mg→BMAt mg base→FnOk P w K mg base CX k fa fd [x] sp) (hbind : ∀ (s : Shared) (u : Value),BindsTo s fd ⟨[u],[]⟩ [(x,u)])
  (hsp : ∀ H : Hp,(∀ q∈tabs,H q.2 = some (.tbl #[]))→SqL K H a (ns.map V.int)→sp [.ref a] H (fun v _=>v = .bl true) fun _ _ _=>False)
  (hCX : ∀ H e s',CX [] H s₁ (fun _ _ _=>False) e s'→False) :
  codeAny (model P w) callerA (.call (.ref fa) ⟨[.ref a],[]⟩) (fun r s'=>r = .ok (.ret (.bool true))∧OldK s₁.heap s'.heap∧s'.os = s₁.os∧AllBare s'.gens) s₁:=by
 have rv:=zhw hi
 have lenV:=hi.length
 have tabO : ∀ b,b∈tabs.map (·.2)→s₁.heap.get? b = some (PySem.W.tabObj #[])∧isCodeTable s₁.heap b∧K.lookup b = none:=fun b hm=>by
  obtain ⟨q,hq,rfl⟩:=yaF.mp hm
  exact ⟨(hT q hq).2,((hT q hq).1.tab (hT q hq).2).isCodeTable,hKT q hq⟩
 have nat : a∉tabs.map (·.2):=fun z=>by
  have:=(tabO a z).1
  rw [ha] at this
  cases this
 have core : ∀ Hs : Hp,(∀ b,Hs b = none∨(b = a∧Hs b = some (.frz { cls:=.type "list",data:=.seq vs.toArray } (.lst (ns.map V.int)))))→(∀ H : Hp,(∀ b,b∉tabs.map (·.2)→H b = Hs b)→SqL K H a (ns.map V.int))→(Hs a≠none→K.lookup a = none)→
   codeAny (model P w) callerA (.call (.ref fa) ⟨[.ref a],[]⟩) (fun r s'=>r = .ok (.ret (.bool true))∧OldK s₁.heap s'.heap∧s'.os = s₁.os∧AllBare s'.gens) s₁:=by
  intro Hs hO hS hK
  obtain ⟨H,hH⟩ : ∃ H : Hp,H = fun b=>if b∈tabs.map (·.2) then some (.tbl #[]) else Hs b:=⟨_,rfl⟩
  have H1 : ∀ b,b∈tabs.map (·.2)→H b = some (.tbl #[]):=fun b z=>by rw [hH]; exact if_pos z
  have H2 : ∀ b,b∉tabs.map (·.2)→H b = Hs b:=fun b z=>by rw [hH]; exact if_neg z
  have cases3 : ∀ b,H b = none∨(b = a∧H b = some (.frz { cls:=.type "list",data:=.seq vs.toArray } (.lst (ns.map V.int))))∨(b∈tabs.map (·.2)∧H b = some (.tbl #[])):=fun b=>by
   by_cases z : b∈tabs.map (·.2)
   ·exact .inr (.inr ⟨z,H1 b z⟩)
   ·rcases hO b with y | ⟨y1,y2⟩
    ·exact .inl ((H2 b z).trans y)
    ·exact .inr (.inl ⟨y1,(H2 b z).trans y2⟩)
  have hok : HOk P w H s₁.heap:=fun b u e=>by
   rcases cases3 b with y | ⟨y1,y2⟩ | ⟨y1,y2⟩
   ·rw [y] at e; cases e
   ·rw [y2] at e
    cases e
    subst y1
    exact ⟨ha,by rw [yab]; exact hl,vs,_,rv,ha⟩
   ·rw [y2] at e
    cases e
    exact (tabO b y1).1
  have base_of : ∀ {b : Addr} {o : Obj},s₁.heap.get? b = some o→H b = none→(hidT s₁.heap H).get? b = some o:=fun e n=>znC e n
  have noD : ∀ {b : Addr} {o : Obj},s₁.heap.get? b = some o→(∀ xs n,o.data≠.seq xs n)→(∀ xs,o.data≠.fields xs)→H b = none:=fun {b o} e d1 d2=>by
   rcases cases3 b with y | ⟨y1,y2⟩ | ⟨y1,y2⟩
   ·exact y
   ·subst y1
    rw [ha] at e
    cases e
    exact absurd rfl (d1 _ _)
   ·rw [(tabO b y1).1] at e
    cases e
    exact absurd rfl (d2 _)
  have nsK : ∀ {b : Addr} {m : Str→Option Value},s₁.heap.Ns b m→(hidT s₁.heap H).Ns b m:=fun {b m} ⟨o,es,ep,e,d,r⟩=>⟨o,es,ep,base_of e (noD e (fun _ _ z=>by rw [d] at z; cases z) (fun _ z=>by rw [d] at z; cases z)),d,r⟩
  have hKb : K.In (hidT s₁.heap H):=fun b o e=>base_of (KX b o e) (by
   rcases cases3 b with y | ⟨y1,y2⟩ | ⟨y1,y2⟩
   ·exact y
   ·subst y1
    rw [hK (by rw [← H2 b nat,y2]; exact fun z=>nomatch z)] at e
    cases e
   ·rw [(tabO b y1).2.2] at e
    cases e)
  have hM : Mod K mg (hidT s₁.heap H):=⟨hKb,nsK hns,⟨mb,nsK hb,hbb⟩,let ⟨mc,h1,h2⟩:=hlim; ⟨mc,nsK h1,h2⟩⟩
  have hBMb : BMAt mg (hidT s₁.heap H):=by
   obtain ⟨bm,o,b1,b2,b3,b4,b5,b6,b7⟩:=hBM
   exact ⟨bm,o,b1,b2,b3,base_of b4 (noD b4 (fun _ _ z=>by rw [b7] at z; cases z) (fun _ z=>by rw [b7] at z; cases z)),b5,b6,b7⟩
  have e0 : Env0 P w K mg (hidT s₁.heap H) callerA [] s₁ H:=⟨rfl,hM,fun b o e=>zoQ e,Nat.le_of_eq (zmd _ _),trivial,fun b hb=>absurd (show b∈([] : List Addr) from hb) (by simp),hok,.of_eq hg⟩
  refine codeAny_mono ((F _ hKb (nsK hns) hBMb).run callerA [] s₁ H ⟨[.ref a],[]⟩ [.ref a] [.ref a] _ _ hr e0 (hbind s₁ (.ref a)) (.cons rfl .nil) (hsp H (fun q hq=>H1 _ (List.mem_map_of_mem hq)) (hS H H2))) fun r s' h=>?_
  cases r with
  | error e=>exact (hCX H e s' h).elim
  | ok fl=>
   cases fl with
   | next=>exact False.elim h
   | brk=>exact False.elim h
   | cont=>exact False.elim h
   | ret u=>
    obtain ⟨v,H',os,bare,un,hok',r',q⟩:=h
    have q' : v = .bl true:=q
    subst q'
    obtain rfl : u = Value.bool true:=r'
    have keep : ∀ b o,H b = none→s₁.heap.get? b = some o→s'.heap.get? b = some o:=fun b o n e=>un.keep b o e n (by intro z; exact absurd (show b∈([] : List Addr) from z) (by simp)) (by simp)
    have frz : ∀ b o,b = a→H b = some (.frz { cls:=.type "list",data:=.seq vs.toArray } (.lst (ns.map V.int)))→s₁.heap.get? b = some o→s'.heap.get? b = some o:=fun b o y1 y2 e=>by
     obtain ⟨e1,_⟩:=hok b _ y2
     obtain ⟨e2,_⟩:=hok' b _ (un.frzs b _ _ y2)
     rw [e] at e1
     cases e1
     exact e2
    have tbl : ∀ b,H b = some (.tbl #[])→∃ ps,s'.heap.get? b = some (PySem.W.tabObj ps):=fun b y=>by
     obtain ⟨more,e⟩:=un.tbls b _ y
     exact ⟨_,hok' b _ e⟩
    refine ⟨rfl,⟨fun b o e=>?_,fun b o e=>?_⟩,os,bare⟩
    ·rcases cases3 b with y | ⟨y1,y2⟩ | ⟨y1,y2⟩
     ·exact .inl (keep b o y e)
     ·exact .inl (frz b o y1 y2 e)
     ·obtain ⟨ps,hp⟩:=tbl b y2
      obtain ⟨t1,t2,_⟩:=tabO b y1
      rw [e] at t1
      cases t1
      exact .inr (.inl ⟨t2,rfl,#[],ps,rfl,by rw [Array.empty_append]; exact hp⟩)
    ·rcases cases3 b with y | ⟨y1,y2⟩ | ⟨y1,y2⟩
     ·exact ⟨o,keep b o y e⟩
     ·exact ⟨o,frz b o y1 y2 e⟩
     ·obtain ⟨ps,hp⟩:=tbl b y2
      exact ⟨_,hp⟩
 cases hk : K.lookup a with
 | some o=>
  have e:=KX a o hk
  rw [ha] at e
  cases e
  exact core (fun _=>none) (fun _=>.inl rfl) (fun H _=>.inr ⟨_,vs.toArray,_,hk,rfl,rfl,rfl,by rw [yaw,lenV]; exact hl,by simpa using rv⟩) fun z=>absurd rfl z
 | none=>
  refine core (fun b=>if b = a then some (.frz { cls:=.type "list",data:=.seq vs.toArray } (.lst (ns.map V.int))) else none) (fun b=>?_) (fun H h=>.inl (.inr ⟨{ cls:=.type "list",data:=.seq vs.toArray },by rw [h a nat]; exact if_pos rfl⟩)) fun _=>hk
  by_cases z : b = a
  ·exact .inr ⟨z,if_pos z⟩
  ·exact .inl (if_neg z)
theorem zmP {l : OpenLaw} {n k : Nat} {q : Program} {loose : List Str} {XP : (Str→Option Value)→Heap→Prop} {YP : World→Heap→Prop} {d : DefRec} {K : Params→Frag} {sp : World→Sp} {x : Str} {tabs : List (Addr×Addr)}
  (hn : l.most = some n) (hn2 : n≤sizeLine) (hdf : d.params.defaults = []) (hr : Room k callerA)
  (hY : ∀ (w : World) (h : Heap),YP w h→(K w.params).In h) (hYT : ∀ (w : World) (h : Heap),YP w h→∀ q∈tabs,h.get? q.2 = some (PySem.W.tabObj #[]))
  (hC : ∀ (w : World),∀ q∈tabs,codeHdIn (K w.params) q.1 q.2 = true∧(K w.params).lookup q.2 = none)
  (F : ∀ (w : World) (mg : Str→Option Value) (fa : Addr) (h : Heap),(K w.params).In h→h.Ns mainGlobals mg→mg d.name = some (.ref fa)→
   ∃ fd : FuncData,(∀ (s : Shared) (u : Value),BindsTo s fd ⟨[u],[]⟩ [(x,u)])∧
    ∀ base : Heap,(K w.params).In base→base.Ns mainGlobals mg→BMAt mg base→FnOk l.prog w (K w.params) mg base CX0 k fa fd [x] (sp w))
  (hsp : ∀ (w : World) (H : Hp) (a : Addr) (ns : List Int),ns.length≤n→(∀ q∈tabs,H q.2 = some (.tbl #[]))→SqL (K w.params) H a (ns.map V.int)→sp w [.ref a] H (fun v _=>v = .bl true) fun _ _ _=>False) :
  PySem.W.WalkO q loose XP YP l.row.toRowW d [] (fun f vs=>PySem.call f vs):=by
 refine Att.attach_call hn hdf fun w s₀ s₁ mg mb fa o pm cd doc a vs ns G Y ho hd hcd hmg hobj hints hlen hg=>?_
 have KX:=hY w _ Y
 obtain ⟨fd,hb,hF⟩:=F w mg fa _ KX G.T.g hmg
 have hBM : BMAt mg s₁.heap:=by
  obtain ⟨bm,ob,b1,b2,b3,b4,b5,b6⟩:=G.T.bmain
  refine ⟨bm,ob,b1,b2,fun z=>?_,b3,b4,b5,b6⟩
  obtain ⟨o,es,ep,e,hd,_⟩:=G.T.g
  rw [z,e] at b3
  cases b3
  rw [hd] at b6
  cases b6
 exact zlS (tabs:=tabs) KX G.T.g G.T.b G.T.builtins G.T.nolimit hg hBM (fun q hq=>⟨PySem.W.codeHd_of_K KX (hC w q hq).1,hYT w _ Y q hq⟩) (fun q hq=>(hC w q hq).2) hobj hints (yao hlen hn2) hr hF hb (fun H hO hS=>hsp w H a ns hlen hO hS) fun H e s' z=>z
structure DFT (K : Frag) (mg : Str→Option Value) (x : Str) (st : Stmt) (ps : List Str) (c Pt : Addr) : Prop where
 ex : ∃ (f : Addr) (oc : Value) (od : Option Addr) (kV dc pm : Value) (an : Option Addr) (ct : Value) (osl : Array (Option Value)),K.lookup f = some ⟨oc,od,.func (fnOf x x (zcy st) (zbG st) (zaj st) .none kV dc pm an (.ref c) ct),osl⟩∧
  codeIn K (.ref c) x = true∧keepIn K (.ref f) = true∧mg x = some (.ref f)∧zhu K (fnOf x x (zcy st) (zbG st) (zaj st) .none kV dc pm an (.ref c) ct) ps []
 hd : codeHdIn K c Pt = true
theorem DFT.ok {P : Program} {w : World} {K : Frag} {mg : Str→Option Value} {base : Heap} {x : Str} {st : Stmt} {N ps : List Str} {k : Nat} {sp : Sp} {c Pt : Addr} (D : DFT K mg x st ps c Pt) (S : zat N ps (zaj st)) (len : ∀ vs H Q E,sp vs H Q E→vs.length = ps.length)
  (hbody : ∀ (f : Addr) (A : Around) (outer : List Env) (s : Shared) (H : Hp) (vs : List V) (Q : VK) (E : XK),Room k (A.deeper (envOfC x (zaj st) s.heap.objs.size f (.ref c)))→sp vs H Q E→
   ∃ t,PSs (cxOf CX0 P w K mg base N x (zaj st) f (.ref c) A outer s H E).nox (zbG st) t∧t { nx:=fun _ H'=>Q .non H',rt:=Q } (zcE N vs) H) : FC P w K mg base (k + 1) x ps sp:=by
 obtain ⟨f,oc,od,kV,dc,pm,an,ct,osl,lk,hcd,kp,m,bd⟩:=D.ex
 refine ⟨f,_,zqn lk hcd S len fun A outer s H vs Q E hr hsp=>?_,bd,kp,m,oc,od,osl,lk⟩
 obtain ⟨t,h,q⟩:=hbody f A outer s H vs Q E hr hsp
 exact ⟨t,h.nox,q⟩
theorem zmV {K : Frag} {x : Str} {c Pt f : Addr} {oc : Value} {od : Option Addr} {fd : FuncData} {sl : Array (Option Value)} (a : nsIn K mainGlobals x = some (some (.ref f))) (l : K.lookup f = some ⟨oc,od,.func fd,sl⟩) (t : tabIn K x = some (c,Pt)) : fd.code = .ref c:=by
 unfold tabIn at t
 rw [a] at t
 dsimp only at t
 rw [l] at t
 dsimp only at t
 split at t
 ·rename_i c2 hc
  split at t
  ·split at t
   ·cases t
    exact hc
   ·cases t
  ·cases t
 ·cases t
end L2
namespace L2
open PySem PySem.Spec PyProof.Rows
theorem zlT {X : Cx} {params : Arguments} {body : Expr} {scope osc : Scope} {N ps caps : List Str} {cap : List Nat} (sc : zht scope ps caps)
  (h1 : ∀ p∈scope.names,p.2 = NameKind.free→osc.names.lookup p.1 = some NameKind.cell) (h2 : ∀ p∈caps.zip cap,N[p.2]? = some p.1∧osc.names.lookup p.1 = some NameKind.cell) (hl : caps.length = cap.length)
  (ho : X.env.scope = osc) (hN : X.N = N) (d : defaultsOf params X.env = ([],[]))
  (b : ∀ (cl : List (Str×Addr)) (pm cdv ct : Value) (us : List Value),us.length = ps.length→bindArgs (PySem.W.kla_fn "<lambda>" (X.env.qual ++ "<lambda>") params body scope cl pm cdv ct) ⟨us,[]⟩ = pure (ps.zip us))
  (o : ∀ x,X.fn x = true) : zkG X params body scope ps caps cap:=by
 have hk : ∀ x,X.env.kindOf x = osc.names.lookup x:=fun x=>by
  unfold Env.kindOf
  rw [ho]
 refine ⟨sc,fun x hx=>.inl ?_,fun j x hj=>?_,d,b,o⟩
 ·rw [hk]
  exact h1 (x,.free) hx rfl
 ·have hj':=(yah.mp hj).1
  have hc : cap[j]? = some (cap[j]'(by omega)):=yac _
  have hz : (caps.zip cap)[j]? = some (x,cap[j]'(by omega)):=by
   rw [List.getElem?_zip_eq_some]
   exact ⟨hj,hc⟩
  obtain ⟨a1,a2⟩:=h2 _ (yaI hz)
  refine ⟨_,hc,?_,.inl ?_⟩
  ·rw [hN]
   exact a1
  ·rw [hk]
   exact a2
end L2
namespace L2
open PySem PySem.Spec PyProof.Rows
structure Sub (K : Frag) (mg : Str→Option Value) (b1 b2 : Heap) : Prop where
 mod : Mod K mg b1
 get : ∀ b o,b1.get? b = some o→b2.get? b = some o
 size : b1.objs.size≤b2.objs.size
section
variable {P : Program} {w : World} {K : Frag} {mg : Str→Option Value} {b1 b2 : Heap} {k : Nat} {f : Addr} {ps : List Str} {sp : Sp}
theorem FnOk.lift {CX : CXT} {fd : FuncData} (F : FnOk P w K mg b1 CX k f fd ps sp) (S : Sub K mg b1 b2) : FnOk P w K mg b2 CX k f fd ps sp:=
 ⟨F.len,fun A outer s H args us vs Q E hr e0=>F.run A outer s H args us vs Q E hr ⟨e0.frames,S.mod,fun b o e=>e0.bs b o (S.get b o e),yao S.size e0.bsz,zd0 e0.funs (fun b hb=>by
  cases q : b1.get? b with
  | none=>rfl
  | some o=>
   have z:=(e0.funs.mem hb).1
   rw [S.get b o q] at z
   exact nomatch z),e0.frf,e0.hok,e0.bare⟩⟩
theorem FV.lift (F : FV P w K mg b1 k f ps sp) (S : Sub K mg b1 b2) : FV P w K mg b2 k f ps sp:=by
 obtain ⟨fd,ok,bd,oc,od,fd2,sl,ho⟩:=F.ex
 exact ⟨fd,FnOk.lift ok S,bd,oc,od,fd2,sl,S.get _ _ ho⟩
theorem FC.lift {x : Str} (F : FC P w K mg b1 k x ps sp) (S : Sub K mg b1 b2) : FC P w K mg b2 k x ps sp:=by
 obtain ⟨f,fd,ok,r⟩:=F.ex
 exact ⟨f,fd,FnOk.lift ok S,r⟩
theorem BMAt.lift (h : BMAt mg b1) (S : Sub K mg b1 b2) : BMAt mg b2:=by
 obtain ⟨bm,o,h1,h2,h3,h4,h5⟩:=h
 exact ⟨bm,o,h1,h2,h3,S.get _ _ h4,h5⟩
end
def zpt (P : Program) (w : World) (K : Frag) (mg : Str→Option Value) (base : Heap) (kr : Nat) (tf : TE) (t : TA) : TE:=fun σ H Q=>tf σ H fun x H1=>∃ f k ps sp,x = .ref f∧FV P w K mg base k f ps sp∧k≤kr∧t σ H1 fun vs H2=>sp vs H2 Q E0
theorem zm7 (P : Program) (w : World) (K : Frag) (mg : Str→Option Value) (base : Heap) {X : Cx} {kr : Nat} {x : Str} {e : Expr} {es : List Expr} {tf : TE} {t : TA} {p pos : Pos} (hr : Room kr X.A) (hf : PE X (.Name x p) tf) (ha : PA X (e :: es) t)
  (h1 : X.prog = P:=by rfl) (h2 : X.w = w:=by rfl) (h3 : X.K = K:=by rfl) (h4 : X.mg = mg:=by rfl) (h5 : X.base = base:=by rfl)
  (he : starEach (e :: es) X.env = (false,eval e X.env) :: starEach es X.env:=by rfl) (hpl : (backTo pos (starEach es X.env)).any (·.1) = false:=by rfl) : PE X (.Call (.Name x p) (e :: es) [] pos) (zpt P w K mg base kr tf t):=by
 subst h1 h2 h3 h4 h5
 exact zg3 hr hf ha he hpl
section
variable {X : Cx} {pins : List (Addr×Obj)} {σ : St} {H : Hp} {s : Shared}
theorem zdL (I : Inv X pins σ H s) : Sub X.K X.mg X.base (zcw X s H):=⟨I.ok.mod,zgN I,yao I.env0.bsz (Nat.le_of_eq (PySem.W.hideAll_size _ _).symm)⟩
def zog (X : Cx) (n kf : Nat) (ps : List Str) (cap : List Nat) (Pt : Addr) (lpos : Pos) (tb : Heap→TE) (σ : St) (H1 : Hp) (q : Heap→Addr→Hp→Prop) : Prop:=zaK H1 Pt lpos (X.env.qual ++ "<lambda>")∧∃ vcs : List V,vcs.length = n∧(∀ (j i : Nat) (v : V),cap[j]? = some i→vcs[j]? = some v→σ[i]? = some (some v))∧
 ∀ (base : Heap) (f c' : Addr) (H2 : Hp),Gro Pt H1 H2→zaK H2 Pt lpos (X.env.qual ++ "<lambda>")→zeK H2 c' (X.env.qual ++ "<lambda>")→Sub X.K X.mg X.base base→FV X.prog X.w X.K X.mg base kf f ps (zlb ps.length (tb base) vcs c' (X.env.qual ++ "<lambda>"))→q base f H2
theorem zn9 {params : Arguments} {body : Expr} {scope : Scope} {ps caps : List Str} {cap : List Nat} {f c' : Addr} {cl : List (Str×Addr)} {pm ctv : Value} {vcs : List V} {tb : TE} {k n : Nat} (I : Inv X pins σ H s) (L : zkG X params body scope ps caps cap) (hcl : zfg scope X.env cl)
  (ho : s.heap.get? f = some (PySem.W.kla_obj "<lambda>" (X.env.qual ++ "<lambda>") params body scope cl pm c' ctv)) (hn : H f = none) (hfr : ∀ b∈frs X.stack,b < n) (hge : n≤f)
  (hv : vcs.length = caps.length) (hvs : ∀ (j i : Nat) (v : V),cap[j]? = some i→vcs[j]? = some v→σ[i]? = some (some v))
  (hb : ∀ (f : Addr) (cd : Value) (cl : List (Str×Addr)) (A : Around) (outer : List Env) (s1 : Shared) (H1 : Hp),Room k (A.deeper (PySem.W.envX (X.env.qual ++ "<lambda>") scope s1.heap.objs.size f cd cl))→PE (ziR X.prog X.w X.K X.mg (zcw X s H) (ps ++ caps) (X.env.qual ++ "<lambda>") scope f cd cl A outer s1 H1) body tb) :
  FV X.prog X.w X.K X.mg (zcw X s H) (k + 1) f ps (zlb ps.length tb vcs c' (X.env.qual ++ "<lambda>")):=by
 have nf : f∉frs X.stack:=fun z=>absurd (yat (hfr f z) hge) (yaT _)
 have hbf:=ze2 (X:=X) ho hn nf
 have cellB : ∀ x a v,X.env.cells.lookup x = some a→s.heap.IsCell a v→(zcw X s H).IsCell a v:=fun x a v e ⟨o,h1,h2⟩=>by
  refine ⟨o,ze2 h1 (I.freeC x a e) fun z=>?_,h2⟩
  rcases yal.mp (I.stkSub a z) with y | y
  ·exact I.cne x a e y
  ·obtain ⟨_,o2,h3,_⟩:=I.ok.funs.mem y
   exact absurd (yat (yae h3) (I.ok.cab x a (L.own x) e)) (yaT _)
 refine ⟨_,zqc L.sc hbf hv (fun j x v h1 h2=>?_) (fun x a e=>?_) (fun x y a h1 h2=>I.ok.inj x y a (hcl.sub x a h1) (hcl.sub y a h2)) (fun x e=>?_) (fun A outer s H hr=>hb f _ cl A outer s H hr),.all (L.binds cl pm (.ref c') ctv),⟨_,_,_,_,hbf⟩⟩
 ·obtain ⟨i,e1,e2,e3⟩:=L.capAt j x h1
  obtain ⟨m,hm,hl⟩:=I.loc
  obtain ⟨u,ru,lk⟩:=hl i x v e2 (hvs j i v e1 h2) (by
   rcases e3 with z | z
   ·exact .inr (.inl z)
   ·exact .inr (.inr z))
  rcases lk with ⟨z,_⟩ | ⟨_,a,e4,e5⟩
  ·rcases e3 with y | y
   ·rw [y] at z; cases z
   ·rw [y] at z; cases z
  ·obtain ⟨a',e6⟩:=hcl.has x (PySem.mem_of_lookup (L.sc.cap x (yaI h1)))
   have e7:=hcl.sub x a' e6
   rw [e4] at e7
   cases e7
   exact ⟨a,u,e6,cellB x a _ e4 e5,ru⟩
 ·obtain ⟨v,z⟩:=I.cell x a (hcl.sub x a e)
  exact ⟨v,cellB x a v (hcl.sub x a e) z⟩
 ·exact hcl.has x (PySem.mem_of_lookup e)
theorem zns {params : Arguments} {body : Expr} {scope : Scope} {lpos : Pos} {tb : Heap→TE} {kf : Nat} {c Pt : Addr} {ps caps : List Str} {cap : List Nat} {q : Heap→Addr→Hp→Prop} {Qv : List Value→Shared→Prop} (I : Inv X pins σ H s)
  (L : zkG X params body scope ps caps cap) (hcode : X.env.code = .ref c) (hC : codeHdIn X.K c Pt = true) (hBM : BMAt X.mg X.base)
  (hb : ∀ (base : Heap) (f : Addr) (cd : Value) (cl : List (Str×Addr)) (A : Around) (outer : List Env) (s : Shared) (H : Hp),Sub X.K X.mg X.base base→Room kf (A.deeper (PySem.W.envX (X.env.qual ++ "<lambda>") scope s.heap.objs.size f cd cl))→PE (ziR X.prog X.w X.K X.mg base (ps ++ caps) (X.env.qual ++ "<lambda>") scope f cd cl A outer s H) body (tb base))
  (hg : zog X caps.length (kf + 1) ps cap Pt lpos tb σ H q) (h : ∀ f H2 s2,Inv X pins σ H2 s2→q (zcw X s2 H2) f H2→Qv [.ref f] s2) : wpAny (model X.prog X.w) X.A (spliced [(false,eval (.Lambda params body scope lpos) X.env)]) Qv X.xe s:=by
 obtain ⟨hT,vcs,hv,hvs,q⟩:=hg
 refine Calls.spliced_cons (znt I L.dflt L.frees hcode hC hBM hT fun f c' cl pm ctv H2 s2 hcl I2 ho hn hge hgr hT2 hca=>?_)
 have S:=zdL I2
 have hF:=zn9 (k:=kf) (n:=s.heap.objs.size) (tb:=tb (zcw X s2 H2)) I2 L hcl ho hn (fun b hb=>by
  obtain ⟨_,o,e,_⟩:=I.stack.mem hb
  exact yae e) hge hv hvs (fun f cd cl A outer s H hr=>hb _ f cd cl A outer s H S hr)
 exact Calls.spliced_nil (h f H2 s2 I2 (q _ f c' H2 hgr hT2 hca S hF))
theorem zoa {x : Str} {qs : List Str} {sp : Sp} {j k : Nat} {g : Addr} {Q : VK} {us : List Value} {vs : List V} (I : Inv X pins σ H s) (m : X.mg x = some (.ref g)) (F : FC X.prog X.w X.K X.mg (zcw X s H) j x qs sp) (hr : Room k X.A) (hjk : j≤k) (r : Vals vs us) (h : sp vs H Q E0) :
  wpAny (model X.prog X.w) X.A (call (.ref g) us) (EP X pins σ Q) X.xe s:=by
 obtain ⟨g2,fd2,ok,bd,_,m2,_⟩:=F.ex
 rw [m] at m2
 cases m2
 refine wpAny_call (codeAny_mono (ok.run X.A X.stack s H ⟨us,[]⟩ us vs Q E0 (hr.mono hjk) (ziX I) (by simpa using bd s us I.kIn (by rw [yaD,← r.length]; exact ok.len _ _ _ _ h)) r h) fun r s' hq=>?_)
 cases r with
 | error e=>exact False.elim hq
 | ok fl=>
  cases fl with
  | ret u=>exact I.after hq
  | next=>exact False.elim hq
  | brk=>exact False.elim hq
  | cont=>exact False.elim hq
end
section
variable {X : Cx}
def zk3 (X : Cx) (n kf : Nat) (ps : List Str) (cap : List Nat) (Pt : Addr) (lpos : Pos) (tb : Heap→TE) (te : TE) (spH : Heap→Sp) : TE:=fun σ H Q=>te σ H fun x1 H1=>zog X n kf ps cap Pt lpos tb σ H1 fun base f H2=>spH base [x1,.ref f] H2 Q E0
theorem zit {x : Str} {qs : List Str} {e1 : Expr} {params : Arguments} {body : Expr} {scope : Scope} {lpos p pos : Pos} {te : TE} {tb : Heap→TE} {spH : Heap→Sp} {j k kf : Nat} {c Pt : Addr} {ps caps : List Str} {cap : List Nat}
  (F : ∀ base,Sub X.K X.mg X.base base→FC X.prog X.w X.K X.mg base j x qs (spH base)) (hr : Room k X.A) (h1 : PE X e1 te) (L : zkG X params body scope ps caps cap) (hcode : X.env.code = .ref c) (hC : codeHdIn X.K c Pt = true) (hBM : BMAt X.mg X.base)
  (hb : ∀ (base : Heap) (f : Addr) (cd : Value) (cl : List (Str×Addr)) (A : Around) (outer : List Env) (s : Shared) (H : Hp),Sub X.K X.mg X.base base→Room kf (A.deeper (PySem.W.envX (X.env.qual ++ "<lambda>") scope s.heap.objs.size f cd cl))→PE (ziR X.prog X.w X.K X.mg base (ps ++ caps) (X.env.qual ++ "<lambda>") scope f cd cl A outer s H) body (tb base))
  (hjk : j≤k:=by decide) (hg : Gl X x:=by rfl) (hdb : (x == ("__debug__" : Str)) = false:=by decide) (he : starEach [e1,.Lambda params body scope lpos] X.env = (false,eval e1 X.env) :: starEach [.Lambda params body scope lpos] X.env:=by rfl)
  (he2 : starEach [.Lambda params body scope lpos] X.env = [(false,eval (.Lambda params body scope lpos) X.env)]:=by rfl) (hpl : (backTo pos (starEach [.Lambda params body scope lpos] X.env)).any (·.1) = false:=by rfl) :
  PE X (.Call (.Name x p) [e1,.Lambda params body scope lpos] [] pos) (zk3 X caps.length (kf + 1) ps cap Pt lpos tb te spH):=by
 intro pins s σ H Q I h
 obtain ⟨g,fd,_,_,kp,m,oc,od,osl,lk⟩:=(F X.base ⟨I.ok.mod,fun _ _ e=>e,yaa _⟩).ex
 refine wpAny_Call_Name_kw (zhe I hg m ?_ hdb)
 refine PySem.W.callWith_K (h₀:=X.base) I.ok.mod.kin kp ?_ he hpl
 rw [he]
 show wpAny _ _ (spliced ((false,eval e1 X.env) :: backTo pos (starEach [.Lambda params body scope lpos] X.env))) _ _ s
 refine Calls.spliced_cons (thn (h1 pins s σ H _ I h) fun u s1 ⟨x1,H1,I1,r1,q1⟩=>?_)
 rw [he2]
 show wpAny _ _ (spliced [(false,eval (.Lambda params body scope lpos) X.env)]) _ _ s1
 exact zns I1 L hcode hC hBM hb q1 fun f H2 s2 I2 hsp=>⟨I2.kIn,zoa I2 m (F _ (zdL I2)) hr hjk (vs:=[x1,.ref f]) (.cons r1 (.cons rfl .nil)) hsp⟩
end
theorem znF {K : Frag} {a b : Addr} {xs ys : List V} {g : TG} {tb : TS} {D : Ends} {σ : St} {H : Hp} (hlen : ys.length≤xs.length) (Pv : Nat→St→Hp→Prop) (h0 : Pv 0 σ H) (hl : ∀ i σ H,i≤ys.length→Pv i σ H→SqL K H a xs∧SqL K H b ys)
  (hs : ∀ i x y σ H p,xs[i]? = some x→ys[i]? = some y→Pv i σ H→H p = none→g (.ref p) σ (upd H p (.tup [x,y])) fun σ2 H2=>tb { D with nx:=Pv (i + 1),ct:=Pv (i + 1),bk:=D.nx } σ2 H2) (hd : ∀ σ H,Pv ys.length σ H→D.nx σ H) :
  ∃ W : Nat→Nat→St→Hp→Prop,(∃ m,W 0 m σ H)∧∀ i m σ H,W i m σ H→((Itz K a b).stop i H∧D.nx σ H)∨((Itz K a b).go i H∧∃ N : St→Hp→Prop,(∀ σ' H',N σ' H'→∃ m',m' < m∧W (i + 1) m' σ' H')∧∀ x H',(Itz K a b).yld i H x H'→g x σ H' fun σ2 H2=>tb { D with nx:=N,ct:=N,bk:=D.nx } σ2 H2):=by
 refine ⟨fun i m σ H=>i + m = ys.length∧Pv i σ H,⟨ys.length,by omega,h0⟩,fun i m σ H ⟨e,pv⟩=>?_⟩
 obtain ⟨hS,hS'⟩:=hl i σ H (by omega) pv
 by_cases hi : i < ys.length
 ·refine .inr ⟨⟨xs,ys,xs[i]'(by omega),ys[i],hS,hS',yac (by omega),yac hi⟩,Pv (i + 1),fun σ' H' q=>⟨m - 1,by omega,by omega,q⟩,fun x H' y=>?_⟩
  obtain ⟨p,z,z',rfl,hp,hz,hz',rfl⟩:=y
  exact hs i z z' σ H p (hz xs hS) (hz' ys hS') pv hp
 ·have : i = ys.length:=by omega
  subst this
  exact .inl ⟨⟨xs,ys,hS,hS',.inr (yaa _)⟩,hd σ H pv⟩
end L2
namespace L2
open PySem PySem.Spec PyProof.Rows
def Oth (p1 p2 : Pos) : Prop:=(((p1.line : Int) == (p2.line : Int)) && ((p1.col : Int) == (p2.col : Int))) = false
theorem zi1 {p1 p2 : Pos} {c : Value} (ho : Oth p1 p2) (l : List Value) (h : TriplesOk l) : codeAmong p2 (l ++ [rawInt p1.line,rawInt p1.col,c]) = codeAmong p2 l:=by
 fun_induction TriplesOk l with
 | case1=>
  unfold Oth at ho
  simp only [ycc,codeAmong,rawInt]
  rw [ho]
  rfl
 | case2 a t b u x rest ih=>
  simp only [List.cons_append,codeAmong]
  rw [ih h]
 | case3 l h1 h2=>exact h.elim
section
variable {X : Cx} {pins : List (Addr×Obj)} {σ : St} {H : Hp} {s : Shared} {params : Arguments} {body : Expr} {scope : Scope} {lpos : Pos} {c Pt : Addr} {Q : Value→Shared→Prop}
theorem zlV (I : Inv X pins σ H s) (hdef : defaultsOf params X.env = ([],[])) (hfr : ∀ x,(x,NameKind.free)∈scope.names→(X.env.kindOf x = some .cell∨X.env.kindOf x = some .free)) (hcode : X.env.code = .ref c) (hC : codeHdIn X.K c Pt = true) (hBM : BMAt X.mg X.base)
  (hT : zaK H Pt lpos (X.env.qual ++ "<lambda>"))
  (h : ∀ (f c' : Addr) (cl : List (Str×Addr)) (pm ctv : Value) (H' : Hp) (s' : Shared),zfg scope X.env cl→Inv X pins σ H' s'→s'.heap.get? f = some (PySem.W.kla_obj "<lambda>" (X.env.qual ++ "<lambda>") params body scope cl pm c' ctv)→H' f = none→s.heap.objs.size≤f→
   Gro Pt H H'→zaK H' Pt lpos (X.env.qual ++ "<lambda>")→zeK H' c' (X.env.qual ++ "<lambda>")→(∀ p2 q2,Oth lpos p2→zaK H Pt p2 q2→zaK H' Pt p2 q2)→Q (.ref f) s') :
  wpAny (model X.prog X.w) X.A (eval (.Lambda params body scope lpos) X.env) Q X.xe s:=by
 obtain ⟨cl,hcl⟩:=zdf (scope:=scope) (env:=X.env) fun x hx=>I.ok.has x (hfr x hx)
 obtain ⟨tab,hP,ht,hor⟩:=hT.ex
 have hPo : s.heap.get? Pt = some (PySem.W.tabObj tab):=I.hok Pt _ hP
 have C : PySem.W.CodeHd s.heap c Pt:=(PySem.W.codeHd_of_K I.ok.mod.kin hC).keeps I.bk
 have hgl:=I.mod.glob.keeps I.bk
 have hgP : mainGlobals≠Pt:=fun z=>by
  obtain ⟨o,es,ep,e,_⟩:=I.mod.glob
  have:=(I.bs _ _ e).2
  rw [z,hP] at this
  cases this
 have hb : s.heap.BuiltinsAt X.mg Pt:=by
  obtain ⟨bm,o,b1,b2,b3,b4,b5⟩:=hBM
  refine ⟨bm,o,b1,b2,b3,fun z=>?_,I.bk _ _ b4,b5⟩
  have:=(I.bs _ _ b4).2
  rw [z,hP] at this
  cases this
 refine PySem.W.kla_eval hdef ?_
 rcases hor with hnone | ⟨c',hsome,hca⟩
 ·refine PySem.W.kla_makeFunction (clos:=cl) hcl.eq I.ok.glob hgl hcode C hPo ht hnone hgP hb fun c' ctv h' tk hx hge hlt hrec htb=>?_
  have hx' : ∀ o2 b o,b≠Pt→s.heap.get? b = some o→(h'.push o2).get? b = some o:=fun o2 b o n e=>yag _ (hx b o n e)
  have I':=zjV (c':=c') (q:=X.env.qual ++ "<lambda>") (tk:=tk) I hP (hx' _) hge (hrec.push (PySem.W.kla_obj "<lambda>" (X.env.qual ++ "<lambda>") params body scope cl ((X.mg "__name__").getD .none) c' ctv)) (yag _ htb)
  have hsz : s.heap.objs.size≤h'.objs.size:=ybk (ya5 hge hlt)
  have nPc : Pt≠c':=zab hP (I.hok.fresh hge)
  have eT : (tab ++ #[rawInt lpos.line,rawInt lpos.col,.ref c']).toList = tab.toList ++ [rawInt lpos.line,rawInt lpos.col,.ref c']:=by simp
  have hTI : zaK (upd (upd H Pt (.tbl (tab ++ #[rawInt lpos.line,rawInt lpos.col,.ref c']))) c' (.ext (zkD c' (X.env.qual ++ "<lambda>")))) Pt lpos (X.env.qual ++ "<lambda>"):=
   ⟨_,by rw [zaf nPc,zac],by rw [eT]; exact TriplesOk_snoc _ _ _ _ ht,.inr ⟨c',by rw [eT]; exact codeAmong_snoc _ ht hnone,zac⟩⟩
  refine h h'.objs.size c' cl _ ctv _ _ hcl I' (yau _ rfl) ?_ hsz ?_ hTI zac ?_
  ·rw [zaf (ybe hlt),zaf (fun z=>?_)]
   ·exact I.hok.fresh hsz
   ·have:=yae hPo
    rw [← z] at this
    exact absurd this (ybd.mpr hsz)
  ·intro b o n e
   rw [zaf (zab e (I.hok.fresh hge)),zaf n]
   exact e
  ·intro p2 q2 ho x
   obtain ⟨tab',x1,x2,x3⟩:=x.ex
   rw [hP] at x1
   cases x1
   refine ⟨_,by rw [zaf nPc,zac],by rw [eT]; exact TriplesOk_snoc _ _ _ _ ht,?_⟩
   rw [eT,zi1 ho _ ht]
   rcases x3 with x3 | ⟨c2,x3,x4⟩
   ·exact .inl x3
   ·refine .inr ⟨c2,x3,?_⟩
    have m1 : c2≠Pt:=fun z=>by
     have y : H c2 = _:=x4
     rw [z,hP] at y
     cases y
    show upd _ _ _ c2 = _
    rw [zaf (zab x4 (I.hok.fresh hge)),zaf m1]
    exact x4
 ·refine PySem.W.kla_makeFunctionHit (clos:=cl) hcl.eq I.ok.glob hgl hcode C hPo ht hsome hb fun ctv h' tk hk hsz=>?_
  exact h h'.objs.size c' cl _ ctv H _ hcl (I.kept (t':=tk) fun b o e=>yag _ (hk b o e)) (yau _ rfl) (I.hok.fresh hsz) hsz (Gro.refl _ _) hT hca fun _ _ _ x=>x
end
section
variable {X : Cx} {pins : List (Addr×Obj)} {σ : St} {H : Hp} {s : Shared}
def zmN (X : Cx) (n kf : Nat) (ps : List Str) (cap : List Nat) (Pt : Addr) (lpos : Pos) (tb : Heap→TE) (σ : St) (H1 : Hp) (q : Heap→Addr→Hp→Prop) : Prop:=zaK H1 Pt lpos (X.env.qual ++ "<lambda>")∧∃ vcs : List V,vcs.length = n∧(∀ (j i : Nat) (v : V),cap[j]? = some i→vcs[j]? = some v→σ[i]? = some (some v))∧
 ∀ (base : Heap) (f c' : Addr) (H2 : Hp),Gro Pt H1 H2→zaK H2 Pt lpos (X.env.qual ++ "<lambda>")→zeK H2 c' (X.env.qual ++ "<lambda>")→(∀ p2 q2,Oth lpos p2→zaK H1 Pt p2 q2→zaK H2 Pt p2 q2)→Sub X.K X.mg X.base base→FV X.prog X.w X.K X.mg base kf f ps (zlb ps.length (tb base) vcs c' (X.env.qual ++ "<lambda>"))→q base f H2
theorem zlU {params : Arguments} {body : Expr} {scope : Scope} {lpos : Pos} {tb : Heap→TE} {kf : Nat} {c Pt : Addr} {ps caps : List Str} {cap : List Nat} {q : Heap→Addr→Hp→Prop} {Qv : List Value→Shared→Prop} (I : Inv X pins σ H s)
  (L : zkG X params body scope ps caps cap) (hcode : X.env.code = .ref c) (hC : codeHdIn X.K c Pt = true) (hBM : BMAt X.mg X.base)
  (hb : ∀ (base : Heap) (f : Addr) (cd : Value) (cl : List (Str×Addr)) (A : Around) (outer : List Env) (s : Shared) (H : Hp),Sub X.K X.mg X.base base→Room kf (A.deeper (PySem.W.envX (X.env.qual ++ "<lambda>") scope s.heap.objs.size f cd cl))→PE (ziR X.prog X.w X.K X.mg base (ps ++ caps) (X.env.qual ++ "<lambda>") scope f cd cl A outer s H) body (tb base))
  (hg : zmN X caps.length (kf + 1) ps cap Pt lpos tb σ H q) (h : ∀ f H2 s2,Inv X pins σ H2 s2→q (zcw X s2 H2) f H2→Qv [.ref f] s2) : wpAny (model X.prog X.w) X.A (spliced [(false,eval (.Lambda params body scope lpos) X.env)]) Qv X.xe s:=by
 obtain ⟨hT,vcs,hv,hvs,q⟩:=hg
 refine Calls.spliced_cons (zlV I L.dflt L.frees hcode hC hBM hT fun f c' cl pm ctv H2 s2 hcl I2 ho hn hge hgr hT2 hca hot=>?_)
 have S:=zdL I2
 have hF:=zn9 (k:=kf) (n:=s.heap.objs.size) (tb:=tb (zcw X s2 H2)) I2 L hcl ho hn (fun b hb=>by
  obtain ⟨_,o,e,_⟩:=I.stack.mem hb
  exact yae e) hge hv hvs (fun f cd cl A outer s H hr=>hb _ f cd cl A outer s H S hr)
 exact Calls.spliced_nil (h f H2 s2 I2 (q _ f c' H2 hgr hT2 hca hot S hF))
end
section
variable {X : Cx}
def zk2 (X : Cx) (n kf : Nat) (ps : List Str) (cap : List Nat) (Pt : Addr) (lpos : Pos) (tb : Heap→TE) (te te2 : TE) (spH : Heap→Sp) : TE:=fun σ H Q=>te σ H fun x1 H1=>te2 σ H1 fun x2 H2=>zmN X n kf ps cap Pt lpos tb σ H2 fun base f H3=>spH base [x1,x2,.ref f] H3 Q E0
theorem zfL {x : Str} {qs : List Str} {e1 e2 : Expr} {params : Arguments} {body : Expr} {scope : Scope} {lpos p pos : Pos} {te te2 : TE} {tb : Heap→TE} {spH : Heap→Sp} {j k kf : Nat} {c Pt : Addr} {ps caps : List Str} {cap : List Nat}
  (F : ∀ base,Sub X.K X.mg X.base base→FC X.prog X.w X.K X.mg base j x qs (spH base)) (hr : Room k X.A) (h1 : PE X e1 te) (h2 : PE X e2 te2) (L : zkG X params body scope ps caps cap) (hcode : X.env.code = .ref c) (hC : codeHdIn X.K c Pt = true) (hBM : BMAt X.mg X.base)
  (hb : ∀ (base : Heap) (f : Addr) (cd : Value) (cl : List (Str×Addr)) (A : Around) (outer : List Env) (s : Shared) (H : Hp),Sub X.K X.mg X.base base→Room kf (A.deeper (PySem.W.envX (X.env.qual ++ "<lambda>") scope s.heap.objs.size f cd cl))→PE (ziR X.prog X.w X.K X.mg base (ps ++ caps) (X.env.qual ++ "<lambda>") scope f cd cl A outer s H) body (tb base))
  (hjk : j≤k:=by decide) (hg : Gl X x:=by rfl) (hdb : (x == ("__debug__" : Str)) = false:=by decide) (he : starEach [e1,e2,.Lambda params body scope lpos] X.env = (false,eval e1 X.env) :: starEach [e2,.Lambda params body scope lpos] X.env:=by rfl)
  (he2 : starEach [e2,.Lambda params body scope lpos] X.env = [(false,eval e2 X.env),(false,eval (.Lambda params body scope lpos) X.env)]:=by rfl) (hpl : (backTo pos (starEach [e2,.Lambda params body scope lpos] X.env)).any (·.1) = false:=by rfl) :
  PE X (.Call (.Name x p) [e1,e2,.Lambda params body scope lpos] [] pos) (zk2 X caps.length (kf + 1) ps cap Pt lpos tb te te2 spH):=by
 intro pins s σ H Q I h
 obtain ⟨g,fd,_,_,kp,m,oc,od,osl,lk⟩:=(F X.base ⟨I.ok.mod,fun _ _ e=>e,yaa _⟩).ex
 refine wpAny_Call_Name_kw (zhe I hg m ?_ hdb)
 refine PySem.W.callWith_K (h₀:=X.base) I.ok.mod.kin kp ?_ he hpl
 rw [he]
 show wpAny _ _ (spliced ((false,eval e1 X.env) :: backTo pos (starEach [e2,.Lambda params body scope lpos] X.env))) _ _ s
 refine Calls.spliced_cons (thn (h1 pins s σ H _ I h) fun u s1 ⟨x1,H1,I1,r1,q1⟩=>?_)
 rw [he2]
 show wpAny _ _ (spliced ((false,eval e2 X.env) :: [(false,eval (.Lambda params body scope lpos) X.env)])) _ _ s1
 refine Calls.spliced_cons (thn (h2 pins s1 σ H1 _ I1 q1) fun u2 s2 ⟨x2,H2,I2,r2,q2⟩=>?_)
 exact zlU I2 L hcode hC hBM hb q2 fun f H3 s3 I3 hsp=>⟨I3.kIn,zoa I3 m (F _ (zdL I3)) hr hjk (vs:=[x1,x2,.ref f]) (.cons r1 (.cons r2 (.cons rfl .nil))) hsp⟩
end
end L2
namespace SetW
open PySem PySem.Spec PyProof.Rows
set_option autoImplicit false
abbrev Up1 (l : List Nat) : Prop:=l.Pairwise (· < ·)
structure Good (t : SetTable) : Prop where
 up : Up1 t.place.toList
 no : t.dummies = #[]
theorem zkO {xs : Array Nat} (h : Up1 xs.toList) {i k : Nat} (hi : i < k) (hk : k < xs.size) : xs[i]'(by omega) < xs[k]:=by
 have:=yaL.mp h i k (by simpa using (by omega : i < xs.size)) (by simpa using hk) hi
 simpa using this
theorem zo4 (xs : Array Nat) (j : Nat) (hs : Up1 xs.toList) : ∀ (f lo hi : Nat),hi - lo≤f→lo≤hi→hi≤xs.size→(∀ i (h : i < xs.size),i < lo→xs[i] < j)→(∀ i (h : i < xs.size),hi≤i→j≤xs[i])→
  SetTable.below.go xs j f lo hi≤xs.size∧(∀ i (h : i < xs.size),i < SetTable.below.go xs j f lo hi→xs[i] < j)∧(∀ i (h : i < xs.size),SetTable.below.go xs j f lo hi≤i→j≤xs[i])
 | 0,lo,hi,h1,h2,h3,h4,h5=>by
  unfold SetTable.below.go
  exact ⟨by omega,h4,fun i h k=>h5 i h (by omega)⟩
 | f + 1,lo,hi,h1,h2,h3,h4,h5=>by
  unfold SetTable.below.go
  by_cases c : lo < hi
  ·have hm : (lo + hi) / 2 < xs.size:=by omega
   have hg : xs.getD ((lo + hi) / 2) j = xs[(lo + hi) / 2]:=by simp [Array.getD,hm]
   simp only [c,if_true,hg]
   by_cases d : xs[(lo + hi) / 2] < j
   ·simp only [d,if_true]
    refine zo4 xs j hs f _ _ (by omega) (by omega) h3 (fun i h k=>?_) h5
    rcases Nat.lt_or_ge i ((lo + hi) / 2) with z | z
    ·exact ybQ (zkO hs z hm) d
    ·have : i = (lo + hi) / 2:=by omega
     subst this
     exact d
   ·simp only [d,if_false]
    refine zo4 xs j hs f _ _ (by omega) (by omega) (by omega) h4 (fun i h k=>?_)
    rcases Nat.lt_or_ge ((lo + hi) / 2) i with z | z
    ·exact yao (ybg d) (ybk (zkO hs z h))
    ·have : i = (lo + hi) / 2:=by omega
     subst this
     exact ybg d
  ·simp only [c,if_false]
   exact ⟨by omega,h4,fun i h k=>h5 i h (by omega)⟩
theorem zj2 (xs : Array Nat) (j : Nat) (hs : Up1 xs.toList) : SetTable.below xs j≤xs.size∧(∀ i (h : i < xs.size),i < SetTable.below xs j→xs[i] < j)∧(∀ i (h : i < xs.size),SetTable.below xs j≤i→j≤xs[i]):=
 zo4 xs j hs xs.size 0 xs.size (by omega) (by omega) (yaa _) (fun i h k=>by omega) (fun i h k=>by omega)
def spot (xs : Array Nat) (i : Nat) : Nat:=if i = 0 then 0 else xs.getD (i - 1) 0 + 1
theorem zgM {xs : Array Nat} (hs : Up1 xs.toList) {i : Nat} (hi : i≤xs.size) : SetTable.below xs (spot xs i) = i:=by
 obtain ⟨r1,r2,r3⟩:=zj2 xs (spot xs i) hs
 generalize SetTable.below xs (spot xs i) = r at r1 r2 r3
 rcases Nat.lt_trichotomy r i with z | z | z
 ·have h0 : r < xs.size:=by omega
  have q:=r3 r h0 (yaa _)
  have hp : i - 1 < xs.size:=by omega
  have e : spot xs i = xs[i - 1] + 1:=by
   unfold spot
   rw [if_neg (by omega)]
   simp [Array.getD,hp]
  rw [e] at q
  rcases Nat.lt_or_ge r (i - 1) with y | y
  ·have:=zkO hs y hp
   omega
  ·have : r = i - 1:=by omega
   subst this
   omega
 ·exact z
 ·have h0 : i < xs.size:=by omega
  have q:=r2 i h0 z
  by_cases y : i = 0
  ·subst y
   simp [spot] at q
  ·have hp : i - 1 < xs.size:=by omega
   have e : spot xs i = xs[i - 1] + 1:=by
    unfold spot
    rw [if_neg y]
    simp [Array.getD,hp]
   rw [e] at q
   have:=zkO hs (show i - 1 < i by omega) h0
   omega
theorem zkN {xs : Array Nat} {j : Nat} (hs : Up1 xs.toList) (hn : xs[SetTable.below xs j]?≠some j) : Up1 (SetTable.insertAt xs (SetTable.below xs j) j).toList:=by
 obtain ⟨r1,r2,r3⟩:=zj2 xs j hs
 generalize SetTable.below xs j = r at r1 r2 r3 hn ⊢
 rw [SetTable.toList_insertAt]
 have hs':=hs
 rw [← ybp r xs.toList] at hs'
 obtain ⟨p1,p2,p3⟩:=ycv.mp hs'
 have gt : ∀ i (h : i < xs.size),r≤i→j < xs[i]:=fun i h k=>by
  have q:=r3 i h k
  rcases Nat.lt_or_eq_of_le q with z | z
  ·exact z
  ·rcases Nat.lt_or_eq_of_le k with y | y
   ·have h1:=r3 r (by omega) (yaa _)
    have:=zkO hs y h
    omega
   ·subst y
    exact absurd (by rw [ybt h,← z]) hn
 have lo : ∀ a∈xs.toList.take r,a < j:=fun a ha=>by
  obtain ⟨i,hi,e⟩:=ycw.mp ha
  have : i < xs.size:=by simpa using (by omega : i < xs.toList.length)
  rw [← e]
  simpa using r2 i this (by omega)
 have hi : ∀ a∈xs.toList.drop r,j < a:=fun a ha=>by
  obtain ⟨i,hi,e⟩:=List.mem_drop_iff_getElem.mp ha
  have : r + i < xs.size:=by simpa [Nat.add_comm] using hi
  rw [← e]
  simpa [Nat.add_comm] using gt (r + i) this (by omega)
 refine ycv.mpr ⟨p1,List.pairwise_cons.mpr ⟨hi,p2⟩,fun a ha b hb=>?_⟩
 rcases yal.mp hb with e | hb
 ·rw [e]
  exact lo a ha
 ·exact p3 a ha b hb
theorem zjR (j : Nat) : SetTable.has #[] j = false:=by
 simp [SetTable.has]
theorem zlf {t : SetTable} (g : Good t) (j : Nat) : t.slot j≠.dummy∧(t.slot j = .empty→t.place[SetTable.below t.place j]?≠some j):=by
 unfold SetTable.slot
 rw [g.no,zjR]
 by_cases c : (t.place[SetTable.below t.place j]? == some j) = true
 ·simp only [c,if_true]
  refine ⟨?_,?_⟩ <;> intro z <;> cases z
 ·rw [if_neg c]
  refine ⟨by simp,fun _ z=>c ?_⟩
  rw [z]
  simp
theorem zmK (t : SetTable) (p : SetTable.Probe) : (t.advance p).dummy = p.dummy:=by
 unfold SetTable.advance
 split <;> rfl
theorem zfH {t : SetTable} (g : Good t) {f : Nat→Int} {h : Int} : ∀ (n : Nat) (p : SetTable.Probe) (j : Nat) (d : Option Nat),p.dummy = none→SetTable.probe.go t f h n p = some (.empty j d)→d = none∧t.slot j = .empty
 | 0,p,j,d,_,e=>by simp [SetTable.probe.go] at e
 | n + 1,p,j,d,hp,e=>by
  unfold SetTable.probe.go at e
  cases z : t.slot p.j with
  | empty=>
   rw [z] at e
   simp only [Option.some.injEq,SetTable.Met.empty.injEq] at e
   obtain ⟨e1,e2⟩:=e
   subst e1
   exact ⟨by rw [← e2,hp],z⟩
  | dummy=>exact absurd z (zlf g _).1
  | live i=>
   rw [z] at e
   dsimp only at e
   split at e
   ·simp at e
   ·exact zfH g n _ j d (by rw [zmK]; exact hp) e
theorem zo5 {t : SetTable} (g : Good t) {h : Int} {j : Nat} {b : Bool} (e : t.freeSlot h = some (j,b)) : t.place[SetTable.below t.place j]?≠some j:=by
 unfold SetTable.freeSlot SetTable.probe at e
 split at e
 ·rename_i j' d hm
  obtain ⟨e1,e2⟩:=zfH g _ _ _ _ rfl hm
  subst e1
  simp only [Option.getD_none,Option.isSome_none,Option.some.injEq,Prod.mk.injEq] at e
  rw [← e.1]
  exact (zlf g _).2 e2
 ·simp at e
theorem zmR (n : Nat) : Up1 (Array.range n).toList:=by
 rw [Array.toList_range]
 exact ybW
theorem zdG (t : SetTable) (n : Nat) : Good (t.standIn n):=⟨zmR n,rfl⟩
theorem zmh {t : SetTable} (g : Good t) (n : Nat) : Good (t.orStandIn n)∧(t.orStandIn n).led = t.led:=by
 unfold SetTable.orStandIn
 split
 ·exact ⟨g,rfl⟩
 ·exact ⟨zdG t n,rfl⟩
theorem zjW {t : SetTable} (g : Good t) (es : Array (Int×Value)) (h : Int) (x : Value) : Good (layNew t es h x).2.1∧(layNew t es h x).2.1.led = t.led:=by
 unfold layNew
 cases z : t.freeSlot h with
 | none=>exact ⟨zdG t _,rfl⟩
 | some q=>
  obtain ⟨j,b⟩:=q
  have hn:=zo5 g z
  have gp : Good (t.put j).1:=by
   refine ⟨zkN g.up hn,?_⟩
   show (if SetTable.has t.dummies j then _ else t.dummies) = #[]
   rw [g.no,zjR]
   rfl
  exact ⟨(zmh gp _).1,(zmh gp _).2⟩
theorem zgC {t : SetTable} (es : Array (Int×Value)) (n : Nat) : Good (relayAll t es n).2.1∧(relayAll t es n).2.1.led = t.led:=by
 unfold relayAll
 cases z : t.relaid (es.map (·.1)) n with
 | none=>exact ⟨zdG t _,rfl⟩
 | some q=>
  obtain ⟨t',order⟩:=q
  dsimp only
  split
  ·unfold SetTable.relaid SetTable.laid at z
   cases y : SetTable.layClean (SetTable.sizeAbove n - 1) (es.map (·.1)) with
   | none=>rw [y] at z; cases z
   | some owner=>
    rw [y] at z
    simp only [Option.bind_eq_bind,Option.bind_some,Option.pure_def,Option.some.injEq,Prod.mk.injEq] at z
    obtain ⟨z1,_⟩:=z
    subst z1
    refine ⟨⟨?_,rfl⟩,rfl⟩
    dsimp only
    refine ybv.mpr (List.pairwise_filterMap.mpr (List.pairwise_lt_range.imp fun {a b} hab x hx y hy=>?_))
    obtain ⟨_,_,rfl⟩:=ya4.mp hx
    obtain ⟨_,_,rfl⟩:=ya4.mp hy
    exact hab
  ·exact ⟨zdG t _,rfl⟩
end SetW
namespace SetW
open PySem PySem.Spec PyProof.Rows
set_option autoImplicit false
section
variable {prog : Program} {w : World} {A : Around} {E : Value→Shared→Prop} {s : Shared} {a : Addr} {σ : List Int} {L : Bool}
def ent (e : Int×Value) : Int:=match e.2 with | .int k _=>k | _=>0
structure Body (es : Array (Int×Value)) (σ : List Int) (t : SetTable) (L : Bool) : Prop where
 are : ∀ e∈es.toList,∃ k tk,e = (hashInt k,.int k tk)
 perm : (es.toList.map ent).Perm σ
 fits : t.fits es.size = true
 good : Good t
 led : t.led = L
def SetR (h : Heap) (a : Addr) (σ : List Int) (L : Bool) : Prop:=∃ o es ep t,h.get? a = some o∧o.ExactSet∧o.data = .set es ep t∧Body es σ t L
theorem Body.size {es : Array (Int×Value)} {t : SetTable} (b : Body es σ t L) : es.size = σ.length:=by
 rw [← b.perm.length_eq,yab,ya3]
theorem Body.elems {es : Array (Int×Value)} {t : SetTable} (b : Body es σ t L) : ElemsOf (intKind prog w) es.toList:=fun e he=>by
 obtain ⟨k,tk,rfl⟩:=b.are e he
 exact ⟨⟨k,intKind_is _ _ _ _,rfl⟩,rfl⟩
theorem Body.mem {es : Array (Int×Value)} {t : SetTable} (b : Body es σ t L) (k : Int) : k∈σ↔∃ e∈es.toList,(intKind prog w).is k e.2 = true:=by
 rw [← b.perm.mem_iff,yaF]
 constructor
 ·rintro ⟨e,he,z⟩
  obtain ⟨k',tk,rfl⟩:=b.are e he
  have : k' = k:=z
  subst this
  exact ⟨_,he,intKind_is _ _ _ _⟩
 ·rintro ⟨e,he,z⟩
  obtain ⟨k',tk,rfl⟩:=b.are e he
  exact ⟨_,he,((intKind prog w).inj _ _ _ (intKind_is _ _ _ _) z)⟩
theorem SetR.keep {h h' : Heap} (x : SetR h a σ L) (k : ∀ o,h.get? a = some o→h'.get? a = some o) : SetR h' a σ L:=by
 obtain ⟨o,es,ep,t,ho,r⟩:=x
 exact ⟨o,es,ep,t,k o ho,r⟩
theorem SetR.put {h : Heap} {o : Obj} {es es' : Array (Int×Value)} {ep : Nat} {t t' : SetTable} (ho : h.get? a = some o) (hx : o.ExactSet) (hd : o.data = .set es ep t) (b : Body es' σ t' L) :
  (h.update a (Obj.putSet es' t')).get? a = some { o with data:=.set es' (ep + 1) t' }∧SetR (h.update a (Obj.putSet es' t')) a σ L:=by
 have g:=ybf (Obj.putSet es' t') ho (by rw [putSet_of es' t' hd]; rfl)
 rw [putSet_of es' t' hd] at g
 exact ⟨g,_,es',ep + 1,t',g,hx,rfl,b⟩
theorem ziJ (b : Bool) {Q : Unit→Shared→Prop} (q : Q () s) : wpAny (model prog w) A (match b with | true=>rule "set.scan.the-table-gave-way" | false=>pure ()) Q E s:=by
 cases b
 ·exact wpAny_pure q
 ·exact wpAny_rule q
theorem zkX {g : Bool→Sem Unit} (hg : ∀ (b : Bool) (s₁ : Shared) (Q' : Unit→Shared→Prop),Q' () s₁→wpAny (model prog w) A (g b) Q' E s₁)
  {o : Obj} {es : Array (Int×Value)} {ep : Nat} {t : SetTable} (ho : s.heap.get? a = some o) (hx : o.ExactSet) (hd : o.data = .set es ep t)
  {es1 : Array (Int×Value)} {t2 : SetTable} (b : Body es1 σ t2 L) (hb : σ.length < scanBound) {was : Bool} {R : Option Bool→Shared→Prop}
  (q : ∀ h',Heap.SameBut a s.heap h'→SetR h' a σ L→R (some true) { s with heap:=h' }) :
  wpAny (model prog w) A (do
    storeSet a es1 t2
    if (!was && t2.tooFull) = true then do
      g (relayAll t2 es1 (SetTable.grown es1.size)).2.2
      storeSet a (relayAll t2 es1 (SetTable.grown es1.size)).1 (relayAll t2 es1 (SetTable.grown es1.size)).2.1
      pure (some true)
     else pure (some true)) R E s:=by
 have z1:=b.size
 refine wpAny_bind (wpAny_storeSet_of ho hd ?_ (fits_of_scanBound (by omega)))
 obtain ⟨g1,r1⟩:=SetR.put ho hx hd b
 have sb:=Heap.SameBut.update s.heap a (Obj.putSet es1 t2)
 split
 ·have hp:=relayAll_perm t2 es1 (SetTable.grown es1.size)
  have b2 : Body (relayAll t2 es1 (SetTable.grown es1.size)).1 σ (relayAll t2 es1 (SetTable.grown es1.size)).2.1 L:=
   ⟨fun e he=>b.are e (hp.mem_iff.mp he),(hp.map _).trans b.perm,relayAll_fits ..,(zgC ..).1,(zgC ..).2.trans b.led⟩
  generalize relayAll t2 es1 (SetTable.grown es1.size) = Rl at b2 ⊢
  have z2:=b2.size
  refine wpAny_bind (hg _ _ _ (wpAny_bind (wpAny_storeSet_of g1 rfl ?_ (fits_of_scanBound (by omega)))))
  exact wpAny_pure (q _ (sb.trans (Heap.SameBut.update _ a _)) (SetR.put g1 hx rfl b2).2)
 ·exact wpAny_pure (q _ sb r1)
theorem zqz {k : Int} {tk : Nat} {Q : Bool→Shared→Prop} (hS : SetR s.heap a σ L) (hb : σ.length + 1 < scanBound)
  (q : ∀ h' b,Heap.SameBut a s.heap h'→SetR h' a (step_dedup σ k) L→Q b { s with heap:=h' }) :
  wpAny (model prog w) A (setAddHashed a (.int k tk) (hashInt k)) Q E s:=by
 obtain ⟨o,es,ep,t,ho,hx,hd,b⟩:=hS
 have zs:=b.size
 have hkey : (intKind prog w).is k (.int k tk) = true:=intKind_is _ _ _ _
 have hel : ElemsOf (intKind prog w) es.toList:=b.elems
 unfold setAddHashed setAddHashedIn
 refine wpAny_holding (wpAny_bind (wpAny_setState_of ho hd b.fits ?_))
 dsimp only
 rw [byScan_of (knd:=intKind prog w) rfl (by omega) hel]
 simp only [↓reduceIte]
 unfold setAddByScan
 refine wpAny_bind (wpAny_bind (wpAny_rule (wpAny_bind (wpAny_setScan_of (knd:=intKind prog w) hkey ho hd b.fits hel ?_))))
 have mm:=b.mem (prog:=prog) (w:=w) k
 cases hr : List.findIdx? (fun e=>(intKind prog w).is k e.2) es.toList with
 | some j=>
  dsimp only
  obtain ⟨hj,hpj,_⟩:=List.findIdx?_eq_some_iff_getElem.mp hr
  have hm : k∈σ:=mm.mpr ⟨_,yaB hj,hpj⟩
  have es' : step_dedup σ k = σ:=by
   unfold step_dedup
   have : (σ.any (· == k)) = true:=ybX.mpr ⟨k,hm,by simp⟩
   rw [if_pos this]
  have:=q s.heap false (Heap.SameBut.refl a s.heap) (by rw [es']; exact ⟨o,es,ep,t,ho,hx,hd,b⟩)
  exact wpAny_pure (wpAny_pure this)
 | none=>
  dsimp only
  have hm : k∉σ:=fun z=>by
   obtain ⟨e,he,hp⟩:=mm.mp z
   have:=List.findIdx?_eq_none_iff.mp hr e he
   rw [hp] at this
   exact absurd this (by decide)
  have es' : step_dedup σ k = σ ++ [k]:=by
   unfold step_dedup
   rw [if_neg fun z=>?_]
   obtain ⟨y,hy,e⟩:=ybX.mp z
   exact hm (by rw [← (beq_iff_eq.mp e)]; exact hy)
  rw [es'] at q
  have hperm:=layNew_perm t es (hashInt k) (.int k tk)
  rw [Array.toList_push] at hperm
  have b1 : Body (layNew t es (hashInt k) (.int k tk)).1 (σ ++ [k]) (layNew t es (hashInt k) (.int k tk)).2.1 L:=by
   refine ⟨fun e he=>?_,?_,layNew_fits ..,(zjW b.good ..).1,(zjW b.good ..).2.trans b.led⟩
   ·rcases yaE.mp (hperm.mem_iff.mp he) with z | z
    ·exact b.are e z
    ·rw [yap.mp z]
     exact ⟨k,tk,rfl⟩
   ·refine (hperm.map ent).trans ?_
    rw [yaq]
    exact b.perm.append (List.Perm.refl _)
  generalize layNew t es (hashInt k) (.int k tk) = Ly at b1 ⊢
  obtain ⟨es1,t1,was,gave⟩:=Ly
  dsimp only at b1 ⊢
  refine wpAny_bind (ziJ gave ?_)
  have hb1 : (σ ++ [k]).length < scanBound:=by
   rw [yai]
   exact hb
  split
  ·refine wpAny_bind ?_
   rw [hashByValue_scannable 8 (show (Value.int k tk).scannable = true from rfl)]
   refine wpAny_pure (zkX (fun b s₁ Q' h=>ziJ b h) ho hx hd (σ:=σ ++ [k]) (L:=L) b1 hb1 fun h' sb r=>?_)
   exact wpAny_pure (q h' true sb r)
  ·refine wpAny_bind (wpAny_pure ?_)
   simp only [↓reduceIte]
   refine zkX (fun b s₁ Q' h=>ziJ b h) ho hx hd b1 hb1 fun h' sb r=>?_
   exact wpAny_pure (q h' true sb r)
end
section
variable {prog : Program} {w : World} {A : Around} {R : Result→Shared→Prop} {I : Addr} {fp wr : List Addr} {G : Array GenState→Array GenState→Prop} {n : Nat} {P : Nat→Value→Prop} {St : Nat→Shared→Prop} {L : Bool}
theorem zoV (W : WalksS prog w A.in1 I fp wr G n P St) (S : Addr) (hSf : S∉fp) (val : Nat→Int) (hval : ∀ i v,P i v→∃ t,v = .int (val i) t) (hb : n + 1 < scanBound) :
  ∀ (k i : Nat) (s : Shared),n - i = k→i≤n→St i s→SetR s.heap S (firstMet val i) L→
   (∀ s',Moved (S :: wr) G s s'→SetR s'.heap S (firstMet val n) L→R (.ok (.ret .none)) s')→codeAny (model prog w) A (.builtin "set.update.loop" ⟨[.ref S,.ref I],[]⟩) R s:=by
 have hSw : S∉wr:=fun h=>hSf (W.sub _ h)
 have up : ∀ b∈wr,b∈S :: wr:=fun b hb=>yay _ hb
 intro k
 induction k with
 | zero=>
  intro i s hk hi st x q
  have e : i = n:=by omega
  subst e
  refine codeAny_builtin F.entry_set_update_loop ?_
  rw [Around.under_plainId F.plain_set_update_loop _]
  show wpAny _ A.in1 (pyNext (.ref I) >>= _) _ _ s
  refine wpAny_bind (W.done s _ _ st fun s' hm=>?_)
  show wpAny _ A.in1 (ret Value.none) _ _ s'
  exact wpAny_pure (q s' (hm.mono up) (x.keep fun o e=>hm.heap S o hSw e))
 | succ k ih=>
  intro i s hk hi st x q
  have hlt : i < n:=by omega
  refine codeAny_builtin F.entry_set_update_loop ?_
  rw [Around.under_plainId F.plain_set_update_loop _]
  show wpAny _ A.in1 (pyNext (.ref I) >>= _) _ _ s
  refine wpAny_bind (W.item i s _ _ hlt st fun v s' hP st' hm=>?_)
  obtain ⟨t,rfl⟩:=hval i v hP
  have x':=x.keep (h':=s'.heap) fun o e=>hm.heap S o hSw e
  show wpAny _ A.in1 (holding [Value.int (val i) t] (setAdd S (.int (val i) t)) >>= _) _ _ s'
  refine wpAny_bind (wpAny_holding ?_)
  unfold setAdd
  refine wpAny_holding (wpAny_bind ((intKind prog w).pyHash (k:=val i) (intKind_is _ _ _ _) ?_))
  have room : (firstMet val i).length + 1 < scanBound:=by
   have:=firstMet_length_le val i
   omega
  refine zqz (s:={ s' with toks:=s'.toks + 1 }) x' room fun h' _ sb x2=>?_
  rw [← firstMet_succ] at x2
  refine wpAny_pure ⟨plainId_quiet F.plain_set_update_loop _,ih (i + 1) _ (by omega) hlt (W.frame _ s' _ _ st' (yaN _) fun b hb o e=>?_) x2 fun s'' hm'' x3=>?_⟩
  ·rw [sb.2 b (fun h : b = S=>hSf (by rw [← h]; exact hb))]
   exact e
  ·refine q s'' (Moved.trans W.gtrans ((hm.mono up).then_heap (yaN _) fun b o hb e=>?_) hm'') x3
   rw [sb.2 b (fun h : b = S=>hb (by rw [h]; exact yav))]
   exact e
end
end SetW
namespace SetW
open PySem PySem.Spec PyProof.Rows
set_option autoImplicit false
set_option maxRecDepth 100000
theorem zaE : Slot "set_iterator" "__next__" "set_iterator.__next__":=
 .of (owner := "set_iterator") (n := "__next__") (by rw [typeLookup_type,builtinLookup_eq_fast]; kernel_rfl) (by decide +kernel) (by decide +kernel) (by decide +kernel)
  (by first | exact .inl (by decide +kernel) | exact .inr (by decide +kernel)) (by rw [isSubtype_type]; kernel_rfl)
theorem zbD : entryFor table "set_iterator.__next__" = some Builtin.«set_iterator.__next__»:=entryFor_of_tree (by kernel_rfl)
theorem zgu : Manifest.owners.lookup (String.ofList ['r','o','t','a','r','e','t','i','_','t','e','s'].reverse) = some Manifest.sig_set_iterator:=by kernel_rfl
theorem zbM (a : Value) : argsOk "set_iterator.__next__" ⟨[a],[]⟩:=by
 unfold argsOk; rw [signature?_of (id := "set_iterator.__next__") (n:=['_','_','t','x','e','n','_','_']) (o:=['r','o','t','a','r','e','t','i','_','t','e','s']) (by kernel_rfl) zgu]; kernel_rfl
theorem zgh : entryFor table "set.__iter__" = some Builtin.«frozenset.__iter__»:=
 entryFor_alias (id' := "frozenset.__iter__") (by kernel_rfl) (by first | rfl | decide +kernel) (by decide +kernel) (by kernel_rfl)
theorem zdM : Slot "set_iterator" "__iter__" "set_iterator.__iter__":=
 .of (owner := "set_iterator") (n := "__iter__") (by rw [typeLookup_type,builtinLookup_eq_fast]; kernel_rfl) (by decide +kernel) (by decide +kernel) (by decide +kernel)
  (by first | exact .inl (by decide +kernel) | exact .inr (by decide +kernel)) (by rw [isSubtype_type]; kernel_rfl)
theorem zfY : entryFor table "set_iterator.__iter__" = some Builtin.«dict_keyiterator.__iter__»:=
 entryFor_alias (id' := "dict_keyiterator.__iter__") (by kernel_rfl) (by first | rfl | decide +kernel) (by decide +kernel) (by kernel_rfl)
theorem zgl (a : Value) : argsOk "set_iterator.__iter__" ⟨[a],[]⟩:=by
 unfold argsOk; rw [signature?_of (id := "set_iterator.__iter__") (n:=['_','_','r','e','t','i','_','_']) (o:=['r','o','t','a','r','e','t','i','_','t','e','s']) (by kernel_rfl) zgu]; kernel_rfl
section
variable {prog : Program} {w : World} {A : Around} {E : Value→Shared→Prop} {s : Shared} {it d : Addr} {es : Array (Int×Value)} {ep : Nat} {t : SetTable}
def SIt (h : Heap) (it d : Addr) (f : Value) (i n ep : Nat) : Prop:=∃ o,h.get? it = some o∧o.cls = .type "set_iterator"∧o.data = .fields #[f,.int i 0,.ref d,.int n 0,.int ep 0]
def SAt (h : Heap) (d : Addr) (es : Array (Int×Value)) (ep : Nat) (t : SetTable) : Prop:=∃ o,h.get? d = some o∧o.ExactSet∧o.data = .set es ep t
theorem SIt.ty {f : Value} {i n ep : Nat} (x : SIt s.heap it d f i n ep) : s.TypeIs (.ref it) "set_iterator":=by
 obtain ⟨o,e,c,_⟩:=x
 exact ⟨o,e,c⟩
theorem SIt.keep {h h' : Heap} {f : Value} {i n ep : Nat} (x : SIt h it d f i n ep) (k : ∀ o,h.get? it = some o→h'.get? it = some o) : SIt h' it d f i n ep:=by
 obtain ⟨o,e,r⟩:=x
 exact ⟨o,k o e,r⟩
theorem SAt.keep {h h' : Heap} (x : SAt h d es ep t) (k : ∀ o,h.get? d = some o→h'.get? d = some o) : SAt h' d es ep t:=by
 obtain ⟨o,e,r⟩:=x
 exact ⟨o,k o e,r⟩
theorem SAt.ty (x : SAt s.heap d es ep t) : s.TypeIs (.ref d) "set":=by
 obtain ⟨o,e,c,_⟩:=x
 exact ⟨o,e,c.1⟩
theorem SAt.state {Q : (Array (Int×Value)×Nat×SetTable)→Shared→Prop} (x : SAt s.heap d es ep t) (hf : t.fits es.size = true) (q : Q (es,ep,t) s) : wpAny (model prog w) A (setState d) Q E s:=by
 obtain ⟨o,e,c,z⟩:=x
 exact wpAny_setState_of e z hf q
theorem SAt.entries {Q : Array (Int×Value)→Shared→Prop} (x : SAt s.heap d es ep t) (hf : t.fits es.size = true) (q : Q es s) : wpAny (model prog w) A (setEntries d) Q E s:=by
 unfold setEntries
 exact wpAny_bind (x.state hf (wpAny_pure q))
theorem zhP {sl i nx : Nat} {v : Value} {Q : Option Value→Shared→Prop} (ki : SIt s.heap it d (.int sl 0) i es.size ep) (x : SAt s.heap d es ep t) (hf : t.fits es.size = true)
  (hn : ∀ (A : Around) (E : Value→Shared→Prop) (Q : Option (Value×Nat)→Shared→Prop),Q (some (v,nx)) s→wpAny (model prog w) A (setNext d sl i ep) Q E s) (hne : d≠it)
  (q : ∀ h',SIt h' it d (.int nx 0) (i + 1) es.size ep→Heap.SameBut it s.heap h'→Q (some v) { s with heap:=h' }) : wpAny (model prog w) A (pyNext (.ref it)) Q E s:=by
 have ty:=ki.ty
 obtain ⟨oi,e1,e2,e3⟩:=id ki
 unfold pyNext
 refine wpAny_bind (wpAny_attempt (wpAny_callSpecial?_slot (name:=Str.ofString "__next__") ty zaE (wpAny_call_entry zaE ty zbD ?_ (zbM _))))
 unfold Builtin.«set_iterator.__next__»
 refine wpAny_bind (m:=slotArgs "__next__" 0 _) (wpAny_pure ?_)
 refine wpAny_bind (wpAny_fieldsOf e1 e3 ?_)
 dsimp only
 refine wpAny_bind (x.entries hf ?_)
 rw [if_neg (by simp)]
 simp only [yaU]
 refine wpAny_bind (hn _ _ _ ?_)
 dsimp only
 refine wpAny_bind (wpAny_setField e1 e3 (by simp) ?_)
 have g1:=ybf (Obj.mapFields (·.setIfInBounds 0 (rawInt nx))) e1 (Obj.isFreed_of_fields (Obj.data_mapFields e3 _))
 have d1:=Obj.data_mapFields e3 (·.setIfInBounds 0 (rawInt nx))
 refine wpAny_bind (wpAny_setField (s:={ s with heap:=s.heap.update it (Obj.mapFields (·.setIfInBounds 0 (rawInt nx))) }) g1 d1 (by simp) ?_)
 have g2:=ybf (Obj.mapFields (·.setIfInBounds 1 (rawInt (↑i + 1)))) g1 (Obj.isFreed_of_fields (Obj.data_mapFields d1 _))
 have d2:=Obj.data_mapFields d1 (·.setIfInBounds 1 (rawInt (↑i + 1)))
 refine wpAny_pure ⟨_,rfl,wpAny_pure (q _ ⟨_,g2,?_,?_⟩ ((Heap.SameBut.update ..).trans (Heap.SameBut.update ..)))⟩
 ·rw [Obj.cls_mapFields,Obj.cls_mapFields]
  exact e2
 ·rw [d2]
  simp [rawInt]
theorem zk5 {h : Heap} {Q : Option Value→Shared→Prop} (hh : A.handled = none) (q : ∀ h',(∀ b o,h.get? b = some o→h'.get? b = some o)→Q none { s with heap:=h' }) :
  wpAny (model prog w) A.in1 (do let e ← newExc (.type "StopIteration") []; raiseNew e : Sem Fin) (fun fin s'=>∃ v,fin = Fin.done (Flow.ret v)∧wpAny (model prog w) A (pure (some v)) Q E s')
  (fun e s'=>wpAny (model prog w) A (do let b ← isInstance e (Value.type "StopIteration"); if b = true then pure none else throw e) Q E s') { s with heap:=h }:=by
 refine wpAny_bind ?_
 simp only [newExc,newTuple]
 refine wpAny_bind (wpAny_newObj_type ?_ (by size_fits))
 refine wpAny_bind (m:=firstArgMember _ _) (wpAny_of_eq (a:=Value.none) (by first | rfl | (simp only [firstArgMember]; rfl)) ?_)
 refine wpAny_newObj_type ?_ (by size_fits)
 simp only [raiseNew]
 refine wpAny_bind (wpAny_handled ?_)
 rw [show A.in1.handled = none from hh]
 refine wpAny_bind (wpAny_pure (wpAny_throw ?_))
 refine wpAny_bind (wpAny_isInstance (T := "StopIteration") (b:=true) ⟨_,yau _ rfl,rfl⟩ isSubtype_stop ?_)
 exact wpAny_pure (q _ fun b o e=>yag _ (yag _ e))
theorem zjC {sl i : Nat} {Q : Option Value→Shared→Prop} (hh : A.handled = none) (ki : SIt s.heap it d (.int sl 0) i es.size ep) (x : SAt s.heap d es ep t) (hf : t.fits es.size = true)
  (hn : ∀ (A : Around) (E : Value→Shared→Prop) (Q : Option (Value×Nat)→Shared→Prop),Q none s→wpAny (model prog w) A (setNext d sl i ep) Q E s)
  (q : ∀ h',Heap.ExtBut it s.heap h'→Q none { s with heap:=h' }) : wpAny (model prog w) A (pyNext (.ref it)) Q E s:=by
 have ty:=ki.ty
 obtain ⟨oi,e1,e2,e3⟩:=id ki
 unfold pyNext
 refine wpAny_bind (wpAny_attempt (wpAny_callSpecial?_slot (name:=Str.ofString "__next__") ty zaE (wpAny_call_entry zaE ty zbD ?_ (zbM _))))
 unfold Builtin.«set_iterator.__next__»
 refine wpAny_bind (m:=slotArgs "__next__" 0 _) (wpAny_pure ?_)
 refine wpAny_bind (wpAny_fieldsOf e1 e3 ?_)
 dsimp only
 refine wpAny_bind (x.entries hf ?_)
 rw [if_neg (by simp)]
 simp only [yaU]
 refine wpAny_bind (hn _ _ _ ?_)
 dsimp only
 refine wpAny_bind (wpAny_setField e1 e3 (by simp) ?_)
 exact zk5 hh fun h' k=>q h' fun b o hb e=>k b o ((Heap.SameBut.update ..).extBut b o hb e)
def TAt (h : Heap) (tp : Addr) (js : List Nat) : Prop:=h.IsTuple tp (js.map fun (j : Nat)=>rawInt j).toArray
theorem TAt.items {tp : Addr} {js : List Nat} {Q : Option (Array Value)→Shared→Prop} (x : TAt s.heap tp js) (q : Q (some (js.map fun (j : Nat)=>rawInt j).toArray) s) : wpAny (model prog w) A (seqItems? (.ref tp)) Q E s:=by
 obtain ⟨ot,t1,t2,nt,t3⟩:=x
 unfold seqItems?
 refine wpAny_bind (wpAny_load t1 ?_)
 rw [t3]
 exact wpAny_pure q
theorem zmo {tp : Addr} {js : List Nat} {i j : Nat} {e : Int×Value} {Q : Option Value→Shared→Prop} (ki : SIt s.heap it d (.ref tp) i es.size ep) (x : SAt s.heap d es ep t) (hf : t.fits es.size = true)
  (ht : TAt s.heap tp js) (hj : js[i]? = some j) (he : es[j]? = some e)
  (q : ∀ h',SIt h' it d (.ref tp) (i + 1) es.size ep→Heap.SameBut it s.heap h'→Q (some e.2) { s with heap:=h' }) : wpAny (model prog w) A (pyNext (.ref it)) Q E s:=by
 have ty:=ki.ty
 obtain ⟨oi,e1,e2,e3⟩:=id ki
 unfold pyNext
 refine wpAny_bind (wpAny_attempt (wpAny_callSpecial?_slot (name:=Str.ofString "__next__") ty zaE (wpAny_call_entry zaE ty zbD ?_ (zbM _))))
 unfold Builtin.«set_iterator.__next__»
 refine wpAny_bind (m:=slotArgs "__next__" 0 _) (wpAny_pure ?_)
 refine wpAny_bind (wpAny_fieldsOf e1 e3 ?_)
 dsimp only
 refine wpAny_bind (x.entries hf ?_)
 rw [if_neg (by simp)]
 refine wpAny_bind (ht.items ?_)
 have hp : (js.map fun (j : Nat)=>rawInt j).toArray[((i : Int)).toNat]? = some (rawInt j):=by simp [hj]
 simp only [hp]
 show wpAny _ _ (setNextDrawn d ((j : Int)).toNat ((ep : Int)).toNat >>= _) _ _ s
 simp only [yaU]
 refine wpAny_bind ?_
 unfold setNextDrawn
 refine wpAny_bind (x.state hf ?_)
 dsimp only
 rw [if_neg (by simp),he]
 refine wpAny_pure (wpAny_bind (wpAny_setField e1 e3 (by simp) ?_))
 have g1:=ybf (Obj.mapFields (·.setIfInBounds 1 (rawInt (↑i + 1)))) e1 (Obj.isFreed_of_fields (Obj.data_mapFields e3 _))
 have d1:=Obj.data_mapFields e3 (·.setIfInBounds 1 (rawInt (↑i + 1)))
 refine wpAny_pure ⟨_,rfl,wpAny_pure (q _ ⟨_,g1,?_,?_⟩ (Heap.SameBut.update ..))⟩
 ·rw [Obj.cls_mapFields]
  exact e2
 ·rw [d1]
  simp [rawInt]
theorem znJ {tp : Addr} {js : List Nat} {i : Nat} {Q : Option Value→Shared→Prop} (hh : A.handled = none) (ki : SIt s.heap it d (.ref tp) i es.size ep) (x : SAt s.heap d es ep t) (hf : t.fits es.size = true)
  (ht : TAt s.heap tp js) (hj : js[i]? = none) (q : ∀ h',Heap.ExtBut it s.heap h'→Q none { s with heap:=h' }) : wpAny (model prog w) A (pyNext (.ref it)) Q E s:=by
 have ty:=ki.ty
 obtain ⟨oi,e1,e2,e3⟩:=id ki
 unfold pyNext
 refine wpAny_bind (wpAny_attempt (wpAny_callSpecial?_slot (name:=Str.ofString "__next__") ty zaE (wpAny_call_entry zaE ty zbD ?_ (zbM _))))
 unfold Builtin.«set_iterator.__next__»
 refine wpAny_bind (m:=slotArgs "__next__" 0 _) (wpAny_pure ?_)
 refine wpAny_bind (wpAny_fieldsOf e1 e3 ?_)
 dsimp only
 refine wpAny_bind (x.entries hf ?_)
 rw [if_neg (by simp)]
 refine wpAny_bind (ht.items ?_)
 have hp : (js.map fun (j : Nat)=>rawInt j).toArray[((i : Int)).toNat]? = none:=by simpa using hj
 simp only [hp]
 refine wpAny_bind (wpAny_setField e1 e3 (by simp) ?_)
 have g1:=ybf (Obj.mapFields (·.setIfInBounds 0 (rawInt 0))) e1 (Obj.isFreed_of_fields (Obj.data_mapFields e3 _))
 have d1:=Obj.data_mapFields e3 (·.setIfInBounds 0 (rawInt 0))
 refine wpAny_bind (wpAny_setField (s:={ s with heap:=s.heap.update it (Obj.mapFields (·.setIfInBounds 0 (rawInt 0))) }) g1 d1 (by simp) ?_)
 exact zk5 hh fun h' k=>q h' fun b o hb e=>k b o (((Heap.SameBut.update ..).trans (Heap.SameBut.update ..)).extBut b o hb e)
theorem zfG {f : Value} {i n : Nat} {Q : Value→Shared→Prop} (ki : SIt s.heap it d f i n ep) (q : Q (.ref it) s) : wpAny (model prog w) A (pyIter (.ref it)) Q E s:=by
 refine wpAny_pyIter_slot ki.ty zdM (wpAny_call_entry zdM ki.ty zfY ?_ (zgl _))
 show wpAny _ _ (ret (.ref it)) _ _ s
 exact wpAny_pure ⟨_,rfl,"set_iterator",_,ki.ty,zaE.lookup,q⟩
end
end SetW
namespace SetW
open PySem PySem.Spec PyProof.Rows
set_option autoImplicit false
set_option maxRecDepth 100000
theorem ze0 {α : Type} : ∀ (l : List α) (i : Nat) (h : i < l.length),(l[i] :: l.eraseIdx i).Perm l
 | [],i,h=>by simp at h
 | x :: xs,0,h=>List.Perm.refl _
 | x :: xs,i + 1,h=>((List.Perm.swap x _ _).trans ((ze0 xs i (by simpa using h)).cons x))
theorem zlo {α : Type} (next : Nat→Nat) : ∀ (f k : Nat) (left : List α) (out : Array α),left.length = f→(pickOrder.go next f k left out).toList.Perm (out.toList ++ left)
 | 0,k,left,out,h=>by
  unfold pickOrder.go
  rw [List.length_eq_zero_iff.mp h,yaD]
 | f + 1,k,left,out,h=>by
  unfold pickOrder.go
  have hi : next k % left.length < left.length:=ybx _ (by omega)
  rw [yac hi]
  dsimp only
  refine (zlo next f (k + 1) _ _ (by rw [List.length_eraseIdx_of_lt hi]; omega)).trans ?_
  rw [Array.toList_push,ybH]
  exact (List.Perm.refl _).append (ze0 _ _ hi)
theorem zfK {α : Type} (next : Nat→Nat) (xs : Array α) : (pickOrder next xs).toList.Perm xs.toList:=by
 have:=zlo next xs.size 0 xs.toList #[] (by simp)
 simpa [pickOrder] using this
def zfN (es : Array (Int×Value)) (j : Nat) : Value:=(es.getD j (0,.none)).2
theorem zkz {es : Array (Int×Value)} {js : List Nat} (hj : js.Perm (List.range es.size)) : (js.map (zfN es)).Perm (es.toList.map (·.2)):=by
 refine (hj.map _).trans (List.Perm.of_eq ?_)
 apply List.ext_getElem
 ·simp
 ·intro i h1 h2
  have : i < es.size:=by simpa using h1
  simp [zfN,this]
section
variable {prog : Program} {w : World} {A : Around} {E : Value→Shared→Prop} {s : Shared} {it d : Addr} {es : Array (Int×Value)} {ep : Nat} {t : SetTable}
theorem zmz {src : Source} {n : Nat} {Q : Nat→Shared→Prop} (hn : n≠0) (q : ∀ i dr,i < n→Q i { s with drawn:=dr }) : wpAny (model prog w) A (choose src n) Q E s:=fun Γ p hΓ=>by
 unfold choose
 rw [Sem.wp_choose]
 exact ⟨hn,q _ _ (ybx _ (ycd hn))⟩
theorem zmn {α : Type} : ∀ (n : Nat) (xs : List α) (s : Shared) (Q : List α→Shared→Prop),xs.length = n→(∀ ys dr,ys.Perm xs→Q ys { s with drawn:=dr })→wpAny (model prog w) A (drawOrder n xs) Q E s
 | 0,xs,s,Q,h,q=>by
  unfold drawOrder
  have : xs = []:=List.length_eq_zero_iff.mp h
  subst this
  exact wpAny_pure (q [] s.drawn (List.Perm.refl _))
 | n + 1,[],s,Q,h,q=>by simp at h
 | n + 1,x :: xs,s,Q,h,q=>by
  unfold drawOrder
  refine wpAny_bind (zmz (by simp) fun i dr hi=>?_)
  rw [yac hi]
  dsimp only
  refine wpAny_bind (zmn n _ _ _ (by rw [List.length_eraseIdx_of_lt hi]; omega) fun ys dr' hp=>?_)
  exact wpAny_pure (q _ _ ((hp.cons _).trans (ze0 _ _ hi)))
theorem zeJ {Q : Bool→Shared→Prop} (q : Q (w.params.followText "set-order") s) : wpAny (model prog w) A setsByText Q E s:=by
 unfold setsByText
 exact wpAny_bind (wpAny_askSetting (wpAny_pure q))
theorem zhO {sl i : Nat} {Q : Option (Value×Nat)→Shared→Prop} (hb : w.params.followText "set-order" = true) (x : SAt s.heap d es ep t) (hf : t.fits es.size = true)
  (q : Q (((pickOrder (w.params.setOrder d ep) es)[i]?).map fun e=>(e.2,sl)) s) : wpAny (model prog w) A (setNext d sl i ep) Q E s:=by
 unfold setNext
 refine wpAny_bind (x.state hf ?_)
 dsimp only
 refine wpAny_bind (zeJ ?_)
 rw [if_pos hb,if_neg (by simp)]
 unfold setWalk
 refine wpAny_bind (wpAny_bind (x.state hf ?_))
 dsimp only
 refine wpAny_bind (zeJ ?_)
 rw [if_pos hb]
 exact wpAny_bind (wpAny_askSetting (wpAny_pure (wpAny_pure q)))
theorem zgw {sl i : Nat} {Q : Option (Value×Nat)→Shared→Prop} (hb : w.params.followText "set-order" = false) (hd : (!t.plain && decide (es.size > 1)) = false) (hl : t.led = true) (x : SAt s.heap d es ep t) (hf : t.fits es.size = true)
  (q : Q (match es[SetTable.below t.place sl]?,t.place[SetTable.below t.place sl]? with | some (_,x),some j=>some (x,j + 1) | _,_=>none) s) : wpAny (model prog w) A (setNext d sl i ep) Q E s:=by
 unfold setNext
 refine wpAny_bind (x.state hf ?_)
 dsimp only
 refine wpAny_bind (zeJ ?_)
 rw [if_neg (by rw [hb]; decide)]
 refine wpAny_ite_split (fun z=>absurd (show (!t.plain && decide (es.size > 1)) = true from z) (by rw [hd]; decide)) (fun _=>?_)
 refine wpAny_bind (?_ : wpAny _ _ (if (!t.led && !es.isEmpty) = true then unsupported "set:maker-not-led" else pure ()) _ _ s)
 rw [hl]
 exact wpAny_pure (wpAny_pure q)
def wk (es : Array (Int×Value)) (vs : List Value) : Prop:=vs.Perm (es.toList.map (·.2))
theorem zj4 (hb : w.params.followText "set-order" = true) (hf : t.fits es.size = true) (hh : A.handled = none) (I : Addr) (hne : d≠I) : Walks prog w A I [I,d] [I] es.size (fun i v=>((pickOrder (w.params.setOrder d ep) es).toList.map (·.2))[i]? = some v)
  (fun i h=>SIt h I d (.int (0 : Nat) 0) i es.size ep∧SAt h d es ep t) where
 sub:=fun b hb=>by
  simp at hb
  simp [hb]
 frame:=fun _ _ _ st hk=>⟨st.1.keep fun o e=>hk I (by simp) o e,st.2.keep fun o e=>hk d (by simp) o e⟩
 item:=fun i s Q E hi st hQ=>by
  have hz : i < (pickOrder (w.params.setOrder d ep) es).size:=by
   have:=(zfK (w.params.setOrder d ep) es).length_eq
   simp only [ya3] at this
   omega
  refine zhP (v:=(pickOrder (w.params.setOrder d ep) es)[i].2) st.1 st.2 hf (fun A E Q q=>zhO hb st.2 hf ?_) hne fun h' ki sb=>hQ _ h' s.toks ?_ ⟨ki,st.2.keep fun o e=>sb.extBut d o hne e⟩ fun b o hb e=>sb.extBut b o (fun h=>hb (by simp [h])) e
  ·rw [ybt hz]
   exact q
  ·simp [hz]
 done:=fun s Q E st hQ=>by
  have hz : (pickOrder (w.params.setOrder d ep) es).size≤es.size:=by
   have:=(zfK (w.params.setOrder d ep) es).length_eq
   simp only [ya3] at this
   omega
  refine zjC hh st.1 st.2 hf (fun A E Q q=>zhO hb st.2 hf ?_) fun h' he=>hQ h' s.toks fun b o hb e=>he b o (fun h=>hb (by simp [h])) e
  rw [Array.getElem?_eq_none hz]
  exact q
 self:=fun _ _ _ _ st hQ=>zfG st.1 hQ
theorem zin (hb : w.params.followText "set-order" = false) (hd : (!t.plain && decide (es.size > 1)) = false) (hl : t.led = true) (g : Good t) (hf : t.fits es.size = true) (hh : A.handled = none) (I : Addr) (hne : d≠I) :
  Walks prog w A I [I,d] [I] es.size (fun i v=>(es.toList.map (·.2))[i]? = some v) (fun i h=>SIt h I d (.int (spot t.place i) 0) i es.size ep∧SAt h d es ep t) where
 sub:=fun b hb=>by
  simp at hb
  simp [hb]
 frame:=fun _ _ _ st hk=>⟨st.1.keep fun o e=>hk I (by simp) o e,st.2.keep fun o e=>hk d (by simp) o e⟩
 item:=fun i s Q E hi st hQ=>by
  have hz : t.place.size = es.size:=by
   simp only [SetTable.fits,ya8,beq_iff_eq] at hf
   exact hf.1
  have hi' : i < t.place.size:=by omega
  refine zhP (v:=es[i].2) (nx:=t.place[i] + 1) st.1 st.2 hf (fun A E Q q=>zgw hb hd hl st.2 hf ?_) hne fun h' ki sb=>hQ _ h' s.toks ?_ ⟨?_,st.2.keep fun o e=>sb.extBut d o hne e⟩ fun b o hb e=>sb.extBut b o (fun h=>hb (by simp [h])) e
  ·rw [zgM g.up (by omega),ybt hi,ybt hi']
   exact q
  ·simp [hi]
  ·have : spot t.place (i + 1) = t.place[i] + 1:=by simp [spot,Array.getD,hi']
   rw [this]
   exact ki
 done:=fun s Q E st hQ=>by
  have hz : t.place.size = es.size:=by
   simp only [SetTable.fits,ya8,beq_iff_eq] at hf
   exact hf.1
  refine zjC hh st.1 st.2 hf (fun A E Q q=>zgw hb hd hl st.2 hf ?_) fun h' he=>hQ h' s.toks fun b o hb e=>he b o (fun h=>hb (by simp [h])) e
  rw [zgM g.up (by omega),Array.getElem?_eq_none (yaa _)]
  exact q
 self:=fun _ _ _ _ st hQ=>zfG st.1 hQ
theorem zj5 {tp : Addr} {js : List Nat} (hj : js.Perm (List.range es.size)) (hf : t.fits es.size = true) (hh : A.handled = none) (I : Addr) (hne : d≠I) (hnt : tp≠I) :
  Walks prog w A I [I,d,tp] [I] es.size (fun i v=>(js.map (zfN es))[i]? = some v) (fun i h=>SIt h I d (.ref tp) i es.size ep∧SAt h d es ep t∧TAt h tp js) where
 sub:=fun b hb=>by
  simp at hb
  simp [hb]
 frame:=fun _ _ _ st hk=>⟨st.1.keep fun o e=>hk I (by simp) o e,st.2.1.keep fun o e=>hk d (by simp) o e,by
  obtain ⟨o,e,r⟩:=st.2.2
  exact ⟨o,hk tp (by simp) o e,r⟩⟩
 item:=fun i s Q E hi st hQ=>by
  have hl : i < js.length:=by
   rw [hj.length_eq,yaG]
   exact hi
  have hm : js[i] < es.size:=yaQ.mp (hj.mem_iff.mp (yaB hl))
  refine zmo (j:=js[i]) (e:=es[js[i]]) st.1 st.2.1 hf st.2.2 (yac hl) (ybt hm) fun h' ki sb=>hQ _ h' s.toks ?_ ⟨ki,st.2.1.keep fun o e=>sb.extBut d o hne e,?_⟩ fun b o hb e=>sb.extBut b o (fun h=>hb (by simp [h])) e
  ·rw [yaj,yac hl]
   simp [zfN,hm]
  ·obtain ⟨o,e,r⟩:=st.2.2
   exact ⟨o,sb.extBut tp o hnt e,r⟩
 done:=fun s Q E st hQ=>by
  have hl : js.length≤es.size:=by
   rw [hj.length_eq,yaG]
   exact yaa _
  exact znJ hh st.1 st.2.1 hf st.2.2 (yaM hl) fun h' he=>hQ h' s.toks fun b o hb e=>he b o (fun h=>hb (by simp [h])) e
 self:=fun _ _ _ _ st hQ=>zfG st.1 hQ
end
end SetW
namespace SetW
open PySem PySem.Spec PyProof.Rows
set_option autoImplicit false
set_option maxRecDepth 100000
section
variable {prog : Program} {w : World} {A : Around} {E : Value→Shared→Prop} {s : Shared} {d : Addr} {es : Array (Int×Value)} {ep : Nat} {t : SetTable}
theorem SAt.epoch {Q : Nat→Shared→Prop} (x : SAt s.heap d es ep t) (hf : t.fits es.size = true) (q : Q ep s) : wpAny (model prog w) A (setEpoch d) Q E s:=by
 obtain ⟨o,e,c,z⟩:=x
 exact wpAny_setEpoch_of e z hf q
theorem zmY {Q : Value→Shared→Prop} (x : SAt s.heap d es ep t) (hf : t.fits es.size = true) (g : Good t) (hl : t.led = !w.params.followText "set-order") (hz : es.size≤sizeLine)
  (q : ∀ (I : Addr) (vs : List Value) (fp : List Addr) (St : Nat→Heap→Prop) (h' : Heap) dr,vs.Perm (es.toList.map (·.2))→s.heap.objs.size≤I→(∀ b∈fp,b = d∨s.heap.objs.size≤b)→
   (∀ A',A'.handled = none→Walks prog w A' I fp [I] es.size (fun i v=>vs[i]? = some v) St)→St 0 h'→(∀ b o,s.heap.get? b = some o→h'.get? b = some o)→Q (.ref I) { s with heap:=h',drawn:=dr }) :
  wpAny (model prog w) A (pyIter (.ref d)) Q E s:=by
 have ty:=x.ty
 have hdl : d < s.heap.objs.size:=by
  obtain ⟨o,e,_⟩:=x
  exact yae e
 refine wpAny_pyIter_slot ty F.slot_set_iter (wpAny_call_entry F.slot_set_iter ty zgh ?_ (F.args_set_iter_1 _))
 unfold Builtin.«frozenset.__iter__» Builtin.Frozenset.slot0
 refine wpAny_bind (wpAny_bind (m:=slotArgs "__iter__" 0 _) (wpAny_pure ?_))
 refine (wpAny_pure ?_ : wpAny _ _ (pure d) _ _ s)
 unfold Builtin.Frozenset.sizeOf
 refine wpAny_bind (wpAny_bind (x.entries hf (wpAny_pure ?_)))
 unfold setDrawn
 refine wpAny_bind (wpAny_bind (x.state hf ?_))
 dsimp only
 refine wpAny_bind (zeJ (wpAny_pure ?_))
 refine wpAny_ite_split (fun c=>?_) (fun c=>?_)
 ·refine wpAny_bind (zmn _ _ _ _ (by simp) fun js dr hj=>?_)
  have hlen : js.length = es.size:=by
   rw [hj.length_eq,yaG]
  simp only [newTuple]
  refine wpAny_bind (wpAny_newObj_type ?_ (by show (js.map fun (i : Nat)=>rawInt i).toArray.size≤sizeLine; simpa [hlen] using hz))
  have x1 : SAt (s.heap.push { cls:=.type "tuple",data:=.seq (js.map fun (i : Nat)=>rawInt i).toArray }) d es ep t:=x.keep fun o e=>yag _ e
  refine wpAny_bind (x1.epoch hf ?_)
  unfold newFields
  refine wpAny_bind (wpAny_newObj_type (wpAny_pure ⟨_,rfl,"set_iterator",_,⟨_,yau _ rfl,rfl⟩,zaE.lookup,?_⟩))
  have z1 : (s.heap.push { cls:=.type "tuple",data:=.seq (js.map fun (i : Nat)=>rawInt i).toArray }).objs.size = s.heap.objs.size + 1:=ybw ..
  refine q _ (js.map (zfN es)) [_,d,s.heap.objs.size] _ _ dr (zkz hj) (by rw [z1]; exact yaN _) (fun b hb=>?_) (fun A' hA=>zj5 (t:=t) (ep:=ep) hj hf hA _ (by rw [z1]; exact yak (ybS hdl)) (by rw [z1]; exact yak (ybG _))) ⟨?_,?_,?_⟩ fun b o e=>yag _ (yag _ e)
  ·simp only [yal,yaY,or_false] at hb
   rcases hb with e | e | e
   ·rw [e,z1]
    exact .inr (yaN _)
   ·exact .inl e
   ·exact .inr (by rw [e]; exact yaa _)
  ·exact ⟨_,yau _ rfl,rfl,by simp [rawInt]⟩
  ·exact x1.keep fun o e=>yag _ e
  ·exact ⟨_,yag _ (yau _ rfl),rfl,_,rfl⟩
 ·refine wpAny_bind (wpAny_pure ?_)
  refine wpAny_bind (x.epoch hf ?_)
  unfold newFields
  refine wpAny_bind (wpAny_newObj_type (wpAny_pure ⟨_,rfl,"set_iterator",_,⟨_,yau _ rfl,rfl⟩,zaE.lookup,?_⟩))
  have fpk : ∀ b∈[s.heap.objs.size,d],b = d∨s.heap.objs.size≤b:=fun b hb=>by
   simp only [yal,yaY,or_false] at hb
   rcases hb with e | e
   ·exact .inr (by rw [e]; exact yaa _)
   ·exact .inl e
  cases hb : w.params.followText "set-order" with
  | true=>
   refine q _ ((pickOrder (w.params.setOrder d ep) es).toList.map (·.2)) [_,d] _ _ s.drawn ((zfK _ es).map _) (yaa _) fpk (fun A' hA=>zj4 (t:=t) (ep:=ep) hb hf hA _ (yak hdl)) ⟨?_,?_⟩ fun b o e=>yag _ e
   ·exact ⟨_,yau _ rfl,rfl,by simp [rawInt]⟩
   ·exact x.keep fun o e=>yag _ e
  | false=>
   have hd : (!t.plain && decide (es.size > 1)) = false:=by
    rw [hb] at c
    cases z : (!t.plain && decide (es.size > 1)) with
    | false=>rfl
    | true=>exact absurd (show (!false && (!t.plain && decide (es.size > 1))) = true by rw [z]; rfl) c
   have hl' : t.led = true:=by
    rw [hl,hb]
    rfl
   refine q _ (es.toList.map (·.2)) [_,d] _ _ s.drawn (List.Perm.refl _) (yaa _) fpk (fun A' hA=>zin (t:=t) (ep:=ep) hb hd hl' g hf hA _ (yak hdl)) ⟨?_,?_⟩ fun b o e=>yag _ e
   ·exact ⟨_,yau _ rfl,rfl,by simp [rawInt,spot]⟩
   ·exact x.keep fun o e=>yag _ e
end
end SetW
namespace SetW
open PySem PySem.Spec PyProof.Rows
set_option autoImplicit false
set_option maxRecDepth 100000
section
variable {prog : Program} {w : World} {A : Around} {E : Value→Shared→Prop} {s : Shared} {d : Addr} {es : Array (Int×Value)} {ep : Nat} {t : SetTable}
theorem znB {Q : Bool→Shared→Prop} (hT : s.TypeIs (.ref d) "set") (q : Q false s) : wpAny (model prog w) A (Builtin.List.listLengthHint (.ref d)) Q E s:=by
 unfold Builtin.List.listLengthHint
 refine wpAny_bind (wpAny_specialOf hT PySem.F.slot_set_len.lookup ?_)
 generalize hid : ("set.__len__" : String) = id0
 wp_delta
 rw [show splitId id0 = some ("set","__len__") from by subst hid; decide +kernel]
 subst hid
 refine wpAny_bind (wpAny_isInstance (T := "set") (b:=true) hT (by rw [isSubtype_type]; kernel_rfl) ?_)
 refine wpAny_ite_split (fun z=>absurd z (by decide)) (fun _=>?_)
 refine wpAny_ite_split (fun _=>?_) (fun z=>absurd (by decide +kernel) z)
 exact wpAny_bind (wpAny_typeOf hT (wpAny_pure q))
theorem znm {vs : List Value} {acc : Array Value} (h : ItemsOf (fun i v=>vs[i]? = some v) acc vs.length) : acc.toList = vs:=by
 obtain ⟨h1,h2⟩:=h
 apply ybc
 intro i
 rw [ycu]
 cases z : acc[i]? with
 | none=>
  rw [Array.getElem?_eq_none_iff] at z
  exact (yaM (by omega)).symm
 | some v=>exact (h2 i v z).symm
theorem zkx {R : Result→Shared→Prop} (hh : A.handled = none) (x : SAt s.heap d es ep t) (hf : t.fits es.size = true) (g : Good t) (hl : t.led = !w.params.followText "set-order") (hz : es.size≤sizeLine)
  (S : Addr) (hSd : S≠d) (res : Value) (c₀ : Nat) (hS : s.heap.get? S = some { cls:=.type "list",data:=.seq #[] c₀ })
  (q : ∀ h' tk dr acc c,(∀ b o,b≠S→s.heap.get? b = some o→h'.get? b = some o)→h'.get? S = some { cls:=.type "list",dict:=none,data:=.seq acc c,slots:=#[] }→acc.toList.Perm (es.toList.map (·.2))→R (.ok (.ret res)) { s with heap:=h',toks:=tk,drawn:=dr }) :
  wpAny (model prog w) A.in1 (Builtin.List.listExtendWith (.ref S) (.ref d) res)
   (fun fin s'=>match fin with | .done f=>R (.ok f) s' | .again c'=>c'.quiet = true∧codeAny (model prog w) A c' R s') (fun e s'=>R (.error e) s') s:=by
 unfold Builtin.List.listExtendWith
 refine wpAny_bind (wpAny_typeOf (T := "set") x.ty ?_)
 have h1 : Builtin.List.listSameRef (.ref S) (.ref d) = false:=by simp [Builtin.List.listSameRef,hSd]
 have h2 : (Value.type "set" == Value.type "list") = false:=by decide
 have h3 : (Value.type "set" == Value.type "tuple") = false:=by decide
 simp only [h1,h2,h3,yby,yb9,if_false]
 refine wpAny_bind (zmY x hf g hl hz fun I vs fp St h' dr hp hI hfp W st kp=>?_)
 have hSs : S < s.heap.objs.size:=yae hS
 have hSf : S∉fp:=fun z=>by
  rcases hfp S z with e | e
  ·exact hSd e
  ·exact absurd hSs (ybd.mpr e)
 have hSI : S≠I:=fun e=>absurd hSs (ybd.mpr (by rw [e]; exact hI))
 have hn : vs.length = es.size:=by
  rw [hp.length_eq,yab,ya3]
 have x1 : SAt h' d es ep t:=x.keep fun o e=>kp d o e
 have key : ∀ (h : Heap) (c₁ : Nat),St 0 h→(∀ b o,b≠S→s.heap.get? b = some o→h.get? b = some o)→
   h.get? S = some { cls:=.type "list",data:=.seq #[] c₁ }→codeAny (model prog w) A (.builtin "list.extend.loop" ⟨[.ref S,.ref I,res],[]⟩) R { s with heap:=h,drawn:=dr }:=by
  intro h c₁ hst hk hS₁
  refine codeAny_extend_loopS (W A.in1 hh).toS hz S hSf res es.size 0 _ #[] c₁ rfl (yaA _) hst hS₁ (ItemsOf.nil _) fun s' acc c hm hS' hacc=>?_
  rw [Moved.eq_with hm]
  rw [← hn] at hacc
  refine q s'.heap s'.toks dr acc c (fun b o hb e=>hm.heap b o (fun z=>?_) (hk b o hb e)) hS' (by rw [znm hacc]; exact hp)
  rcases yal.mp z with e' | z
  ·exact hb e'
  ·rw [yap.mp z] at e
   exact absurd (yae e) (ybd.mpr hI)
 have hS₁ : h'.get? S = some { cls:=.type "list",data:=.seq #[] c₀ }:=kp S _ hS
 refine wpAny_bind (wpAny_holding (znB (s:={ s with heap:=h',drawn:=dr }) (SAt.ty (s:={ s with heap:=h',drawn:=dr }) x1) ?_))
 refine wpAny_ite_split (fun _=>?_) (fun _=>wpAny_pure ⟨plainId_quiet PySem.F.plain_extend_loop _,key _ c₀ st (fun b o _ e=>kp b o e) hS₁⟩)
 refine wpAny_bind (wpAny_rule (wpAny_bind ?_))
 show wpAny _ _ (updateSeq S (·.push .none) >>= fun _=>updateSeq S (·.pop)) _ _ _
 refine wpAny_bind (wpAny_updateSeq hS₁ rfl ?_)
 have hS₂:=ybf (Obj.mapSeq (·.push Value.none)) hS₁ rfl
 refine wpAny_updateSeq (hz:=by seq_fits) hS₂ rfl ?_
 have hS₃:=ybf (Obj.mapSeq (·.pop)) hS₂ rfl
 refine wpAny_pure ⟨plainId_quiet PySem.F.plain_extend_loop _,key _ _ ?_ (fun b o hb e=>?_) hS₃⟩
 ·refine (W A.in1 hh).frame 0 _ _ st fun b hb o e=>?_
  have hbS : b≠S:=fun h=>hSf (h ▸ hb)
  exact (ya7 _ _ (Ne.symm hbS)).trans ((ya7 _ _ (Ne.symm hbS)).trans e)
 ·exact (ya7 _ _ (Ne.symm hb)).trans ((ya7 _ _ (Ne.symm hb)).trans (kp b o e))
theorem collect_set {Q : List Value→Shared→Prop} (hh : A.handled = none) (x : SAt s.heap d es ep t) (hf : t.fits es.size = true) (g : Good t) (hl : t.led = !w.params.followText "set-order") (hz : es.size≤sizeLine)
  (q : ∀ (vs : List Value) (h' : Heap) tk dr,vs.Perm (es.toList.map (·.2))→(∀ b o,s.heap.get? b = some o→h'.get? b = some o)→Q vs { s with heap:=h',toks:=tk,drawn:=dr }) : wpAny (model prog w) A (collect (.ref d)) Q E s:=by
 have hdl : d < s.heap.objs.size:=by
  obtain ⟨o,e,_⟩:=x
  exact yae e
 unfold collect
 have run : ∀ R : Result→Shared→Prop,(∀ h' tk dr acc c,(∀ b o,s.heap.get? b = some o→h'.get? b = some o)→h'.get? s.heap.objs.size = some { cls:=.type "list",dict:=none,data:=.seq acc c,slots:=#[] }→
   acc.toList.Perm (es.toList.map (·.2))→R (.ok (.ret (.ref s.heap.objs.size))) { s with heap:=h',toks:=tk,drawn:=dr })→codeAny (model prog w) A (.builtin "proto.collect" ⟨[.ref d],[]⟩) R s:=by
  intro R hR
  refine codeAny_builtin entry_proto_collect' ?_
  show wpAny _ _ (do again (.builtin "list.__iadd__" ⟨[← newList [],.ref d],[]⟩)) _ _ s
  refine wpAny_bind (wpAny_newList (wpAny_pure ⟨Code.quiet_builtin _ (by decide +kernel),codeAny_builtin entry_list_iadd' ?_⟩))
  rw [Around.under_plainId (show plainId "list.__iadd__" = true by decide +kernel) _]
  show wpAny _ _ (Builtin.List.listExtendWith (.ref s.heap.objs.size) (.ref d) (.ref s.heap.objs.size)) _ _ { s with heap:=s.heap.push (seqObj "list" #[] 0) }
  refine zkx (A:=A) (R:=R) (s:={ s with heap:=s.heap.push (seqObj "list" #[] 0) }) hh (x.keep fun o e=>yag _ e) hf g hl hz _ (ybe hdl) _ 0 (yau _ rfl) fun h' tk dr acc c k hS hp=>?_
  exact hR h' tk dr acc c (fun b o e=>k b o (yak (yae e)) (yag _ e)) hS hp
 refine wpAny_bind (wpAny_runValue (run _ fun h' tk dr acc c k hS hp=>?_))
 show wpAny (model prog w) A (load s.heap.objs.size >>= fun o=>match o.data with | .seq xs _=>pure xs.toList | _=>unsupported "internal:collect") Q E { s with heap:=h',toks:=tk,drawn:=dr }
 exact wpAny_bind (wpAny_load hS (wpAny_pure (q _ h' tk dr hp k)))
end
end SetW
namespace SetW
open PySem PySem.Spec PyProof.Rows
set_option autoImplicit false
section
variable {prog : Program} {w : World} {A : Around} {E : Value→Shared→Prop} {s : Shared}
abbrev nu (w : World) : Obj:={ cls:=.type "set",dict:=none,data:=.set #[] 0 (.fresh 0 0 (!w.params.followText "set-order")) }
set_option maxRecDepth 100000 in
theorem zp7 (a : Value) {Q₁ : Value→Shared→Prop} (q : Q₁ (.ref s.heap.objs.size) { s with heap:=s.heap.push (nu w) }) :
  codeAny (model prog w) A (.call (.builtin "set.__new__") ⟨[.type "set",a],[]⟩) (wants Q₁ E) s:=by
 refine codeAny_of_tree ?_
 show wpAny _ A.in1 (do checkBuiltinCall "set.__new__" ⟨[.type "set",a],[]⟩; again (.builtin "set.__new__" ⟨[.type "set",a],[]⟩)) _ _ s
 refine wpAny_bind (wpAny_of_eq (F.newCall_set_1 a) (wpAny_pure ⟨plainId_quiet F.plain_set_new _,codeAny_builtin F.entry_set_new ?_⟩))
 rw [Around.under_plainId F.plain_set_new _]
 unfold Builtin.«set.__new__» Builtin.Frozenset.newClass
 have hsub:=sub_set_self
 obtain ⟨hp,g,d,tk,os⟩:=s
 dsimp only
 wp_walk
 refine wpAny_askSetting (wpAny_pure ?_)
 dsimp only
 simp only [newObj]
 exact wpAny_bind (wpAny_alloc (wpAny_pure (wpAny_pure q)))
set_option maxRecDepth 100000 in
set_option maxHeartbeats 3200000 in
theorem of_list {l : Addr} {items : Array Value} {ns : List Int} {Q : Value→Shared→Prop} (hh : A.handled = none) (hl : s.heap.IsList l items) (hi : IntsAre items.toList ns) (hb : items.size + 1 < scanBound)
  (h : ∀ (h' : Heap) (tk : Nat),SetR h' s.heap.objs.size (firstMet (fun i=>ns.getD i 0) items.size) (!w.params.followText "set-order")→
   (∀ b o,b < s.heap.objs.size→s.heap.get? b = some o→h'.get? b = some o)→Q (.ref s.heap.objs.size) { s with heap:=h',toks:=tk }) :
  wpAny (model prog w) A (call (.type "set") [.ref l]) Q E s:=by
 obtain ⟨c,tl,hmro⟩:=F.called_set.mro
 have hmade:=F.called_set.made
 have hsub:=F.called_set.sub
 refine wpAny_call (codeAny_of_tree ?_)
 show wpAny _ _ (callAny (.type "set") _) _ _ _
 refine wpAny_pure ⟨Code.quiet_builtin _ (by decide +kernel),codeAny_builtin F.entry_type_call ?_⟩
 rw [Around.under_plain (weight_type_call_type "set" [.ref l] []) rfl]
 have h1:=F.called_set.notType
 have h2:=F.called_set.canCreate
 have hct:=F.typeCall_set_1 (.ref l)
 repeat (any_goals (first | assumption | wp_step))
 refine codeAny_mono (zp7 (.ref l) (E:=E) (Q₁:=fun obj s₁=>obj = .ref s.heap.objs.size∧s₁ = { s with heap:=s.heap.push (nu w) }) ⟨rfl,rfl⟩) fun r s₁ hr=>?_
 cases r with
 | error e=>exact hr
 | ok fl=>
  cases fl with
  | ret obj=>
   obtain ⟨rfl,rfl⟩:=hr
   have hS : (s.heap.push (nu w)).get? s.heap.objs.size = some (nu w):=yau _ rfl
   have hT : Shared.TypeIs { s with heap:=s.heap.push (nu w) } (.ref s.heap.objs.size) "set":=⟨_,hS,rfl⟩
   have hli:=F.called_set.init.lookup
   have hbi:=F.called_set.init.bind (.ref s.heap.objs.size)
   repeat (any_goals (first | assumption | wp_step))
   refine codeAny_mono (codeAny_call_builtin (R:=wants (fun r s₂=>r = .none∧∃ h' tk,s₂ = { s with heap:=h',toks:=tk }∧
     SetR h' s.heap.objs.size (firstMet (fun i=>ns.getD i 0) items.size) (!w.params.followText "set-order")∧
     (∀ b o,b < s.heap.objs.size→s.heap.get? b = some o→h'.get? b = some o)) E) F.called_set.init.plain F.entry_set_init (check_set_init_1 hT ?_)) fun r₂ s₂ hr₂=>?_
   ·obtain ⟨ol,hol,hcl,nl,hdl⟩:=hl
    obtain ⟨ocls,odict,odata,oslots⟩:=ol
    simp only at hcl hdl
    subst hcl; subst hdl
    have there : (s.heap.push (nu w)).get? l = some { cls:=.type "list",dict:=odict,data:=.seq items nl,slots:=oslots }:=yag _ hol
    have hsls:=F.sub_list_set
    have hslf:=F.sub_list_frozenset
    have hne : (Value.type "list" == Value.type "dict") = false:=by decide
    have hl1 : (s.heap.push (nu w)).IsList l items:=⟨_,there,rfl,nl,rfl⟩
    unfold Builtin.«set.__init__» noKeywords Builtin.Frozenset.updateFrom
    generalize hPI : pyIter = PI
    wp_walk
    subst hPI
    refine wpAny_pyIter_list hl1 ?_
    refine wpAny_bind (wpAny_runValue ?_)
    have hlS : l < s.heap.objs.size:=yae hol
    have h3 : A.in1.in1.in1.handled = none:=by simp [hh]
    have hsz : (s.heap.push (nu w)).objs.size = s.heap.objs.size + 1:=ybw ..
    have hneI : l≠(s.heap.push (nu w)).objs.size:=by
     rw [hsz]
     exact yak (ybS hlS)
    have hSf : s.heap.objs.size∉[(s.heap.push (nu w)).objs.size,l]:=by
     rw [hsz]
     simp only [yal,yaY,or_false,not_or]
     exact ⟨yak (ybG _),ybe hlS⟩
    have hval : ∀ (i : Nat) (v : Value),items[i]? = some v→∃ t,v = .int ((fun i=>ns.getD i 0) i) t:=fun i v hv=>
     IntsAre.int_at hi i v (by rw [ycu]; exact hv)
    refine zoV (L:=!w.params.followText "set-order") ((Walks.list h3 _ l hneI items).toS) s.heap.objs.size
     hSf (fun i=>ns.getD i 0) hval hb (items.size - 0) 0 _ (by omega) (yaA _)
     ⟨⟨_,yau _ rfl,rfl,rfl⟩,(hl1.push _)⟩ ?hS0 ?hR
    case hS0=>
     refine ⟨_,#[],0,_,yag _ hS,⟨rfl,rfl,rfl⟩,rfl,⟨fun e he=>by simp at he,List.Perm.refl _,by rfl,⟨List.Pairwise.nil,rfl⟩,rfl⟩⟩
    case hR=>
     intro s' hm hS'
     obtain ⟨h',g',d',tk',os'⟩:=s'
     have eg : g' = s.gens:=hm.gens
     have ed : d' = s.drawn:=hm.drawn
     have eo : os' = s.os:=hm.os
     subst eg; subst ed; subst eo
     show wpAny _ _ _ _ _ _
     refine wpAny_pure ?_
     show wpAny _ _ (ret Value.none) _ _ _
     refine wpAny_pure ⟨rfl,h',tk',rfl,hS',fun b o hb e=>?_⟩
     refine hm.heap b o ?_ (yag _ (yag _ e))
     rw [hsz]
     simp only [yal,yaY,or_false,not_or]
     exact ⟨yak hb,yak (ybS hb)⟩
   ·cases r₂ with
    | error e=>exact hr₂
    | ok fl₂=>
     cases fl₂ with
     | ret r=>
      obtain ⟨rfl,h',tk,rfl,hS',hk'⟩:=hr₂
      repeat (any_goals (first | assumption | wp_step))
      exact h _ _ hS' hk'
     | _=>exact hr₂.elim
  | _=>exact hr.elim
end
end SetW
namespace L2
open PySem PySem.Spec PyProof.Rows
def WSet (w : World) (o : Obj) (τ : List Int) : Prop:=τ.length < scanBound∧o.ExactSet∧∃ es ep t,o.data = .set es ep t∧SetW.Body es τ t (!w.params.followText "set-order")
def zqK (w : World) (K : Frag) : List V→Hp→VK→Prop:=fun xs H Q=>∃ (p : Addr) (ns : List Int),xs = [.ref p]∧SqL K H p (ns.map V.int)∧ns.length≤4000∧
 ∀ l o,H l = none→WSet w o (metI ns)→Q (.ref l) (upd H l (.frz o (.set (fun k=>(metI ns).any (· == k)) (metI ns).length)))
theorem zma : ∀ (vs : List Value),(∀ v∈vs,∃ k tk,v = .int k tk)→∃ zs : List Int,Vals (zs.map V.int) vs∧vs.map (fun v=>SetW.ent (0,v)) = zs
 | [],_=>⟨[],.nil,rfl⟩
 | v :: vs,h=>by
  obtain ⟨zs,h1,h2⟩:=zma vs fun u hu=>h u (yay _ hu)
  obtain ⟨k,tk,rfl⟩:=h v yav
  exact ⟨k :: zs,.cons ⟨tk,rfl⟩ h1,by rw [yax,h2]; rfl⟩
section
variable {X : Cx}
theorem Inv.drawn {pins : List (Addr×Obj)} {σ : St} {H : Hp} {s : Shared} {dr : Drawn} (I : Inv X pins σ H s) : Inv X pins σ H { s with drawn:=dr }:=⟨I.ok,I.os,I.bare,I.base,I.loc,I.cell,I.free,I.freeC,I.pin,I.hok,I.len⟩
theorem zoy {h : Heap} {a : Addr} {τ : List Int} {L : Bool} (x : SetW.SetR h a τ L) (hb : τ.length < scanBound) (prog : Program) (w : World) : h.SetOf (intKind prog w) a (fun k=>τ.any (· == k)) τ.length:=by
 obtain ⟨o,es,ep,t,ho,hx,hd,b⟩:=x
 refine ⟨o,es,ep,t,ho,hx,hd,b.elems,fun k=>?_,by rw [b.size]; exact hb,b.fits,b.size⟩
 rw [← b.mem (prog:=prog) (w:=w) k,ybX]
 constructor
 ·rintro ⟨y,hy,e⟩
  rw [← beq_iff_eq.mp e]
  exact hy
 ·intro z
  exact ⟨k,z,beq_self_eq_true k⟩
theorem zmA (hc : X.calm = true) : zeL X (.type "set") (zqK X.w X.K):=by
 intro pins s σ H xs us Q I r h
 obtain ⟨p,ns,rfl,hq,hz,q⟩:=h
 obtain ⟨u,rfl,rx⟩:=zgf r
 cases rx
 obtain ⟨its,rv,pl,_⟩:=I.list hq
 have hl:=rv.length
 rw [yab] at hl
 refine SetW.of_list (ns:=ns) (I.ok.hd hc) pl.isList (by simpa using zc0 rv) (by unfold scanBound; simp only [yaw]; omega) fun h' tk hS hk=>?_
 have e : its.toArray.size = ns.length:=by simp only [yaw]; omega
 rw [e] at hS
 have hlen : (metI ns).length < scanBound:=by
  have:=firstMet_length_le (fun i=>ns.getD i 0) ns.length
  unfold metI scanBound
  omega
 have so:=zoy hS hlen X.prog X.w
 obtain ⟨o,es,ep,t,ho,hx,hd,b⟩:=hS
 exact ⟨.ref s.heap.objs.size,_,I.laid (a:=s.heap.objs.size) (o:=.frz o (.set _ _)) (t':=tk) (fun b o eb=>hk b o (yae eb) eb) (yaa _) ⟨ho,so⟩,rfl,q _ o (I.hok.fresh (yaa _)) ⟨hlen,hx,es,ep,t,hd,b⟩⟩
end
end L2
namespace DictP
open PySem PySem.Spec PyProof.Rows
set_option autoImplicit false
set_option maxRecDepth 100000
theorem zhW : typeLookup (.type "list") "keys" = pure none:=by rw [typeLookup_type,builtinLookup_eq_fast]; kernel_rfl
section
variable {prog : Program} {w : World} {A : Around} {E : Value→Shared→Prop} {a : Addr} {o : Obj} {h : Heap} {g : Array GenState} {d : Drawn} {t : Nat} {os : OsState} {xs : Array Value} {n : Nat} {sl : Array (Option Value)}
theorem zkq {tk : Tok} {Q : Fin→Shared→Prop} (hh : A.handled = none) (hx : h.get? a = some { cls:=.type "list",dict:=none,data:=.seq xs n,slots:=sl })
  (q : ∀ h' t' e,(∀ b u,h.get? b = some u→h'.get? b = some u)→(⟨h',g,d,t',os⟩ : Shared).TypeIs (.ref e) "AttributeError"→E (.ref e) ⟨h',g,d,t',os⟩) :
  wpAny (model prog w) A (Builtin.«object.__getattribute__» ⟨[.ref a,.str "keys" tk],[]⟩) Q E ⟨h,g,d,t,os⟩:=by
 have hT : (⟨h,g,d,t,os⟩ : Shared).TypeIs (.ref a) "list":=⟨_,hx,rfl⟩
 have f4:=zhW
 repeat (any_goals (first | assumption | wp_step))
 have hm : (Str.ofString (toString "'" ++ toString ((Manifest.find? "list").elim "list" fun x=>x.tpName) ++ toString "' object has no attribute '") ++ Str.ofString "keys" ++ Str.ofString "'").length≤sizeLine:=by decide +kernel
 generalize (Str.ofString (toString "'" ++ toString ((Manifest.find? "list").elim "list" fun x=>x.tpName) ++ toString "' object has no attribute '") ++ Str.ofString "keys" ++ Str.ofString "'") = msg at hm ⊢
 unfold raiseAttrError
 refine wpAny_bind (wpAny_mkStr (wpAny_bind ?_) hm)
 unfold newExc newTuple
 refine wpAny_bind (wpAny_newObj_type ?_)
 refine wpAny_bind (m:=firstArgMember _ _) (wpAny_of_eq (a:=Value.none) (by rfl) ?_)
 refine wpAny_newObj_type ?_
 refine wpAny_bind (wpAny_mkText ?_)
 have hX:=yau (h.push { cls:=.type "tuple",data:=.seq #[Value.str msg t] }) (o:={ cls:=.type "AttributeError",data:=.fields (#[.ref h.objs.size,.none,.none,.none,.bool false,.none] ++ #[unsetMember,unsetMember]) }) rfl
 have hk : ∀ b u,h.get? b = some u→((h.push { cls:=.type "tuple",data:=.seq #[Value.str msg t] }).push { cls:=.type "AttributeError",data:=.fields (#[.ref h.objs.size,.none,.none,.none,.bool false,.none] ++ #[unsetMember,unsetMember]) }).get? b = some u:=fun b u e=>yag _ (yag _ e)
 have hne : h.get? (h.push { cls:=.type "tuple",data:=.seq #[Value.str msg t] }).objs.size = none:=Heap.get?_none_of_le (by simp)
 show wpAny (model prog w) A (noteAttr (.ref (h.push { cls:=.type "tuple",data:=.seq #[Value.str msg t] }).objs.size) (.ref a) (.str "keys" (t + 1)) >>= fun _=>raiseNew (.ref (h.push { cls:=.type "tuple",data:=.seq #[Value.str msg t] }).objs.size)) Q E ⟨(h.push { cls:=.type "tuple",data:=.seq #[Value.str msg t] }).push { cls:=.type "AttributeError",data:=.fields (#[.ref h.objs.size,.none,.none,.none,.bool false,.none] ++ #[unsetMember,unsetMember]) },g,d,t + 2,os⟩
 generalize (h.push { cls:=.type "tuple",data:=.seq #[Value.str msg t] }).push { cls:=.type "AttributeError",data:=.fields (#[.ref h.objs.size,.none,.none,.none,.bool false,.none] ++ #[unsetMember,unsetMember]) } = h2 at hX hk ⊢
 generalize (h.push { cls:=.type "tuple",data:=.seq #[Value.str msg t] }).objs.size = e at hX hne ⊢
 generalize (Value.ref h.objs.size) = r0 at hX
 unfold noteAttr
 dsimp only
 have hTe : (⟨h2,g,d,t + 2,os⟩ : Shared).TypeIs (.ref e) "AttributeError":=⟨_,hX,rfl⟩
 refine wpAny_bind (wpAny_bind ?_)
 unfold lacksNameAndObj
 dsimp only
 refine wpAny_bind (wpAny_isInstance (T := "AttributeError") (b:=true) hTe (by rw [isSubtype_type]; kernel_rfl) ?_)
 simp only [Bool.not_true,yb9,if_false]
 refine wpAny_bind (wpAny_load hX ?_)
 dsimp only
 have i6 : (#[r0,Value.none,Value.none,Value.none,Value.bool false,Value.none] ++ #[unsetMember,unsetMember])[6]? = some unsetMember:=by simp
 have i7 : (#[r0,Value.none,Value.none,Value.none,Value.bool false,Value.none] ++ #[unsetMember,unsetMember])[7]? = some unsetMember:=by simp
 refine wpAny_ite_split (fun z=>absurd z (by rw [i6,i7]; decide)) (fun _=>?_)
 refine wpAny_ite_split (fun z=>absurd z (by rw [i6,i7]; decide)) (fun _=>?_)
 refine wpAny_pure ?_
 rw [if_pos rfl]
 refine wpAny_bind (wpAny_rule (wpAny_bind (wpAny_typeOf hTe ?_)))
 dsimp only
 unfold layMembers
 refine wpAny_bind (wpAny_load hX ?_)
 dsimp only
 refine wpAny_update (s:=⟨h2,g,d,t + 2,os⟩) hX ?_
 unfold raiseNew
 refine wpAny_bind (wpAny_handled ?_)
 rw [hh]
 first
  | refine wpAny_throw ?_
  | refine wpAny_bind (wpAny_pure (wpAny_throw ?_))
 refine q _ _ e (fun b u eb=>?_) ⟨_,ybf _ hX (Obj.isFreed_of_fields (Obj.data_mapFields rfl _)),rfl⟩
 have nb : b≠e:=fun z=>by
  rw [z,hne] at eb
  cases eb
 exact (ya7 _ _ (Ne.symm nb)).trans (hk b u eb)
theorem zl4 {tk : Tok} {R : Result→Shared→Prop} (hh : A.handled = none) (hx : h.get? a = some { cls:=.type "list",dict:=none,data:=.seq xs n,slots:=sl })
  (q : ∀ h' t' e,(∀ b u,h.get? b = some u→h'.get? b = some u)→(⟨h',g,d,t',os⟩ : Shared).TypeIs (.ref e) "AttributeError"→R (.error (.ref e)) ⟨h',g,d,t',os⟩) :
  codeAny (model prog w) A (.call (.builtin "list.__getattribute__") ⟨[.ref a,.str "keys" tk],[]⟩) R ⟨h,g,d,t,os⟩:=
 codeAny_call_builtin F.slot_list_getattribute.plain F.entry_list_ga (F.slot_list_getattribute.check _ _ _ _ _ _ _ _ (show (⟨h,g,d,t,os⟩ : Shared).TypeIs (.ref a) "list" from ⟨_,hx,rfl⟩) (F.args_list_getattribute_2 _ _) (zkq (A:=A.in1) hh hx q))
theorem zl2 {Q : Option Value→Shared→Prop} (hh : A.handled = none) (hx : h.get? a = some { cls:=.type "list",dict:=none,data:=.seq xs n,slots:=sl })
  (q : ∀ h' t',(∀ b u,h.get? b = some u→h'.get? b = some u)→Q none ⟨h',g,d,t',os⟩) : wpAny (model prog w) A (getAttr? (.ref a) "keys") Q E ⟨h,g,d,t,os⟩:=by
 have hT : (⟨h,g,d,t,os⟩ : Shared).TypeIs (.ref a) "list":=⟨_,hx,rfl⟩
 have f2:=F.slot_list_getattribute.lookup
 have f3:=F.slot_list_getattribute.bind (.ref a)
 have f5 : typeLookup (.type "list") "__getattr__" = pure none:=by rw [typeLookup_type,builtinLookup_eq_fast]; kernel_rfl
 unfold getAttr? getAttrBy?
 repeat (any_goals (first | assumption | wp_step))
 refine zl4 hh hx fun h' t' e k ty=>?_
 have su : isSubtype (.type "AttributeError") (.type "AttributeError") = pure true:=by rw [isSubtype_type]; kernel_rfl
 show wpAny (model prog w) A (getattributeRaised (.ref a) (.str "keys" t) (.type "list") (.ref e) none false false) _ _ _
 unfold getattributeRaised
 refine wpAny_bind (wpAny_isInstance ty su ?_)
 rw [if_pos rfl]
 refine wpAny_bind (?_ : wpAny _ _ (typeLookup (.type "list") "__getattr__") _ _ _)
 rw [f5]
 refine wpAny_pure ?_
 show wpAny _ _ (throw (Value.ref e)) _ _ _
 refine wpAny_throw ?_
 show wpAny _ _ (do let b ← isInstance (.ref e) (.type "AttributeError"); if b = true then pure none else throw (Value.ref e)) _ _ _
 refine wpAny_bind (wpAny_isInstance ty su ?_)
 exact wpAny_pure (q h' t' k)
end
end DictP
namespace DictP
open PySem PySem.Spec PyProof.Rows L2
set_option autoImplicit false
set_option maxRecDepth 100000
theorem zh6 : entryFor table "dict.update.loop" = some Builtin.«dict.update.loop»:=entryFor_of_tree (by kernel_rfl)
theorem zeu : plainId "dict.update.loop" = true:=by decide +kernel
theorem zka {K : Type} [DecidableEq K] {kvs : List (K×Value)} {k : K} {v : Value} (h : k∉kvs.map (·.1)) : stored kvs k v = kvs ++ [(k,v)]:=by
 unfold stored
 rw [if_neg fun z=>?_]
 obtain ⟨kv,h1,h2⟩:=ybX.mp z
 exact h (yaF.mpr ⟨kv,h1,yaC h2⟩)
section
variable {prog : Program} {w : World} {A : Around} {R : Result→Shared→Prop} {I : Addr} {fp wr : List Addr} {G : Array GenState→Array GenState→Prop} {n : Nat} {P : Nat→Value→Prop} {St : Nat→Shared→Prop}
theorem zke {h0 : Heap} (W : WalksS prog w A.in1 I fp wr G n P St) (d : Addr) (hdf : d∉fp) (res : Value) (kvs : List (Key×Value)) (hn : n = kvs.length) (hnd : (kvs.map (·.1)).Nodup)
  (hP : ∀ i v,P i v→∃ tp key k val,v = .ref tp∧tp≠d∧tp∉wr∧h0.IsTuple tp #[key,val]∧(zaH prog w).is k key = true∧kvs[i]? = some (k,val)) (hz : kvs.length≤sizeLine) :
  ∀ (j i : Nat) (s : Shared) (tk : Tok),n - i = j→i≤n→St i s→(∀ b o,b≠d→b∉wr→h0.get? b = some o→s.heap.get? b = some o)→s.heap.DictOf (zaH prog w) d (kvs.take i)→
   (∀ s',Moved (d :: wr) G s s'→s'.heap.DictOf (zaH prog w) d kvs→R (.ok (.ret res)) s')→codeAny (model prog w) A (.builtin "dict.update.loop" ⟨[.ref d,.ref I,.int i tk,res],[]⟩) R s:=by
 have hdw : d∉wr:=fun h=>hdf (W.sub _ h)
 have up : ∀ b∈wr,b∈d :: wr:=fun b hb=>yay _ hb
 intro j
 induction j with
 | zero=>
  intro i s tk hj hi st hk hd q
  have e : i = n:=by omega
  subst e
  refine codeAny_builtin zh6 ?_
  rw [Around.under_plainId zeu _]
  show wpAny _ A.in1 (pyNext (.ref I) >>= _) _ _ s
  refine wpAny_bind (W.done s _ _ st fun s' hm=>?_)
  refine wpAny_bind (?_ : wpAny _ A.in1 (Builtin.Dict.addKeywords d []) _ _ s')
  refine wpAny_pure (wpAny_pure (q s' (hm.mono up) ?_))
  obtain ⟨o,es,ep,ho,r⟩:=hd
  rw [hn,List.take_length] at r
  exact ⟨o,es,ep,hm.heap d o hdw ho,r⟩
 | succ j ih=>
  intro i s tk hj hi st hk hd q
  have hlt : i < n:=by omega
  refine codeAny_builtin zh6 ?_
  rw [Around.under_plainId zeu _]
  show wpAny _ A.in1 (pyNext (.ref I) >>= _) _ _ s
  refine wpAny_bind (W.item i s _ _ hlt st fun v s' hPi st' hm=>?_)
  obtain ⟨tp,key,k,val,rfl,ntd,ntw,ht,hkey,hkv⟩:=hP i v hPi
  obtain ⟨ot,o1,o2,nt,o3⟩:=ht
  have g1:=hm.heap tp ot ntw (hk tp ot ntd ntw o1)
  have hd' : s'.heap.DictOf (zaH prog w) d (kvs.take i):=by
   obtain ⟨o,es,ep,ho,r⟩:=hd
   exact ⟨o,es,ep,hm.heap d o hdw ho,r⟩
  obtain ⟨hik,hek⟩:=yah.mp hkv
  have hnew : k∉(kvs.take i).map (·.1):=fun z=>by
   rw [ybI] at z
   obtain ⟨m,hm1,hm2⟩:=ycw.mp z
   have h2 : m < (kvs.map (·.1)).length:=by omega
   have h3 : i < (kvs.map (·.1)).length:=by rw [yab]; exact hik
   have:=yaL.mp hnd m i h2 h3 (by omega)
   apply this
   rw [hm2,List.getElem_map,hek]
  refine wpAny_bind (wpAny_holding (wpAny_bind (wpAny_tryCatch ?_)))
  unfold Builtin.Dict.pairItems
  refine wpAny_bind (wpAny_typeOf (T := "tuple") ⟨_,g1,o2⟩ ?_)
  rw [if_pos (by decide)]
  unfold seqItems?
  refine wpAny_bind (wpAny_bind (wpAny_load g1 ?_))
  rw [o3]
  refine wpAny_pure (wpAny_pure ?_)
  show wpAny _ A.in1 (holding [key,val] (dictSet d key val)) _ _ s'
  refine wpAny_holding (wpAny_dictSet_pairs hkey hd' (fun h' hd2 sb=>?_) (by rw [yas]; omega))
  rw [zka hnew] at hd2
  have tk1 : kvs.take (i + 1) = kvs.take i ++ [(k,val)]:=by
   rw [yaH hik,hek]
  rw [← tk1] at hd2
  refine wpAny_pure ⟨plainId_quiet zeu _,ih (i + 1) _ 0 (by omega) hlt (W.frame _ s' _ _ st' (yaN _) fun b hb o e=>?_) (fun b o n1 n2 e=>?_) hd2 fun s'' hm'' x3=>?_⟩
  ·rw [sb.2 b (fun h : b = d=>hdf (by rw [← h]; exact hb))]
   exact e
  ·rw [sb.2 b n1]
   exact hm.heap b o n2 (hk b o n1 n2 e)
  ·refine q s'' (Moved.trans W.gtrans ((hm.mono up).then_heap (yaN _) fun b o hb e=>?_) hm'') x3
   rw [sb.2 b (fun h : b = d=>hb (by rw [h]; exact yav))]
   exact e
end
end DictP
namespace DictP
open PySem PySem.Spec PyProof.Rows L2
set_option autoImplicit false
set_option maxRecDepth 100000
section
variable {prog : Program} {w : World} {A : Around} {E : Value→Shared→Prop} {s : Shared}
theorem of_pairs {l : Addr} {items : Array Value} {nl : Nat} {sl : Array (Option Value)} {kvs : List (Key×Value)} {Q : Value→Shared→Prop} (hh : A.handled = none) (hl : s.heap.get? l = some { cls:=.type "list",dict:=none,data:=.seq items nl,slots:=sl })
  (hnd : (kvs.map (·.1)).Nodup) (hlen : items.size = kvs.length) (hz : kvs.length≤sizeLine)
  (hit : ∀ (i : Nat) v,items[i]? = some v→∃ tp key k val,v = .ref tp∧s.heap.IsTuple tp #[key,val]∧(zaH prog w).is k key = true∧kvs[i]? = some (k,val))
  (q : ∀ h' tk,h'.DictOf (zaH prog w) s.heap.objs.size kvs→(∀ b o,s.heap.get? b = some o→h'.get? b = some o)→Q (.ref s.heap.objs.size) { s with heap:=h',toks:=tk }) :
  wpAny (model prog w) A (call (.type "dict") [.ref l]) Q E s:=by
 refine callType_codes (Q₁:=fun obj s₁=>obj = .ref s.heap.objs.size∧s₁ = { s with heap:=s.heap.push { cls:=.type "dict",data:=.dict #[] } }) F.kt_called_dict (F.kt_typeCall_dict_1 _) F.entry_dict_init (kt_code_dict_new _ ⟨rfl,rfl⟩) ?_
 rintro obj s₁ ⟨rfl,rfl⟩
 have hnew : (s.heap.push { cls:=.type "dict",data:=.dict #[] }).DictOf (zaH prog w) s.heap.objs.size []:=Heap.DictOf.new s.heap
 have hl1:=yag { cls:=.type "dict",data:=.dict #[] } hl
 have hkp : ∀ b o,s.heap.get? b = some o→(s.heap.push { cls:=.type "dict",data:=.dict #[] }).get? b = some o:=fun b o e=>yag _ e
 have hds : s.heap.objs.size < (s.heap.push { cls:=.type "dict",data:=.dict #[] }).objs.size:=by
  rw [ybw]
  exact ybG _
 have hlS : l < s.heap.objs.size:=yae hl
 refine ⟨hnew.typeIs,F.args_dict_init_2 _ _,?_⟩
 generalize s.heap.push { cls:=.type "dict",data:=.dict #[] } = h1 at hnew hl1 hkp hds ⊢
 unfold Builtin.«dict.__init__»
 refine wpAny_bind ?_
 unfold Builtin.Dict.selfAndRest
 refine wpAny_bind (wpAny_notOrdered_dict hnew.typeIs ?_)
 show wpAny _ _ (pure (s.heap.objs.size,[Value.ref l])) _ _ _
 refine wpAny_pure ?_
 show wpAny _ _ (Builtin.Dict.updateFrom "dict.__init__" s.heap.objs.size (.ref l) [] .none) _ _ _
 unfold Builtin.Dict.updateFrom
 refine wpAny_bind (wpAny_typeOf (T := "list") ⟨_,hl1,rfl⟩ ?_)
 rw [if_pos (by decide)]
 refine wpAny_bind (zl2 (A:=_) hh hl1 fun h2 t2 k2=>?_)
 rw [if_pos (show (none : Option Value).isNone = true from rfl)]
 refine wpAny_bind (wpAny_rule (wpAny_bind ?_))
 have hl2:=k2 _ _ hl1
 have hL2 : h2.IsList l items:=⟨_,hl2,rfl,nl,rfl⟩
 refine wpAny_pyIter_list (s:=⟨h2,s.gens,s.drawn,t2,s.os⟩) hL2 ?_
 refine wpAny_pure ⟨plainId_quiet zeu _,?_⟩
 have hd2 : h2.DictOf (zaH prog w) s.heap.objs.size []:=by
  obtain ⟨o,es,ep,ho,r⟩:=hnew
  exact ⟨o,es,ep,k2 _ _ ho,r⟩
 have hdlt : s.heap.objs.size < h2.objs.size:=by
  obtain ⟨o,es,ep,ho,r⟩:=hd2
  exact yae ho
 have hne : l≠h2.objs.size:=yak (ybQ hlS hdlt)
 have h3 : A.in1.in1.handled = none:=by simp [hh]
 refine zke (h0:=s.heap) ((Walks.list h3 _ l hne items).toS) s.heap.objs.size (fun z=>?_) .none kvs hlen hnd (fun i v hv=>?_) hz items.size 0 _ 0 (by omega) (yaA _) ⟨⟨_,yau _ rfl,rfl,rfl⟩,hL2.push _⟩ (fun b o n1 n2 e=>yag _ (k2 _ _ (hkp _ _ e))) ?_ fun s' hm hd'=>?_
 ·simp only [yal,yaY,or_false] at z
  rcases z with z | z
  ·exact absurd hdlt (by rw [← z]; exact yaT _)
  ·exact absurd hlS (by rw [← z]; exact yaT _)
 ·obtain ⟨tp,key,k,val,e1,e2,e3,e4⟩:=hit i v hv
  have htp : tp < s.heap.objs.size:=by
   obtain ⟨ot,o1,_⟩:=e2
   exact yae o1
  refine ⟨tp,key,k,val,e1,yak htp,fun z=>?_,e2,e3,e4⟩
  rw [yap.mp z] at htp
  exact absurd (ybQ htp hdlt) (yaT _)
 ·rw [ybY]
  exact hd2.push _
 ·refine ⟨rfl,?_⟩
  rw [Moved.eq_with hm]
  refine q s'.heap s'.toks hd' fun b o e=>hm.heap b o (fun z=>?_) (yag _ (k2 _ _ (hkp _ _ e)))
  have hb:=yae e
  simp only [yal,yaY,or_false] at z
  rcases z with z | z
  ·rw [z] at hb
   exact absurd hb (yaT _)
  ·rw [z] at hb
   exact absurd (ybQ hb hdlt) (yaT _)
end
end DictP
namespace L2
open PySem PySem.Spec PyProof.Rows
def zpH (K : Frag) : List V→Hp→VK→Prop:=fun xs H Q=>∃ (p : Addr) (zs : List V) (kvs : List (Key×V)),xs = [.ref p]∧SqL K H p zs∧Paired (fun (z : V) (kv : Key×V)=>∃ b,z = .ref b∧H b = some (.tup [kV kv.1,kv.2])) zs kvs∧(kvs.map (·.1)).Nodup∧
 ∀ d,H d = none→Q (.ref d) (upd H d (.dK kvs))
section
variable {X : Cx}
theorem zjy {pins : List (Addr×Obj)} {σ : St} {H : Hp} {s : Shared} (I : Inv X pins σ H s) : ∀ {zs : List V} {kvs : List (Key×V)} {us : List Value},Paired (fun (z : V) (kv : Key×V)=>∃ b,z = .ref b∧H b = some (.tup [kV kv.1,kv.2])) zs kvs→Vals zs us→
  ∃ ks : List (Key×Value),KV kvs ks∧∀ (i : Nat) v,us[i]? = some v→∃ tp key k val,v = .ref tp∧s.heap.IsTuple tp #[key,val]∧(zaH X.prog X.w).is k key = true∧ks[i]? = some (k,val)
 | _,_,_,.nil,.nil=>⟨[],.nil,fun i v h=>by simp at h⟩
 | _ :: _,kv :: _,_ :: _,.cons ⟨b,e1,e2⟩ t,.cons r q=>by
  subst e1
  obtain ⟨ks,h1,h2⟩:=zjy I t q
  cases r
  obtain ⟨its,rv,p,_⟩:=I.tuple (SqT.of e2)
  cases rv with
  | cons r1 rv=>
   cases rv with
   | cons r2 rv=>
    cases rv
    refine ⟨(kv.1,_) :: ks,.cons ⟨rfl,r2⟩ h1,fun i v hv=>?_⟩
    cases i with
    | zero=>
     simp only [List.getElem?_cons_zero,Option.some.injEq] at hv
     subst hv
     exact ⟨b,_,kv.1,_,rfl,p,ziG r1,rfl⟩
    | succ i=>
     rw [ycx] at hv ⊢
     exact h2 i v hv
theorem zl0 : ∀ {kvs : List (Key×V)} {ks : List (Key×Value)},KV kvs ks→ks.map (·.1) = kvs.map (·.1)
 | _,_,.nil=>rfl
 | _,_,.cons r t=>by
  rw [yax,yax,zl0 t,r.1]
theorem zkF (hc : X.calm = true) : zeL X (.type "dict") (zpH X.K):=by
 intro pins s σ H xs us Q I r h
 obtain ⟨p,zs,kvs,rfl,hq,hp,hn,q⟩:=h
 obtain ⟨u,rfl,rx⟩:=zgf r
 cases rx
 obtain ⟨its,rv,pl,hz⟩:=I.list hq
 obtain ⟨ks,hk,hit⟩:=zjy I hp rv
 have l1:=Paired.length hp
 have l2:=rv.length
 have l3:=Paired.length hk
 obtain ⟨⟨oc,od,oda,osl⟩,n,e,e1,e2,e3⟩:=pl
 simp only at e1 e2 e3
 subst e1 e2 e3
 refine DictP.of_pairs (kvs:=ks) (I.ok.hd hc) e (by rw [zl0 hk]; exact hn) (by rw [yaw]; omega) (by omega) (fun i v hv=>hit i v (by simpa using hv)) fun h' tk hd k=>?_
 exact ⟨.ref s.heap.objs.size,_,I.laid (a:=s.heap.objs.size) (o:=.dK kvs) (t':=tk) k (yaa _) ⟨by omega,beq_eq_false_iff_ne.mpr (Ne.symm (yak I.big)),ks,hk,hd⟩,rfl,q _ (I.hok.fresh (yaa _))⟩
end
end L2
namespace Kas
open PySem PySem.W PyProof.Rows
def run {α : Type} (f : Nat→Nat→Bool) : KasT α→α
 | .ret a=>a
 | .ask i j k=>run f (k (f i j))
theorem zdq {α β : Type} (f : Nat→Nat→Bool) (g : α→KasT β) : ∀ t : KasT α,run f (t.bind g) = run f (g (run f t))
 | .ret _=>rfl
 | .ask i j k=>zdq f g (k (f i j))
def Res {α : Type} (n : Nat) (P : α→Prop) : KasT α→Prop
 | .ret a=>P a
 | .ask i j k=>i < n∧j < n∧∀ b,Res n P (k b)
theorem Res.bind {α β : Type} {n : Nat} {P : α→Prop} {P' : β→Prop} {g : α→KasT β} (h2 : ∀ a,P a→Res n P' (g a)) : ∀ {t : KasT α},Res n P t→Res n P' (t.bind g)
 | .ret a,h=>h2 a h
 | .ask _ _ _,h=>⟨h.1,h.2.1,fun b=>Res.bind h2 (h.2.2 b)⟩
theorem Res.run {α : Type} {n : Nat} {P : α→Prop} (f : Nat→Nat→Bool) : ∀ {t : KasT α},Res n P t→P (Kas.run f t)
 | .ret _,h=>h
 | .ask i j k,h=>Res.run (t:=k (f i j)) f (h.2.2 (f i j))
theorem wp_of {α : Type} {n : Nat} {P : α→Prop} {f : Nat→Nat→Bool} {cmp : Nat→Nat→(Bool→Shared→Prop)→Shared→Prop} {Q : α→Shared→Prop} {s : Shared} (hc : ∀ i j C,i < n→j < n→C (f i j) s→cmp i j C s) : ∀ {t : KasT α},Res n P t→Q (Kas.run f t) s→t.kasWp cmp Q s
 | .ret _,_,q=>q
 | .ask i j _,h,q=>hc i j _ h.1 h.2.1 (wp_of hc (h.2.2 (f i j)) q)
def Good (n : Nat) (p : Array Nat) : Prop:=p.Perm (List.range n).toArray
theorem Good.size {n : Nat} {p : Array Nat} (h : Good n p) : p.size = n:=by
 have:=h.size_eq
 simpa using this
theorem Good.lt {n : Nat} {p : Array Nat} (h : Good n p) (hn : 0 < n) (k : Nat) : p.getD k 0 < n:=by
 by_cases c : k < p.size
 ·have e : p.getD k 0 = p[k]:=by simp [Array.getD,c]
  rw [e]
  have hm : p[k]∈(List.range n).toArray:=h.mem_iff.mp (Array.getElem_mem c)
  simpa using hm
 ·have e : p.getD k 0 = 0:=by simp [Array.getD,c]
  rw [e]
  exact hn
theorem Good.rev {n : Nat} {p : Array Nat} (h : Good n p) (i j : Nat) : Good n (kas_rev p i j):=(mirror_perm p i j _).trans h
theorem Good.bub {n : Nat} {p : Array Nat} (h : Good n p) (i j : Nat) : Good n (bubble p i j):=(bubble_perm p i j).trans h
section
variable {n : Nat} (hn : 0 < n)
include hn
theorem zi0 {p : Array Nat} (h : Good n p) : ∀ (f m : Nat),Res n (fun _=>True) (kas_asc p f m)
 | 0,_=>trivial
 | f + 1,m=>⟨h.lt hn _,h.lt hn _,fun b=>by
  cases b with
  | true=>exact trivial
  | false=>exact zi0 h f (m + 1)⟩
theorem zfD : ∀ (f : Nat) {p : Array Nat} (m q : Nat),Good n p→Res n (fun r : Array Nat×Nat×Nat=>Good n r.1) (kas_desc f p m q)
 | 0,_,_,_,h=>h
 | f + 1,p,m,q,h=>⟨h.lt hn _,h.lt hn _,fun b=>by
  cases b with
  | true=>
   show Res n _ (if q > 0 then kas_desc f (kas_rev p (m - (q + 1)) m) (m + 1) 0 else kas_desc f p (m + 1) 0)
   split
   ·exact zfD f _ _ (h.rev _ _)
   ·exact zfD f _ _ h
  | false=>
   refine ⟨h.lt hn _,h.lt hn _,fun c=>?_⟩
   cases c with
   | true=>exact h
   | false=>exact zfD f _ _ h⟩
theorem zja {p : Array Nat} (h : Good n p) (m r : Nat) : Res n (fun x : Nat×Array Nat=>Good n x.2) (kas_tail3 m r p):=by
 refine Res.bind (fun a _=>?_) (zi0 hn (h.rev 0 m) (r - m) m)
 exact h.rev _ _
theorem zfe {p : Array Nat} (h : Good n p) (m r : Nat) : Res n (fun x : Nat×Array Nat=>Good n x.2) (kas_descPart m r p):=by
 refine Res.bind (fun a ha=>?_) (zfD hn _ _ _ h)
 show Res n _ (if a.2.2 > 0 then _ else _)
 split
 ·exact zja hn (Good.rev ha _ _) _ _
 ·exact zja hn ha _ _
theorem zh8 {p : Array Nat} (h : Good n p) (r : Nat) : Res n (fun x : Nat×Array Nat=>Good n x.2) (kas_count r p):=by
 refine Res.bind (fun a _=>?_) (zi0 hn h _ _)
 show Res n _ (if (a == r) = true then _ else if a > 1 then _ else _)
 split
 ·exact h
 ·split
  ·refine ⟨h.lt hn _,h.lt hn _,fun b=>?_⟩
   cases b with
   | true=>exact h
   | false=>exact zfe hn (h.rev _ _) _ _
  ·exact zfe hn h _ _
theorem zfJ {p : Array Nat} (h : Good n p) (k : Nat) : ∀ (f l r : Nat),Res n (fun _=>True) (kas_place p k f l r)
 | 0,_,_=>trivial
 | f + 1,l,r=>by
  show Res n _ (if l ≥ r then _ else _)
  split
  ·exact trivial
  ·refine ⟨h.lt hn _,h.lt hn _,fun b=>?_⟩
   cases b with
   | true=>exact zfJ h k f _ _
   | false=>exact zfJ h k f _ _
theorem zmF : ∀ (f : Nat) {p : Array Nat} (k : Nat),Good n p→Res n (Good n) (kas_bin f p k)
 | 0,_,_,h=>h
 | f + 1,_,k,h=>Res.bind (fun _ _=>zmF f _ (h.bub _ _)) (zfJ hn h k _ _ _)
theorem sort_res : Res n (Good n) (kas_sort n):=by
 refine Res.bind (fun a ha=>?_) (zh8 hn (p:=(List.range n).toArray) (Array.Perm.refl _) n)
 show Res n _ (if a.1 < n then _ else _)
 split
 ·exact zmF hn _ _ ha
 ·exact ha
end
structure Ord (f : Nat→Nat→Bool) : Prop where
 irr : ∀ a,f a a = false
 tr : ∀ a b c,f a b = true→f b c = true→f a c = true
 neg : ∀ a b c,f a c = true→f a b = true∨f b c = true
def Up (f : Nat→Nat→Bool) (p : Array Nat) (k : Nat) : Prop:=∀ i j,i < j→j < k→f (p.getD j 0) (p.getD i 0) = false
def Down (f : Nat→Nat→Bool) (p : Array Nat) (k : Nat) : Prop:=∀ i j,i < j→j < k→f (p.getD i 0) (p.getD j 0) = false
section
variable {f : Nat→Nat→Bool} (O : Ord f)
include O
theorem not_lt {a b c : Nat} (h1 : f a b = false) (h2 : f b c = false) : f a c = false:=by
 cases e : f a c with
 | false=>rfl
 | true=>
  rcases O.neg a b c e with z | z
  ·rw [h1] at z
   cases z
  ·rw [h2] at z
   cases z
theorem asym {a b : Nat} (h : f a b = true) : f b a = false:=by
 cases e : f b a with
 | false=>rfl
 | true=>
  have:=O.tr a b a h e
  rw [O.irr] at this
  cases this
theorem zoj {p : Array Nat} {m : Nat} (h1 : 1≤m) (h : Up f p m) (e : f (p.getD m 0) (p.getD (m - 1) 0) = false) : Up f p (m + 1):=fun i j hij hj=>by
 by_cases c : j < m
 ·exact h i j hij c
 ·have : j = m:=by omega
  subst this
  by_cases ci : i = j - 1
  ·rw [ci]
   exact e
  ·exact not_lt O e (h i (j - 1) (by omega) (by omega))
theorem ziZ {p : Array Nat} : ∀ (fu m : Nat),1≤m→Up f p m→Up f p (run f (kas_asc p fu m))∧m≤run f (kas_asc p fu m)∧run f (kas_asc p fu m)≤m + fu∧(run f (kas_asc p fu m) < m + fu→f (p.getD (run f (kas_asc p fu m)) 0) (p.getD (run f (kas_asc p fu m) - 1) 0) = true)
 | 0,m,_,h=>⟨h,yaa _,yaa _,fun z=>absurd z (by show ¬ m < m + 0; omega)⟩
 | fu + 1,m,h1,h=>by
  have step : run f (kas_asc p (fu + 1) m) = if f (p.getD m 0) (p.getD (m - 1) 0) = true then m else run f (kas_asc p fu (m + 1)):=by
   show run f (if f (p.getD m 0) (p.getD (m - 1) 0) = true then .ret m else kas_asc p fu (m + 1)) = _
   split <;> rfl
  rw [step]
  cases e : f (p.getD m 0) (p.getD (m - 1) 0) with
  | true=>exact ⟨h,yaa _,by rw [if_pos rfl]; omega,fun _=>e⟩
  | false=>
   rw [if_neg (by decide)]
   obtain ⟨a1,a2,a3,a4⟩:=ziZ fu (m + 1) (by omega) (zoj O h1 h e)
   exact ⟨a1,by omega,by omega,fun z=>a4 (by omega)⟩
theorem zfI {p : Array Nat} {k : Nat} (h : Up f p k) : ∀ (fu l r : Nat),l≤r→r≤k→r - l≤fu→(∀ i,i < l→f (p.getD k 0) (p.getD i 0) = false)→(∀ i,r≤i→i < k→f (p.getD k 0) (p.getD i 0) = true)→
  run f (kas_place p k fu l r)≤k∧(∀ i,i < run f (kas_place p k fu l r)→f (p.getD k 0) (p.getD i 0) = false)∧(∀ i,run f (kas_place p k fu l r)≤i→i < k→f (p.getD k 0) (p.getD i 0) = true)
 | 0,l,r,h1,h2,h3,h4,h5=>⟨by show l≤k; omega,h4,fun i hi=>h5 i (by have : l≤i:=hi; omega)⟩
 | fu + 1,l,r,h1,h2,h3,h4,h5=>by
  by_cases c : l ≥ r
  ·have e : run f (kas_place p k (fu + 1) l r) = l:=by
    show run f (if l ≥ r then _ else _) = l
    rw [if_pos c]
    rfl
   rw [e]
   exact ⟨by omega,h4,fun i hi=>h5 i (by omega)⟩
  ·have e : run f (kas_place p k (fu + 1) l r) = if f (p.getD k 0) (p.getD ((l + r) / 2) 0) = true then run f (kas_place p k fu l ((l + r) / 2)) else run f (kas_place p k fu ((l + r) / 2 + 1) r):=by
    show run f (if l ≥ r then _ else _) = _
    rw [if_neg c]
    show run f (if f (p.getD k 0) (p.getD ((l + r) / 2) 0) = true then _ else _) = _
    split <;> rfl
   rw [e]
   cases e2 : f (p.getD k 0) (p.getD ((l + r) / 2) 0) with
   | true=>
    rw [if_pos rfl]
    refine zfI h fu l _ (by omega) (by omega) (by omega) h4 fun i hi hk=>?_
    by_cases ci : i = (l + r) / 2
    ·rw [ci]
     exact e2
    ·rcases O.neg _ (p.getD i 0) _ e2 with z | z
     ·exact z
     ·rw [h _ i (by omega) hk] at z
      cases z
   | false=>
    rw [if_neg (by decide)]
    refine zfI h fu _ r (by omega) h2 (by omega) (fun i hi=>?_) h5
    by_cases ci : i = (l + r) / 2
    ·rw [ci]
     exact e2
    ·exact not_lt O e2 (h i _ (by omega) (by omega))
omit O in
theorem gd (q : Array Nat) (x : Nat) : q.getD x 0 = (q[x]?).getD 0:=by
 by_cases h : x < q.size
 ·simp [Array.getD,h]
 ·simp [Array.getD,h]
omit O in
theorem zmj {p : Array Nat} {k d : Nat} (hk : k < p.size) (hd : d≤k) (j : Nat) : (bubble p k d).getD j 0 = if j = k - d then p.getD k 0 else if k - d < j∧j≤k then p.getD (j - 1) 0 else p.getD j 0:=by
 rw [gd,getElem?_bubble hk d hd j,gd p k,gd p (j - 1),gd p j]
 split
 ·rfl
 ·split <;> rfl
theorem zqt {p : Array Nat} {k l : Nat} (hk : k < p.size) (h : Up f p k) (hl : l≤k) (h1 : ∀ i,i < l→f (p.getD k 0) (p.getD i 0) = false) (h2 : ∀ i,l≤i→i < k→f (p.getD k 0) (p.getD i 0) = true) : Up f (bubble p k (k - l)) (k + 1):=fun i j hij hj=>by
 rw [zmj hk (by omega),zmj hk (by omega),show k - (k - l) = l by omega]
 by_cases cj : j = l
 ·rw [if_pos cj,if_neg (by omega),if_neg (by omega)]
  exact h1 i (by omega)
 ·rw [if_neg cj]
  by_cases cj2 : l < j∧j≤k
  ·rw [if_pos cj2]
   by_cases ci : i = l
   ·rw [if_pos ci]
    exact asym O (h2 (j - 1) (by omega) (by omega))
   ·rw [if_neg ci]
    by_cases ci2 : l < i∧i≤k
    ·rw [if_pos ci2]
     exact h (i - 1) (j - 1) (by omega) (by omega)
    ·rw [if_neg ci2]
     exact h i (j - 1) (by omega) (by omega)
  ·rw [if_neg cj2,if_neg (by omega),if_neg (by omega)]
   exact h i j hij (by omega)
theorem zmE : ∀ (fu : Nat) {p : Array Nat} (k : Nat),k + fu≤p.size→Up f p k→Up f (run f (kas_bin fu p k)) (k + fu)
 | 0,_,_,_,h=>h
 | fu + 1,p,k,hz,h=>by
  have e : run f (kas_bin (fu + 1) p k) = run f (kas_bin fu (bubble p k (k - run f (kas_place p k k 0 k))) (k + 1)):=zdq f _ _
  rw [e]
  obtain ⟨a1,a2,a3⟩:=zfI O h k 0 k (yaA _) (yaa _) (by omega) (fun i hi=>absurd hi (yce _)) (fun i hi hk=>absurd hk (by omega))
  have:=zmE fu (k + 1) (by rw [bubble_size]; omega) (zqt O (by omega) h a1 a2 a3)
  rw [show k + (fu + 1) = k + 1 + fu by omega]
  exact this
omit O in
theorem zde {p : Array Nat} {i j : Nat} (hj : j≤p.size) (k : Nat) : (kas_rev p i j).getD k 0 = if i≤k∧k < j then p.getD (i + j - 1 - k) 0 else p.getD k 0:=by
 unfold kas_rev
 rw [gd,getElem?_mirror_all hj k,gd p (i + j - 1 - k),gd p k]
 split <;> rfl
omit O in
theorem zft (p : Array Nat) (i j : Nat) : (kas_rev p i j).size = p.size:=mirror_size _ _ _ _
omit O in
theorem zpF {p : Array Nat} {m : Nat} (hm : m≤p.size) (h : Down f p m) : Up f (kas_rev p 0 m) m:=fun i j hij hj=>by
 rw [zde hm,zde hm,if_pos (by omega),if_pos (by omega)]
 exact h _ _ (by omega) (by omega)
def zmO (f : Nat→Nat→Bool) (p : Array Nat) (m q : Nat) : Prop:=∀ i j,m - (q + 1)≤i→i < m→m - (q + 1)≤j→j < m→f (p.getD i 0) (p.getD j 0) = false
omit O in
theorem zjr {p : Array Nat} {m q : Nat} (hm : m≤p.size) (hq : q + 1≤m) (h : Down f p m) (hA : zmO f p m q) : Down f (kas_rev p (m - (q + 1)) m) m:=fun i j hij hj=>by
 rw [zde hm,zde hm]
 by_cases ci : m - (q + 1)≤i∧i < m
 ·rw [if_pos ci,if_pos (by omega)]
  exact hA _ _ (by omega) (by omega) (by omega) (by omega)
 ·rw [if_neg ci]
  split
  ·exact h _ _ (by omega) (by omega)
  ·exact h _ _ (by omega) (by omega)
theorem zfZ {p : Array Nat} {m : Nat} (h1 : 1≤m) (h : Down f p m) (e : f (p.getD (m - 1) 0) (p.getD m 0) = false) : Down f p (m + 1):=fun i j hij hj=>by
 by_cases c : j < m
 ·exact h i j hij c
 ·have : j = m:=by omega
  subst this
  by_cases ci : i = j - 1
  ·rw [ci]
   exact e
  ·exact not_lt O (h i (j - 1) (by omega) (by omega)) e
theorem zfC : ∀ (fu : Nat) {p : Array Nat} (m q : Nat),q + 1≤m→m + fu≤p.size→Down f p m→zmO f p m q→
  m≤(run f (kas_desc fu p m q)).2.1∧(run f (kas_desc fu p m q)).2.1≤m + fu∧(run f (kas_desc fu p m q)).2.2 + 1≤(run f (kas_desc fu p m q)).2.1∧(run f (kas_desc fu p m q)).1.size = p.size∧Down f (run f (kas_desc fu p m q)).1 (run f (kas_desc fu p m q)).2.1∧zmO f (run f (kas_desc fu p m q)).1 (run f (kas_desc fu p m q)).2.1 (run f (kas_desc fu p m q)).2.2
 | 0,p,m,q,hq,hz,h,hA=>⟨yaa _,yaa _,hq,rfl,h,hA⟩
 | fu + 1,p,m,q,hq,hz,h,hA=>by
  have one : ∀ {p' : Array Nat},zmO f p' (m + 1) 0:=fun {p'} i j a b c d=>by
   have : i = j:=by omega
   subst this
   exact O.irr _
  cases e : f (p.getD m 0) (p.getD (m - 1) 0) with
  | true=>
   have st : run f (kas_desc (fu + 1) p m q) = run f (if q > 0 then kas_desc fu (kas_rev p (m - (q + 1)) m) (m + 1) 0 else kas_desc fu p (m + 1) 0):=by
    show run f (if f (p.getD m 0) (p.getD (m - 1) 0) = true then _ else _) = _
    rw [e,if_pos rfl]
   rw [st]
   by_cases cq : q > 0
   ·rw [if_pos cq]
    have hD:=zjr (by omega) hq h hA
    have hl : f ((kas_rev p (m - (q + 1)) m).getD (m - 1) 0) ((kas_rev p (m - (q + 1)) m).getD m 0) = false:=by
     rw [zde (by omega),zde (by omega),if_pos (by omega),if_neg (by omega)]
     exact not_lt O (hA _ (m - 1) (by omega) (by omega) (by omega) (by omega)) (asym O e)
    obtain ⟨b1,b2,b3,b4,b5,b6⟩:=zfC fu (p:=kas_rev p (m - (q + 1)) m) (m + 1) 0 (by omega) (by rw [zft]; omega) (zfZ O (by omega) hD hl) one
    exact ⟨by omega,by omega,b3,by rw [b4,zft],b5,b6⟩
   ·rw [if_neg cq]
    obtain ⟨b1,b2,b3,b4,b5,b6⟩:=zfC fu (p:=p) (m + 1) 0 (by omega) (by omega) (zfZ O (by omega) h (asym O e)) one
    exact ⟨by omega,by omega,b3,b4,b5,b6⟩
  | false=>
   have st : run f (kas_desc (fu + 1) p m q) = if f (p.getD (m - 1) 0) (p.getD m 0) = true then (p,m,q) else run f (kas_desc fu p (m + 1) (q + 1)):=by
    show run f (if f (p.getD m 0) (p.getD (m - 1) 0) = true then _ else _) = _
    rw [e,if_neg (by decide)]
    show run f (if f (p.getD (m - 1) 0) (p.getD m 0) = true then _ else _) = _
    split <;> rfl
   rw [st]
   cases e2 : f (p.getD (m - 1) 0) (p.getD m 0) with
   | true=>
    rw [if_pos rfl]
    exact ⟨yaa _,by show m≤_; omega,hq,rfl,h,hA⟩
   | false=>
    rw [if_neg (by decide)]
    have hA2 : zmO f p (m + 1) (q + 1):=fun i j a b c d=>by
     by_cases ci : i = m
     ·by_cases cj : j = m
      ·rw [ci,cj]
       exact O.irr _
      ·rw [ci]
       exact not_lt O e (hA (m - 1) j (by omega) (by omega) (by omega) (by omega))
     ·by_cases cj : j = m
      ·rw [cj]
       exact not_lt O (hA i (m - 1) (by omega) (by omega) (by omega) (by omega)) e2
      ·exact hA i j (by omega) (by omega) (by omega) (by omega)
    obtain ⟨b1,b2,b3,b4,b5,b6⟩:=zfC fu (p:=p) (m + 1) (q + 1) (by omega) (by omega) (zfZ O (by omega) h e2) hA2
    exact ⟨by omega,by omega,b3,b4,b5,b6⟩
theorem zi9 {p : Array Nat} {m r : Nat} (h1 : 1≤m) (hm : m≤r) (hr : r≤p.size) (h : Down f p m) : m≤(run f (kas_tail3 m r p)).1∧(run f (kas_tail3 m r p)).1≤r∧Up f (run f (kas_tail3 m r p)).2 (run f (kas_tail3 m r p)).1:=by
 have e : run f (kas_tail3 m r p) = (run f (kas_asc (kas_rev p 0 m) (r - m) m),kas_rev p 0 m):=zdq f _ _
 rw [e]
 obtain ⟨a1,a2,a3,_⟩:=ziZ O (p:=kas_rev p 0 m) (r - m) m h1 (zpF (by omega) h)
 exact ⟨a2,by show run f _≤r; omega,a1⟩
theorem zfd {p : Array Nat} {m r : Nat} (h1 : 1≤m) (hm : m + 1≤r) (hr : r≤p.size) (h : Down f p (m + 1)) : 1≤(run f (kas_descPart m r p)).1∧(run f (kas_descPart m r p)).1≤r∧Up f (run f (kas_descPart m r p)).2 (run f (kas_descPart m r p)).1:=by
 have e : run f (kas_descPart m r p) = run f (if (run f (kas_desc (r - (m + 1)) p (m + 1) 0)).2.2 > 0 then kas_tail3 (run f (kas_desc (r - (m + 1)) p (m + 1) 0)).2.1 r (kas_rev (run f (kas_desc (r - (m + 1)) p (m + 1) 0)).1 ((run f (kas_desc (r - (m + 1)) p (m + 1) 0)).2.1 - ((run f (kas_desc (r - (m + 1)) p (m + 1) 0)).2.2 + 1)) (run f (kas_desc (r - (m + 1)) p (m + 1) 0)).2.1) else kas_tail3 (run f (kas_desc (r - (m + 1)) p (m + 1) 0)).2.1 r (run f (kas_desc (r - (m + 1)) p (m + 1) 0)).1):=zdq f _ _
 rw [e]
 obtain ⟨b1,b2,b3,b4,b5,b6⟩:=zfC O (r - (m + 1)) (p:=p) (m + 1) 0 (by omega) (by omega) h (fun i j a b c d=>by
  have : i = j:=by omega
  subst this
  exact O.irr _)
 generalize run f (kas_desc (r - (m + 1)) p (m + 1) 0) = t at b1 b2 b3 b4 b5 b6
 split
 ·obtain ⟨c1,c2,c3⟩:=zi9 O (p:=kas_rev t.1 (t.2.1 - (t.2.2 + 1)) t.2.1) (m:=t.2.1) (r:=r) (by omega) (by omega) (by rw [zft,b4]; exact hr) (zjr (by rw [b4]; omega) b3 b5 b6)
  exact ⟨by omega,c2,c3⟩
 ·obtain ⟨c1,c2,c3⟩:=zi9 O (p:=t.1) (m:=t.2.1) (r:=r) (by omega) (by omega) (by rw [b4]; exact hr) b5
  exact ⟨by omega,c2,c3⟩
theorem zmw {p : Array Nat} {r : Nat} (h1 : 1≤r) (hr : r≤p.size) : 1≤(run f (kas_count r p)).1∧(run f (kas_count r p)).1≤r∧Up f (run f (kas_count r p)).2 (run f (kas_count r p)).1:=by
 obtain ⟨a1,a2,a3,a4⟩:=ziZ O (p:=p) (r - 1) 1 (yaa _) (fun i j hij hj=>absurd hj (by omega))
 have e : run f (kas_count r p) = run f (if (run f (kas_asc p (r - 1) 1) == r) = true then .ret (run f (kas_asc p (r - 1) 1),p) else if run f (kas_asc p (r - 1) 1) > 1 then .ask (p.getD 0 0) (p.getD (run f (kas_asc p (r - 1) 1) - 1) 0) fun c=>if c = true then .ret (run f (kas_asc p (r - 1) 1),p) else kas_descPart (run f (kas_asc p (r - 1) 1)) r (kas_rev p 0 (run f (kas_asc p (r - 1) 1))) else kas_descPart (run f (kas_asc p (r - 1) 1)) r p):=zdq f _ _
 rw [e]
 generalize run f (kas_asc p (r - 1) 1) = m at a1 a2 a3 a4
 by_cases c : m = r
 ·subst c
  rw [if_pos (by simp)]
  exact ⟨a2,yaa _,a1⟩
 ·rw [if_neg (by simpa using c)]
  have hlt:=a4 (by omega)
  by_cases c1 : m > 1
  ·rw [if_pos c1]
   cases e2 : f (p.getD 0 0) (p.getD (m - 1) 0) with
   | true=>
    have st : run f (.ask (p.getD 0 0) (p.getD (m - 1) 0) fun c=>if c = true then .ret (m,p) else kas_descPart m r (kas_rev p 0 m)) = (m,p):=by
     show run f (if f (p.getD 0 0) (p.getD (m - 1) 0) = true then _ else _) = _
     rw [e2,if_pos rfl]
     rfl
    rw [st]
    exact ⟨a2,by show m≤r; omega,a1⟩
   | false=>
    have st : run f (.ask (p.getD 0 0) (p.getD (m - 1) 0) fun c=>if c = true then .ret (m,p) else kas_descPart m r (kas_rev p 0 m)) = run f (kas_descPart m r (kas_rev p 0 m)):=by
     show run f (if f (p.getD 0 0) (p.getD (m - 1) 0) = true then _ else _) = _
     rw [e2,if_neg (by decide)]
    rw [st]
    have low : ∀ i,i < m→f (p.getD i 0) (p.getD 0 0) = false:=fun i hi=>by
     by_cases ci : i = 0
     ·rw [ci]
      exact O.irr _
     ·exact a1 0 i (by omega) hi
    have high : ∀ j,j < m→f (p.getD (m - 1) 0) (p.getD j 0) = false:=fun j hj=>by
     by_cases cj : j = m - 1
     ·rw [cj]
      exact O.irr _
     ·exact a1 j (m - 1) (by omega) (by omega)
    have all : ∀ i j,i < m→j < m→f (p.getD i 0) (p.getD j 0) = false:=fun i j hi hj=>not_lt O (low i hi) (not_lt O e2 (high j hj))
    refine zfd O a2 (by omega) (by rw [zft]; exact hr) fun i j hij hj=>?_
    rw [zde (by omega),zde (by omega),if_pos (by omega)]
    by_cases cj : j < m
    ·rw [if_pos (by omega)]
     exact all _ _ (by omega) (by omega)
    ·rw [if_neg (by omega),show j = m by omega]
     exact not_lt O (all _ (m - 1) (by omega) (by omega)) (asym O hlt)
  ·rw [if_neg c1]
   have hm1 : m = 1:=by omega
   subst hm1
   refine zfd O (yaa _) (by omega) hr fun i j hij hj=>?_
   rw [show i = 0 by omega,show j = 1 by omega]
   exact asym O hlt
theorem sort_run {n : Nat} (hn : 0 < n) : Up f (run f (kas_sort n)) n∧Good n (run f (kas_sort n)):=by
 refine ⟨?_,(sort_res hn).run f⟩
 obtain ⟨a1,a2,a3⟩:=zmw O (p:=(List.range n).toArray) (r:=n) hn (by simp)
 have g:=(zh8 hn (p:=(List.range n).toArray) (Array.Perm.refl _) n).run f
 have e : run f (kas_sort n) = run f (if (run f (kas_count n (List.range n).toArray)).1 < n then kas_bin (n - max (run f (kas_count n (List.range n).toArray)).1 1) (run f (kas_count n (List.range n).toArray)).2 (max (run f (kas_count n (List.range n).toArray)).1 1) else .ret (run f (kas_count n (List.range n).toArray)).2):=zdq f _ _
 rw [e]
 generalize run f (kas_count n (List.range n).toArray) = t at a1 a2 a3 g
 have hs:=Good.size g
 rw [Nat.max_eq_left a1]
 split
 ·have:=zmE O (n - t.1) (p:=t.2) t.1 (by omega) a3
  rw [show t.1 + (n - t.1) = n by omega] at this
  exact this
 ·show Up f t.2 n
  rw [show n = t.1 by omega]
  exact a3
end
end Kas
namespace Tim
open PySem PySem.W PyProof.Rows
set_option autoImplicit false
section
variable {prog : Program} {w : World} {A : Around} {E : Value→Shared→Prop} {s : Shared} {κ : KeyKind} {kd : SortKind}
theorem zkK {vs : List Value} (keys : ∀ v∈vs,∃ k,κ.keyOf v = some k) (hO : LtG prog w A s κ kd) (h2 : 2≤vs.length) (h64 : vs.length < 64) :
  wpAny (model prog w) A (sortRuns'.run (SortSt.mk' kd (vs.toArray.zip vs.toArray) #[] 7 none)) (fun r s'=>s' = s∧(arrOf r.2).Perm (pairsOf vs)∧failedOf r.2 = none∧Up κ (arrOf r.2) 0 (pairsOf vs).size) E s:=by
 obtain ⟨f,hf⟩ : ∃ f : Nat→Nat→Bool,f = fun i j=>κ.blt (keyV κ (vs.getD i .none)) (keyV κ (vs.getD j .none)):=⟨_,rfl⟩
 have O : Kas.Ord f:=by
  subst hf
  exact ⟨fun a=>κ.irrefl _,fun a b c=>κ.trans _ _ _,fun a b c=>κ.negTrans _ _ _⟩
 have hn : 0 < vs.length:=by omega
 have hk : ∀ i,i < vs.length→κ.keyOf (vs.getD i .none) = some (keyV κ (vs.getD i .none)):=fun i hi=>by
  have e : vs.getD i .none = vs[i]:=by rw [yad,yac hi]; rfl
  obtain ⟨k,hk⟩:=keys _ (yaB hi)
  rw [e]
  unfold keyV
  rw [hk]
  rfl
 refine kat_run (ks:=vs) rfl h2 h64 (Q:=fun st' s'=>s' = s∧(arrOf st').Perm (pairsOf vs)∧failedOf st' = none∧Up κ (arrOf st') 0 (pairsOf vs).size) (G:=fun p s'=>s' = s∧Kas.Up f p vs.length∧Kas.Good vs.length p) (fun p st' s' hp har hfl hG=>⟨hG.1,?_,hfl,?_⟩) (Kas.wp_of (n:=vs.length) (f:=f) (fun i j C hi hj hC=>?_) (Kas.sort_res hn) ⟨rfl,Kas.sort_run O hn⟩)
 ·rw [har]
  have hm : (p.map (kas_item (vs.toArray.zip vs.toArray))).Perm ((List.range vs.length).toArray.map (kas_item (vs.toArray.zip vs.toArray))):=by
   have h1:=(ycs.mp hG.2.2).map (kas_item (vs.toArray.zip vs.toArray))
   refine ycs.mpr ?_
   rw [Array.toList_map,Array.toList_map]
   exact h1
  have hr:=kas_range (vs.toArray.zip vs.toArray)
  rw [show (vs.toArray.zip vs.toArray).size = vs.length by simp] at hr
  rw [hr] at hm
  exact hm
 ·intro i j _ hij hj
  rw [pairsOf_size] at hj
  have hat : ∀ x,x < vs.length→kAt κ (arrOf st') x = keyV κ (vs.getD (p.getD x 0) .none):=fun x hx=>by
   have hxp : x < p.size:=by omega
   rw [ziH (by rw [har,Array.size_map]; exact hxp)]
   have e : (arrOf st')[x]'(by rw [har,Array.size_map]; exact hxp) = (vs.getD (p.getD x 0) .none,vs.getD (p.getD x 0) .none):=by
    have e1 : (arrOf st')[x]? = some (kas_item (vs.toArray.zip vs.toArray) (p.getD x 0)):=by
     rw [har,Array.getElem?_map,ybt hxp]
     show some (kas_item _ p[x]) = _
     have : p.getD x 0 = p[x]:=by simp [Array.getD,hxp]
     rw [this]
    rw [kat_item rfl] at e1
    exact (Array.getElem?_eq_some_iff.mp e1).2
   rw [e]
   rfl
  rw [hat i (by omega),hat j hj]
  by_cases c : i = j
  ·subst c
   exact KeyOrd.kle_refl _
  ·have:=hG.2.1 i j (by omega) hj
   subst hf
   exact this
 ·unfold kas_ask
  subst hf
  exact hO _ _ _ _ _ _ (hk i hi) (hk j hj) hC
theorem zjn {a : Addr} {vs : List Value} {n : Nat} {P : Fin→Shared→Prop} (ho : s.heap.get? a = some (seqObj "list" vs.toArray n)) (hz : vs.length≤sizeLine) (h64 : vs.length < 64) (keys : ∀ v∈vs,∃ k,κ.keyOf v = some k)
  (hlt : ∀ h',zd3 a s.heap h'→LtG prog w A { s with heap:=h' } κ kd)
  (hkd : ∀ (h' : Heap) (E : Value→Shared→Prop) (Q : SortKind→Shared→Prop),zd3 a s.heap h'→2≤vs.length→Q kd { s with heap:=h' }→wpAny (model prog w) A (keyKind' vs.toArray) Q E { s with heap:=h' })
  (h : ∀ out : List Value,out.Perm vs→out.Pairwise (fun x y=>κ.kle (keyV κ x) (keyV κ y))→P (.done (.ret .none)) { s with heap:=sortedHeap s.heap a vs out.toArray }) :
  wpAny (model prog w) A (Builtin.«list.sort» ⟨[.ref a],[]⟩) P E s:=by
 rw [list_sort_plain]
 have hlt0 : a < s.heap.objs.size:=yae ho
 refine wpAny_bind (listItems_at ho rfl ?_)
 refine wpAny_bind (listUpdate_at ho rfl ?_ (by simpa using hz) (yaA _))
 obtain ⟨m,ho1⟩ : ∃ m,(s.heap.update a (Obj.mapSeq fun _=>#[])).get? a = some (seqObj "list" #[] m):=⟨_,get?_update_seq ho (fun _=>#[])⟩
 refine wpAny_bind (seqEpoch_at ho1 rfl ?_)
 refine wpAny_bind (wpAny_newTuple ?_ (by simpa using hz))
 refine wpAny_bind (wpAny_newList ?_)
 refine wpAny_holding ?_
 have z1 : (s.heap.update a (Obj.mapSeq fun _=>#[])).objs.size = s.heap.objs.size:=by rw [Heap.size_update]
 have hk : zd3 a s.heap (((s.heap.update a (Obj.mapSeq fun _=>#[])).push (seqObj "tuple" vs.toArray 0)).push (seqObj "list" #[] 0)):=fun b o hb e=>
  yag _ (yag _ ((ya7 _ _ (Ne.symm hb)).trans e))
 have ho6 : (((s.heap.update a (Obj.mapSeq fun _=>#[])).push (seqObj "tuple" vs.toArray 0)).push (seqObj "list" #[] 0)).get? a = some (seqObj "list" #[] m):=yag _ (yag _ ho1)
 show wpAny (model prog w) A _ P E { s with heap:=((s.heap.update a (Obj.mapSeq fun _=>#[])).push (seqObj "tuple" vs.toArray 0)).push (seqObj "list" #[] 0) }
 dsimp only
 have fin : ∀ st' : SortSt,(arrOf st').Perm (pairsOf vs)→failedOf st' = none→Up κ (arrOf st') 0 (pairsOf vs).size→wpAny (model prog w) A (do
   let touched:=(← seqEpoch a) != m
   Builtin.List.listUpdate (.ref a) fun _=>(arrOf st').map (·.2)
   if let some e:=failedOf st' then rule "list.sort.comparison-raised"; throw e
   if touched then rule "list.sort.modified"; raiseError "ValueError" "list modified during sort"
   ret .none) P E { s with heap:=((s.heap.update a (Obj.mapSeq fun _=>#[])).push (seqObj "tuple" vs.toArray 0)).push (seqObj "list" #[] 0) }:=fun st' hp hf hU=>by
  refine wpAny_bind (seqEpoch_at ho6 rfl ?_)
  refine wpAny_bind (listUpdate_at ho6 rfl ?_ (yaA _) (by
   refine yao (Nat.le_of_eq ((Array.size_map ..).trans (hp.size_eq.trans (pairsOf_size _)))) ?_
   omega))
  rw [hf]
  simp only [bne_self_eq_false,yb9,if_false]
  obtain ⟨o1,o2⟩:=zpT hp hU
  have:=h _ o1 o2
  have e : ((arrOf st').toList.map (·.2)).toArray = (arrOf st').map (·.2):=by rw [← Array.toList_map,Array.toArray_toList]
  rw [e] at this
  exact wpAny_pure this
 by_cases h2 : vs.toArray.size < 2
 ·rw [if_pos h2,if_pos h2]
  refine wpAny_bind (wpAny_pure ?_)
  rw [StateT.run_pure]
  refine wpAny_bind (wpAny_pure ?_)
  refine fin (SortSt.mk' general' (vs.toArray.zip vs.toArray) #[] 7 none) (Array.Perm.refl _) rfl ?_
  intro i j q1 q2 q3
  have : i = j:=by
   rw [pairsOf_size] at q3
   simp at h2
   omega
  subst this
  exact KeyOrd.kle_refl _
 ·rw [if_neg h2,if_neg h2]
  have h2' : 2≤vs.length:=by
   simp at h2
   omega
  refine wpAny_bind (hkd _ _ _ hk h2' ?_)
  refine wpAny_bind (wpAny_mono (zkK keys (hlt _ hk) h2' h64) ?_ fun _ _ e=>e)
  rintro ⟨⟨⟩,st'⟩ s' ⟨rfl,hp,hf,hs⟩
  exact fin st' hp hf hs
theorem zkb {l : Addr} {vs : List Value} {Q : Value→Shared→Prop} (hl : s.heap.IsList l vs.toArray) (hz : vs.length≤sizeLine) (h64 : vs.length < 64) (keys : ∀ v∈vs,∃ k,κ.keyOf v = some k)
  (hlt : ∀ h',(∀ b o,s.heap.get? b = some o→h'.get? b = some o)→LtG prog w A.in1.in1 { s with heap:=h' } κ kd)
  (hkd : ∀ (h' : Heap) (E : Value→Shared→Prop) (Q : SortKind→Shared→Prop),(∀ b o,s.heap.get? b = some o→h'.get? b = some o)→2≤vs.length→Q kd { s with heap:=h' }→wpAny (model prog w) A.in1.in1 (keyKind' vs.toArray) Q E { s with heap:=h' })
  (h : ∀ (out : List Value) (h' : Heap) (c : Nat),out.Perm vs→out.Pairwise (fun x y=>κ.kle (keyV κ x) (keyV κ y))→(∀ b o,s.heap.get? b = some o→h'.get? b = some o)→
   h'.get? (s.heap.objs.size + 1) = some (seqObj "list" out.toArray c)→Q (.ref (s.heap.objs.size + 1)) { s with heap:=h' }) :
  wpAny (model prog w) A (call (.builtin "sorted") [.ref l]) Q E s:=by
 refine Calls.call_function_entry kind_sorted plain_sorted entry_sorted (args_sorted1 _) ?_
 unfold Builtin.«sorted»
 refine wpAny_bind (m:=checkCount "sorted" 1 1 _) (wpAny_pure ?_)
 refine wpAny_bind (collect_list hl ?_ hz)
 refine wpAny_bind (wpAny_newList ?_ (by simpa using hz))
 have z1 : ((s.heap.push (seqObj "list" #[] 0)).update s.heap.objs.size (Obj.mapSeq (· ++ vs.toArray))).objs.size = s.heap.objs.size + 1:=by
  rw [Heap.size_update,size_push']
 have hn : (((s.heap.push (seqObj "list" #[] 0)).update s.heap.objs.size (Obj.mapSeq (· ++ vs.toArray))).push (seqObj "list" vs.toArray 0)).get? (s.heap.objs.size + 1) = some (seqObj "list" vs.toArray 0):=by
  rw [← z1]
  exact yau _ rfl
 have hk : ∀ b o,s.heap.get? b = some o→(((s.heap.push (seqObj "list" #[] 0)).update s.heap.objs.size (Obj.mapSeq (· ++ vs.toArray))).push (seqObj "list" vs.toArray 0)).get? b = some o:=fun b o e=>
  yag _ ((ya7 _ _ (ybe (yae e))).trans (yag _ e))
 show wpAny _ _ _ _ _ { s with heap:=((s.heap.push (seqObj "list" #[] 0)).update s.heap.objs.size (Obj.mapSeq (· ++ vs.toArray))).push (seqObj "list" vs.toArray 0) }
 rw [z1]
 generalize ((s.heap.push (seqObj "list" #[] 0)).update s.heap.objs.size (Obj.mapSeq (· ++ vs.toArray))).push (seqObj "list" vs.toArray 0) = h1 at hn hk ⊢
 have up : ∀ h',zd3 (s.heap.objs.size + 1) h1 h'→∀ b o,s.heap.get? b = some o→h'.get? b = some o:=fun h' kb b o e=>kb b o (fun z=>by
  have:=yae e
  rw [z] at this
  exact absurd this (ybd.mpr (yaN _))) (hk b o e)
 refine wpAny_bind (wpAny_holding (wpAny_call_entry slot_list_sort ⟨_,hn,rfl⟩ entry_list_sort (zjn (s:={ s with heap:=h1 }) hn hz h64 keys (fun h' kb=>hlt h' (up h' kb)) (fun h' E Q kb h2 q=>hkd h' E Q (up h' kb) h2 q) fun out p1 p2=>⟨_,rfl,?_⟩) (args_list_sort _)))
 obtain ⟨kb,c,hc⟩:=zfU (out:=out) hn
 exact wpAny_pure ⟨_,rfl,h out _ c p1 p2 (up _ kb) hc⟩
end
end Tim
namespace L2
open PySem PySem.Spec PyProof.Rows
def zm2 (α : Type) [Rep α] [Srt α] (K : Frag) : List V→Hp→VK→Prop:=fun xs H Q=>∃ (p : Addr) (vs : List V) (as : List α),xs = [.ref p]∧SqL K H p vs∧zal K H as vs∧as.length < 64∧
 ∀ l ws,H l = none→zal K H (zbS as) ws→Q (.ref l) (upd H l (.lst ws))
section
variable {X : Cx}
theorem zcv (α : Type) [Rep α] [Srt α] : zeL X (.builtin "sorted") (zm2 α X.K):=by
 intro pins s σ H xs us Q I r h
 obtain ⟨p,vs,as,rfl,hq,ha,h64,q⟩:=h
 obtain ⟨u,rfl,rx⟩:=zgf r
 cases rx
 obtain ⟨its,rv,pl,hz⟩:=I.list hq
 have hlen:=rv.length
 obtain ⟨km,kk⟩:=ziE I ha rv
 refine Tim.zkb (κ:=srtKind α X.K H) (kd:=Srt.kd α) pl.isList (by omega) (by have:=ha.length; omega) (fun v hv=>?_) (fun h' k E x y a b Q hx hy q=>?_) (fun h' E Q k h2 q=>Srt.kind (Inv.kept (t':=s.toks) I k) ha rv h2 q) fun out h' c p1 p2 k hc=>?_
 ·obtain ⟨a,_,_,_,e⟩:=kk v hv
  exact ⟨a,e⟩
 ·obtain ⟨x1,r1,e1⟩:=zdF hx
  obtain ⟨y1,r2,e2⟩:=zdF hy
  exact Srt.lt (Inv.kept (t':=s.toks) I k) e1 e2 r1 r2 q
 ·obtain ⟨ws,bs,w1,w2,w3⟩:=zfQ (α:=α) (K:=X.K) (H:=H) (out:=out) fun v hv=>kk v (p1.mem_iff.mp hv)
  have eb : bs = zbS as:=by
   refine zjp ?_ ?_
   ·rw [w3,← km]
    exact p1.map _
   ·rw [w3]
    exact ybv.mpr p2
  rw [eb] at w2
  have hw : ws.length≤sizeLine:=by
   have:=w1.length
   have:=p1.length_eq
   omega
  exact ⟨.ref (s.heap.objs.size + 1),_,I.laid (a:=s.heap.objs.size + 1) (o:=.lst ws) (t':=s.toks) k (yaN _) ⟨hw,out,c,w1,hc⟩,rfl,q _ ws (I.hok.fresh (yaN _)) w2⟩
end
end L2
namespace L2
open PySem PySem.Spec PyProof.Rows
def zm1 (w : World) (K : Frag) : List V→Hp→VK→Prop:=fun xs H Q=>∃ (p : Addr) (o : Obj) (u : HO) (τ : List Int),xs = [.ref p]∧H p = some (.frz o u)∧WSet w o τ∧τ.length < 64∧
 ∀ l,H l = none→Q (.ref l) (upd H l (.lst ((zbS τ).map V.int)))
section
variable {X : Cx}
theorem zib (hc : X.calm = true) : zeL X (.builtin "sorted") (zm1 X.w X.K):=by
 intro pins s σ H xs us Q I r h
 obtain ⟨p,o,u,τ,rfl,hH,hW,h64,q⟩:=h
 obtain ⟨v,rfl,rx⟩:=zgf r
 cases rx
 have ho : s.heap.get? p = some o:=(show zbI X.prog X.w H s.heap p (.frz o u) from I.hok p _ hH).1
 obtain ⟨hb,hx,es,ep,t,hd,b⟩:=hW
 have hsz:=b.size
 have hsl : es.size≤sizeLine:=fits_of_scanBound (by omega)
 refine Calls.call_function_entry kind_sorted plain_sorted entry_sorted (args_sorted1 _) ?_
 unfold Builtin.«sorted»
 refine wpAny_bind (m:=checkCount "sorted" 1 1 _) (wpAny_pure ?_)
 refine wpAny_bind (SetW.collect_set (I.ok.hd hc) ⟨o,ho,hx,hd⟩ b.fits b.good b.led hsl fun vs h1 tk dr hp k=>?_)
 have I1 : Inv X pins σ H { s with heap:=h1,toks:=tk,drawn:=dr }:=Inv.drawn (Inv.kept (t':=tk) I k)
 obtain ⟨zs,rv,ez⟩:=zma vs fun v hv=>by
  obtain ⟨e,he,rfl⟩:=yaF.mp (hp.mem_iff.mp hv)
  obtain ⟨k,tk,rfl⟩:=b.are e he
  exact ⟨k,tk,rfl⟩
 have hzp : zs.Perm τ:=by
  rw [← ez]
  refine ((hp.map fun v=>SetW.ent (0,v))).trans ?_
  rw [ybu]
  exact b.perm
 have ha : zal X.K H zs (zs.map V.int):=zal.ints
 have hvl : vs.length≤sizeLine:=by
  rw [hp.length_eq,yab,ya3]
  exact hsl
 obtain ⟨km,kk⟩:=ziE I1 ha rv
 refine wpAny_bind (wpAny_newList ?_ (by simpa using hvl))
 have hn : (h1.push (seqObj "list" vs.toArray 0)).get? h1.objs.size = some (seqObj "list" vs.toArray 0):=yau _ rfl
 have k2 : ∀ b o,h1.get? b = some o→(h1.push (seqObj "list" vs.toArray 0)).get? b = some o:=fun b o e=>yag _ e
 show wpAny _ _ _ _ _ { s with heap:=h1.push (seqObj "list" vs.toArray 0),toks:=tk,drawn:=dr }
 generalize h1.push (seqObj "list" vs.toArray 0) = h2 at hn k2 ⊢
 have up : ∀ h',Tim.zd3 h1.objs.size h2 h'→∀ b o,h1.get? b = some o→h'.get? b = some o:=fun h' kb b o e=>kb b o (yak (yae e)) (k2 b o e)
 have I2 : ∀ h',Tim.zd3 h1.objs.size h2 h'→Inv X pins σ H { s with heap:=h',toks:=tk,drawn:=dr }:=fun h' kb=>Inv.kept (t':=tk) I1 (up h' kb)
 refine wpAny_bind (wpAny_holding (wpAny_call_entry slot_list_sort ⟨_,hn,rfl⟩ entry_list_sort (Tim.zjn (κ:=srtKind Int X.K H) (kd:=Srt.kd Int) (s:={ s with heap:=h2,toks:=tk,drawn:=dr }) hn hvl (by rw [hp.length_eq,yab,ya3,hsz]; exact h64) (fun v hv=>?_) (fun h' kb E x y a b Q hx hy q=>?_) (fun h' E Q kb h2 q=>Srt.kind (I2 h' kb) ha rv h2 q) fun out p1 p2=>⟨_,rfl,?_⟩) (args_list_sort _)))
 ·obtain ⟨a,_,_,_,e⟩:=kk v hv
  exact ⟨a,e⟩
 ·obtain ⟨x1,r1,e1⟩:=zdF hx
  obtain ⟨y1,r2,e2⟩:=zdF hy
  exact Srt.lt (I2 h' kb) e1 e2 r1 r2 q
 ·obtain ⟨kb,c,hc'⟩:=Tim.zfU (out:=out) hn
  obtain ⟨ws,bs,w1,w2,w3⟩:=zfQ (α:=Int) (K:=X.K) (H:=H) (out:=out) fun v hv=>kk v (p1.mem_iff.mp hv)
  have eb : bs = zbS τ:=by
   have pz : bs.Perm zs:=by
    rw [w3,← km]
    exact p1.map _
   refine zjp (pz.trans hzp) ?_
   ·rw [w3]
    exact ybv.mpr p2
  rw [eb] at w2
  have ew:=zal.toInts w2
  have hw : ws.length≤sizeLine:=by
   have:=w1.length
   have:=p1.length_eq
   omega
  refine wpAny_pure ⟨_,rfl,.ref h1.objs.size,_,I1.laid (a:=h1.objs.size) (o:=.lst ws) (t':=tk) (up _ kb) (yaa _) ⟨hw,out,c,w1,hc'⟩,rfl,?_⟩
  rw [ew]
  exact q _ (I1.hok.fresh (yaa _))
end
end L2
namespace L2
open PySem PySem.Spec PyProof.Rows
section
variable {X : Cx}
theorem zpX (hu : X.A.units + 1 < cLine) : OpR X (compareOp .In) (fun x y H Q=>∃ a o,y = .ref a∧DGet H a x o∧Q (.bl o.isSome) H):=by
 intro pins s σ H x y v u Q I rx ry h
 obtain ⟨a,o,rfl,g,q⟩:=h
 cases ry
 exact d_in hu I g rx fun s' I'=>⟨.bl _,H,I',rfl,q⟩
end
end L2
set_option maxHeartbeats 4000000
namespace My
open PySem PySem.Spec PyProof.Rows L2
local macro_rules | `(tactic| walk_at "side")=>`(tactic| first | omega | (dsimp only; omega) | (simp only [CDiv,zqY,CPow,CMul]; omega) | decide)
local macro_rules | `(tactic| walk_at "rd")=>`(tactic| repeat (first | (refine ⟨_,rfl,?_⟩) | (refine ⟨_,_,rfl,rfl,?_⟩) | (refine ⟨rfl,?_⟩) | (refine ⟨(by walk_at "side"),?_⟩)))
def top (i : Nat) : Stmt:=PySem.Challenge.pw_bridgefind_k30_searches_for_each_key.main.body.getD i (.Pass ⟨0,0,0,0⟩)
abbrev zjq : Stmt:=top 2
abbrev zbo : Stmt:=top 3
abbrev zcI : Stmt:=top 4
abbrev zbv : Stmt:=top 7
abbrev zfl : Stmt:=top 8
abbrev zfn : Stmt:=top 9
abbrev zck : Stmt:=top 11
abbrev zcl : Stmt:=top 12
abbrev zei : Stmt:=top 13
abbrev zgS : Stmt:=top 14
abbrev zfs : Stmt:=top 15
abbrev zdp : Stmt:=top 17
abbrev zek : Stmt:=top 18
abbrev zbT : Stmt:=top 20
abbrev za5 : Stmt:=top 21
abbrev zcJ : Stmt:=top 22
abbrev zeb : Stmt:=top 24
abbrev zcF : Stmt:=top 25
abbrev zcm : Stmt:=top 26
abbrev zej : Stmt:=top 27
abbrev zbh : Stmt:=top 30
abbrev zdm : Stmt:=top 31
abbrev zcj : Stmt:=top 32
abbrev zfm : Stmt:=top 33
abbrev zbn : Stmt:=top 34
abbrev zeg : Stmt:=top 36
abbrev zed : Stmt:=top 37
abbrev zfp : Stmt:=top 38
abbrev zgU : Stmt:=top 39
abbrev zfo : Stmt:=top 40
abbrev zgT : Stmt:=top 41
abbrev zfq : Stmt:=top 42
abbrev zfr : Stmt:=top 43
abbrev zdn : Stmt:=top 44
abbrev zcH : Stmt:=top 45
abbrev zee : Stmt:=top 46
abbrev zef : Stmt:=top 47
abbrev zec : Stmt:=top 48
abbrev zeh : Stmt:=top 49
abbrev zcG : Stmt:=top 50
abbrev zdo : Stmt:=top 51
abbrev zb8 : Stmt:=top 52
abbrev zmZ : Stmt:=top 53
theorem sc_code : zat ["entry","key","z"] ["entry"] (zaj zjq):=⟨rfl,rfl,rfl,by decide +kernel,rfl,by decide +kernel,by decide +kernel⟩
theorem sc_how_many_below : zat ["length","is_below","low","high","middle"] ["length","is_below"] (zaj zbo):=⟨rfl,rfl,rfl,by decide +kernel,rfl,by decide +kernel,by decide +kernel⟩
theorem sc_joined_up : zat ["lists","together","entries"] ["lists"] (zaj zcI):=⟨rfl,rfl,rfl,by decide +kernel,rfl,by decide +kernel,by decide +kernel⟩
theorem sc_lowest_unlike : zat ["one","other","unlike"] ["one","other"] (zaj zbv):=⟨rfl,rfl,rfl,by decide +kernel,rfl,by decide +kernel,by decide +kernel⟩
theorem sc_turned : zat ["numbers","told","at","number","figure"] ["numbers"] (zaj zfl):=⟨rfl,rfl,rfl,by decide +kernel,rfl,by decide +kernel,by decide +kernel⟩
theorem sc_labels : zat ["entries","numbers","turn"] ["entries"] (zaj zfn):=⟨rfl,rfl,rfl,by decide +kernel,rfl,by decide +kernel,by decide +kernel⟩
theorem sc_neighbours : zat ["things","at"] ["things","at"] (zaj zck):=⟨rfl,rfl,rfl,by decide +kernel,rfl,by decide +kernel,by decide +kernel⟩
theorem sc_least_free : zat ["taken"] ["taken"] (zaj zcl):=⟨rfl,rfl,rfl,by decide +kernel,rfl,by decide +kernel,by decide +kernel⟩
theorem sc_colours : zat ["numbers","told","label","at"] ["numbers"] (zaj zei):=⟨rfl,rfl,rfl,by decide +kernel,rfl,by decide +kernel,by decide +kernel⟩
theorem sc_marks : zat ["entries","tints","told","colour","at"] ["entries"] (zaj zgS):=⟨rfl,rfl,rfl,by decide +kernel,rfl,by decide +kernel,by decide +kernel⟩
theorem sc_handed : zat ["entries"] ["entries"] (zaj zfs):=⟨rfl,rfl,rfl,by decide +kernel,rfl,by decide +kernel,by decide +kernel⟩
theorem sc_children : zat ["tree","knot"] ["tree","knot"] (zaj zdp):=⟨rfl,rfl,rfl,by decide +kernel,rfl,by decide +kernel,by decide +kernel⟩
theorem sc_beneath : zat ["tree","knot","told","other"] ["tree","knot"] (zaj zek):=⟨rfl,rfl,rfl,by decide +kernel,rfl,by decide +kernel,by decide +kernel⟩
theorem sc_own_entries : zat ["stand","knot"] ["stand","knot"] (zaj zbT):=⟨rfl,rfl,rfl,by decide +kernel,rfl,by decide +kernel,by decide +kernel⟩
theorem sc_full_rows_beneath : zat ["stand","knot","tree","told","at","parts"] ["stand","knot"] (zaj za5):=⟨rfl,rfl,rfl,by decide +kernel,rfl,by decide +kernel,by decide +kernel⟩
theorem sc_full_rows : zat ["stand","told"] ["stand"] (zaj zcJ):=⟨rfl,rfl,rfl,by decide +kernel,rfl,by decide +kernel,by decide +kernel⟩
theorem sc_owns_of : zat ["full","knot","told","entry"] ["full","knot"] (zaj zeb):=⟨rfl,rfl,rfl,by decide +kernel,rfl,by decide +kernel,by decide +kernel⟩
theorem sc_starts_of : zat ["full","child_full","behind","at","entry","told"] ["full","child_full"] (zaj zcF):=⟨rfl,rfl,rfl,by decide +kernel,rfl,by decide +kernel,by decide +kernel⟩
theorem sc_bridges_of : zat ["tree","fulls","told","knot","full","jumps"] ["tree","fulls"] (zaj zcm):=⟨rfl,rfl,rfl,by decide +kernel,rfl,by decide +kernel,by decide +kernel⟩
theorem sc_bridges : zat ["stand"] ["stand"] (zaj zej):=⟨rfl,rfl,rfl,by decide +kernel,rfl,by decide +kernel,by decide +kernel⟩
theorem sc_first_place : zat ["bridges","knot","is_below"] ["bridges","knot","is_below"] (zaj zbh):=⟨rfl,rfl,rfl,by decide +kernel,rfl,by decide +kernel,by decide +kernel⟩
theorem sc_start_in : zat ["bridges","knot","at","child"] ["bridges","knot","at","child"] (zaj zdm):=⟨rfl,rfl,rfl,by decide +kernel,rfl,by decide +kernel,by decide +kernel⟩
theorem sc_next_place : zat ["bridges","knot","start","is_below","beyond","at"] ["bridges","knot","start","is_below"] (zaj zcj):=⟨rfl,rfl,rfl,by decide +kernel,rfl,by decide +kernel,by decide +kernel⟩
theorem sc_search : zat ["bridges","way","is_below","at","told","parent","knot"] ["bridges","way","is_below"] (zaj zfm):=⟨rfl,rfl,rfl,by decide +kernel,rfl,by decide +kernel,by decide +kernel⟩
theorem sc_search_beneath : zat ["bridges","knot","is_below","places","told","each","at","jump"] ["bridges","knot","is_below"] (zaj zbn):=⟨rfl,rfl,rfl,by decide +kernel,rfl,by decide +kernel,by decide +kernel⟩
theorem sc_l_begin : zat ["_law_script"] ["_law_script"] (zaj zeg):=⟨rfl,rfl,rfl,by decide +kernel,rfl,by decide +kernel,by decide +kernel⟩
theorem sc_l_mixed : zat ["_law_cell","_law_k","_law_one","_law_two"] ["_law_cell","_law_k"] (zaj zed):=⟨rfl,rfl,rfl,by decide +kernel,rfl,by decide +kernel,by decide +kernel⟩
theorem sc_l_take : zat ["_law_state","_law_most","_law_k","_law_script","_law_cell","_law_found_here"] ["_law_state","_law_most"] (zaj zfp):=⟨rfl,rfl,rfl,by decide +kernel,rfl,by decide +kernel,by decide +kernel⟩
theorem sc_l_key : zat ["_law_state","_law_way"] ["_law_state"] (zaj zgU):=⟨rfl,rfl,rfl,by decide +kernel,rfl,by decide +kernel,by decide +kernel⟩
theorem sc_l_tree : zat ["_law_state","_law_most","_law_way","_law_parents","_law_k"] ["_law_state","_law_most"] (zaj zfo):=⟨rfl,rfl,rfl,by decide +kernel,rfl,by decide +kernel,by decide +kernel⟩
theorem sc_l_row : zat ["_law_state","_law_most","_law_found_here","_law_k"] ["_law_state","_law_most"] (zaj zgT):=⟨rfl,rfl,rfl,by decide +kernel,rfl,by decide +kernel,by decide +kernel⟩
theorem sc_l_rows : zat ["_law_state","_law_many","_law_most","_law_rows_here","_law_k","_law_row_here"] ["_law_state","_law_many","_law_most"] (zaj zfq):=⟨rfl,rfl,rfl,by decide +kernel,rfl,by decide +kernel,by decide +kernel⟩
theorem sc_l_code : zat ["_law_entry","_law_key_here","_law_knot"] ["_law_entry"] (zaj zfr):=⟨rfl,rfl,rfl,by decide +kernel,rfl,by decide +kernel,by decide +kernel⟩
theorem sc_l_turned : zat ["_law_numbers","_law_found_here","_law_k","_law_one","_law_other","_law_b"] ["_law_numbers"] (zaj zdn):=⟨rfl,rfl,rfl,by decide +kernel,rfl,by decide +kernel,by decide +kernel⟩
theorem sc_l_colours : zat ["_law_numbers","_law_found_here","_law_high","_law_at","_law_k","_law_beside"] ["_law_numbers"] (zaj zcH):=⟨rfl,rfl,rfl,by decide +kernel,rfl,by decide +kernel,by decide +kernel⟩
theorem sc_l_marks : zat ["_law_entries","_law_numbers","_law_k","_law_shades","_law_found_here","_law_shade"] ["_law_entries"] (zaj zee):=⟨rfl,rfl,rfl,by decide +kernel,rfl,by decide +kernel,by decide +kernel⟩
theorem sc_l_fulls : zat ["_law_tree_here","_law_rows_here","_law_found_here","_law_k","_law_up","_law_entry","_law_is_on"] ["_law_tree_here","_law_rows_here"] (zaj zef):=⟨rfl,rfl,rfl,by decide +kernel,rfl,by decide +kernel,by decide +kernel⟩
theorem sc_l_stand : zat ["_law_state","_law_most","_law_keys","_law_tree_here"] ["_law_state","_law_most","_law_keys"] (zaj zec):=⟨rfl,rfl,rfl,by decide +kernel,rfl,by decide +kernel,by decide +kernel⟩
theorem sc_l_asked : zat ["_law_asked_here","_law_fulls_here","_law_key_here","_law_knot","_law_number"] ["_law_asked_here","_law_fulls_here","_law_key_here","_law_knot","_law_number"] (zaj zeh):=⟨rfl,rfl,rfl,by decide +kernel,rfl,by decide +kernel,by decide +kernel⟩
theorem sc_l_figures : zat ["_law_number","_law_found_here"] ["_law_number"] (zaj zcG):=⟨rfl,rfl,rfl,by decide +kernel,rfl,by decide +kernel,by decide +kernel⟩
theorem sc_l_placed : zat ["_law_fulls_here","_law_rows_here","_law_knot","_law_key_here","_law_wide"] ["_law_fulls_here","_law_rows_here","_law_knot","_law_key_here"] (zaj zdo):=⟨rfl,rfl,rfl,by decide +kernel,rfl,by decide +kernel,by decide +kernel⟩
theorem sc_l_found : zat ["_law_bridged","_law_tree_here","_law_fulls_here","_law_rows_here","_law_way","_law_key_here","_law_asked_here","_law_more","_law_found_here","_law_whole"] ["_law_bridged","_law_tree_here","_law_fulls_here","_law_rows_here","_law_way","_law_key_here"] (zaj zb8):=⟨rfl,rfl,rfl,by decide +kernel,rfl,by decide +kernel,by decide +kernel⟩
theorem sc_law : zat ["_law_script","_law_state","_law_tree_here","_law_rows_here","_law_fulls_here","_law_bridged","_law_way","_law_keys","_law_row_here","_law_key_here"] ["_law_script"] (zaj zmZ):=⟨rfl,rfl,rfl,by decide +kernel,rfl,by decide +kernel,by decide +kernel⟩
abbrev zg1 : List Str:=["entry"]
abbrev zbj : List Str:=["length","is_below"]
abbrev zcq : List Str:=["lists"]
abbrev zbq : List Str:=["one","other"]
abbrev zen : List Str:=["numbers"]
abbrev zep : List Str:=["entries"]
abbrev zbx : List Str:=["things","at"]
abbrev zbU : List Str:=["taken"]
abbrev zdz : List Str:=["numbers"]
abbrev zfv : List Str:=["entries"]
abbrev zet : List Str:=["entries"]
abbrev zb9 : List Str:=["tree","knot"]
abbrev zdB : List Str:=["tree","knot"]
abbrev zbJ : List Str:=["stand","knot"]
abbrev za0 : List Str:=["stand","knot"]
abbrev zcr : List Str:=["stand"]
abbrev zdr : List Str:=["full","knot"]
abbrev zcn : List Str:=["full","child_full"]
abbrev zbV : List Str:=["tree","fulls"]
abbrev zdA : List Str:=["stand"]
abbrev zbl : List Str:=["bridges","knot","is_below"]
abbrev zcL : List Str:=["bridges","knot","at","child"]
abbrev zbw : List Str:=["bridges","knot","start","is_below"]
abbrev zeo : List Str:=["bridges","way","is_below"]
abbrev zbi : List Str:=["bridges","knot","is_below"]
abbrev zdx : List Str:=["_law_script"]
abbrev zdt : List Str:=["_law_cell","_law_k"]
abbrev zbN : List Str:=["_law_state","_law_most"]
abbrev zfx : List Str:=["_law_state"]
abbrev zeq : List Str:=["_law_state","_law_most"]
abbrev zfw : List Str:=["_law_state","_law_most"]
abbrev zer : List Str:=["_law_state","_law_many","_law_most"]
abbrev zes : List Str:=["_law_entry"]
abbrev zcM : List Str:=["_law_numbers"]
abbrev zcp : List Str:=["_law_numbers"]
abbrev zdu : List Str:=["_law_entries"]
abbrev zdv : List Str:=["_law_tree_here","_law_rows_here"]
abbrev zds : List Str:=["_law_state","_law_most","_law_keys"]
abbrev zdy : List Str:=["_law_asked_here","_law_fulls_here","_law_key_here","_law_knot","_law_number"]
abbrev zco : List Str:=["_law_number"]
abbrev zcN : List Str:=["_law_fulls_here","_law_rows_here","_law_knot","_law_key_here"]
abbrev zdw : List Str:=["_law_bridged","_law_tree_here","_law_fulls_here","_law_rows_here","_law_way","_law_key_here"]
abbrev zjv : List Str:=["_law_script"]
structure Txt (K : Frag) (mg : Str→Option Value) : Prop where
 m_abs : mg "abs" = none
 m_dict : mg "dict" = none
 m_enumerate : mg "enumerate" = none
 m_len : mg "len" = none
 m_list : mg "list" = none
 m_max : mg "max" = none
 m_min : mg "min" = none
 m_range : mg "range" = none
 m_reversed : mg "reversed" = none
 m_set : mg "set" = none
 m_sorted : mg "sorted" = none
 m_tuple : mg "tuple" = none
 m_zip : mg "zip" = none
 g_KNOT_NUMBERS : ∃ t,mg "KNOT_NUMBERS" = some (.int 64 t)
 g_TURNS : ∃ t,mg "TURNS" = some (.int 5 t)
 g_MOST_BEHIND_START : ∃ t,mg "MOST_BEHIND_START" = some (.int 2 t)
theorem ziB (m n i j : Nat) (hi : i < 2) (hj : j < 2) : (2*m+i) &&& (2*n+j) = 2*(m &&& n) + (i &&& j):=by
 apply Nat.eq_of_testBit_eq
 intro k
 cases k with
 | zero=>
  have h1 : i = 0∨i = 1:=by omega
  have h2 : j = 0∨j = 1:=by omega
  rcases h1 with rfl | rfl <;> rcases h2 with rfl | rfl <;> simp [Nat.testBit_zero] <;> omega
 | succ k=>
  have h1 : i = 0∨i = 1:=by omega
  have h2 : j = 0∨j = 1:=by omega
  have e1 : (2*m+i)/2 = m:=by omega
  have e2 : (2*n+j)/2 = n:=by omega
  have e3 : (2*(m &&& n) + (i &&& j))/2 = m &&& n:=by
   rcases h1 with rfl | rfl <;> rcases h2 with rfl | rfl <;> simp <;> omega
  rw [Nat.testBit_and,ybJ,ybJ,ybJ,e1,e2,e3,Nat.testBit_and]
theorem zqb (m n i j : Nat) (hi : i < 2) (hj : j < 2) : (2*m+i) ||| (2*n+j) = 2*(m ||| n) + (i ||| j):=by
 apply Nat.eq_of_testBit_eq
 intro k
 cases k with
 | zero=>
  have h1 : i = 0∨i = 1:=by omega
  have h2 : j = 0∨j = 1:=by omega
  rcases h1 with rfl | rfl <;> rcases h2 with rfl | rfl <;> simp [Nat.testBit_zero] <;> omega
 | succ k=>
  have h1 : i = 0∨i = 1:=by omega
  have h2 : j = 0∨j = 1:=by omega
  have e1 : (2*m+i)/2 = m:=by omega
  have e2 : (2*n+j)/2 = n:=by omega
  have e3 : (2*(m ||| n) + (i ||| j))/2 = m ||| n:=by
   rcases h1 with rfl | rfl <;> rcases h2 with rfl | rfl <;> simp <;> omega
  rw [Nat.testBit_or,ybJ,ybJ,ybJ,e1,e2,e3,Nat.testBit_or]
def lu (a b : Nat) : Nat:=if a = b then 0 else if a % 2 = b % 2 then lu (a / 2) (b / 2) + 1 else 0
termination_by a + b
decreasing_by omega
theorem zhd {a b : Nat} (hab : a≠b) (h : a % 2 = b % 2) : lu a b = lu (a / 2) (b / 2) + 1:=by
 rw [lu,if_neg hab,if_pos h]
theorem zjH {a b : Nat} (h : a % 2≠b % 2) : lu a b = 0:=by
 rw [lu]; split
 ·rfl
 ·rfl
def xr (a b : Nat) : Nat:=(a ||| b) - (a &&& b)
def ze9 (n : Nat) : Nat:=n - (n &&& (n - 1))
theorem zii (a b : Nat) : a &&& b≤a ||| b:=yao Nat.and_le_left Nat.left_le_or
theorem zqB (m n i j : Nat) (hi : i < 2) (hj : j < 2) : xr (2*m+i) (2*n+j) = 2 * xr m n + (if i = j then 0 else 1):=by
 unfold xr
 rw [zqb m n i j hi hj,ziB m n i j hi hj]
 have q:=zii m n
 have h1 : i = 0∨i = 1:=by omega
 have h2 : j = 0∨j = 1:=by omega
 rcases h1 with rfl | rfl <;> rcases h2 with rfl | rfl <;> simp <;> omega
theorem zkI (a b : Nat) : xr a b = 2 * xr (a / 2) (b / 2) + (if a % 2 = b % 2 then 0 else 1):=by
 have e1 : 2 * (a / 2) + a % 2 = a:=by omega
 have e2 : 2 * (b / 2) + b % 2 = b:=by omega
 have q:=zqB (a / 2) (b / 2) (a % 2) (b % 2) (by omega) (by omega)
 rw [e1,e2] at q
 exact q
theorem znQ : ∀ (n a b : Nat),a + b≤n→a≠b→0 < xr a b:=by
 intro n
 induction n with
 | zero=>intro a b h1 h2; omega
 | succ n ih=>
  intro a b h1 h2
  rw [zkI]
  by_cases h : a % 2 = b % 2
  ·have:=ih (a / 2) (b / 2) (by omega) (by omega)
   omega
  ·rw [if_neg h]; omega
theorem zoU (m : Nat) : ze9 (2 * m + 1) = 1:=by
 unfold ze9
 have q:=ziB m m 1 0 (by omega) (by omega)
 have e : 2 * m + 1 - 1 = 2 * m + 0:=by omega
 rw [e,q]
 simp
theorem znr (m : Nat) (h : 0 < m) : ze9 (2 * m) = 2 * ze9 m:=by
 unfold ze9
 have q:=ziB m (m - 1) 0 1 (by omega) (by omega)
 have e : 2 * m - 1 = 2 * (m - 1) + 1:=by omega
 have e' : 2 * m = 2 * m + 0:=by omega
 rw [e]
 have : (2 * m &&& 2 * (m - 1) + 1) = 2 * (m &&& m - 1) + (0 &&& 1):=q
 rw [this]
 have z : m &&& (m - 1)≤m:=Nat.and_le_left
 simp
 omega
theorem zp9 : ∀ (n a b : Nat),a + b≤n→a≠b→ze9 (xr a b) = 2 ^ lu a b:=by
 intro n
 induction n with
 | zero=>intro a b h1 h2; omega
 | succ n ih=>
  intro a b h1 h2
  rw [zkI]
  by_cases h : a % 2 = b % 2
  ·rw [if_pos h,zhd h2 h,ybq,znr _ (znQ n _ _ (by omega) (by omega)),ih _ _ (by omega) (by omega),ybK]
   omega
  ·rw [if_neg h,zjH h,zoU,Nat.pow_zero]
theorem zoT : ∀ (n a b : Nat),a + b≤n→a≠b→a % 2 ^ lu a b = b % 2 ^ lu a b∧a % 2 ^ (lu a b + 1)≠b % 2 ^ (lu a b + 1):=by
 intro n
 induction n with
 | zero=>intro a b h1 h2; omega
 | succ n ih=>
  intro a b h1 h2
  by_cases h : a % 2 = b % 2
  ·rw [zhd h2 h]
   obtain ⟨q1,q2⟩:=ih (a / 2) (b / 2) (by omega) (by omega)
   have s : ∀ x k : Nat,x % 2 ^ (k + 1) = 2 * (x / 2 % 2 ^ k) + x % 2:=by
    intro x k
    rw [ybK,Nat.mul_comm,Nat.mod_mul]
    omega
   rw [s a,s b,s a,s b]
   constructor
   ·omega
   ·omega
  ·rw [zjH h]
   simp [Nat.mod_one]
   omega
theorem zqP : ∀ (k a b : Nat),a≠b→a < 2 ^ k→b < 2 ^ k→lu a b < k:=by
 intro k
 induction k with
 | zero=>intro a b h1 h2 h3; simp at h2 h3; omega
 | succ k ih=>
  intro a b h1 h2 h3
  by_cases h : a % 2 = b % 2
  ·rw [zhd h1 h]
   have:=ih (a / 2) (b / 2) (by omega) (by rw [ybK] at h2; omega) (by rw [ybK] at h3; omega)
   omega
  ·rw [zjH h]; omega
def fig (a b : Nat) : Nat:=2 * lu a b + b / 2 ^ lu a b % 2
theorem zhi (a b : Nat) : fig a b / 2 = lu a b:=by
 unfold fig
 have:=ybx (b / 2 ^ lu a b) (by decide : 0 < 2)
 omega
theorem ziO (a b : Nat) : fig a b % 2 = b / 2 ^ lu a b % 2:=by
 unfold fig
 have:=ybx (b / 2 ^ lu a b) (by decide : 0 < 2)
 omega
theorem ze7 (x k : Nat) : x % 2 ^ (k + 1) = x % 2 ^ k + 2 ^ k * (x / 2 ^ k % 2):=by
 rw [ybK,Nat.mod_mul]
theorem zn8 {a b : Nat} (h : a≠b) : a / 2 ^ lu a b % 2≠b / 2 ^ lu a b % 2:=by
 obtain ⟨h1,h2⟩:=zoT _ a b (yaa _) h
 intro e
 apply h2
 rw [ze7,ze7,h1,e]
theorem zqo {a b c : Nat} (h2 : b≠c) : fig a b≠fig b c:=by
 intro e
 have e1 : lu a b = lu b c:=by rw [← zhi,e,zhi]
 have e2 : b / 2 ^ lu a b % 2 = c / 2 ^ lu b c % 2:=by rw [← ziO,e,ziO]
 rw [e1] at e2
 exact zn8 h2 e2
theorem zo9 {a b : Nat} (h : a≠b) : a % 2≠fig a b:=by
 intro e
 have l : a % 2 < 2:=ybx _ (by decide)
 have e1 : lu a b = 0:=by
  have:=zhi a b
  omega
 have e2:=ziO a b
 have e3:=zn8 h
 rw [e1] at e2 e3
 simp at e2 e3
 omega
theorem zqp {a b k : Nat} (h : a≠b) (ha : a < 2 ^ k) (hb : b < 2 ^ k) : fig a b < 2 * k:=by
 have:=zqP k a b h ha hb
 have:=ybx (b / 2 ^ lu a b) (by decide : 0 < 2)
 unfold fig
 omega
def zcA (xs : List Nat) (i : Nat) : Nat:=if i = 0 then xs.getD 0 0 % 2 else fig (xs.getD (i - 1) 0) (xs.getD i 0)
def zb6 (xs : List Nat) : List Nat:=(List.range xs.length).map (zcA xs)
theorem za3 (xs : List Nat) : (zb6 xs).length = xs.length:=by unfold zb6; rw [yab,yaG]
theorem zhz {xs : List Nat} {i : Nat} (h : i < xs.length) : (zb6 xs)[i]? = some (zcA xs i):=by
 unfold zb6
 rw [yaj,ybi h]
 rfl
theorem zeM {xs : List Nat} {i : Nat} (h : i < xs.length) : (zb6 xs).getD i 0 = zcA xs i:=by
 rw [yad,zhz h]; rfl
theorem zgm {xs : List Nat} {i : Nat} (h : i < xs.length) : (zb6 xs).take (i + 1) = (zb6 xs).take i ++ [zcA xs i]:=by
 have h' : i < (zb6 xs).length:=by rw [za3]; exact h
 rw [yaH h']
 have:=zhz h
 rw [yac h'] at this
 rw [yaf this]
def Unl (xs : List Nat) : Prop:=∀ i,i + 1 < xs.length→xs.getD i 0≠xs.getD (i + 1) 0
theorem zkT {xs : List Nat} (h : Unl xs) : Unl (zb6 xs):=by
 intro i hi
 rw [za3] at hi
 rw [zeM (by omega),zeM hi]
 unfold zcA
 rw [if_neg (by omega : ¬ i + 1 = 0),ycf]
 by_cases h0 : i = 0
 ·subst h0
  rw [if_pos rfl]
  exact zo9 (h 0 hi)
 ·rw [if_neg h0]
  exact zqo (h i hi)
def zcZ (m : Nat) (xs : List Nat) : Prop:=∀ i,i < xs.length→xs.getD i 0 < m
theorem zb5 {xs : List Nat} {k : Nat} (hk : 1≤k) (h : Unl xs) (hb : zcZ (2 ^ k) xs) : zcZ (2 * k) (zb6 xs):=by
 intro i hi
 rw [za3] at hi
 rw [zeM hi]
 unfold zcA
 split
 ·have : xs.getD 0 0 % 2 < 2:=ybx _ (by decide)
  omega
 ·have:=h (i - 1) (by omega)
  rw [show i - 1 + 1 = i by omega] at this
  exact zqp this (hb _ (by omega)) (hb _ hi)
theorem zoh (a b : Nat) : Builtin.bitXor (a : Int) (b : Int) = ((xr a b : Nat) : Int):=by
 have h1 : Builtin.bitAnd (a : Int) (b : Int) = ((a &&& b : Nat) : Int):=by
  unfold Builtin.bitAnd
  rw [yan (ybr a),yan (ybr b)]
  rfl
 have n1 : ¬ (0 : Int)≤Builtin.bitNot (a : Int):=by unfold Builtin.bitNot; omega
 have n2 : ¬ (0 : Int)≤Builtin.bitNot (b : Int):=by unfold Builtin.bitNot; omega
 have h2 : Builtin.bitOr (a : Int) (b : Int) = ((a ||| b : Nat) : Int):=by
  unfold Builtin.bitOr Builtin.bitAnd
  rw [yam n1,yam n2]
  have e : ∀ x : Int,Builtin.bitNot (Builtin.bitNot x) = x:=fun x=>by unfold Builtin.bitNot; omega
  show Builtin.bitNot (Builtin.bitNot _) = _
  rw [e,e,e]
  rfl
 unfold Builtin.bitXor xr
 rw [h1,h2]
 have:=zii a b
 omega
theorem zpj (n : Nat) (h : 0 < n) : Builtin.bitAnd (n : Int) (-(n : Int)) = ((ze9 n : Nat) : Int):=by
 have n2 : ¬ (0 : Int)≤-(n : Int):=by omega
 have e : (Builtin.bitNot (-(n : Int))).toNat = n - 1:=by unfold Builtin.bitNot; omega
 unfold Builtin.bitAnd ze9
 rw [yan (ybr n),yam n2]
 show (n : Int) - (((n : Int).toNat &&& (Builtin.bitNot (-(n : Int))).toNat : Nat) : Int) = _
 rw [e,yaU]
 have : n &&& (n - 1)≤n:=Nat.and_le_left
 omega
theorem zqa (a b : Nat) (h : a≠b) : ((Builtin.Int.intBits (Builtin.bitAnd (Builtin.bitXor (a : Int) (b : Int)) (-(Builtin.bitXor (a : Int) (b : Int)))) : Nat) : Int) - 1 = ((lu a b : Nat) : Int):=by
 rw [zoh,zpj _ (znQ _ a b (yaa _) h),zp9 _ a b (yaa _) h]
 unfold Builtin.Int.intBits
 have p : 0 < 2 ^ lu a b:=Nat.two_pow_pos _
 rw [if_neg (by
  intro z
  have z':=eq_of_beq z
  omega),Int.natAbs_natCast,Nat.log2_two_pow]
 omega
def atZ {α : Type} (l : List α) (i : Int) : Option α:=if 0≤i then l[i.toNat]? else none
theorem zcU {α : Type} (l : List α) (i : Nat) : atZ l (i : Int) = l[i]?:=by
 unfold atZ
 rw [if_pos (ybr i),yaU]
theorem zhr {α : Type} {l : List α} {i : Int} (h : i < 0) : atZ l i = none:=by
 unfold atZ
 rw [if_neg (by omega)]
theorem zhq {α : Type} {l : List α} {i : Int} {x : α} (h : atZ l i = some x) : 0≤i∧i < l.length:=by
 unfold atZ at h
 split at h
 ·have:=(yah.mp h).1
  omega
 ·cases h
theorem zoe {α : Type} {l : List α} {i : Int} (h0 : 0≤i) (h : i < l.length) : ∃ x,atZ l i = some x:=by
 unfold atZ
 rw [if_pos h0]
 exact ⟨_,yac (by omega)⟩
def zko {α β : Type} (f : Option α→α→Option α→β) : Option α→List α→List β
 | _,[]=>[]
 | p,x :: l=>f p x l.head? :: zko f (some x) l
def mapW {α β : Type} (f : Option α→α→Option α→β) (l : List α) : List β:=zko f none l
theorem zdb {α β : Type} (f : Option α→α→Option α→β) : ∀ (l : List α) (p : Option α) (k : Nat),(zko f p l)[k]? = l[k]?.map fun x=>f (if k = 0 then p else l[k - 1]?) x l[k + 1]?
 | [],_,_=>rfl
 | x :: l,p,0=>by
  show some (f p x l.head?) = some (f p x l[0]?)
  rw [List.head?_eq_getElem?]
 | x :: l,p,k + 1=>by
  show (zko f (some x) l)[k]? = l[k]?.map fun y=>f (x :: l)[k]? y l[k + 1]?
  rw [zdb f l (some x) k]
  cases k with
  | zero=>rfl
  | succ k=>rfl
theorem ze8 {α β : Type} (f : Option α→α→Option α→β) : ∀ (l : List α) (p : Option α),(zko f p l).length = l.length
 | [],_=>rfl
 | x :: l,p=>by
  show (zko f (some x) l).length + 1 = l.length + 1
  rw [ze8 f l]
theorem zcd {α β : Type} (f : Option α→α→Option α→β) (l : List α) : (mapW f l).length = l.length:=ze8 f l none
theorem zhc {α β : Type} (f : Option α→α→Option α→β) (l : List α) (i : Int) : atZ (mapW f l) i = (atZ l i).map fun x=>f (atZ l (i - 1)) x (atZ l (i + 1)):=by
 by_cases h : 0≤i
 ·obtain ⟨k,rfl⟩ : ∃ k : Nat,i = (k : Int):=⟨i.toNat,by omega⟩
  rw [zcU,zcU,mapW,zdb,show ((k : Int) + 1) = ((k + 1 : Nat) : Int) by omega,zcU]
  have e : atZ l ((k : Int) - 1) = if k = 0 then none else l[k - 1]?:=by
   split
   ·rw [zhr (by omega)]
   ·rw [show ((k : Int) - 1) = ((k - 1 : Nat) : Int) by omega,zcU]
  rw [e]
 ·rw [zhr (l:=mapW f l) (by omega),zhr (l:=l) (i:=i) (by omega)]
  rfl
def UnlZ (xs : List Nat) : Prop:=∀ (i : Int) (x y : Nat),atZ xs i = some x→atZ xs (i + 1) = some y→x≠y
theorem unlZ {xs : List Nat} (h : Unl xs) : UnlZ xs:=by
 intro i x y hx hy
 obtain ⟨a,b⟩:=zhq hx
 obtain ⟨_,c⟩:=zhq hy
 obtain ⟨k,rfl⟩ : ∃ k : Nat,i = (k : Int):=⟨i.toNat,by omega⟩
 rw [zcU] at hx
 rw [show ((k : Int) + 1) = ((k + 1 : Nat) : Int) by omega,zcU] at hy
 have:=h k (by omega)
 rw [yad,yad,hx,hy] at this
 exact this
theorem zkP {xs : List Nat} (h : UnlZ xs) : Unl xs:=by
 intro k hk
 have:=h k xs[k] xs[k + 1] (by rw [zcU]; exact yac (by omega)) (by rw [show ((k : Int) + 1) = ((k + 1 : Nat) : Int) by omega,zcU]; exact yac hk)
 rw [yad,yad,yac (show k < xs.length by omega),yac hk]
 exact this
def zfi (p n : Option Nat) : Nat:=if p≠some 0∧n≠some 0 then 0 else if p≠some 1∧n≠some 1 then 1 else 2
theorem zjX (p n : Option Nat) : zfi p n≤2:=by
 unfold zfi
 split
 ·omega
 ·split <;> omega
theorem zeY {p n : Option Nat} {x : Nat} (h : p = some x) : zfi p n≠x:=by
 subst h
 unfold zfi
 split
 ·rename_i c
  intro z
  exact c.1 (by rw [← z])
 ·split
  ·rename_i c
   intro z
   exact c.1 (by rw [← z])
  ·rename_i c d
   intro z
   subst z
   have c1 : n = some 0:=Decidable.byContradiction fun q=>c ⟨by decide,q⟩
   have d1 : n = some 1:=Decidable.byContradiction fun q=>d ⟨by decide,q⟩
   rw [c1] at d1
   cases d1
theorem zkw (p n : Option Nat) : zfi p n = zfi n p:=by
 unfold zfi
 simp only [And.comm]
theorem zgG {p n : Option Nat} {x : Nat} (h : n = some x) : zfi p n≠x:=by
 rw [zkw]
 exact zeY h
def recF (v : Nat) (p : Option Nat) (x : Nat) (n : Option Nat) : Nat:=if x = v then zfi p n else x
def recL (v : Nat) (xs : List Nat) : List Nat:=mapW (recF v) xs
theorem za6 (v : Nat) (xs : List Nat) : (recL v xs).length = xs.length:=zcd _ _
theorem zfu {v : Nat} {xs : List Nat} (h : UnlZ xs) : UnlZ (recL v xs):=by
 intro i x y hx hy
 unfold recL at hx hy
 rw [zhc] at hx hy
 cases ex : atZ xs i with
 | none=>rw [ex] at hx; cases hx
 | some x0=>
  cases ey : atZ xs (i + 1) with
  | none=>rw [ey] at hy; cases hy
  | some y0=>
   rw [ex] at hx
   rw [ey] at hy
   have hx : x = recF v (atZ xs (i - 1)) x0 (atZ xs (i + 1)):=(yaf hx).symm
   have hy : y = recF v (atZ xs (i + 1 - 1)) y0 (atZ xs (i + 1 + 1)):=(yaf hy).symm
   have n0:=h i x0 y0 ex ey
   have e1 : i + 1 - 1 = i:=by omega
   unfold recF at hx hy
   rw [e1,ex] at hy
   rw [ey] at hx
   split at hx
   ·rename_i c
    split at hy
    ·rename_i c'
     omega
    ·rw [hx,hy]
     exact zgG rfl
   ·split at hy
    ·rw [hx,hy]
     exact (zeY rfl).symm
    ·omega
theorem zgY {v : Nat} {P : Nat→Prop} {xs : List Nat} (hP : ∀ x,x≤2→P x) (h : ∀ i x,atZ xs i = some x→x = v∨P x) : ∀ i x,atZ (recL v xs) i = some x→P x:=by
 intro i x hx
 unfold recL at hx
 rw [zhc] at hx
 cases ex : atZ xs i with
 | none=>rw [ex] at hx; cases hx
 | some x0=>
  rw [ex] at hx
  have hx : x = recF v (atZ xs (i - 1)) x0 (atZ xs (i + 1)):=(yaf hx).symm
  unfold recF at hx
  split at hx
  ·rw [hx]
   exact hP _ (zjX _ _)
  ·rw [hx]
   rcases h i x0 ex with q | q
   ·exact absurd q (by assumption)
   ·exact q
def colL (xs : List Nat) : List Nat:=recL 5 (recL 4 (recL 3 xs))
theorem zd1 (xs : List Nat) : (colL xs).length = xs.length:=by
 unfold colL
 rw [za6,za6,za6]
theorem zhl {xs : List Nat} (h : UnlZ xs) : UnlZ (colL xs):=zfu (zfu (zfu h))
theorem zpf {xs : List Nat} (h : ∀ i x,atZ xs i = some x→x≤5) : ∀ i x,atZ (colL xs) i = some x→x≤2:=by
 refine zgY (P:=fun x=>x≤2) (fun x h=>h) ?_
 refine zgY (P:=fun x=>x = 5∨x≤2) (fun x h=>.inr h) ?_
 refine zgY (P:=fun x=>x = 4∨x = 5∨x≤2) (fun x h=>.inr (.inr h)) ?_
 intro i x e
 have:=h i x e
 omega
def zoS (sh : Nat) (p : Option (Nat×Bool)) (x : Nat×Bool) (n : Option (Nat×Bool)) : Nat×Bool:=
 (x.1,x.2 || (decide (x.1 = sh) && p.isSome && !(p.map (·.2)).getD false && !(n.map (·.2)).getD false))
def zcC (sh : Nat) (l : List (Nat×Bool)) : List (Nat×Bool):=mapW (zoS sh) l
def zcE (c : List Nat) : List (Nat×Bool):=c.map fun x=>(x,false)
def zdO (c : List Nat) : List (Nat×Bool):=zcC 0 (zcC 1 (zcC 2 (zcE c)))
def zez (c : List Nat) : List Bool:=(zdO c).map (·.2)
theorem zg9 (c : List Nat) : (zdO c).length = c.length:=by
 unfold zdO zcC zcE
 rw [zcd,zcd,zcd,yab]
theorem zey (c : List Nat) : (zez c).length = c.length:=by
 unfold zez
 rw [yab,zg9]
theorem zjd (c : List Nat) (i : Int) : atZ (zcE c) i = (atZ c i).map fun x=>(x,false):=by
 unfold zcE atZ
 split
 ·rw [yaj]
 ·rfl
def mkZ (l : List (Nat×Bool)) (i : Int) : Bool:=((atZ l i).map (·.2)).getD false
def clZ (l : List (Nat×Bool)) (i : Int) : Option Nat:=(atZ l i).map (·.1)
theorem zoR (sh : Nat) (l : List (Nat×Bool)) (i : Int) : clZ (zcC sh l) i = clZ l i:=by
 unfold clZ zcC
 rw [zhc]
 cases atZ l i <;> rfl
theorem zha (sh : Nat) (l : List (Nat×Bool)) (i : Int) : mkZ (zcC sh l) i = (mkZ l i || (decide (clZ l i = some sh) && (clZ l (i - 1)).isSome && !mkZ l (i - 1) && !mkZ l (i + 1))):=by
 unfold mkZ clZ zcC
 rw [zhc]
 cases atZ l i with
 | none=>simp
 | some x=>
  unfold zoS
  cases atZ l (i - 1) <;> cases atZ l (i + 1) <;> simp
structure MkOk (c : List Nat) (l : List (Nat×Bool)) : Prop where
 cl : ∀ i,clZ l i = atZ c i
 ind : ∀ i,mkZ l i = true→mkZ l (i + 1) = true→False
 fst : ∀ i,mkZ l i = true→(atZ c (i - 1)).isSome = true∧(atZ c i).isSome = true
theorem zfj (c : List Nat) : MkOk c (zcE c):=by
 have e : ∀ i,mkZ (zcE c) i = false:=fun i=>by
  unfold mkZ
  rw [zjd]
  cases atZ c i <;> rfl
 refine ⟨fun i=>?_,fun i h=>?_,fun i h=>?_⟩
 ·unfold clZ
  rw [zjd]
  cases atZ c i <;> rfl
 ·rw [e] at h
  cases h
 ·rw [e] at h
  cases h
theorem zeW {c : List Nat} {l : List (Nat×Bool)} {sh : Nat} (hu : UnlZ c) (h : MkOk c l) : MkOk c (zcC sh l):=by
 refine ⟨fun i=>by rw [zoR,h.cl],fun i h1 h2=>?_,fun i h1=>?_⟩
 ·rw [zha] at h1 h2
  simp only [ybR,ya8,decide_eq_true_eq,ybT] at h1 h2
  rw [show i + 1 - 1 = i by omega] at h2
  rcases h1 with h1 | h1 <;> rcases h2 with h2 | h2
  ·exact h.ind i h1 h2
  ·rw [h1] at h2
   exact absurd h2.1.2 (by decide)
  ·rw [h2] at h1
   exact absurd h1.2 (by decide)
  ·have a:=h1.1.1.1
   have b:=h2.1.1.1
   rw [h.cl] at a b
   exact hu i sh sh a b rfl
 ·rw [zha] at h1
  simp only [ybR,ya8,decide_eq_true_eq,ybT] at h1
  rcases h1 with h1 | h1
  ·exact h.fst i h1
  ·refine ⟨?_,?_⟩
   ·rw [← h.cl]
    exact h1.1.1.2
   ·rw [← h.cl,h1.1.1.1]
    rfl
theorem zbf {sh : Nat} {l : List (Nat×Bool)} {i : Int} (h : mkZ l i = true) : mkZ (zcC sh l) i = true:=by
 rw [zha,h]
 rfl
theorem zhb {c : List Nat} {l : List (Nat×Bool)} {sh : Nat} {i : Int} (h : MkOk c l) (hc : atZ c i = some sh) (hp : (atZ c (i - 1)).isSome = true) : mkZ (zcC sh l) (i - 1) = true∨mkZ (zcC sh l) i = true∨mkZ (zcC sh l) (i + 1) = true:=by
 by_cases a : mkZ l (i - 1) = true
 ·exact .inl (zbf a)
 ·by_cases b : mkZ l (i + 1) = true
  ·exact .inr (.inr (zbf b))
  ·refine .inr (.inl ?_)
   rw [zha,h.cl,h.cl,hc,hp,ybz.mpr a,ybz.mpr b]
   simp
theorem zhU {c : List Nat} (hu : UnlZ c) : MkOk c (zdO c):=zeW hu (zeW hu (zeW hu (zfj c)))
theorem zkn {c : List Nat} (hu : UnlZ c) (hc : ∀ i x,atZ c i = some x→x≤2) {i : Int} (h1 : (atZ c (i - 1)).isSome = true) (h2 : (atZ c i).isSome = true) : mkZ (zdO c) (i - 1) = true∨mkZ (zdO c) i = true∨mkZ (zdO c) (i + 1) = true:=by
 obtain ⟨x,hx⟩:=yco.mp h2
 have hle:=hc i x hx
 have z : x = 2∨x = 1∨x = 0:=by omega
 rcases z with rfl | rfl | rfl
 ·rcases zhb (zfj c) hx h1 with q | q | q
  ·exact .inl (zbf (zbf q))
  ·exact .inr (.inl (zbf (zbf q)))
  ·exact .inr (.inr (zbf (zbf q)))
 ·rcases zhb (zeW (sh:=2) hu (zfj c)) hx h1 with q | q | q
  ·exact .inl (zbf q)
  ·exact .inr (.inl (zbf q))
  ·exact .inr (.inr (zbf q))
 ·exact zhb (zeW (sh:=1) hu (zeW (sh:=2) hu (zfj c))) hx h1
structure zdk (ms : List Bool) : Prop where
 fst : ms.getD 0 false = false
 ind : ∀ i,ms.getD i false = true→ms.getD (i + 1) false = true→False
 dom : ∀ i,1≤i→i < ms.length→ms.getD (i - 1) false = true∨ms.getD i false = true∨ms.getD (i + 1) false = true
theorem zcc (c : List Nat) (i : Nat) : (zez c).getD i false = mkZ (zdO c) (i : Int):=by
 unfold mkZ zez
 rw [zcU,yad,yaj]
theorem zlQ {c : List Nat} (hu : UnlZ c) (hc : ∀ i x,atZ c i = some x→x≤2) : zdk (zez c):=by
 refine ⟨?_,fun i h1 h2=>?_,fun i h1 h2=>?_⟩
 ·rw [zcc]
  cases e : mkZ (zdO c) ((0 : Nat) : Int) with
  | false=>rfl
  | true=>
   have:=((zhU hu).fst _ e).1
   rw [zhr (by omega)] at this
   cases this
 ·rw [zcc] at h1 h2
  exact (zhU hu).ind i h1 h2
 ·rw [zey] at h2
  have a : (atZ c ((i : Int) - 1)).isSome = true:=by
   obtain ⟨x,hx⟩:=zoe (l:=c) (i:=(i : Int) - 1) (by omega) (by omega)
   rw [hx]
   rfl
  have b : (atZ c (i : Int)).isSome = true:=by
   obtain ⟨x,hx⟩:=zoe (l:=c) (i:=(i : Int)) (by omega) (by omega)
   rw [hx]
   rfl
  rcases zkn hu hc a b with q | q | q
  ·refine .inl ?_
   rw [zcc,show ((i - 1 : Nat) : Int) = (i : Int) - 1 by omega]
   exact q
  ·refine .inr (.inl ?_)
   rw [zcc]
   exact q
  ·refine .inr (.inr ?_)
   rw [zcc]
   exact q
theorem ziL {p n : Option Nat} {y : Nat} (h : y < zfi p n) : p = some y∨n = some y:=by
 unfold zfi at h
 split at h
 ·omega
 ·rename_i c
  have c0 : p = some 0∨n = some 0:=Decidable.byContradiction fun q=>c ⟨fun z=>q (.inl z),fun z=>q (.inr z)⟩
  split at h
  ·have : y = 0:=by omega
   subst this
   exact c0
  ·rename_i d
   have d0 : p = some 1∨n = some 1:=Decidable.byContradiction fun q=>d ⟨fun z=>q (.inl z),fun z=>q (.inr z)⟩
   have : y = 0∨y = 1:=by omega
   rcases this with rfl | rfl
   ·exact c0
   ·exact d0
def zaG (xs : List Nat) (k : Nat) : List Nat:=(if k = 0 then none else xs[k - 1]?).toList ++ xs[k + 1]?.toList
theorem zf7 {xs : List Nat} {k y : Nat} : y∈zaG xs k↔(if k = 0 then none else xs[k - 1]?) = some y∨xs[k + 1]? = some y:=by
 unfold zaG
 rw [yaE,Option.mem_toList,Option.mem_toList]
def zce (xs : List Nat) (k : Nat) : Nat:=zfi (if k = 0 then none else xs[k - 1]?) xs[k + 1]?
theorem zgF {xs : List Nat} {k : Nat} : zce xs k∉zaG xs k:=fun h=>by
 rcases zf7.mp h with q | q
 ·exact zeY q rfl
 ·exact zgG q rfl
theorem zfc {xs : List Nat} {k y : Nat} (h : y < zce xs k) : y∈zaG xs k:=zf7.mpr (ziL h)
theorem zh2 (xs : List Nat) (k : Nat) : zce xs k≤2:=zjX _ _
theorem zh3 {xs : List Nat} {k : Nat} : ((List.range 3).filter fun c=>!decide (c∈zaG xs k)).head? = some (zce xs k):=by
 have h1:=zgF (xs:=xs) (k:=k)
 have h2:=fun y=>zfc (xs:=xs) (k:=k) (y:=y)
 have h3:=zh2 xs k
 rw [show List.range 3 = [0,1,2] from rfl]
 generalize zce xs k = f at h1 h2 h3 ⊢
 have z : f = 0∨f = 1∨f = 2:=by omega
 rcases z with rfl | rfl | rfl
 ·simp [List.filter,h1]
 ·simp [List.filter,h1,h2 0 (by omega)]
 ·simp [List.filter,h1,h2 0 (by omega),h2 1 (by omega)]
theorem zgX {v : Nat} {xs : List Nat} {k : Nat} (h : k < xs.length) : (recL v xs)[k]? = some (if xs.getD k 0 = v then zce xs k else xs.getD k 0):=by
 unfold recL mapW
 rw [zdb,yad,yac h]
 rfl
def mixL (v : Nat) (xs : List Nat) (k : Nat) : List Nat:=(recL v xs).take k ++ xs.drop k
theorem zjG {v : Nat} {xs : List Nat} {k : Nat} (h : xs.length≤k) : mixL v xs k = recL v xs:=by
 unfold mixL
 rw [yar (by rw [za6]; exact h),ya2 h,yaD]
theorem zdX (v : Nat) (xs : List Nat) (k : Nat) : (mixL v xs k).length = xs.length:=by
 unfold mixL
 rw [yai,yas,ybb,za6]
 omega
theorem zdD (v : Nat) (xs : List Nat) (k j : Nat) : (mixL v xs k)[j]? = if j < k then (recL v xs)[j]? else xs[j]?:=by
 unfold mixL
 by_cases hk : k≤xs.length
 ·rw [List.getElem?_append,yas,za6,ybo hk]
  split
  ·rw [ycg]
   rw [if_pos (by assumption)]
  ·rw [ycy]
   congr 1
   omega
 ·rw [ya2 (by omega),yaD,yar (by rw [za6]; omega)]
  split
  ·rfl
  ·rw [yaM (by rw [za6]; omega),yaM (by omega)]
theorem zlP {v : Nat} {xs : List Nat} {k j : Nat} (h : k≤j) : (mixL v xs k)[j]? = xs[j]?:=by
 rw [zdD,if_neg (by omega)]
theorem zhR {v : Nat} {xs : List Nat} {k : Nat} (h : k < xs.length) (hv : xs.getD k 0≠v) : mixL v xs (k + 1) = mixL v xs k:=by
 apply ybc
 intro j
 rw [zdD,zdD]
 by_cases c : j < k
 ·rw [if_pos c,if_pos (by omega)]
 ·rw [if_neg c]
  split
  ·have : j = k:=by omega
   subst this
   rw [zgX h,if_neg hv,yad,yac h]
   rfl
  ·rfl
theorem zgz {v : Nat} {xs : List Nat} {k m : Nat} (hkm : k≤m) (hm : m≤xs.length) (hv : ∀ j,k≤j→j < m→xs.getD j 0≠v) : mixL v xs m = mixL v xs k:=by
 induction m with
 | zero=>
  have : k = 0:=by omega
  rw [this]
 | succ m ih=>
  by_cases c : k = m + 1
  ·rw [c]
  ·rw [zhR (by omega) (hv m (by omega) (by omega)),ih (by omega) (by omega) (fun j a b=>hv j a (by omega))]
theorem zlO {v : Nat} {xs : List Nat} {k : Nat} (hu : Unl xs) (h : k < xs.length) (hv : xs.getD k 0 = v) : (if k = 0 then none else (mixL v xs k)[k - 1]?) = if k = 0 then none else xs[k - 1]?:=by
 cases k with
 | zero=>rfl
 | succ k=>
  show (mixL v xs (k + 1))[k]? = xs[k]?
  rw [zdD,if_pos (by omega),zgX (by omega)]
  have:=hu k h
  rw [hv] at this
  rw [if_neg this,yad,yac (show k < xs.length by omega)]
  rfl
theorem zfP {v : Nat} {xs : List Nat} {k : Nat} (hu : Unl xs) (h : k < xs.length) (hv : xs.getD k 0 = v) : zaG (mixL v xs k) k = zaG xs k:=by
 unfold zaG
 rw [zlO hu h hv,zlP (j:=k + 1) (by omega)]
theorem zjF {v : Nat} {xs : List Nat} {k : Nat} (h : k < xs.length) (hv : xs.getD k 0 = v) : mixL v xs (k + 1) = (mixL v xs k).set k (zce xs k):=by
 apply ybc
 intro j
 rw [ybZ,zdX,zdD,zdD]
 by_cases c : k = j
 ·subst c
  rw [if_pos rfl,if_pos h,if_pos (by omega),zgX h,if_pos hv]
 ·rw [if_neg c]
  by_cases c2 : j < k
  ·rw [if_pos c2,if_pos (by omega)]
  ·rw [if_neg c2,if_neg (by omega)]
def zbR (sh : Nat) (cs : List Nat) (ms : List Bool) : List Bool:=(zcC sh (cs.zip ms)).map (·.2)
theorem zaW {sh : Nat} {cs : List Nat} {ms : List Bool} (h : cs.length = ms.length) : (zbR sh cs ms).length = ms.length:=by
 unfold zbR zcC
 rw [yab,zcd,ych]
 omega
theorem zil {cs : List Nat} : ∀ {ms : List Bool},cs.length = ms.length→(cs.zip ms).map (·.1) = cs:=by
 induction cs with
 | nil=>intro ms _; rfl
 | cons c cs ih=>
  intro ms h
  cases ms with
  | nil=>cases h
  | cons m ms=>
   show c :: (cs.zip ms).map (·.1) = c :: cs
   rw [ih (Nat.succ.inj h)]
theorem zi4 : ∀ (l : List (Nat×Bool)),(l.map (·.1)).zip (l.map (·.2)) = l
 | []=>rfl
 | x :: l=>by
  show x :: (l.map (·.1)).zip (l.map (·.2)) = x :: l
  rw [zi4 l]
theorem zlR (sh : Nat) (l : List (Nat×Bool)) : (zcC sh l).map (·.1) = l.map (·.1):=by
 apply ybc
 intro k
 unfold zcC mapW
 rw [yaj,yaj,zdb]
 cases l[k]? <;> rfl
theorem zhV {sh : Nat} {cs : List Nat} {ms : List Bool} (h : cs.length = ms.length) : zcC sh (cs.zip ms) = cs.zip (zbR sh cs ms):=by
 have e:=zi4 (zcC sh (cs.zip ms))
 rw [zlR,zil h] at e
 exact e.symm
theorem zk6 (cs : List Nat) : zcE cs = cs.zip (cs.map fun _=>false):=by
 unfold zcE
 induction cs with
 | nil=>rfl
 | cons c cs ih=>
  show (c,false) :: cs.map (fun x=>(x,false)) = (c,false) :: cs.zip (cs.map fun _=>false)
  rw [ih]
theorem zhT (cs : List Nat) : zez cs = zbR 0 cs (zbR 1 cs (zbR 2 cs (cs.map fun _=>false))):=by
 have l1 : cs.length = (cs.map fun _=>false).length:=by rw [yab]
 have l2 : cs.length = (zbR 2 cs (cs.map fun _=>false)).length:=by rw [zaW l1,← l1]
 unfold zez zdO
 rw [zk6,zhV l1,zhV l2]
 rfl
theorem zb0 {sh : Nat} {cs : List Nat} {ms : List Bool} (hl : cs.length = ms.length) {k : Nat} (h : k < cs.length) : (zbR sh cs ms)[k]? = some (ms.getD k false || (decide (cs.getD k 0 = sh) && decide (1≤k) && !ms.getD (k - 1) false && !ms.getD (k + 1) false)):=by
 unfold zbR zcC mapW
 have gz : ∀ j,(cs.zip ms)[j]? = if h : j < cs.length then some (cs[j],ms[j]'(by omega)) else none:=fun j=>by
  split
  ·rename_i q
   rw [yac (by rw [ych]; omega),List.getElem_zip]
  ·exact yaM (by rw [ych]; omega)
 have gm : ∀ j,ms.getD j false = (((cs.zip ms)[j]?).map (·.2)).getD false:=fun j=>by
  rw [gz]
  split
  ·rw [yad,yac (by omega)]
   rfl
  ·rw [yad,yaM (by omega)]
   rfl
 rw [yaj,zdb,gm k,gm (k + 1),gm (k - 1),yad,yac h]
 have e:=gz k
 rw [dif_pos h] at e
 rw [e]
 show some _ = some _
 unfold zoS
 cases k with
 | zero=>simp
 | succ k=>
  have e2:=gz k
  rw [dif_pos (by omega)] at e2
  simp [e2]
def mixM (sh : Nat) (cs : List Nat) (ms : List Bool) (k : Nat) : List Bool:=(zbR sh cs ms).take k ++ ms.drop k
theorem zjE {sh : Nat} {cs : List Nat} {ms : List Bool} (hl : cs.length = ms.length) {k : Nat} (h : cs.length≤k) : mixM sh cs ms k = zbR sh cs ms:=by
 unfold mixM
 rw [yar (by rw [zaW hl]; omega),ya2 (by omega),yaD]
theorem zcP {sh : Nat} {cs : List Nat} {ms : List Bool} (hl : cs.length = ms.length) (k : Nat) : (mixM sh cs ms k).length = cs.length:=by
 unfold mixM
 rw [yai,yas,ybb,zaW hl]
 omega
theorem zbr {sh : Nat} {cs : List Nat} {ms : List Bool} (hl : cs.length = ms.length) (k j : Nat) : (mixM sh cs ms k)[j]? = if j < k then (zbR sh cs ms)[j]? else ms[j]?:=by
 unfold mixM
 by_cases hk : k≤ms.length
 ·rw [List.getElem?_append,yas,zaW hl,ybo hk]
  split
  ·rw [ycg]
   rw [if_pos (by assumption)]
  ·rw [ycy]
   congr 1
   omega
 ·rw [ya2 (by omega),yaD,yar (by rw [zaW hl]; omega)]
  split
  ·rfl
  ·rw [yaM (by rw [zaW hl]; omega),yaM (by omega)]
def zdg (ms : List Bool) (k : Nat) : Bool:=!ms.getD (k - 1) false && !ms.getD k false && !ms.getD (k + 1) false
theorem zkl {sh : Nat} {cs : List Nat} {ms : List Bool} (hu : Unl cs) (hl : cs.length = ms.length) {k : Nat} (h : k < cs.length) (h1 : 1≤k) (hs : cs.getD k 0 = sh) : zdg (mixM sh cs ms k) k = zdg ms k:=by
 unfold zdg
 have e : ∀ j,k≤j→(mixM sh cs ms k).getD j false = ms.getD j false:=fun j hj=>by
  rw [yad,yad,zbr hl,if_neg (by omega)]
 rw [e k (by omega),e (k + 1) (by omega)]
 have e2 : (mixM sh cs ms k).getD (k - 1) false = ms.getD (k - 1) false:=by
  rw [yad,zbr hl,if_pos (by omega),zb0 hl (by omega)]
  have:=hu (k - 1) (by omega)
  rw [show k - 1 + 1 = k by omega,hs] at this
  rw [yam this]
  simp
 rw [e2]
theorem zfO {sh : Nat} {cs : List Nat} {ms : List Bool} (hl : cs.length = ms.length) {k : Nat} (h : k < cs.length) (hn : ¬ (1≤k∧cs.getD k 0 = sh∧zdg ms k = true)) : mixM sh cs ms (k + 1) = mixM sh cs ms k:=by
 apply ybc
 intro j
 rw [zbr hl,zbr hl]
 by_cases c : j < k
 ·rw [if_pos c,if_pos (by omega)]
 ·rw [if_neg c]
  split
  ·have : j = k:=by omega
   subst this
   rw [zb0 hl h]
   unfold zdg at hn
   rw [yac (by omega)]
   have e : ms.getD j false = ms[j]'(by omega):=by
    rw [yad,yac (by omega)]
    rfl
   rw [e] at hn ⊢
   congr 1
   generalize ms[j] = a at hn ⊢
   generalize ms.getD (j - 1) false = b at hn ⊢
   generalize ms.getD (j + 1) false = d at hn ⊢
   cases a <;> cases b <;> cases d <;> simp at hn ⊢
   intro q
   omega
  ·rfl
theorem znq {sh : Nat} {cs : List Nat} {ms : List Bool} (hl : cs.length = ms.length) {k : Nat} (h : k < cs.length) (hp : 1≤k∧cs.getD k 0 = sh∧zdg ms k = true) : mixM sh cs ms (k + 1) = (mixM sh cs ms k).set k true:=by
 apply ybc
 intro j
 rw [ybZ,zcP hl,zbr hl,zbr hl]
 by_cases c : k = j
 ·subst c
  rw [if_pos rfl,if_pos h,if_pos (by omega),zb0 hl h]
  obtain ⟨p1,p2,p3⟩:=hp
  unfold zdg at p3
  simp only [ya8,ybT] at p3
  rw [p2,p3.1.1,p3.1.2,p3.2,yan p1]
  simp
 ·rw [if_neg c]
  by_cases c2 : j < k
  ·rw [if_pos c2,if_pos (by omega)]
  ·rw [if_neg c2,if_neg (by omega)]
structure zdj (ms : List Bool) (sp : List Nat) : Prop where
 up : sp.Pairwise (· < ·)
 iff : ∀ j,j∈sp↔ms.getD j false = true
theorem zmX (ms : List Bool) : zdj ms ((List.range ms.length).filter fun k=>ms.getD k false):=by
 refine ⟨List.Pairwise.filter _ ybW,fun j=>?_⟩
 rw [ya0,yaQ]
 constructor
 ·exact fun h=>h.2
 ·intro h
  refine ⟨?_,h⟩
  rw [yad] at h
  cases e : ms[j]? with
  | none=>rw [e] at h; cases h
  | some x=>exact (yah.mp e).1
theorem zdj.lt {ms : List Bool} {sp : List Nat} (S : zdj ms sp) {j : Nat} (h : j∈sp) : j < ms.length:=by
 have h:=(S.iff j).mp h
 rw [yad] at h
 cases e : ms[j]? with
 | none=>rw [e] at h; cases h
 | some x=>exact (yah.mp e).1
theorem zdj.step {ms : List Bool} {sp : List Nat} (S : zdj ms sp) (M : zdk ms) {t : Nat} (h : t + 1 < sp.length) : sp[t] + 2≤sp[t + 1]∧sp[t + 1]≤sp[t] + 3:=by
 have up:=yaL.mp S.up
 have lt:=up t (t + 1) (by omega) h (by omega)
 have m0:=(S.iff _).mp (yaB (show t < sp.length by omega))
 have m1:=(S.iff _).mp (yaB h)
 have l1:=S.lt (yaB h)
 have no : ∀ j,sp[t] < j→j < sp[t + 1]→ms.getD j false = false:=fun j a b=>by
  cases e : ms.getD j false with
  | false=>rfl
  | true=>
   obtain ⟨u,hu,q⟩:=yaX ((S.iff j).mpr e)
   have c1 : ¬ u≤t:=fun z=>by
    by_cases z' : u = t
    ·subst z'; omega
    ·have:=up u t hu (by omega) (by omega)
     omega
   have c2 : ¬ t + 1≤u:=fun z=>by
    by_cases z' : u = t + 1
    ·subst z'; omega
    ·have:=up (t + 1) u h hu (by omega)
     omega
   omega
 refine ⟨?_,?_⟩
 ·by_cases c : sp[t + 1] = sp[t] + 1
  ·rw [c] at m1
   exact (M.ind _ m0 m1).elim
  ·omega
 ·refine ybg fun c=>?_
  rcases M.dom (sp[t] + 2) (by omega) (by omega) with q | q | q
  ·rw [no (sp[t] + 2 - 1) (by omega) (by omega)] at q
   cases q
  ·rw [no (sp[t] + 2) (by omega) (by omega)] at q
   cases q
  ·rw [no (sp[t] + 2 + 1) (by omega) (by omega)] at q
   cases q
theorem zdj.first {ms : List Bool} {sp : List Nat} (S : zdj ms sp) (M : zdk ms) (h : 2≤ms.length) : ∃ hp : 0 < sp.length,1≤sp[0]∧sp[0]≤2:=by
 have ex : ∃ j,j≤2∧ms.getD j false = true:=by
  rcases M.dom 1 (by omega) (by omega) with q | q | q
  ·exact ⟨0,by omega,q⟩
  ·exact ⟨1,by omega,q⟩
  ·exact ⟨2,by omega,q⟩
 obtain ⟨j,hj,e⟩:=ex
 obtain ⟨u,hu,q⟩:=yaX ((S.iff j).mpr e)
 refine ⟨by omega,?_,?_⟩
 ·have m0:=(S.iff _).mp (yaB (show 0 < sp.length by omega))
  refine ycd fun z=>?_
  rw [z,M.fst] at m0
  cases m0
 ·by_cases c : u = 0
  ·subst c; omega
  ·have:=yaL.mp S.up 0 u (by omega) hu (by omega)
   omega
theorem zdj.last {ms : List Bool} {sp : List Nat} (S : zdj ms sp) (M : zdk ms) (h : 2≤ms.length) (hp : 0 < sp.length) : ms.length≤sp[sp.length - 1] + 2:=by
 have ex : ∃ j,ms.length - 2≤j∧ms.getD j false = true:=by
  rcases M.dom (ms.length - 1) (by omega) (by omega) with q | q | q
  ·exact ⟨_,by omega,q⟩
  ·exact ⟨_,by omega,q⟩
  ·exact ⟨_,by omega,q⟩
 obtain ⟨j,hj,e⟩:=ex
 obtain ⟨u,hu,q⟩:=yaX ((S.iff j).mpr e)
 by_cases c : u = sp.length - 1
 ·subst c; omega
 ·have:=yaL.mp S.up u (sp.length - 1) hu (by omega) (by omega)
  omega
theorem zdj.low {ms : List Bool} {sp : List Nat} (S : zdj ms sp) (M : zdk ms) : ∀ (t : Nat) (h : t < sp.length),2 * t + 1≤sp[t]
 | 0,h=>by
  have m0:=(S.iff _).mp (yaB h)
  refine ycd fun z=>?_
  rw [z,M.fst] at m0
  cases m0
 | t + 1,h=>by
  have a:=zdj.low S M t (by omega)
  have b:=(S.step M h).1
  omega
theorem zdj.half {ms : List Bool} {sp : List Nat} (S : zdj ms sp) (M : zdk ms) : 2 * sp.length≤ms.length:=by
 by_cases c : sp.length = 0
 ·omega
 ·have a:=S.low M (sp.length - 1) (by omega)
  have b:=S.lt (yaB (show sp.length - 1 < sp.length by omega))
  omega
theorem zdj.none {ms : List Bool} {sp : List Nat} (S : zdj ms sp) (M : zdk ms) (h : ms.length < 2) : sp = []:=by
 have:=S.half M
 exact yca (by omega)
def zbX {α : Type} (es : List α) (ms : List Bool) : List α:=((es.zip ms).filter (·.2)).map (·.1)
structure Ats (P : Nat→Bool) (n : Nat) (l : List Nat) : Prop where
 up : l.Pairwise (· < ·)
 iff : ∀ j,j∈l↔j < n∧P j = true
theorem zqw (P : Nat→Bool) (n : Nat) : Ats P n ((List.range n).filter P):=⟨List.Pairwise.filter _ ybW,fun j=>by rw [ya0,yaQ]⟩
theorem Ats.get {P : Nat→Bool} {n : Nat} {l : List Nat} (A : Ats P n l) {j : Nat} (h : j < l.length) : l[j] < n∧P l[j] = true:=(A.iff _).mp (yaB h)
theorem Ats.first {P : Nat→Bool} {n : Nat} {l : List Nat} (A : Ats P n l) {i : Nat} (h : i < l.getD 0 n) (hn : i < n) : P i = false:=by
 cases e : P i with
 | false=>rfl
 | true=>
  obtain ⟨u,hu,q⟩:=yaX ((A.iff i).mpr ⟨hn,e⟩)
  have h0 : l.getD 0 n = l[0]'(by omega):=by
   rw [yad,yac (by omega)]
   rfl
  rw [h0] at h
  by_cases c : u = 0
  ·subst c; omega
  ·have:=yaL.mp A.up 0 u (by omega) hu (by omega)
   omega
theorem Ats.next {P : Nat→Bool} {n : Nat} {l : List Nat} (A : Ats P n l) {j : Nat} (hj : j < l.length) {i : Nat} (h1 : l[j] < i) (h : i < l.getD (j + 1) n) (hn : i < n) : P i = false:=by
 cases e : P i with
 | false=>rfl
 | true=>
  obtain ⟨u,hu,q⟩:=yaX ((A.iff i).mpr ⟨hn,e⟩)
  have up:=yaL.mp A.up
  have c1 : j < u:=by
   refine yci fun z=>?_
   by_cases c : u = j
   ·subst c; omega
   ·have:=up u j hu hj (by omega)
    omega
  have h0 : l.getD (j + 1) n = l[j + 1]'(by omega):=by
   rw [yad,yac (by omega)]
   rfl
  rw [h0] at h
  by_cases c : u = j + 1
  ·subst c; omega
  ·have:=up (j + 1) u (by omega) hu (by omega)
   omega
theorem Ats.le {P : Nat→Bool} {n : Nat} {l : List Nat} (A : Ats P n l) (j : Nat) : l.getD j n≤n:=by
 rw [yad]
 by_cases h : j < l.length
 ·rw [yac h]
  exact ybk (A.get h).1
 ·rw [yaM (by omega)]
  exact yaa _
theorem Ats.step_le {P : Nat→Bool} {n : Nat} {l : List Nat} (A : Ats P n l) {j : Nat} (hj : j < l.length) : l[j] + 1≤l.getD (j + 1) n:=by
 rw [yad]
 by_cases h : j + 1 < l.length
 ·rw [yac h]
  exact yaL.mp A.up j (j + 1) hj h (by omega)
 ·rw [yaM (by omega)]
  exact (A.get hj).1
def atsL (v : Nat) (xs : List Nat) : List Nat:=(List.range xs.length).filter fun k=>decide (xs.getD k 0 = v)
theorem zf9 (v : Nat) (xs : List Nat) : Ats (fun k=>decide (xs.getD k 0 = v)) xs.length (atsL v xs):=zqw _ _
theorem zlM {v : Nat} {xs : List Nat} : mixL v xs ((atsL v xs).getD 0 xs.length) = xs:=by
 rw [zgz (k:=0) (yaA _) ((zf9 v xs).le 0) (fun j _ h=>ybA ((zf9 v xs).first h (yat h ((zf9 v xs).le 0))))]
 rfl
theorem zno {v : Nat} {xs : List Nat} {j : Nat} (hj : j < (atsL v xs).length) : mixL v xs ((atsL v xs).getD (j + 1) xs.length) = (mixL v xs (atsL v xs)[j]).set (atsL v xs)[j] (zce xs (atsL v xs)[j]):=by
 have A:=zf9 v xs
 have g:=A.get hj
 rw [zgz (k:=(atsL v xs)[j] + 1) (A.step_le hj) (A.le _) (fun i a b=>ybA (A.next hj (by omega) b (yat b (A.le _)))),zjF g.1 (yaC g.2)]
theorem znp {v : Nat} {xs : List Nat} : mixL v xs ((atsL v xs).getD (atsL v xs).length xs.length) = recL v xs:=by
 rw [yad,yaM (yaa _)]
 exact zjG (yaa _)
def colN (xs : List Nat) : Nat→List Nat
 | 0=>xs
 | i + 1=>recL (3 + i) (colN xs i)
theorem zf1 (xs : List Nat) (i : Nat) : (colN xs i).length = xs.length:=by
 induction i with
 | zero=>rfl
 | succ i ih=>rw [colN,za6,ih]
theorem zj0 {xs : List Nat} (h : Unl xs) (i : Nat) : Unl (colN xs i):=by
 induction i with
 | zero=>exact h
 | succ i ih=>exact zkP (zfu (unlZ ih))
def mkN (cs : List Nat) : Nat→List Bool
 | 0=>cs.map fun _=>false
 | i + 1=>zbR (2 - i) cs (mkN cs i)
theorem zhQ (cs : List Nat) : mkN cs 3 = zez cs:=(zhT cs).symm
theorem zgx (cs : List Nat) (i : Nat) : cs.length = (mkN cs i).length:=by
 induction i with
 | zero=>rw [mkN,yab]
 | succ i ih=>rw [mkN,zaW ih,ih]
theorem zjD {sh : Nat} {cs : List Nat} {ms : List Bool} (hl : cs.length = ms.length) : mixM sh cs ms 1 = ms:=by
 by_cases h : 0 < cs.length
 ·rw [zfO hl h (fun z=>by omega)]
  rfl
 ·have : ms = []:=yca (by omega)
  subst this
  unfold mixM
  rw [yca (show (zbR sh cs []).length = 0 by rw [zaW hl]; rfl)]
  rfl
def zax (ps : List Nat) : Prop:=∀ i (h : i < ps.length),ps[i]≤i
def par (ps : List Nat) : Nat→Option Nat
 | 0=>none
 | k + 1=>ps[k]?
theorem zaJ {ps : List Nat} (T : zax ps) {k p : Nat} (h : par ps k = some p) : p < k∧k < ps.length + 1:=by
 cases k with
 | zero=>cases h
 | succ k=>
  obtain ⟨h1,rfl⟩:=yah.mp (show ps[k]? = some p from h)
  have:=T k h1
  omega
theorem zfz {ps : List Nat} {k : Nat} (h1 : 1≤k) (h2 : k < ps.length + 1) : ∃ p,par ps k = some p:=by
 cases k with
 | zero=>omega
 | succ k=>exact ⟨_,yac (show k < ps.length by omega)⟩
theorem zm8 {ps : List Nat} {k : Nat} (h2 : k < ps.length + 1) (h : par ps k = none) : k = 0:=by
 cases k with
 | zero=>rfl
 | succ k=>
  have:=List.getElem?_eq_none_iff.mp (show ps[k]? = none from h)
  omega
def wayF (ps : List Nat) (one : Nat) : Nat→Nat→Option (List Nat)
 | 0,_=>none
 | f + 1,o=>if o = one then some [o] else match par ps o with
  | none=>none
  | some p=>(wayF ps one f p).map (· ++ [o])
theorem zhv {ps : List Nat} (T : zax ps) {one : Nat} : ∀ f g o,o < f→o < g→wayF ps one f o = wayF ps one g o
 | 0,_,_,h,_=>absurd h (yce _)
 | _,0,_,_,h=>absurd h (yce _)
 | f + 1,g + 1,o,hf,hg=>by
  unfold wayF
  split
  ·rfl
  ·cases e : par ps o with
   | none=>rfl
   | some p=>
    have:=(zaJ T e).1
    show (wayF ps one f p).map _ = (wayF ps one g p).map _
    rw [zhv T f g p (by omega) (by omega)]
def wayL (ps : List Nat) (one o : Nat) : Option (List Nat):=wayF ps one (o + 1) o
theorem zkL {ps : List Nat} {o : Nat} : wayL ps o o = some [o]:=by
 unfold wayL wayF
 rw [if_pos rfl]
theorem zd5 {ps : List Nat} (T : zax ps) {one o : Nat} (h : o≠one) : wayL ps one o = match par ps o with
  | none=>none
  | some p=>(wayL ps one p).map (· ++ [o]):=by
 unfold wayL
 rw [wayF,if_neg h]
 cases e : par ps o with
 | none=>rfl
 | some p=>
  show (wayF ps one o p).map _ = (wayF ps one (p + 1) p).map _
  rw [zhv T o (p + 1) p (zaJ T e).1 (by omega)]
theorem zkM {ps : List Nat} (T : zax ps) {one : Nat} : ∀ n o,o≤n→o < one→wayL ps one o = none
 | n,o,hn,h=>by
  rw [zd5 T (by omega)]
  cases e : par ps o with
  | none=>rfl
  | some p=>
   have hp:=(zaJ T e).1
   show (wayL ps one p).map _ = none
   cases n with
   | zero=>omega
   | succ n=>rw [zkM T n p (by omega) (by omega)]; rfl
def zpm (ps : List Nat) (w : List Nat) : Prop:=∀ t,t + 1 < w.length→par ps (w.getD (t + 1) 0) = some (w.getD t 0)
def isB (ps : List Nat) (k j : Nat) : Bool:=(wayL ps k j).isSome
def benL (ps : List Nat) (k n : Nat) : List Nat:=(List.range n).filter (isB ps k)
theorem zcs {ps : List Nat} {k : Nat} : isB ps k k = true:=by
 unfold isB
 rw [zkL]
 rfl
theorem zcX {ps : List Nat} (T : zax ps) {k j : Nat} (h : j < k) : isB ps k j = false:=by
 unfold isB
 rw [zkM T j j (yaa _) h]
 rfl
theorem zbs {ps : List Nat} (T : zax ps) {k j p : Nat} (h : j≠k) (e : par ps j = some p) : isB ps k j = isB ps k p:=by
 unfold isB
 rw [zd5 T h,e]
 show ((wayL ps k p).map _).isSome = _
 cases wayL ps k p <;> rfl
theorem znO {ps : List Nat} (T : zax ps) (k : Nat) : benL ps k (k + 1) = [k]:=by
 unfold benL
 rw [ybj,yaP]
 have e1 : (List.range k).filter (isB ps k) = []:=by
  rw [ybL]
  intro j hj z
  rw [zcX T (yaQ.mp hj)] at z
  cases z
 rw [e1,ycc,yaO zcs]
 rfl
theorem zbY {ps : List Nat} {k n j : Nat} : j∈benL ps k n↔j < n∧isB ps k j = true:=by
 unfold benL
 rw [ya0,yaQ]
theorem zf8 {ps : List Nat} {k n : Nat} : benL ps k (n + 1) = benL ps k n ++ (if isB ps k n = true then [n] else []):=by
 unfold benL
 rw [ybj,yaP]
 congr 1
 by_cases h : isB ps k n = true
 ·rw [if_pos h,yaO h]
  rfl
 ·rw [if_neg h,yaZ h]
  rfl
theorem zhn (ps : List Nat) (k n : Nat) : (benL ps k n).length≤n:=by
 have:=ya9 (isB ps k) (List.range n)
 rw [yaG] at this
 exact this
theorem ziW (ps : List Nat) (k n : Nat) : (benL ps k n).Pairwise (· < ·):=List.Pairwise.filter _ ybW
theorem zjP {ps : List Nat} (T : zax ps) : ∀ n j,j≤n→j < ps.length + 1→isB ps 0 j = true
 | n,j,hn,h=>by
  by_cases c : j = 0
  ·rw [c]
   exact zcs
  ·obtain ⟨p,e⟩:=zfz (by omega) h
   have:=(zaJ T e).1
   rw [zbs T c e]
   cases n with
   | zero=>omega
   | succ n=>exact zjP T n p (by omega) (by omega)
theorem zig {ps : List Nat} (T : zax ps) : benL ps 0 (ps.length + 1) = List.range (ps.length + 1):=by
 unfold benL
 rw [ycz]
 exact fun j hj=>zjP T j j (yaa _) (yaQ.mp hj)
def zaF (ps : List Nat) (k n : Nat) : List Nat:=(List.range n).filter fun j=>decide (par ps j = some k)
theorem zaA {ps : List Nat} {k n j : Nat} : j∈zaF ps k n↔j < n∧par ps j = some k:=by
 unfold zaF
 rw [ya0,yaQ,decide_eq_true_eq]
theorem zf3 {ps : List Nat} {k n : Nat} : zaF ps k (n + 1) = zaF ps k n ++ (if par ps n = some k then [n] else []):=by
 unfold zaF
 rw [ybj,yaP]
 congr 1
 by_cases h : par ps n = some k
 ·rw [if_pos h,yaO (by exact yan h)]
  rfl
 ·rw [if_neg h,yaZ (by rw [yam h]; decide)]
  rfl
theorem zdJ (ps : List Nat) (k n : Nat) : (zaF ps k n).length≤n:=by
 have:=ya9 (fun j=>decide (par ps j = some k)) (List.range n)
 rw [yaG] at this
 exact this
theorem zia (ps : List Nat) (k n : Nat) : (zaF ps k n).Pairwise (· < ·):=List.Pairwise.filter _ ybW
theorem zeB {ps : List Nat} (T : zax ps) {k : Nat} : ∀ n j,j≤n→j < ps.length + 1→(isB ps k j = true↔j = k∨∃ c,par ps c = some k∧isB ps c j = true)
 | n,j,hn,h=>by
  by_cases c : j = k
  ·constructor
   ·exact fun _=>.inl c
   ·intro _
    rw [c]
    exact zcs
  ·cases e : par ps j with
   | none=>
    have j0:=zm8 h e
    have no : ∀ m,j≠m→isB ps m j = false:=fun m hm=>by
     unfold isB
     rw [zd5 T hm,e]
     rfl
    constructor
    ·intro z
     rw [no k c] at z
     cases z
    ·rintro (z | ⟨d,hd,z⟩)
     ·exact absurd z c
     ·by_cases y : j = d
      ·rw [← y,e] at hd
       cases hd
      ·rw [no d y] at z
       cases z
   | some p=>
    have hp:=(zaJ T e).1
    cases n with
    | zero=>omega
    | succ n=>
     have ih:=zeB T (k:=k) n p (by omega) (by omega)
     rw [zbs T c e,ih]
     constructor
     ·rintro (z | ⟨d,hd,z⟩)
      ·refine .inr ⟨j,?_,zcs⟩
       rw [e,z]
      ·by_cases y : j = d
       ·rw [← y] at z
        rw [zcX T hp] at z
        cases z
       ·exact .inr ⟨d,hd,by rw [zbs T y e]; exact z⟩
     ·rintro (z | ⟨d,hd,z⟩)
      ·exact absurd z c
      ·by_cases y : j = d
       ·subst y
        rw [e] at hd
        exact .inl (yaf hd)
       ·rw [zbs T y e] at z
        exact .inr ⟨d,hd,z⟩
theorem zdd {ps : List Nat} (T : zax ps) {k c d : Nat} (hc : par ps c = some k) (hd : par ps d = some k) (hcd : c≠d) : ∀ n j,j≤n→isB ps c j = true→isB ps d j = true→False
 | n,j,hn,h1,h2=>by
  by_cases e1 : j = c
  ·subst e1
   rw [zbs T hcd hc,zcX T (zaJ T hd).1] at h2
   cases h2
  ·by_cases e2 : j = d
   ·subst e2
    rw [zbs T e1 hd,zcX T (zaJ T hc).1] at h1
    cases h1
   ·cases e : par ps j with
    | none=>
     unfold isB at h1
     rw [zd5 T e1,e] at h1
     cases h1
    | some p=>
     have hp:=(zaJ T e).1
     rw [zbs T e1 e] at h1
     rw [zbs T e2 e] at h2
     cases n with
     | zero=>omega
     | succ n=>exact zdd T hc hd hcd n p (by omega) h1 h2
theorem zkd {ps : List Nat} (T : zax ps) {k : Nat} (hk : k < ps.length + 1) : (k :: ((zaF ps k (ps.length + 1)).map fun c=>benL ps c (ps.length + 1)).flatten).Perm (benL ps k (ps.length + 1)):=by
 have lt : ∀ {l : List Nat},l.Pairwise (· < ·)→l.Nodup:=fun h=>List.Pairwise.imp (fun {a b} (q : a < b)=>yak q) h
 refine (List.perm_ext_iff_of_nodup ?_ (lt (ziW ps k _))).mpr fun j=>?_
 ·rw [yaR]
  refine ⟨fun h=>?_,?_⟩
  ·obtain ⟨l,hl,hj⟩:=ycj.mp h
   obtain ⟨c,hc,rfl⟩:=yaF.mp hl
   have h1:=(zaA.mp hc).2
   have h2:=(zbY.mp hj).2
   rw [zcX T (zaJ T h1).1] at h2
   cases h2
  ·show List.Pairwise _ _
   rw [List.pairwise_flatten]
   refine ⟨fun l hl=>?_,?_⟩
   ·obtain ⟨c,hc,rfl⟩:=yaF.mp hl
    exact lt (ziW ps c _)
   ·rw [ybv]
    refine List.Pairwise.imp_of_mem (fun {c d} hc hd hcd=>?_) (zia ps k _)
    intro x hx y hy z
    subst z
    exact zdd T (zaA.mp hc).2 (zaA.mp hd).2 (yak hcd) x x (yaa _) (zbY.mp hx).2 (zbY.mp hy).2
 ·rw [yal,ycj,zbY]
  constructor
  ·rintro (rfl | ⟨l,hl,hj⟩)
   ·exact ⟨hk,zcs⟩
   ·obtain ⟨c,hc,rfl⟩:=yaF.mp hl
    obtain ⟨h1,h2⟩:=zbY.mp hj
    exact ⟨h1,(zeB T j j (yaa _) h1).mpr (.inr ⟨c,(zaA.mp hc).2,h2⟩)⟩
  ·rintro ⟨h1,h2⟩
   rcases (zeB T j j (yaa _) h1).mp h2 with q | ⟨c,hc,q⟩
   ·exact .inl q
   ·exact .inr ⟨_,yaF.mpr ⟨c,zaA.mpr ⟨(zaJ T hc).2,hc⟩,rfl⟩,zbY.mpr ⟨h1,q⟩⟩
seal PSs PS PE PT PW PA PI PG PO
section
variable {P : Program} {w : World} {K : Frag} {mg : Str→Option Value} {base : Heap}
theorem znd (T : Txt K mg) (D_l_mixed : DF K mg "_law_mixed" zed zdt) : FC P w K mg base 1 "_law_mixed" zdt zla:=by
 refine D_l_mixed.ok sc_l_mixed (fun vs H Q E h=>?_) (fun f cdv A outer s H vs Q E hr h=>?_)
 ·obtain ⟨c,k,rfl,_⟩:=h
  rfl
 obtain ⟨c,k,rfl,q⟩:=h
 refine ⟨_,(zae (zap (i:=2) sc_l_mixed.nd rfl (Or.inl rfl) (zar zcV (zar zbB (zar zaS (zar zaS (zar zcV (pv 0) zag) (zar zbB zag (pv 1))) zag) zag) zag))
   (zae (zap (i:=3) sc_l_mixed.nd rfl (Or.inl rfl) (zar zcV (zar zaS (zar zaS (zar zbB (pv 2) (pv 2)) (zar zbB zag (pv 2))) (pv 1)) zag))
   (zai (zaz (zar zeU (zar zcV (zar zaS (zar zaS (zar zbB (pv 3) (pv 3)) (zar zbB zag (pv 3))) (zar zbB zag (pv 1))) zag) zag))))),?_⟩
 walk_at "rd"
 exact q _
theorem znl (T : Txt K mg) (D_l_begin : DF K mg "_law_begin" zeg zdx) : FC P w K mg base 1 "_law_begin" zdx (zle K):=by
 refine D_l_begin.ok sc_l_begin (fun vs H Q E h=>?_) (fun f cdv A outer s H vs Q E hr h=>?_)
 ·obtain ⟨L,ns,rfl,_⟩:=h
  rfl
 obtain ⟨L,ns,rfl,hS,q⟩:=h
 refine ⟨_,(zai (zaz (zlr (zfy zc6 (pv 0) (zfy zc6 zag (zfy zc6 zag zlk))) rfl rfl (by simp) (by decide)))),?_⟩
 intro p hp
 refine ⟨_,rfl,zac,[(.inr "script",.ref L),(.inr "at",.int 0),(.inr "left",.int 0)],rfl,(by show 3≤15; decide),?_⟩
 have e : upd (upd H p (.dK [])) p (.dK (zda [] [(.inr "script",.ref L),(.inr "at",.int 0),(.inr "left",.int 0)])) = upd H p (zcR L 0 0):=by
  rw [zoi]
  have : zda [] [((.inr "script" : Key),V.ref L),(.inr "at",.int 0),(.inr "left",.int 0)] = [(.inr "script",.ref L),(.inr "at",.int 0),(.inr "left",.int 0)]:=by
   have a1 : putK [] (.inr "script" : Key) (V.ref L) = [(.inr "script",.ref L)]:=zcK (kvs:=[]) _ rfl
   have a2 : putK [((.inr "script" : Key),V.ref L)] (.inr "at") (.int 0) = [(.inr "script",.ref L),(.inr "at",.int 0)]:=by
    rw [zcK _ (by rw [zaM (zdP (show ("script" : Str) ≠ "at" by decide +kernel))]; rfl)]
    rfl
   have a3 : putK [((.inr "script" : Key),V.ref L),(.inr "at",.int 0)] (.inr "left") (.int 0) = [(.inr "script",.ref L),(.inr "at",.int 0),(.inr "left",.int 0)]:=by
    rw [zcK _ (by rw [zaM (zdP (show ("script" : Str) ≠ "left" by decide +kernel)),zaM (zdP (show ("at" : Str) ≠ "left" by decide +kernel))]; rfl)]
    rfl
   unfold zda
   simp only [List.foldl_cons,List.foldl_nil]
   rw [a1,a2,a3]
  rw [this]
  rfl
 rw [e]
 exact q p _ hp (zak hp _) ⟨ns,0,0,zac,(zak hp _).seq hS⟩
theorem zoK (T : Txt K mg) (D_l_take : DF K mg "_law_take" zfp zbN) (F_l_mixed : FC P w K mg base 1 "_law_mixed" zdt zla) : FC P w K mg base 2 "_law_take" zbN (zgp K):=by
 refine D_l_take.ok sc_l_take (fun vs H Q E h=>?_) (fun f cdv A outer s H vs Q E hr h=>?_)
 ·obtain ⟨d,L,m,rfl,_⟩:=h
  rfl
 obtain ⟨d,L,m,rfl,⟨hm,hm'⟩,⟨ns,a,l,hd,hS⟩,q⟩:=h
 refine ⟨_,(zae (zap (i:=2) sc_l_take.nd rfl (Or.inl rfl) (zcO (zcY hr) (pv 0) zc6 (fun _ _=>rfl)))
   (zae (zap (i:=3) sc_l_take.nd rfl (Or.inl rfl) (zcO (zcY hr) (pv 0) zc6 (fun _ _=>rfl)))
   (zbp (zch (zaB zeV (zcO (zcY hr) (pv 0) zc6 (fun _ _=>rfl)) zag (zaN _)) (zae (zdU (zcY hr) (pv 0) zc6 (zar zaS (pv 2) zag) rfl)
   (zae (zap (i:=4) sc_l_take.nd rfl (Or.inl rfl) zag)
   (zbp (zch (zaB zlv (zas zam rfl T.m_len boot_len (zaa (pv 3) zad)) zag (zaN _)) (zai (zap (i:=4) sc_l_take.nd rfl (Or.inl rfl) (zaC zaw (pv 3) (zar zcV (pv 2) (zas zam rfl T.m_len boot_len (zaa (pv 3) zad))) (fun _ _=>rfl)))) za7)
   (zbp (zch (PW.pt (zqM (zaB zpY (pv 2) (zas zam rfl T.m_len boot_len (zaa (pv 3) zad)) (zaN _)) (zpJ (zaB zfM (zas zhm rfl T.m_abs boot_abs (zaa (pv 4) zad)) (zar zgv zag zag) (zaN _))))) (zai (zaz (zar zcV (zaI F_l_mixed hr (zaa (pv 4) (zaa (pv 2) zad))) (pv 1)))) za7)
   (zai (zdU (zcY hr) (pv 0) zc6 (zas zhm rfl T.m_abs boot_abs (zaa (pv 4) zad)) rfl)))))) za7)
   (zae (zap (i:=5) sc_l_take.nd rfl (Or.inl rfl) (zar zcV (zcO (zcY hr) (pv 0) zc6 (fun _ _=>rfl)) (pv 1)))
   (zae (zdU (zcY hr) (pv 0) zc6 (zar zeU (zcO (zcY hr) (pv 0) zc6 (fun _ _=>rfl)) (pv 1)) rfl)
   (zai (zaz (pv 5)))))))),?_⟩
 refine ⟨_,rfl,_,_,rfl,zqm hd,_,rfl,_,_,rfl,zku hd,?_⟩
 refine ⟨fun σ' H'=>∃ (x2 x3 x4 x5 : Option V) (a' l' : Int),σ' = [some (.ref d),some (.int m),x2,x3,x4,x5]∧H' d = some (zcR L a' l')∧Keep d H H',?_,?_⟩
 ·refine ⟨_,rfl,_,_,rfl,zhf hd,rfl,_,rfl,?_⟩
  refine ite2 (fun _=>?_) (fun _=>?_)
  ·refine ⟨_,rfl,_,_,rfl,rfl,_,rfl,_,_,rfl,zpK hd,?_⟩
   have hd1 : upd H d (zcR L (a + 1) l) d = some (zcR L (a + 1) l):=zac
   obtain ⟨-,k1⟩:=LS.set (a':=a + 1) (l':=l) hd hS
   have hS1:=zgR hd k1 hS
   generalize upd H d (zcR L (a + 1) l) = H1 at hd1 k1 hS1 ⊢
   refine ⟨fun σ' H'=>∃ c : Int,σ' = [some (.ref d),some (.int m),some (.int a),some (.ref L),some (.int c),none]∧H1 = H',?_,?_⟩
   ·refine ⟨_,rfl,_,_,rfl,.inl hS1,_,_,rfl,rfl,_,rfl,?_⟩
    refine ite2 (fun c=>?_) (fun c=>?_)
    ·have c' : (0 : Int) < (((ns.map V.int).length : Nat) : Int):=yaC c
     obtain ⟨v,hv⟩:=zqx (ns:=ns) (k:=a) (by rw [yab] at c'; omega)
     refine ⟨_,rfl,_,rfl,_,rfl,_,_,rfl,.inl hS1,_,_,rfl,rfl,c',_,_,_,_,rfl,rfl,hS1,hv,?_⟩
     exact ⟨v,rfl,rfl⟩
    ·exact ⟨0,rfl,rfl⟩
   rintro σ' H' ⟨c,rfl,rfl⟩
   refine ⟨fun σ' H'=>σ' = [some (.ref d),some (.int m),some (.int a),some (.ref L),some (.int c),none]∧H1 = H',?_,?_⟩
   ·refine ⟨_,rfl,_,rfl,_,_,rfl,.inl hS1,_,_,rfl,rfl,_,rfl,?_⟩
    refine ite2 (fun _=>?_) (fun _=>?_)
    ·refine iteT ?_
     refine ⟨_,rfl,_,rfl,c,a,rfl,fun v=>⟨_,rfl,_,_,rfl,rfl,hm,?_⟩⟩
     exact q _ _ (yb7 _ (by omega)) (yb8 _ hm) k1 ⟨ns,a + 1,l,hd1,hS1⟩
    ·refine ⟨_,rfl,_,rfl,_,_,rfl,rfl,⟨by decide,by decide,by decide⟩,_,_,rfl,rfl,_,rfl,?_⟩
     refine ite2 (fun _=>?_) (fun _=>?_)
     ·refine ⟨_,rfl,_,rfl,c,a,rfl,fun v=>⟨_,rfl,_,_,rfl,rfl,hm,?_⟩⟩
      exact q _ _ (yb7 _ (by omega)) (yb8 _ hm) k1 ⟨ns,a + 1,l,hd1,hS1⟩
     ·exact ⟨rfl,rfl⟩
   rintro σ' H' ⟨rfl,rfl⟩
   refine ⟨_,rfl,_,rfl,_,rfl,_,_,rfl,zju hd1,?_⟩
   obtain ⟨-,k2⟩:=LS.set (a':=a + 1) (l':=if c < 0 then -c else c) hd1 hS1
   exact ⟨_,_,_,_,_,_,rfl,zac,k1.trans k2⟩
  ·exact ⟨_,_,_,_,a,l,rfl,hd,Keep.refl _ _⟩
 rintro σ' H' ⟨x2,x3,x4,x5,a',l',rfl,hd',k'⟩
 have hS':=zgR hd k' hS
 refine ⟨_,rfl,_,_,rfl,zhf hd',_,rfl,_,_,rfl,rfl,hm,?_⟩
 refine ⟨_,rfl,_,_,rfl,zhf hd',_,rfl,_,_,rfl,rfl,⟨hm,hm'⟩,_,rfl,_,_,rfl,zju hd',?_⟩
 obtain ⟨s1,k1⟩:=LS.set (a':=a') (l':=l' / m) hd' hS'
 refine ⟨_,rfl,?_⟩
 exact q _ _ (yb7 _ (by omega)) (yb8 _ hm) (k'.trans k1) s1
def zpA : Sp:=fun vs H Q _=>∃ a b : Nat,vs = [.int a,.int b]∧a≠b∧Q (.int (lu a b : Nat)) H
theorem zp1 (T : Txt K mg) (D_lowest_unlike : DF K mg "lowest_unlike" zbv zbq) : FC P w K mg base 1 "lowest_unlike" zbq zpA:=by
 refine D_lowest_unlike.ok sc_lowest_unlike (fun vs H Q E h=>?_) (fun f cdv A outer s H vs Q E hr h=>?_)
 ·obtain ⟨a,b,rfl,_⟩:=h
  rfl
 obtain ⟨a,b,rfl,hab,q⟩:=h
 refine ⟨_,(zae (zap (i:=2) sc_lowest_unlike.nd rfl (Or.inl rfl) (zar zpU (pv 0) (pv 1)))
   (zai (zaz (zar zbu (zpP F.plainAttrs_int F.slot_int_bit_length F.type_int_bit_length zg8 (zar zn5 (pv 2) (zhH ze4 (pv 2)))) zag)))),?_⟩
 refine ⟨_,rfl,_,rfl,_,_,rfl,rfl,_,rfl,_,rfl,_,rfl,_,_,rfl,rfl,rfl,_,rfl,rfl,_,_,rfl,rfl,?_⟩
 rw [← zqa a b hab] at q
 exact q
def zpB (K : Frag) : Sp:=fun vs H Q _=>∃ d L : Addr,vs = [.ref d]∧LS K L d H∧∀ (v : Int) (H' : Hp),-(10 ^ 60) < v→v < 10 ^ 60→Keep d H H'→LS K L d H'→Q (.int v) H'
theorem znw {x m : Int} (h1 : -999≤x) (h2 : x≤999) (h3 : 0 < m) (h4 : m≤10 ^ 57) : -(10 ^ 60) < x * m∧x * m < 10 ^ 60:=by
 have a:=Int.mul_le_mul_of_nonneg_right h2 (Int.le_of_lt h3)
 have b:=Int.mul_le_mul_of_nonneg_right h1 (Int.le_of_lt h3)
 omega
theorem zp3 (T : Txt K mg) (D_l_key : DF K mg "_law_key" zgU zfx) (F_l_take : FC P w K mg base 2 "_law_take" zbN (zgp K)) : FC P w K mg base 3 "_law_key" zfx (zpB K):=by
 refine D_l_key.ok sc_l_key (fun vs H Q E h=>?_) (fun f cdv A outer s H vs Q E hr h=>?_)
 ·obtain ⟨d,L,rfl,_⟩:=h
  rfl
 obtain ⟨d,L,rfl,hs,q⟩:=h
 refine ⟨_,(zae (zap (i:=1) sc_l_key.nd rfl (Or.inl rfl) (zaI F_l_take hr (zaa (pv 0) (zaa zag zad))))
   (zbp (zch (zaB zfM (pv 1) zag (zaN _)) (zai (zaz (zaI F_l_take hr (zaa (pv 0) (zaa zag zad))))) za7)
   (zbp (zch (zaB zfM (pv 1) zag (zaN _)) (zai (zaz (zar zbu (zaI F_l_take hr (zaa (pv 0) (zaa zag zad))) zag))) za7)
   (zbp (zch (zaB zeV (pv 1) zag (zaN _)) (zai (zaz (zar zbB (zar zbu (zaI F_l_take hr (zaa (pv 0) (zaa zag zad))) zag) (zaC zaw (zbF (zaa zag (zaa (zar zgv zag zag) (zaa (zar zgv zag zag) (zaa (zar zgv zag zag) zad))))) (zaI F_l_take hr (zaa (pv 0) (zaa zag zad))) (fun _ _=>rfl))))) za7)
   (zai (zaz (zar zbB (zaC zaw (zbF (zaa zag (zaa (zhH ze4 zag) zad))) (zaI F_l_take hr (zaa (pv 0) (zaa zag zad))) (fun _ _=>rfl)) (zar zbu (zar zbu (zar zgv zag zag) zag) (zaI F_l_take hr (zaa (pv 0) (zaa zag zad))))))))))),?_⟩
 refine ⟨_,rfl,d,L,8,rfl,by decide,hs,fun w1 H1 w0 w8 k1 s1=>?_⟩
 have nd : ∀ {H' : Hp} {p : Addr},LS K L d H'→H' p = none→p≠d:=fun s hp z=>by
  obtain ⟨_,_,_,e,_⟩:=s.ex
  rw [← z,hp] at e
  cases e
 refine ⟨fun σ' H'=>σ' = [some (.ref d),some (.int w1)]∧H1 = H',?_,?_⟩
 ·refine ⟨_,rfl,_,_,rfl,rfl,_,rfl,?_⟩
  refine ite2 (fun c=>?_) (fun c=>?_)
  ·refine ⟨_,rfl,d,L,10,rfl,by decide,s1,fun u H2 u0 u1 k2 s2=>?_⟩
   exact q u H2 (by omega) (by omega) (k1.trans k2) s2
  ·exact ⟨rfl,rfl⟩
 rintro σ' H' ⟨rfl,rfl⟩
 refine ⟨fun σ' H'=>σ' = [some (.ref d),some (.int w1)]∧H1 = H',?_,?_⟩
 ·refine ⟨_,rfl,_,_,rfl,rfl,_,rfl,?_⟩
  refine ite2 (fun c=>?_) (fun c=>?_)
  ·refine ⟨_,rfl,d,L,60,rfl,by decide,s1,fun u H2 u0 u1 k2 s2=>⟨_,_,rfl,rfl,?_⟩⟩
   exact q (u - 30) H2 (by omega) (by omega) (k1.trans k2) s2
  ·exact ⟨rfl,rfl⟩
 rintro σ' H' ⟨rfl,rfl⟩
 refine ⟨fun σ' H'=>σ' = [some (.ref d),some (.int w1)]∧H1 = H',?_,?_⟩
 ·refine ⟨_,rfl,rfl,_,rfl,?_⟩
  refine ite2 (fun c=>?_) (fun c=>?_)
  ·refine ⟨_,rfl,d,L,1999,rfl,by decide,s1,fun u H2 u0 u1 k2 s2=>⟨_,_,rfl,rfl,?_⟩⟩
   refine ⟨_,_,rfl,rfl,⟨by decide,by decide,by decide⟩,_,_,rfl,rfl,⟨by decide,by decide,by decide⟩,_,_,rfl,rfl,⟨by decide,by decide,by decide⟩,(by show 4≤sizeLine; decide),fun p hp=>?_⟩
   refine ⟨_,rfl,d,L,4,rfl,by decide,s2.of_new hp _,fun b H3 b0 b1 k3 s3=>?_⟩
   obtain ⟨m,hat,m0,m1⟩ : ∃ m : Int,atI [V.int 1,V.int (10 ^ (19 : Int).toNat),V.int (10 ^ (38 : Int).toNat),V.int (10 ^ (57 : Int).toNat)] b = some (.int m)∧0 < m∧m≤10 ^ 57:=by
    have z : b = 0∨b = 1∨b = 2∨b = 3:=by omega
    rcases z with rfl | rfl | rfl | rfl
    ·exact ⟨_,rfl,by decide +kernel,by decide +kernel⟩
    ·exact ⟨_,rfl,by decide +kernel,by decide +kernel⟩
    ·exact ⟨_,rfl,by decide +kernel,by decide +kernel⟩
    ·exact ⟨_,rfl,by decide +kernel,by decide +kernel⟩
   refine ⟨_,_,_,_,rfl,rfl,SqL.of (k3 p _ (nd s2 hp) zac),hat,_,_,rfl,rfl,.inl ⟨by omega,by omega⟩,?_⟩
   obtain ⟨f1,f2⟩:=znw (x:=u - 999) (m:=m) (by omega) (by omega) m0 m1
   exact q _ H3 f1 f2 ((k1.trans k2).trans ((zak hp _).keep.trans k3)) s3
  ·exact ⟨rfl,rfl⟩
 rintro σ' H' ⟨rfl,rfl⟩
 refine ⟨_,rfl,(by show 2≤sizeLine; decide),fun p hp=>?_⟩
 refine ⟨_,rfl,d,L,2,rfl,by decide,s1.of_new hp _,fun b H2 b0 b1 k2 s2=>?_⟩
 obtain ⟨m,hat,hm⟩ : ∃ m : Int,atI [V.int 1,V.int (-1)] b = some (.int m)∧(m = 1∨m = -1):=by
  have z : b = 0∨b = 1:=by omega
  rcases z with rfl | rfl
  ·exact ⟨_,rfl,.inl rfl⟩
  ·exact ⟨_,rfl,.inr rfl⟩
 refine ⟨_,_,_,_,rfl,rfl,SqL.of (k2 p _ (nd s1 hp) zac),hat,_,_,rfl,rfl,⟨by decide,by decide,by decide⟩,_,_,rfl,rfl,_,rfl,d,L,3,rfl,by decide,s2,fun u H3 u0 u1 k3 s3=>⟨_,_,rfl,rfl,_,_,rfl,rfl,.inl ⟨by omega,by omega⟩,?_⟩⟩
 have e60 : (10 : Int) ^ (60 : Int).toNat = 10 ^ 60:=rfl
 rw [e60]
 have kk:=k1.trans ((zak hp _).keep.trans (k2.trans k3))
 rcases hm with rfl | rfl
 ·exact q _ H3 (by omega) (by omega) kk s3
 ·exact q _ H3 (by omega) (by omega) kk s3
def Rise (es : List (Int×Int)) : Prop:=es.Pairwise fun a b=>pLt a b = true
def zd4 (k : Int) (e : Int×Int) : Prop:=-(10 ^ 60) < e.1∧e.1 < 10 ^ 60∧0≤e.2∧e.2 < k
theorem zlj {κ : Type} [DecidableEq κ] (kvs : List (κ×V)) (k : κ) (v : V) : (putK kvs k v).map (·.1) = if (kvs.any fun kv=>decide (kv.1 = k)) = true then kvs.map (·.1) else kvs.map (·.1) ++ [k]:=by
 unfold putK
 split
 ·rw [ybu]
  apply ycA
  intro a ha
  show (if a.1 = k then (a.1,v) else a).1 = a.1
  split <;> rfl
 ·rw [yaq]
  rfl
def zgj (e : Int×Int) : Int:=64 * (if 0≤e.1 then 2 * e.1 else -2 * e.1 - 1) + e.2
def zgi (e : Int×Int) : Nat:=(zgj e).toNat
theorem zeI {e : Int×Int} (h : zd4 64 e) : ((zgi e : Nat) : Int) = zgj e:=by
 obtain ⟨h1,h2,h3,h4⟩:=h
 unfold zgi zgj
 split <;> omega
theorem znM {e : Int×Int} (h : zd4 64 e) : zgi e < 2 ^ 207:=by
 have z:=zeI h
 obtain ⟨h1,h2,h3,h4⟩:=h
 unfold zgj at z
 split at z <;> omega
theorem zmy {e f : Int×Int} (h : zd4 64 e) (g : zd4 64 f) (z : zgi e = zgi f) : e = f:=by
 have z1:=zeI h
 have z2:=zeI g
 obtain ⟨h1,h2,h3,h4⟩:=h
 obtain ⟨g1,g2,g3,g4⟩:=g
 obtain ⟨a,b⟩:=e
 obtain ⟨c,d⟩:=f
 rw [z,z2] at z1
 unfold zgj at z1
 dsimp only at *
 have : a = c∧b = d:=by
  split at z1 <;> split at z1 <;> omega
 rw [this.1,this.2]
def zjm (K : Frag) : Sp:=fun vs H Q _=>∃ (v : V) (e : Int×Int),vs = [v]∧Rep.has K H e v∧Q (.int (zgj e)) H
theorem zoN (T : Txt K mg) (D_code : DF K mg "code" zjq zg1) : FC P w K mg base 1 "code" zg1 (zjm K):=by
 refine D_code.ok sc_code (fun vs H Q E h=>?_) (fun f cdv A outer s H vs Q E hr h=>?_)
 ·obtain ⟨v,e,rfl,_⟩:=h
  rfl
 obtain ⟨v,e,rfl,he,q⟩:=h
 obtain ⟨p,x1,x2,rfl,hT,e1,e2⟩:=(show hasP K H e v from he)
 have hT:=SqT.of (K:=K) hT
 have e1 : x1 = .int e.1:=e1
 have e2 : x2 = .int e.2:=e2
 subst e1 e2
 refine ⟨_,(zae (zap (i:=1) sc_code.nd rfl (Or.inl rfl) (zaC zbc (pv 0) zag (fun _ _=>rfl)))
   (zae (zap (i:=2) sc_code.nd rfl (Or.inl rfl) (zjw (zaB zpY (pv 1) zag (zaN _)) (zar zbB zag (pv 1)) (zar zbu (zar zbB (zhH ze4 zag) (pv 1)) zag)))
   (zai (zaz (zar zaS (zar zbB (zg2 rfl T.g_KNOT_NUMBERS) (pv 2)) (zaC zbc (pv 0) zag (fun _ _=>rfl))))))),?_⟩
 refine ⟨_,rfl,_,_,_,_,rfl,rfl,hT,rfl,?_⟩
 refine ⟨_,rfl,_,_,rfl,rfl,_,rfl,?_⟩
 refine ite2 (fun c=>?_) (fun c=>?_)
 ·have c' : 0≤e.1:=yaC c
  refine ⟨_,rfl,_,_,rfl,rfl,.inl ⟨by decide,by decide⟩,?_⟩
  refine ⟨_,rfl,_,_,rfl,rfl,.inl ⟨by decide,by decide⟩,_,rfl,_,_,_,_,rfl,rfl,hT,rfl,_,_,rfl,rfl,?_⟩
  unfold zgj at q
  rw [if_pos c'] at q
  exact q
 ·have c' : ¬ 0≤e.1:=ybA (ybz.mpr c)
  refine ⟨_,rfl,_,rfl,_,_,rfl,rfl,.inl ⟨by decide,by decide⟩,_,_,rfl,rfl,?_⟩
  refine ⟨_,rfl,_,_,rfl,rfl,.inl ⟨by decide,by decide⟩,_,rfl,_,_,_,_,rfl,rfl,hT,rfl,_,_,rfl,rfl,?_⟩
  unfold zgj at q
  rw [if_neg c'] at q
  exact q
abbrev nV (n : Nat) : V:=.int (n : Int)
theorem zn7 {v : Int} (h : 0≤v) : ∃ n : Nat,v = (n : Int):=⟨v.toNat,by omega⟩
theorem zga {xs : List Nat} {i : Nat} (h : i < xs.length) : atI (xs.map nV) (i : Int) = some (nV (xs.getD i 0)):=
 zaV (by rw [yaj,yac h,yad,yac h]; rfl)
theorem zmI {xs : List Nat} {i : Nat} (h0 : i≠0) (h : i < xs.length) : atI (xs.map nV) ((i : Int) - 1) = some (nV (xs.getD (i - 1) 0)):=by
 have e : (i : Int) - 1 = ((i - 1 : Nat) : Int):=by omega
 rw [e]
 exact zga (by omega)
theorem zh0 {xs : List Nat} {i : Nat} {x : V} (h : (xs.map nV)[i]? = some x) : i < xs.length∧x = nV (xs.getD i 0):=by
 rw [yaj] at h
 cases e : xs[i]? with
 | none=>rw [e] at h; cases h
 | some y=>
  rw [e] at h
  refine ⟨(yah.mp e).1,?_⟩
  rw [yad,e]
  exact (yaf h).symm
theorem zpi (n : Nat) : Builtin.bitAnd (n : Int) 1 = ((n % 2 : Nat) : Int):=by
 unfold Builtin.bitAnd
 rw [yan (ybr n),yan (by decide : (0 : Int)≤1)]
 show ((n &&& 1 : Nat) : Int) = _
 rw [Nat.and_one_is_mod]
theorem zqq (a b : Nat) : 2 * ((lu a b : Nat) : Int) + Builtin.bitAnd ((b : Int) / 2 ^ ((lu a b : Nat) : Int).toNat) 1 = ((fig a b : Nat) : Int):=by
 have e : (b : Int) / 2 ^ ((lu a b : Nat) : Int).toNat = ((b / 2 ^ lu a b : Nat) : Int):=by
  rw [yaU,Int.natCast_ediv,Int.natCast_pow]
  rfl
 rw [e,zpi]
 unfold fig
 omega
def But (p : Addr) (H H' : Hp) : Prop:=∀ b o,b≠p→H b = some o→H' b = some o
theorem But.sq {K : Frag} {p : Addr} {H H' : Hp} {a : Addr} {xs : List V} (k : But p H H') (h : SqL K H a xs) (n : H p = none) : SqL K H' a xs:=by
 rcases h with (h | ⟨o,h⟩) | h
 ·exact .inl (.inl (k _ _ (zab h n) h))
 ·exact .inl (.inr ⟨o,k _ _ (zab h n) h⟩)
 ·exact .inr h
theorem ziM (xs : List Nat) : (xs.map nV).all zgg = true:=by
 rw [ya1]
 intro x hx
 obtain ⟨n,_,rfl⟩:=yaF.mp hx
 rfl
theorem zmb (n : Nat) (xs : List Nat) : inV (.int (n : Int)) (xs.map nV) = decide (n∈xs):=by
 unfold inV
 induction xs with
 | nil=>rfl
 | cons x xs ih=>
  rw [yax,ybm,ih]
  show ((x : Int) == (n : Int) || decide (n∈xs)) = decide (n∈x :: xs)
  by_cases h : x = n
  ·subst h
   simp
  ·have : ((x : Int) == (n : Int)) = false:=by
    rw [beq_eq_false_iff_ne]
    omega
   rw [this,yb6]
   have e : (n∈x :: xs) = (n∈xs):=propext (by simp [Ne.symm h])
   simp [Ne.symm h]
def zfk (K : Frag) : Sp:=fun vs H Q _=>∃ (a : Addr) (xs : List Nat),vs = [.ref a]∧SqL K H a (xs.map nV)∧Unl xs∧xs.length≤1000∧
 ∀ (p : Addr) (H' : Hp),H p = none→Same H H'→H' p = some (.lst ((zb6 xs).map nV))→Q (.ref p) H'
theorem zlx (T : Txt K mg) (D_turned : DF K mg "turned" zfl zen) (F_lowest_unlike : FC P w K mg base 1 "lowest_unlike" zbq zpA) : FC P w K mg base 2 "turned" zen (zfk K):=by
 refine D_turned.ok sc_turned (fun vs H Q E h=>?_) (fun f cdv A outer s H vs Q E hr h=>?_)
 ·obtain ⟨a,xs,rfl,_⟩:=h
  rfl
 obtain ⟨a,xs,rfl,hS,hu,hz,q⟩:=h
 refine ⟨_,(zae (zap (i:=1) sc_turned.nd rfl (Or.inl rfl) (zbF zad))
   (zae (zaT PassesOwn.never rfl (zc4 rfl T.m_enumerate (zaa (pv 0) zad)) (ze6 rfl (za1 (zan (i:=2) sc_turned.nd rfl (Or.inl rfl)) (za1 (zan (i:=3) sc_turned.nd rfl (Or.inl rfl)) zc5))) (zai (zch (zaB zeV (pv 2) zag (zaN _)) (zai (zbe (zc7 F.plainAttrs_list F.slot_list_append F.type_list_append zaL (pv 1) (zaa (zar zcV (pv 3) zag) zad)))) (zae (zap (i:=4) sc_turned.nd rfl (Or.inl rfl) (zaI F_lowest_unlike hr (zaa (zaC zaw (pv 0) (zar zbu (pv 2) zag) (fun _ _=>rfl)) (zaa (pv 3) zad))))
   (zai (zbe (zc7 F.plainAttrs_list F.slot_list_append F.type_list_append zaL (pv 1) (zaa (zar zaS (zar zbB zag (pv 4)) (zar zn5 (zar zpV (pv 3) (pv 4)) zag)) zad))))))))
   (zai (zaz (pv 1))))),?_⟩
 refine ⟨(by show 0≤sizeLine; decide),fun p hp=>?_⟩
 have k0 : But p H (upd H p (.lst [])):=fun b o n e=>by rw [zaf n]; exact e
 refine ⟨_,rfl,a,rfl,⟨_,k0.sq hS hp⟩,?_⟩
 refine zhg (xs:=xs.map nV) (fun i σ H2=>∃ x2 x3 x4 : Option V,σ = [some (.ref a),some (.ref p),x2,x3,x4]∧H2 p = some (.lst (((zb6 xs).take i).map nV))∧But p H H2) ?_ ?_ ?_ ?_
 ·exact ⟨_,_,_,rfl,zac,k0⟩
 ·rintro i σ H2 _ ⟨x2,x3,x4,rfl,_,k2⟩
  exact k2.sq hS hp
 ·rintro i x σ H2 r hx ⟨x2,x3,x4,rfl,h2,k2⟩ hr
  obtain ⟨hi,rfl⟩:=zh0 hx
  have hS2:=k2.sq hS hp
  have np : p≠r:=zab h2 hr
  have h3 : upd H2 r (.tup [.int i,nV (xs.getD i 0)]) p = some (.lst (((zb6 xs).take i).map nV)):=by rw [zaf np]; exact h2
  have k3 : But p H (upd H2 r (.tup [.int i,nV (xs.getD i 0)])):=fun b o n e=>(zak hr _) b o (k2 b o n e)
  have hS3:=k3.sq hS hp
  have hlen : (((zb6 xs).take i).map nV).length < sizeLine:=zao (by rw [yab,yas,za3]; omega)
  refine ⟨r,_,rfl,SqT.of zac,rfl,_,_,rfl,_,_,rfl,rfl,?_⟩
  generalize upd H2 r (.tup [.int i,nV (xs.getD i 0)]) = H3 at h3 k3 hS3 ⊢
  have fin : ∀ v : V,v = nV (zcA xs i)→∃ y2 y3 y4 : Option V,[some (V.ref a),some (V.ref p),y2,y3,y4] = [some (V.ref a),some (V.ref p),y2,y3,y4]∧upd H3 p (.lst (((zb6 xs).take i).map nV ++ [v])) p = some (.lst (((zb6 xs).take (i + 1)).map nV))∧But p H (upd H3 p (.lst (((zb6 xs).take i).map nV ++ [v]))):=by
   rintro v rfl
   refine ⟨none,none,none,rfl,?_,fun b o n e=>by rw [zaf n]; exact k3 b o n e⟩
   rw [zac,zgm hi,yaq]
   rfl
  refine ⟨_,rfl,rfl,_,rfl,?_⟩
  refine ite2 (fun c=>?_) (fun c=>?_)
  ·have c' : i = 0:=by
    have:=V.int.inj (yaC c)
    omega
   refine ⟨_,rfl,.inl ⟨rfl,_,SqL.of h3⟩,_,rfl,_,_,rfl,rfl,(by show (0 : Int) < 2; decide),_,_,_,rfl,rfl,h3,hlen,?_⟩
   obtain ⟨_,_,_,_,g2,g3⟩:=fin (.int (((xs.getD i 0 : Nat) : Int) % 2)) (by
    unfold zcA
    rw [if_pos c',c']
    show V.int _ = V.int _
    rw [Int.natCast_emod]
    rfl)
   exact ⟨_,_,_,rfl,g2,g3⟩
  ·have c' : i≠0:=fun z=>c (by subst z; decide)
   have hne : xs.getD (i - 1) 0≠xs.getD i 0:=by
    have:=hu (i - 1) (by omega)
    rw [show i - 1 + 1 = i by omega] at this
    exact this
   refine ⟨_,rfl,_,rfl,_,_,rfl,rfl,_,_,_,_,rfl,rfl,hS3,zmI c' hi,_,rfl,_,_,rfl,hne,?_⟩
   refine ⟨_,rfl,.inl ⟨rfl,_,SqL.of h3⟩,_,rfl,_,_,rfl,rfl,.inl ⟨by decide,by decide⟩,_,rfl,_,rfl,_,_,rfl,rfl,ybr _,_,_,rfl,rfl,_,_,rfl,rfl,_,_,_,rfl,rfl,h3,hlen,?_⟩
   obtain ⟨_,_,_,_,g2,g3⟩:=fin (.int (2 * ((lu (xs.getD (i - 1) 0) (xs.getD i 0) : Nat) : Int) + Builtin.bitAnd (((xs.getD i 0 : Nat) : Int) / 2 ^ ((lu (xs.getD (i - 1) 0) (xs.getD i 0) : Nat) : Int).toNat) 1)) (by
    unfold zcA
    rw [if_neg c',zqq])
   exact ⟨_,_,_,rfl,g2,g3⟩
 ·rintro σ H2 ⟨x2,x3,x4,rfl,h2,k2⟩
  refine ⟨_,rfl,?_⟩
  refine q p H2 hp (fun b o e=>k2 b o (zab e hp) e) ?_
  rw [h2,yar (by rw [za3,yab]; exact yaa _)]
def zb4 : Nat→List Nat→List Nat
 | 0,xs=>xs
 | n + 1,xs=>zb6 (zb4 n xs)
theorem zbd (n : Nat) (xs : List Nat) : (zb4 n xs).length = xs.length:=by
 induction n with
 | zero=>rfl
 | succ n ih=>rw [zb4,za3,ih]
theorem zb3 {xs : List Nat} (h : Unl xs) (n : Nat) : Unl (zb4 n xs):=by
 induction n with
 | zero=>exact h
 | succ n ih=>exact zkT ih
theorem zdK {m k : Nat} {xs : List Nat} (h : zcZ m xs) (hk : m≤k) : zcZ k xs:=fun i hi=>yat (h i hi) hk
theorem zoo {xs : List Nat} (h : Unl xs) (hb : zcZ (2 ^ 207) xs) : zcZ 414 (zb4 1 xs):=zb5 (k:=207) (by decide) h hb
theorem zon {xs : List Nat} (h : Unl xs) (hb : zcZ (2 ^ 207) xs) : zcZ 18 (zb4 2 xs):=zb5 (k:=9) (by decide) (zb3 h 1) (zdK (zoo h hb) (by decide))
theorem zom {xs : List Nat} (h : Unl xs) (hb : zcZ (2 ^ 207) xs) : zcZ 10 (zb4 3 xs):=zb5 (k:=5) (by decide) (zb3 h 2) (zdK (zon h hb) (by decide))
theorem zol {xs : List Nat} (h : Unl xs) (hb : zcZ (2 ^ 207) xs) : zcZ 8 (zb4 4 xs):=zb5 (k:=4) (by decide) (zb3 h 3) (zdK (zom h hb) (by decide))
theorem zok {xs : List Nat} (h : Unl xs) (hb : zcZ (2 ^ 207) xs) : zcZ 6 (zb4 5 xs):=zb5 (k:=3) (by decide) (zb3 h 4) (zdK (zol h hb) (by decide))
def zbH (es : List (Int×Int)) : List Nat:=es.map zgi
theorem zaD (es : List (Int×Int)) : (zbH es).length = es.length:=yab _
theorem ze1 {es : List (Int×Int)} {i : Nat} (h : i < es.length) : (zbH es).getD i 0 = zgi es[i]:=by
 unfold zbH
 rw [yad,yaj,yac h]
 rfl
theorem ziT {es : List (Int×Int)} (h : ∀ e∈es,zd4 64 e) : zcZ (2 ^ 207) (zbH es):=fun i hi=>by
 rw [zaD] at hi
 rw [ze1 hi]
 exact znM (h _ (yaB hi))
theorem zeH {es : List (Int×Int)} (h : ∀ e∈es,zd4 64 e) (hr : Rise es) : Unl (zbH es):=fun i hi=>by
 rw [zaD] at hi
 rw [ze1 (by omega),ze1 hi]
 intro z
 have e:=zmy (h _ (yaB (by omega))) (h _ (yaB hi)) z
 have:=yaL.mp hr i (i + 1) (by omega) hi (by omega)
 rw [e] at this
 have q:=zcx.mp this
 omega
theorem zgI {es : List (Int×Int)} {i : Nat} (h : i < es.length) : (zbH es).take (i + 1) = (zbH es).take i ++ [zgi es[i]]:=by
 have h' : i < (zbH es).length:=by rw [zaD]; exact h
 have z : (zbH es)[i]'h' = zgi es[i]:=List.getElem_map zgi
 rw [yaH h',z]
def zji (K : Frag) : Sp:=fun vs H Q _=>∃ (a : Addr) (ws : List V) (es : List (Int×Int)),vs = [.ref a]∧SqL K H a ws∧zal K H es ws∧es.length≤1000∧(∀ e∈es,zd4 64 e)∧Rise es∧
 ∀ (p : Addr) (H' : Hp),H p = none→Same H H'→H' p = some (.lst ((zb4 5 (zbH es)).map nV))→Q (.ref p) H'
theorem zgJ {K : Frag} {H0 H2 : Hp} {D : Addr} {es : List (Int×Int)} {ws : List V} {i : Nat} {x : V} (hD : H0 D = none) (hw : zal K H0 es ws) (hx : ws[i]? = some x) (k : But D H0 H2) : ∃ h : i < es.length,Rep.has K H2 es[i] x:=by
 obtain ⟨e,h1,h2⟩:=hw.get hx
 have hi:=(yah.mp h1).1
 refine ⟨hi,?_⟩
 have z : es[i] = e:=(yah.mp h1).2
 rw [z]
 obtain ⟨a,x1,x2,rfl,q,e1,e2⟩:=(show hasP K H0 e x from h2)
 exact ⟨a,x1,x2,rfl,k _ _ (zab q hD) q,e1,e2⟩
theorem zlF (T : Txt K mg) (D_labels : DF K mg "labels" zfn zep) (F_code : FC P w K mg base 1 "code" zg1 (zjm K)) (F_turned : FC P w K mg base 2 "turned" zen (zfk K)) : FC P w K mg base 3 "labels" zep (zji K):=by
 refine D_labels.ok sc_labels (fun vs H Q E h=>?_) (fun f cdv A outer s H vs Q E hr h=>?_)
 ·obtain ⟨a,ws,es,rfl,_⟩:=h
  rfl
 obtain ⟨a,ws,es,rfl,hS,hw,hz,he,hri,q⟩:=h
 have hlen:=hw.length
 refine ⟨_,(zae (zdT (i:=1) (N:=["entry"]) (own:=1) (cap:=[]) sc_labels.nd rfl rfl rfl (zby (pv 0)) ⟨rfl,rfl,rfl,rfl,rfl,rfl⟩ (fun _ _ _ _ _=>(zan (i:=0) (show List.Nodup (["entry"] : List Str) by decide +kernel) rfl (Or.inl rfl))) (fun _ _ _ _ _=>zbP) (fun _ _ _ _ _=>(zaI F_code hr (zaa (pv 0) zad))))
   (zae (zaT PassesOwn.never rfl (zba rfl T.m_range (zaa (zg2 rfl T.g_TURNS) zad)) (zan (i:=2) sc_labels.nd rfl (Or.inl rfl)) (zai (zap (i:=1) sc_labels.nd rfl (Or.inl rfl) (zaI F_turned hr (zaa (pv 1) zad)))))
   (zai (zaz (pv 1))))),?_⟩
 refine ⟨_,rfl,a,rfl,⟨_,hS⟩,fun D hD=>?_⟩
 have k0 : But D H (upd H D (.lst [])):=fun b o n e=>by rw [zaf n]; exact e
 refine zbO (xs:=ws) (fun i σ H2=>∃ x0 : Option V,σ = [x0]∧H2 D = some (.lst (((zbH es).take i).map nV))∧But D H H2) ?_ ?_ ?_ ?_
 ·exact ⟨_,rfl,zac,k0⟩
 ·rintro i σ H2 _ ⟨x0,rfl,_,k2⟩
  exact k2.sq hS hD
 ·rintro i m x σ H2 hx hm ⟨x0,rfl,h2,k2⟩
  obtain ⟨hi,hhas⟩:=zgJ hD hw hx k2
  refine zcW ?_
  refine ⟨_,rfl,x,es[i],rfl,hhas,?_⟩
  refine ⟨_,h2,zao (by rw [yab,yas,zaD]; omega),m - 1,by omega,by omega,_,rfl,?_,fun b o n e=>by rw [zaf n]; exact k2 b o n e⟩
  rw [zac,zgI hi,yaq,← zeI (he _ (yaB hi))]
  rfl
 ·rintro σ H2 ⟨x0,rfl,h2,k2⟩
  have e0 : H2 D = some (.lst ((zbH es).map nV)):=by
   rw [h2,yar (by rw [zaD]; omega)]
  have same0 : Same H H2:=fun b o e=>k2 b o (zab e hD) e
  refine ⟨5,rfl,by decide,by decide,?_⟩
  refine zbg (n:=5) (fun i σ H3=>∃ (p : Addr) (x2 x3 : Option V),σ = [some (.ref a),some (.ref p),x2]∧H p = none∧Same H H3∧H3 p = some (.lst ((zb4 i (zbH es)).map nV))) ?_ ?_ ?_
  ·exact ⟨D,_,none,rfl,hD,same0,e0⟩
  ·rintro i σ H3 hi ⟨p,x2,x3,rfl,hp,s3,h3⟩
   refine ⟨_,rfl,p,_,rfl,SqL.of h3,zb3 (zeH he hri) i,by rw [zbd,zaD]; exact hz,fun p4 H4 hp4 s4 h4=>?_⟩
   exact ⟨p4,_,none,rfl,s3.free hp4,s3.trans s4,h4⟩
  ·rintro σ H3 ⟨p,x2,x3,rfl,hp,s3,h3⟩
   refine ⟨_,rfl,?_⟩
   exact q p H3 hp s3 h3
theorem znh (T : Txt K mg) (D_l_code : DF K mg "_law_code" zfr zes) : FC P w K mg base 1 "_law_code" zes (zjm K):=by
 refine D_l_code.ok sc_l_code (fun vs H Q E h=>?_) (fun f cdv A outer s H vs Q E hr h=>?_)
 ·obtain ⟨v,e,rfl,_⟩:=h
  rfl
 obtain ⟨v,e,rfl,he,q⟩:=h
 obtain ⟨p,x1,x2,rfl,hT,e1,e2⟩:=(show hasP K H e v from he)
 have hT:=SqT.of (K:=K) hT
 have e1 : x1 = .int e.1:=e1
 have e2 : x2 = .int e.2:=e2
 subst e1 e2
 refine ⟨_,(zae (ze5 (pv 0) (ze6 rfl (za1 (zan (i:=1) sc_l_code.nd rfl (Or.inl rfl)) (za1 (zan (i:=2) sc_l_code.nd rfl (Or.inl rfl)) zc5))))
   (zbp (zch (zaB zfM (pv 1) zag (zaN _)) (zai (zaz (zar zaS (zar zbB zag (zar zbu (zar zbB (zhH ze4 zag) (pv 1)) zag)) (pv 2)))) za7)
   (zai (zaz (zar zaS (zar zbB zag (pv 1)) (pv 2)))))),?_⟩
 refine ⟨_,rfl,p,_,rfl,hT,rfl,_,_,rfl,_,_,rfl,rfl,?_⟩
 refine ⟨fun σ' H'=>σ' = [some (.ref p),some (.int e.1),some (.int e.2)]∧H = H'∧0≤e.1,?_,?_⟩
 ·refine ⟨_,rfl,_,_,rfl,rfl,_,rfl,?_⟩
  refine ite2 (fun c=>?_) (fun c=>?_)
  ·have c' : e.1 < 0:=yaC c
   refine ⟨_,rfl,_,rfl,_,_,rfl,rfl,.inl ⟨by decide,by decide⟩,_,_,rfl,rfl,_,_,rfl,rfl,.inl ⟨by decide,by decide⟩,_,rfl,_,_,rfl,rfl,?_⟩
   unfold zgj at q
   rw [if_neg (by omega)] at q
   exact q
  ·exact ⟨rfl,rfl,by have:=ybA (ybz.mpr c); omega⟩
 rintro σ' H' ⟨rfl,rfl,c⟩
 refine ⟨_,rfl,_,_,rfl,rfl,.inl ⟨by decide,by decide⟩,_,rfl,_,_,rfl,rfl,?_⟩
 unfold zgj at q
 rw [if_pos c] at q
 have z : 64 * (2 * e.1) + e.2 = 128 * e.1 + e.2:=by omega
 rw [z] at q
 exact q
def wMes : L2.St→Hp→Nat:=fun σ _=>match σ with
 | [_,_,_,some (.int x),some (.int y),_]=>x.toNat + y.toNat
 | _=>0
theorem zkh (T : Txt K mg) (D_l_turned : DF K mg "_law_turned" zdn zcM) : FC P w K mg base 1 "_law_turned" zcM (zfk K):=by
 refine D_l_turned.ok sc_l_turned (fun vs H Q E h=>?_) (fun f cdv A outer s H vs Q E hr h=>?_)
 ·obtain ⟨a,xs,rfl,_⟩:=h
  rfl
 obtain ⟨a,xs,rfl,hS,hu,hz,q⟩:=h
 refine ⟨_,(zae (zap (i:=1) sc_l_turned.nd rfl (Or.inl rfl) (zbF zad))
   (zae (zaT PassesOwn.never rfl (zba rfl T.m_range (zaa (zas zam rfl T.m_len boot_len (zaa (pv 0) zad)) zad)) (zan (i:=2) sc_l_turned.nd rfl (Or.inl rfl)) (zai (zch (zaB zeV (pv 2) zag (zaN _)) (zai (zbe (zc7 F.plainAttrs_list F.slot_list_append F.type_list_append zaL (pv 1) (zaa (zar zcV (zaC zaw (pv 0) zag (fun _ _=>rfl)) zag) zad)))) (zae (zap (i:=3) sc_l_turned.nd rfl (Or.inl rfl) (zaC zaw (pv 0) (pv 2) (fun _ _=>rfl)))
   (zae (zap (i:=4) sc_l_turned.nd rfl (Or.inl rfl) (zaC zaw (pv 0) (zar zbu (pv 2) zag) (fun _ _=>rfl)))
   (zae (zap (i:=5) sc_l_turned.nd rfl (Or.inl rfl) zag)
   (zae (zem PassesOwn.never (zaB zeV (zar zcV (pv 3) zag) (zar zcV (pv 4) zag) (zaN _)) (zae (zap (i:=3) sc_l_turned.nd rfl (Or.inl rfl) (zar zeU (pv 3) zag))
   (zae (zap (i:=4) sc_l_turned.nd rfl (Or.inl rfl) (zar zeU (pv 4) zag))
   (zai (zap (i:=5) sc_l_turned.nd rfl (Or.inl rfl) (zar zaS (pv 5) zag))))))
   (zai (zbe (zc7 F.plainAttrs_list F.slot_list_append F.type_list_append zaL (pv 1) (zaa (zar zaS (zar zbB zag (pv 5)) (zar zcV (pv 3) zag)) zad)))))))))))
   (zai (zaz (pv 1))))),?_⟩
 refine ⟨(by show 0≤sizeLine; decide),fun p hp=>?_⟩
 have k0 : But p H (upd H p (.lst [])):=fun b o n e=>by rw [zaf n]; exact e
 refine ⟨_,rfl,_,_,rfl,.inl (k0.sq hS hp),_,rfl,by rw [yab]; omega,by rw [yab]; omega,?_⟩
 have el : ((((xs.map nV).length : Nat) : Int)).toNat = xs.length:=by rw [yab,yaU]
 rw [el]
 refine zbg (n:=xs.length) (fun i σ H2=>∃ x2 x3 x4 x5 : Option V,σ = [some (.ref a),some (.ref p),x2,x3,x4,x5]∧H2 p = some (.lst (((zb6 xs).take i).map nV))∧But p H H2) ?_ ?_ ?_
 ·exact ⟨_,_,_,_,rfl,zac,k0⟩
 ·rintro i σ H2 hi ⟨x2,x3,x4,x5,rfl,h2,k2⟩
  have hS2:=k2.sq hS hp
  have hlen : (((zb6 xs).take i).map nV).length < sizeLine:=zao (by rw [yab,yas,za3]; omega)
  have fin : ∀ v : V,v = nV (zcA xs i)→upd H2 p (.lst (((zb6 xs).take i).map nV ++ [v])) p = some (.lst (((zb6 xs).take (i + 1)).map nV))∧But p H (upd H2 p (.lst (((zb6 xs).take i).map nV ++ [v]))):=by
   rintro v rfl
   refine ⟨?_,fun b o n e=>by rw [zaf n]; exact k2 b o n e⟩
   rw [zac,zgm hi,yaq]
   rfl
  refine ⟨_,rfl,rfl,_,rfl,?_⟩
  refine ite2 (fun c=>?_) (fun c=>?_)
  ·have c' : i = 0:=by
    have:=V.int.inj (yaC c)
    omega
   have hat : atI (xs.map nV) 0 = some (nV (xs.getD 0 0)):=zga (i:=0) (by omega)
   refine ⟨_,rfl,.inl ⟨rfl,_,SqL.of h2⟩,_,rfl,_,_,_,_,rfl,rfl,hS2,hat,_,_,rfl,rfl,(by show (0 : Int) < 2; decide),_,_,_,rfl,rfl,h2,hlen,?_⟩
   obtain ⟨g2,g3⟩:=fin (.int (((xs.getD 0 0 : Nat) : Int) % 2)) (by
    unfold zcA
    rw [if_pos c']
    show V.int _ = V.int _
    rw [Int.natCast_emod]
    rfl)
   exact ⟨_,_,_,_,rfl,g2,g3⟩
  ·have c' : i≠0:=fun z=>c (by subst z; decide)
   have hne : xs.getD (i - 1) 0≠xs.getD i 0:=by
    have:=hu (i - 1) (by omega)
    rw [show i - 1 + 1 = i by omega] at this
    exact this
   have hat : atI (xs.map nV) (0 + (i : Int)) = some (nV (xs.getD i 0)):=by rw [yba]; exact zga hi
   have hatp : atI (xs.map nV) (0 + (i : Int) - 1) = some (nV (xs.getD (i - 1) 0)):=by rw [yba]; exact zmI c' hi
   refine ⟨_,rfl,_,rfl,_,_,_,_,rfl,rfl,hS2,hat,?_⟩
   refine ⟨_,rfl,_,rfl,_,_,rfl,rfl,_,_,_,_,rfl,rfl,hS2,hatp,?_⟩
   have et : zcA xs i = fig (xs.getD (i - 1) 0) (xs.getD i 0):=by unfold zcA; rw [if_neg c']
   rw [et] at fin
   generalize xs.getD (i - 1) 0 = Y at *
   generalize xs.getD i 0 = X at *
   refine zi5 (fun σ H'=>∃ x y j : Nat,σ = [some (.ref a),some (.ref p),some (.int (0 + i)),some (.int x),some (.int y),some (.int j)]∧H' = H2∧x≠y∧lu Y X = j + lu y x∧x = X / 2 ^ j) wMes ?_ ?_ ?_
   ·exact ⟨X,Y,0,rfl,rfl,Ne.symm hne,by omega,by rw [Nat.pow_zero,Nat.div_one]⟩
   ·rintro σ H' ⟨x,y,j,rfl,rfl,hxy,hl,hx⟩
    refine ⟨_,rfl,_,_,rfl,rfl,(by show (0 : Int) < 2; decide),_,rfl,_,_,rfl,rfl,(by show (0 : Int) < 2; decide),rfl,_,rfl,?_⟩
    refine ite2 (fun e=>?_) (fun e=>?_)
    ·have e' : x % 2 = y % 2:=by
      have:=V.int.inj (yaC e)
      omega
     refine ⟨_,rfl,_,_,rfl,rfl,⟨by decide,by decide⟩,_,rfl,_,_,rfl,rfl,⟨by decide,by decide⟩,_,rfl,_,_,rfl,rfl,?_⟩
     refine ⟨⟨x / 2,y / 2,j + 1,?_,rfl,by omega,?_,?_⟩,?_⟩
     ·rw [Int.natCast_ediv,Int.natCast_ediv,Int.natCast_add]
      rfl
     ·rw [hl,zhd (Ne.symm hxy) e'.symm]
      omega
     ·rw [hx,ybK,Nat.div_div_eq_div_mul]
     ·show ((x : Int) / 2).toNat + ((y : Int) / 2).toNat < (x : Int).toNat + (y : Int).toNat
      omega
    ·have e' : x % 2≠y % 2:=fun z=>e (by
      apply yan
      show V.int _ = V.int _
      have z' : (x : Int) % 2 = (y : Int) % 2:=by omega
      rw [z'])
     rw [zjH (Ne.symm e')] at hl
     refine ⟨_,rfl,.inl ⟨rfl,_,SqL.of h2⟩,_,rfl,_,_,rfl,rfl,.inl ⟨by decide,by decide⟩,_,rfl,_,_,rfl,rfl,(by show (0 : Int) < 2; decide),_,_,rfl,rfl,_,_,_,rfl,rfl,h2,hlen,?_⟩
     obtain ⟨g2,g3⟩:=fin (.int (2 * (j : Int) + (x : Int) % 2)) (by
      show V.int _ = V.int _
      unfold fig
      rw [hl,ybq,← hx,Int.natCast_add,Int.natCast_mul,Int.natCast_emod]
      rfl)
     exact ⟨_,_,_,_,rfl,g2,g3⟩
   ·intro σ H Q Q' m h
    obtain ⟨x1,e1,i1,j1,f1,g1,c1,x2,e2,i2,j2,f2,g2,c2,r1,b,e,q⟩:=h
    exact ⟨x1,e1,i1,j1,f1,g1,c1,x2,e2,i2,j2,f2,g2,c2,r1,b,e,m _ _ q⟩
 ·rintro σ H2 ⟨x2,x3,x4,x5,rfl,h2,k2⟩
  refine ⟨_,rfl,?_⟩
  refine q p H2 hp (fun b o e=>k2 b o (zab e hp) e) ?_
  rw [h2,yar (by rw [za3]; exact yaa _)]
theorem zgV {n d i : Nat} : HT.sIx n d (some (i : Int)) = min i n:=by
 unfold HT.sIx
 simp
 try omega
theorem zhk (xs : List V) (a b : Nat) : cutV xs (some (a : Int)) (some (b : Int)) = (xs.drop a).take (b - a):=by
 unfold cutV
 rw [zgV,zgV]
 by_cases h : a≤xs.length
 ·rw [ybo h]
  by_cases h2 : b≤xs.length
  ·rw [ybo h2]
  ·rw [ybU (by omega),yar (by rw [ybb]; exact yaa _),yar (by rw [ybb]; omega)]
 ·rw [ybU (show xs.length≤a by omega),ya2 (yaa _),ya2 (show xs.length≤a by omega)]
  simp
theorem zgn {α : Type} (xs : List α) (k : Nat) : (xs.drop k).take 1 = xs[k]?.toList:=by
 by_cases h : k < xs.length
 ·rw [List.drop_eq_getElem_cons h,yac h]
  rfl
 ·rw [ya2 (by omega),yaM (by omega)]
  rfl
theorem zh7 {xs : List V} {k : Nat} {i j : Int} (hi : i = if (k : Int) - 1 > 0 then (k : Int) - 1 else 0) (hj : j = (k : Int)) : cutV xs (some i) (some j) = (if k = 0 then none else xs[k - 1]?).toList:=by
 subst hj
 have e : i = ((k - 1 : Nat) : Int):=by
  rw [hi]
  split <;> omega
 subst e
 rw [zhk]
 split
 ·rename_i h
  subst h
  simp
 ·rw [show k - (k - 1) = 1 by omega,zgn]
theorem zgH {xs : List V} {k : Nat} {i j : Int} (hi : i = (k : Int) + 1) (hj : j = (k : Int) + 2) : cutV xs (some i) (some j) = xs[k + 1]?.toList:=by
 subst hi hj
 rw [show (k : Int) + 1 = ((k + 1 : Nat) : Int) by omega,show (k : Int) + 2 = ((k + 2 : Nat) : Int) by omega,zhk,show k + 2 - (k + 1) = 1 by omega,zgn]
theorem zf6 (xs : List Nat) (k : Nat) : (if k = 0 then none else (xs.map nV)[k - 1]?).toList ++ (xs.map nV)[k + 1]?.toList = (zaG xs k).map nV:=by
 unfold zaG
 rw [yaq,yaj,yaj]
 congr 1
 ·split
  ·rfl
  ·cases xs[k - 1]? <;> rfl
 ·cases xs[k + 1]? <;> rfl
theorem zgk (xs : List Nat) (k : Nat) : (zaG xs k).length≤2:=by
 have e : ∀ o : Option Nat,o.toList.length≤1:=fun o=>by cases o <;> simp
 unfold zaG
 rw [yai]
 have:=e (if k = 0 then none else xs[k - 1]?)
 have:=e xs[k + 1]?
 omega
theorem But.new {p b : Addr} {H H2 : Hp} (k : But p H H2) (hb : H2 b = none) (o : HO) : But p H (upd H2 b o):=fun x o' n e=>(zak hb o) x o' (k x o' n e)
theorem zou {K : Frag} {i j : Nat} {σ : L2.St} {H2 : Hp} {Q : VK} {a : Addr} {xs : List Nat} {k : Nat} {z : Int} (ez : z = (k : Int)) (e1 : σ[i]? = some (some (.ref a))) (e2 : σ[j]? = some (some (.int z))) (h2a : H2 a = some (.lst (xs.map nV)))
  (q : ∀ g H5,H2 g = none→Same H2 H5→H5 g = some (.lst ((zaG xs k).map nV))→Q (.ref g) H5) :
  tOp rCat (tSl (rSlL K) (tVar i) (zk0 (tCB (fun xs H Q=>∃ i j,xs = [V.int i,V.int j]∧Q (V.int (if j > i then j else i)) H) (zos (tC (V.int 0)) (zos (tOp (rI0 fun i j=>V.int (i - j)) (tVar j) (tC (V.int 1))) tNil)))) (zk0 (tVar j)))
   (tSl (rSlL K) (tVar i) (zk0 (tOp (rI0 fun i j=>V.int (i + j)) (tVar j) (tC (V.int 1)))) (zk0 (tOp (rI0 fun i j=>V.int (i + j)) (tVar j) (tC (V.int 2))))) σ H2 Q:=by
 subst ez
 refine ⟨_,e1,_,e2,_,_,rfl,rfl,_,_,rfl,_,rfl,_,e2,_,rfl,_,_,rfl,SqL.of h2a,fun b hb=>?_⟩
 have kb:=zak hb (.lst (cutV (xs.map nV) (some (if (k : Int) - 1 > 0 then (k : Int) - 1 else 0)) (some (k : Int))))
 have hbb : upd H2 b (.lst (cutV (xs.map nV) (some (if (k : Int) - 1 > 0 then (k : Int) - 1 else 0)) (some (k : Int)))) b = some (.lst (if k = 0 then none else (xs.map nV)[k - 1]?).toList):=by
  rw [zac,zh7 (k:=k) rfl rfl]
 generalize upd H2 b (.lst (cutV (xs.map nV) (some (if (k : Int) - 1 > 0 then (k : Int) - 1 else 0)) (some (k : Int)))) = H3 at kb hbb ⊢
 refine ⟨_,e1,_,e2,_,_,rfl,rfl,_,rfl,_,e2,_,_,rfl,rfl,_,rfl,_,_,rfl,SqL.of (kb _ _ h2a),fun c hc=>?_⟩
 have kc:=zak hc (.lst (cutV (xs.map nV) (some ((k : Int) + 1)) (some ((k : Int) + 2))))
 have hcb:=kc _ _ hbb
 have hcc : upd H3 c (.lst (cutV (xs.map nV) (some ((k : Int) + 1)) (some ((k : Int) + 2)))) c = some (.lst (xs.map nV)[k + 1]?.toList):=by
  rw [zac,zgH (k:=k) rfl rfl]
 generalize upd H3 c (.lst (cutV (xs.map nV) (some ((k : Int) + 1)) (some ((k : Int) + 2)))) = H4 at kc hcb hcc ⊢
 refine ⟨b,c,_,_,rfl,rfl,hcb,hcc,?_,fun g hg=>?_⟩
 ·rw [← yai,zf6,yab]
  exact yao (zgk _ _) (by decide)
 rw [zf6]
 exact q g _ (kb.free (kc.free hg)) (kb.trans (kc.trans (zak hg _))) zac
def zd9 (K : Frag) : Sp:=fun vs H Q _=>∃ (a : Addr) (xs : List Nat),vs = [.ref a]∧SqL K H a (xs.map nV)∧Unl xs∧zcZ 6 xs∧xs.length≤1000∧
 ∀ (p : Addr) (H' : Hp),H p = none→Same H H'→H' p = some (.lst ((colL xs).map nV))→Q (.ref p) H'
def za4 (es : List (Int×Int)) : List Bool:=zez (colL (zb4 5 (zbH es)))
theorem za8 (es : List (Int×Int)) : (za4 es).length = es.length:=by
 unfold za4
 rw [zey,zd1,zbd,zaD]
theorem zfS {es : List (Int×Int)} (he : ∀ e∈es,zd4 64 e) (hri : Rise es) : Unl (zb4 5 (zbH es)):=zb3 (zeH he hri) 5
theorem zfT {es : List (Int×Int)} (he : ∀ e∈es,zd4 64 e) (hri : Rise es) : zcZ 6 (zb4 5 (zbH es)):=zok (zeH he hri) (ziT he)
theorem zmG {xs : List Nat} (h : zcZ 6 xs) : ∀ i x,atZ xs i = some x→x≤5:=fun i x e=>by
 obtain ⟨h0,h1⟩:=zhq e
 have:=h i.toNat (by omega)
 unfold atZ at e
 rw [if_pos h0] at e
 rw [yad,e] at this
 exact Nat.lt_succ_iff.mp this
theorem zhS {es : List (Int×Int)} (he : ∀ e∈es,zd4 64 e) (hri : Rise es) : zdk (za4 es):=zlQ (zhl (unlZ (zfS he hri))) (zpf (zmG (zfT he hri)))
def zgP (K : Frag) : Sp:=fun vs H Q _=>∃ (a : Addr) (ws : List V) (es : List (Int×Int)),vs = [.ref a]∧H a = some (.lst ws)∧zal K H es ws∧es.length≤1000∧(∀ e∈es,zd4 64 e)∧Rise es∧
 ∀ (p : Addr) (H' : Hp),H p = none→Same H H'→H' p = some (.lst ((za4 es).map V.bl))→Q (.ref p) H'
def zjl (K : Frag) : Sp:=fun vs H Q _=>∃ (a : Addr) (ws : List V) (es : List (Int×Int)),vs = [.ref a]∧H a = some (.lst ws)∧zal K H es ws∧es.length≤1000∧(∀ e∈es,zd4 64 e)∧Rise es∧
 ∀ (p : Addr) (H' : Hp),H p = none→Same H H'→H' p = some (.lst (zbX ws (za4 es)))→Q (.ref p) H'
theorem zeN {α : Type} (xs : List α) (m j : Nat) : (xs.drop m).take (j + 1) = xs[m]?.toList ++ (xs.drop (m + 1)).take j:=by
 by_cases h : m < xs.length
 ·rw [List.drop_eq_getElem_cons h,yac h]
  rfl
 ·rw [ya2 (by omega),yaM (by omega),ya2 (by omega)]
  simp
theorem zcB (o : Option Bool) : o.toList.any id = o.getD false:=by
 cases o with
 | none=>rfl
 | some b=>cases b <;> rfl
theorem any3 (ms : List Bool) {k : Nat} (h : 1≤k) : ((ms.drop (k - 1)).take 3).any id = !zdg ms k:=by
 rw [zeN,zeN,zeN,yck,yck,yck,zcB,zcB,zcB,show k - 1 + 1 = k by omega,ybY]
 unfold zdg
 rw [yad,yad,yad]
 generalize ms[k - 1]?.getD false = x
 generalize ms[k]?.getD false = y
 generalize ms[k + 1]?.getD false = z
 cases x <;> cases y <;> cases z <;> rfl
theorem zjQ (ms : List Bool) : inV (.bl true) (ms.map V.bl) = ms.any id:=by
 unfold inV
 induction ms with
 | nil=>rfl
 | cons m ms ih=>
  rw [yax,ybm,ih,ybm]
  cases m <;> rfl
theorem zmm (ms : List Bool) : (ms.map V.bl).all zgg = true:=by
 rw [ya1]
 intro x hx
 obtain ⟨n,_,rfl⟩:=yaF.mp hx
 rfl
theorem zpe {ms : List Bool} {k : Nat} {i j : Int} (h : 1≤k) (hi : i = (k : Int) - 1) (hj : j = (k : Int) + 2) : cutV (ms.map V.bl) (some i) (some j) = ((ms.drop (k - 1)).take 3).map V.bl:=by
 subst hi hj
 rw [show (k : Int) - 1 = ((k - 1 : Nat) : Int) by omega,show (k : Int) + 2 = ((k + 2 : Nat) : Int) by omega,zhk,show k + 2 - (k - 1) = 3 by omega,ybI,List.map_drop]
theorem zfW {α : Type} {as : List α} {bs : List Bool} {a : α} {b : Bool} (h : as.length = bs.length) : zbX (as ++ [a]) (bs ++ [b]) = zbX as bs ++ (if b = true then [a] else []):=by
 unfold zbX
 rw [List.zip_append h,yaP,yaq]
 congr 1
 cases b <;> rfl
theorem zfX {α : Type} (as : List α) (bs : List Bool) : (zbX as bs).length≤as.length:=by
 unfold zbX
 rw [yab]
 refine yao (ya9 _ _) ?_
 rw [ych]
 omega
theorem zjU {α : Type} [Rep α] {K : Frag} {H : Hp} : ∀ {es : List α} {ws : List V} {ms : List Bool},zal K H es ws→zal K H (zbX es ms) (zbX ws ms)
 | _,_,_,.nil=>by
  unfold zbX
  exact .nil
 | e :: es,w :: ws,[],.cons h t=>by
  unfold zbX
  exact .nil
 | e :: es,w :: ws,m :: ms,.cons h t=>by
  have:=zjU (ms:=ms) t
  unfold zbX at this ⊢
  cases m with
  | false=>exact this
  | true=>exact .cons h this
theorem zbL (bs : List Nat) (c : Nat) : ((List.range (c + 1)).filter fun c=>!decide (c∈bs)) = ((List.range c).filter fun c=>!decide (c∈bs)) ++ (if c∈bs then [] else [c]):=by
 rw [ybj,yaP]
 congr 1
 by_cases h : c∈bs
 ·rw [if_pos h]
  simp [List.filter,h]
 ·rw [if_neg h]
  simp [List.filter,h]
theorem zbK {H : Hp} {p t : Addr} {xs ys : List V} (h1 : H p = some (.lst xs)) (h2 : H t = some (.tup ys)) : p≠t:=fun z=>by
 rw [z,h2] at h1
 cases h1
theorem zeX {n k : Nat} (h : k < n) : ixN n (k : Int) = some k:=by
 unfold ixN
 simp
 omega
def besV (xs : List V) (k : Nat) : List V:=(if k = 0 then none else xs[k - 1]?).toList ++ xs[k + 1]?.toList
theorem ziU (xs : List V) (k : Nat) : (besV xs k).length≤2:=by
 have e : ∀ o : Option V,o.toList.length≤1:=fun o=>by cases o <;> simp
 unfold besV
 rw [yai]
 have:=e (if k = 0 then none else xs[k - 1]?)
 have:=e xs[k + 1]?
 omega
def spNb (K : Frag) : Sp:=fun vs H Q _=>∃ (a : Addr) (xs : List V) (k : Nat),vs = [.ref a,.int k]∧H a = some (.lst xs)∧
 ∀ (g : Addr) (H' : Hp),H g = none→Same H H'→H' g = some (.lst (besV xs k))→Q (.ref g) H'
theorem zg6 (T : Txt K mg) (D_neighbours : DF K mg "neighbours" zck zbx) : FC P w K mg base 1 "neighbours" zbx (spNb K):=by
 refine D_neighbours.ok sc_neighbours (fun vs H Q E h=>?_) (fun f cdv A outer s H vs Q E hr h=>?_)
 ·obtain ⟨a,xs,k,rfl,_⟩:=h
  rfl
 obtain ⟨a,xs,k,rfl,ha,q⟩:=h
 refine ⟨_,(zai (zaz (zar zlw (zdC zeR (pv 0) (zca (zas (zf5 rfl) rfl T.m_max boot_max (zaa (zar zbu (pv 1) zag) (zaa zag zad)))) (zca (pv 1))) (zdC zeR (pv 0) (zca (zar zaS (pv 1) zag)) (zca (zar zaS (pv 1) zag)))))),?_⟩
 refine ⟨_,rfl,_,rfl,_,_,rfl,rfl,_,_,rfl,_,rfl,_,rfl,_,rfl,_,_,rfl,SqL.of ha,fun b hb=>?_⟩
 have kb:=zak hb (.lst (cutV xs (some (if 0 > (k : Int) - 1 then 0 else (k : Int) - 1)) (some (k : Int))))
 have hbb : upd H b (.lst (cutV xs (some (if 0 > (k : Int) - 1 then 0 else (k : Int) - 1)) (some (k : Int)))) b = some (.lst (if k = 0 then none else xs[k - 1]?).toList):=by
  rw [zac,zh7 (k:=k) (by split <;> split <;> omega) rfl]
 generalize upd H b (.lst (cutV xs (some (if 0 > (k : Int) - 1 then 0 else (k : Int) - 1)) (some (k : Int)))) = H3 at kb hbb ⊢
 refine ⟨_,rfl,_,rfl,_,_,rfl,rfl,_,rfl,_,rfl,_,_,rfl,rfl,_,rfl,_,_,rfl,SqL.of (kb _ _ ha),fun c hc=>?_⟩
 have kc:=zak hc (.lst (cutV xs (some ((k : Int) + 1)) (some ((k : Int) + 2))))
 have hcb:=kc _ _ hbb
 have hcc : upd H3 c (.lst (cutV xs (some ((k : Int) + 1)) (some ((k : Int) + 2)))) c = some (.lst xs[k + 1]?.toList):=by
  rw [zac,zgH (k:=k) rfl rfl]
 generalize upd H3 c (.lst (cutV xs (some ((k : Int) + 1)) (some ((k : Int) + 2)))) = H4 at kc hcb hcc ⊢
 refine ⟨b,c,_,_,rfl,rfl,hcb,hcc,?_,fun g hg=>?_⟩
 ·rw [← yai]
  exact yao (ziU xs k) (by decide)
 exact q g _ (kb.free (kc.free hg)) (kb.trans (kc.trans (zak hg _))) zac
def zn0 (K : Frag) : Sp:=fun vs H Q _=>∃ (a : Addr) (xs : List Nat) (k : Nat),vs = [.ref a]∧H a = some (.lst ((zaG xs k).map nV))∧
 ∀ H' : Hp,Same H H'→Q (.int (zce xs k : Nat)) H'
theorem zg7 (T : Txt K mg) (D_least_free : DF K mg "least_free" zcl zbU) : FC P w K mg base 1 "least_free" zbU (zn0 K):=by
 refine D_least_free.ok sc_least_free (fun vs H Q E h=>?_) (fun f cdv A outer s H vs Q E hr h=>?_)
 ·obtain ⟨a,xs,k,rfl,_⟩:=h
  rfl
 obtain ⟨a,xs,k,rfl,ha,q⟩:=h
 refine ⟨_,(zai (zaz (zas (zmB rfl) rfl T.m_min boot_min (zaa (zbQ (N:=["colour","taken"]) (own:=1) (cap:=[0]) rfl (zc2 (zbz (zaa zag (zaa zag (zaa zag zad))))) ⟨rfl,rfl,rfl,rfl,rfl,rfl⟩ (fun _ _ _ _ _=>(zan (i:=0) (show List.Nodup (["colour","taken"] : List Str) by decide +kernel) rfl (Or.inl rfl))) (fun _ _ _ _ _=>(zc1 (zaB (zew (K:=K)) (pv 0) (pv 1) (by with_unfolding_all rfl)))) (fun _ _ _ _ _=>(pv 0))) zad)))),?_⟩
 refine ⟨(by show 3≤sizeLine; decide),fun t ht=>?_⟩
 have st:=zak ht (.tup [V.int 0,V.int 1,V.int 2])
 have ht1 : upd H t (.tup [V.int 0,V.int 1,V.int 2]) t = some (.tup [V.int 0,V.int 1,V.int 2]):=zac
 generalize upd H t (.tup [V.int 0,V.int 1,V.int 2]) = H1 at st ht1 ⊢
 have h1a:=st _ _ ha
 refine ⟨t,rfl,⟨_,SqT.of ht1⟩,fun D hD=>?_⟩
 refine zeG (xs:=[V.int 0,V.int 1,V.int 2]) (fun c σ H6=>∃ x0 : Option V,σ = [x0,some (.ref a)]∧H6 D = some (.lst (((List.range c).filter fun c=>!decide (c∈zaG xs k)).map nV))∧But D H1 H6) ?_ ?_ ?_ ?_
 ·exact ⟨_,rfl,zac,fun b o n e=>by rw [zaf n]; exact e⟩
 ·rintro i σ H6 _ ⟨x0,rfl,_,k6⟩
  exact SqT.of (k6 _ _ (zab ht1 hD) ht1)
 ·rintro c m x σ H6 hx hm ⟨x0,rfl,h6,k6⟩
  obtain ⟨hi,rfl⟩ : c < 3∧x = V.int (c : Int):=by
   rcases c with _ | _ | _ | c
   ·exact ⟨by decide,(yaf hx).symm⟩
   ·exact ⟨by decide,(yaf hx).symm⟩
   ·exact ⟨by decide,(yaf hx).symm⟩
   ·cases hx
  have h6g:=k6 _ _ (zab h1a hD) h1a
  have hlen:=ya9 (fun c=>!decide (c∈zaG xs k)) (List.range c)
  rw [yaG] at hlen
  refine ⟨_,rfl,_,rfl,_,_,rfl,.inl (SqL.of h6g),rfl,ziM _,_,rfl,?_⟩
  show if (!inV (.int (c : Int)) ((zaG xs k).map nV)) = true then _ else _
  rw [zmb]
  have hm3 : c + m = 3:=hm
  refine ite2 (fun e=>?_) (fun e=>?_)
  ·have e' : c∉zaG xs k:=fun z=>by
    rw [yan z] at e
    cases e
   refine ⟨_,rfl,_,h6,zao (by rw [yab]; omega),m - 1,by omega,(by show c + 1 + (m - 1) = 3; omega),_,rfl,?_,fun b o n e=>by rw [zaf n]; exact k6 b o n e⟩
   rw [zac,zbL,if_neg e',yaq]
   rfl
  ·have e' : c∈zaG xs k:=Decidable.byContradiction fun z=>e (by rw [yam z]; rfl)
   refine ⟨m - 1,by omega,(by show c + 1 + (m - 1) = 3; omega),_,rfl,?_,k6⟩
   rw [h6,zbL,if_pos e',yaD]
 ·rintro σ H6 ⟨x0,rfl,h6,k6⟩
  have h6 : H6 D = some (.lst (((List.range 3).filter fun c=>!decide (c∈zaG xs k)).map nV)):=h6
  have s6 : Same H1 H6:=fun b o e=>k6 b o (zab e hD) e
  have mem : ∀ c,c∈((List.range 3).filter fun c=>!decide (c∈zaG xs k))↔c < 3∧c∉zaG xs k:=fun c=>by
   rw [ya0,yaQ]
   constructor
   ·rintro ⟨h1,h2⟩
    refine ⟨h1,fun z=>?_⟩
    rw [yan z] at h2
    cases h2
   ·rintro ⟨h1,h2⟩
    exact ⟨h1,by rw [yam h2]; rfl⟩
  have hf : zce xs k∈((List.range 3).filter fun c=>!decide (c∈zaG xs k)):=(mem _).mpr ⟨yb0 (zh2 xs k),zgF⟩
  refine ⟨D,((List.range 3).filter fun c=>!decide (c∈zaG xs k)).map fun n : Nat=>(n : Int),rfl,?_,?_,fun M hM hL=>?_⟩
  ·rw [ybu]
   exact SqL.of h6
  ·rw [yab]
   exact List.length_pos_of_mem hf
  have eM : M = (zce xs k : Int):=by
   have h1:=hL _ (yaF.mpr ⟨_,hf,rfl⟩)
   obtain ⟨c,hc,rfl⟩:=yaF.mp hM
   have h2 : ¬ c < zce xs k:=fun z=>((mem c).mp hc).2 (zfc z)
   omega
  rw [eM]
  exact q _ (st.trans s6)
theorem zpg (xs : List Nat) (k : Nat) : besV (xs.map nV) k = (zaG xs k).map nV:=zf6 xs k
theorem zki (T : Txt K mg) (D_colours : DF K mg "colours" zei zdz) (F_neighbours : FC P w K mg base 1 "neighbours" zbx (spNb K)) (F_least_free : FC P w K mg base 1 "least_free" zbU (zn0 K)) : FC P w K mg base 3 "colours" zdz (zd9 K):=by
 refine D_colours.ok sc_colours (fun vs H Q E h=>?_) (fun f cdv A outer s H vs Q E hr h=>?_)
 ·obtain ⟨a,xs,rfl,_⟩:=h
  rfl
 obtain ⟨a,xs,rfl,hS,hu,hb,hz,q⟩:=h
 refine ⟨_,(zae (zap (i:=1) sc_colours.nd rfl (Or.inl rfl) (zbA zdi rfl T.m_list boot_list (zaa (pv 0) zad)))
   (zae (zaT PassesOwn.never rfl (zc2 (zbz (zaa zag (zaa zag (zaa zag zad))))) (zan (i:=2) sc_colours.nd rfl (Or.inl rfl)) (zai (zaT PassesOwn.never rfl (zba rfl T.m_range (zaa (zas zam rfl T.m_len boot_len (zaa (pv 0) zad)) zad)) (zan (i:=3) sc_colours.nd rfl (Or.inl rfl)) (zai (zch (zaB zeV (zaC zaw (pv 1) (pv 3) (fun _ _=>rfl)) (pv 2) (zaN _)) (zai (ze5 (zaI F_least_free hr (zaa (zaI F_neighbours hr (zaa (pv 1) (zaa (pv 3) zad))) zad)) (zgt (pv 1) (pv 3) zdl))) za7)))))
   (zai (zaz (pv 1))))),?_⟩
 refine ⟨_,rfl,a,_,rfl,.inl hS,fun p hp=>?_⟩
 have k0 : But p H (upd H p (.lst (xs.map nV))):=fun b o n e=>by rw [zaf n]; exact e
 refine ⟨(by show 3≤sizeLine; decide),fun t ht=>?_⟩
 have npt : p≠t:=zab zac ht
 refine ⟨t,rfl,⟨_,SqT.of zac⟩,?_⟩
 refine zeZ (xs:=[V.int 3,V.int 4,V.int 5]) (fun i σ H2=>∃ x2 x3 : Option V,σ = [some (.ref a),some (.ref p),x2,x3]∧H2 p = some (.lst ((colN xs i).map nV))∧H2 t = some (.tup [V.int 3,V.int 4,V.int 5])∧But p H H2) ?_ ?_ ?_ ?_
 ·exact ⟨_,_,rfl,by rw [zaf npt]; exact zac,zac,k0.new ht _⟩
 ·rintro i σ H2 _ ⟨x2,x3,rfl,_,h2t,_⟩
  exact SqT.of h2t
 ·rintro i x σ H2 hx ⟨x2,x3,rfl,h2,h2t,k2⟩
  obtain ⟨hi,rfl⟩ : i < 3∧x = V.int ((3 + i : Nat) : Int):=by
   rcases i with _ | _ | _ | i
   ·exact ⟨by decide,(yaf hx).symm⟩
   ·exact ⟨by decide,(yaf hx).symm⟩
   ·exact ⟨by decide,(yaf hx).symm⟩
   ·cases hx
  have hyl:=zf1 xs i
  have hyu:=zj0 hu i
  have hnx : colN xs (i + 1) = recL (3 + i) (colN xs i):=rfl
  rw [hnx]
  generalize colN xs i = ys at h2 hyl hyu ⊢
  generalize 3 + i = v
  have hSa : SqL K H2 a (xs.map nV):=k2.sq hS hp
  refine ⟨_,rfl,_,_,rfl,.inl hSa,_,rfl,by rw [yab]; omega,by rw [yab]; omega,?_⟩
  have el : ((((xs.map nV).length : Nat) : Int)).toNat = ys.length:=by rw [yab,yaU,hyl]
  rw [el]
  refine zbg (n:=ys.length) (fun k σ H3=>∃ x3 : Option V,σ = [some (.ref a),some (.ref p),some (.int v),x3]∧H3 p = some (.lst ((mixL v ys k).map nV))∧H3 t = some (.tup [V.int 3,V.int 4,V.int 5])∧But p H H3) ?_ ?_ ?_
  ·exact ⟨_,rfl,h2,h2t,k2⟩
  ·rintro k σ H3 hk ⟨x3,rfl,h3,h3t,k3⟩
   rw [yba]
   have ml:=zdX v ys k
   have eg : (mixL v ys k).getD k 0 = ys.getD k 0:=by
    rw [yad,zlP (yaa k),← yad]
   have hat : atI ((mixL v ys k).map nV) (k : Int) = some (nV (ys.getD k 0)):=by
    rw [← eg]
    exact zga (by omega)
   refine ⟨_,rfl,_,rfl,_,_,_,_,rfl,rfl,SqL.of h3,hat,_,rfl,rfl,_,rfl,?_⟩
   refine ite2 (fun c=>?_) (fun c=>?_)
   ·have c' : ys.getD k 0 = v:=by
     have:=V.int.inj (yaC c)
     omega
    refine ⟨_,rfl,_,rfl,p,_,k,rfl,h3,fun g H4 hg s4 h4=>?_⟩
    rw [zpg,zfP hyu hk c'] at h4
    refine ⟨g,ys,k,rfl,h4,fun H5 s5=>?_⟩
    have s35:=s4.trans s5
    have same : ∀ b o,b≠p→H3 b = some o→upd H5 p (.lst (((mixL v ys k).map nV).set k (nV (zce ys k)))) b = some o:=fun b o n e=>by
     rw [zaf n]
     exact s35 _ _ e
    refine ⟨_,rfl,_,rfl,_,_,_,k,rfl,rfl,s35 _ _ h3,zeX (by rw [yab,ml]; exact hk),?_⟩
    refine ⟨_,rfl,?_,same _ _ (Ne.symm (zbK h3 h3t)) h3t,fun b o n e=>same _ _ n (k3 b o n e)⟩
    rw [zac,zjF hk c',yb1]
   ·have c' : ys.getD k 0≠v:=fun z=>c (by rw [z]; exact yan rfl)
    exact ⟨_,rfl,by rw [zhR hk c']; exact h3,h3t,k3⟩
  ·rintro σ H3 ⟨x3,rfl,h3,h3t,k3⟩
   rw [zjG (yaa _)] at h3
   exact ⟨_,_,rfl,h3,h3t,k3⟩
 ·rintro σ H2 ⟨x2,x3,rfl,h2,_,k2⟩
  refine ⟨_,rfl,?_⟩
  exact q p H2 hp (fun b o e=>k2 b o (zab e hp) e) h2
def zdh (ms : List Bool) (k : Nat) : Bool:=!ms.getD (k - 1) false && !ms.getD (k + 1) false
def besB (ms : List Bool) (k : Nat) : List Bool:=(if k = 0 then none else ms[k - 1]?).toList ++ ms[k + 1]?.toList
theorem zph (ms : List Bool) (k : Nat) : besV (ms.map V.bl) k = (besB ms k).map V.bl:=by
 unfold besV besB
 rw [yaq,yaj,yaj]
 congr 1
 ·split
  ·rfl
  ·cases ms[k - 1]? <;> rfl
 ·cases ms[k + 1]? <;> rfl
theorem znN {ms : List Bool} {k : Nat} (h : 1≤k) : (besB ms k).any id = !zdh ms k:=by
 unfold besB zdh
 rw [if_neg (by omega),yck,zcB,zcB,yad,yad]
 generalize ms[k - 1]?.getD false = x
 generalize ms[k + 1]?.getD false = z
 cases x <;> cases z <;> rfl
theorem ziy {sh : Nat} {cs : List Nat} {ms : List Bool} (hu : Unl cs) (hl : cs.length = ms.length) {k : Nat} (h : k < cs.length) (h1 : 1≤k) (hs : cs.getD k 0 = sh) : zdh (mixM sh cs ms k) k = zdh ms k:=by
 unfold zdh
 have e : ∀ j,k≤j→(mixM sh cs ms k).getD j false = ms.getD j false:=fun j hj=>by
  rw [yad,yad,zbr hl,if_neg (by omega)]
 rw [e (k + 1) (by omega)]
 have e2 : (mixM sh cs ms k).getD (k - 1) false = ms.getD (k - 1) false:=by
  rw [yad,zbr hl,if_pos (by omega),zb0 hl (by omega)]
  have:=hu (k - 1) (by omega)
  rw [show k - 1 + 1 = k by omega,hs] at this
  rw [yam this]
  simp
 rw [e2]
theorem zgy {sh : Nat} {cs : List Nat} {ms : List Bool} (hl : cs.length = ms.length) {k : Nat} (h : k < cs.length) (hn : ¬ (cs.getD k 0 = sh∧zdh ms k = true)) : mixM sh cs ms (k + 1) = mixM sh cs ms k:=by
 apply ybc
 intro j
 rw [zbr hl,zbr hl]
 by_cases c : j < k
 ·rw [if_pos c,if_pos (by omega)]
 ·rw [if_neg c]
  split
  ·have : j = k:=by omega
   subst this
   rw [zb0 hl h]
   unfold zdh at hn
   rw [yac (by omega)]
   have e : ms.getD j false = ms[j]'(by omega):=by
    rw [yad,yac (by omega)]
    rfl
   rw [e]
   congr 1
   generalize ms[j] = a
   generalize ms.getD (j - 1) false = b at hn ⊢
   generalize ms.getD (j + 1) false = d at hn ⊢
   by_cases z : cs.getD j 0 = sh
   ·have hn' : ¬ ((!b && !d) = true):=fun y=>hn ⟨z,y⟩
    cases b with
    | true=>simp
    | false=>
     cases d with
     | true=>simp
     | false=>exact absurd rfl hn'
   ·rw [yam z]
    simp
  ·rfl
theorem zlN {sh : Nat} {cs : List Nat} {ms : List Bool} (hl : cs.length = ms.length) {k : Nat} (h : k < cs.length) (hp : 1≤k∧cs.getD k 0 = sh∧zdh ms k = true) : mixM sh cs ms (k + 1) = (mixM sh cs ms k).set k true:=by
 apply ybc
 intro j
 rw [ybZ,zcP hl,zbr hl,zbr hl]
 by_cases c : k = j
 ·subst c
  rw [if_pos rfl,if_pos h,if_pos (by omega),zb0 hl h]
  obtain ⟨p1,p2,p3⟩:=hp
  unfold zdh at p3
  simp only [ya8,ybT] at p3
  rw [p2,p3.1,p3.2,yan p1]
  simp
 ·rw [if_neg c]
  by_cases c2 : j < k
  ·rw [if_pos c2,if_pos (by omega)]
  ·rw [if_neg c2,if_neg (by omega)]
theorem zne (T : Txt K mg) (D_marks : DF K mg "marks" zgS zfv) (F_labels : FC P w K mg base 3 "labels" zep (zji K)) (F_colours : FC P w K mg base 3 "colours" zdz (zd9 K)) (F_neighbours : FC P w K mg base 1 "neighbours" zbx (spNb K)) : FC P w K mg base 5 "marks" zfv (zgP K):=by
 refine D_marks.ok sc_marks (fun vs H Q E h=>?_) (fun f cdv A outer s H vs Q E hr h=>?_)
 ·obtain ⟨a,ws,es,rfl,_⟩:=h
  rfl
 obtain ⟨a,ws,es,rfl,ha,hw,hz,he,hri,q⟩:=h
 refine ⟨_,(zae (zap (i:=1) sc_marks.nd rfl (Or.inl rfl) (zaI F_colours hr (zaa (zaI F_labels hr (zaa (pv 0) zad)) zad)))
   (zae (zdT (i:=2) (N:=["tint"]) (own:=1) (cap:=[]) sc_marks.nd rfl rfl rfl (zby (pv 1)) ⟨rfl,rfl,rfl,rfl,rfl,rfl⟩ (fun _ _ _ _ _=>(zan (i:=0) (show List.Nodup (["tint"] : List Str) by decide +kernel) rfl (Or.inl rfl))) (fun _ _ _ _ _=>zbP) (fun _ _ _ _ _=>zfh))
   (zae (zaT PassesOwn.never rfl (zc2 (zbz (zaa zag (zaa zag (zaa zag zad))))) (zan (i:=3) sc_marks.nd rfl (Or.inl rfl)) (zai (zaT PassesOwn.never rfl (zc3 rfl T.m_range (zaa zag (zaa (zas zam rfl T.m_len boot_len (zaa (pv 1) zad)) zad))) (zan (i:=4) sc_marks.nd rfl (Or.inl rfl)) (zai (zch (PW.pt (zjt (zaB zeV (zaC zaw (pv 1) (pv 4) (fun _ _=>rfl)) (pv 3) (zaN _)) (zg0 (zaB zc9 zfh (zaI F_neighbours hr (zaa (pv 2) (zaa (pv 4) zad))) (by with_unfolding_all rfl))))) (zai (ze5 zfh (zgt (pv 2) (pv 4) zdl))) za7)))))
   (zai (zaz (pv 2)))))),?_⟩
 refine ⟨_,rfl,a,ws,es,rfl,SqL.of ha,hw,hz,he,hri,fun p H3 hp s3 h3=>?_⟩
 refine ⟨p,_,rfl,SqL.of h3,zfS he hri,zfT he hri,by rw [zbd,zaD]; exact hz,fun c H4 hc s4 h4=>?_⟩
 have cu : Unl (colL (zb4 5 (zbH es))):=zkP (zhl (unlZ (zfS he hri)))
 have cl : (colL (zb4 5 (zbH es))).length = es.length:=by rw [zd1,zbd,zaD]
 have fin : za4 es = mkN (colL (zb4 5 (zbH es))) 3:=(zhQ _).symm
 generalize colL (zb4 5 (zbH es)) = cs at h4 cu cl fin
 have s04:=s3.trans s4
 refine ⟨_,rfl,c,rfl,⟨_,SqL.of h4⟩,fun F hF=>?_⟩
 refine zbO (xs:=cs.map nV) (fun i σ H5=>∃ x0 : Option V,σ = [x0]∧H5 F = some (.lst ((List.replicate i false).map V.bl))∧But F H4 H5) ?_ ?_ ?_ ?_
 ·exact ⟨_,rfl,zac,fun b o n e=>by rw [zaf n]; exact e⟩
 ·rintro i σ H5 _ ⟨x0,rfl,_,k5⟩
  exact k5.sq (SqL.of h4) hF
 ·rintro i m x σ H5 hx hm ⟨x0,rfl,h5,k5⟩
  have hi:=(yah.mp hx).1
  rw [yab] at hi hm
  refine zcW ?_
  refine ⟨_,h5,zao (by rw [yab,ya6]; omega),m - 1,by omega,by rw [yab]; omega,_,rfl,?_,fun b o n e=>by rw [zaf n]; exact k5 b o n e⟩
  rw [zac,List.replicate_succ',yaq]
  rfl
 rintro σ H5 ⟨x0,rfl,h5,k5⟩
 have s45 : Same H4 H5:=fun b o e=>k5 b o (zab e hF) e
 have h5c:=s45 _ _ h4
 have nFc : c≠F:=zab h4 hF
 have hF0 : H F = none:=s04.free hF
 have k05 : But F H H5:=fun b o _ e=>s45 _ _ (s04 _ _ e)
 have e5 : H5 F = some (.lst ((mkN cs 0).map V.bl)):=by
  rw [h5,mkN,yab,show List.replicate cs.length false = cs.map (fun _=>false) from by rw [List.map_const']]
 refine ⟨(by show 3≤sizeLine; decide),fun t ht=>?_⟩
 have st:=zak ht (.tup [V.int 2,V.int 1,V.int 0])
 refine ⟨t,rfl,⟨_,SqT.of zac⟩,?_⟩
 refine zeZ (xs:=[V.int 2,V.int 1,V.int 0]) (fun i σ H6=>∃ (x3 x4 : Option V),σ = [some (.ref a),some (.ref c),some (.ref F),x3,x4]∧H6 F = some (.lst ((mkN cs i).map V.bl))∧H6 c = some (.lst (cs.map nV))∧H6 t = some (.tup [V.int 2,V.int 1,V.int 0])∧But F H H6) ?_ ?_ ?_ ?_
 ·exact ⟨_,_,rfl,st _ _ e5,st _ _ h5c,zac,k05.new ht _⟩
 ·rintro i σ H6 _ ⟨x3,x4,rfl,_,_,h6t,_⟩
  exact SqT.of h6t
 ·rintro i x σ H6 hx ⟨x3,x4,rfl,h6,h6c,h6t,k6⟩
  obtain ⟨hi,rfl⟩ : i < 3∧x = V.int ((2 - i : Nat) : Int):=by
   rcases i with _ | _ | _ | i
   ·exact ⟨by decide,(yaf hx).symm⟩
   ·exact ⟨by decide,(yaf hx).symm⟩
   ·exact ⟨by decide,(yaf hx).symm⟩
   ·cases hx
  have hml:=zgx cs i
  have hnx : mkN cs (i + 1) = zbR (2 - i) cs (mkN cs i):=rfl
  rw [hnx]
  generalize mkN cs i = ms at h6 hml ⊢
  generalize 2 - i = sh
  refine ⟨_,rfl,_,_,rfl,.inl (SqL.of h6c),1,_,rfl,⟨by omega,by omega,by rw [yab]; omega,by rw [yab]; omega⟩,?_⟩
  have en : ((((cs.map nV).length : Nat) : Int) - 1).toNat = cs.length - 1:=by rw [yab]; omega
  rw [en]
  have km : ∀ k,(mixM sh cs ms k).length = cs.length:=zcP hml
  refine zbg (n:=cs.length - 1) (fun j σ H7=>∃ (x4 : Option V),σ = [some (.ref a),some (.ref c),some (.ref F),some (.int sh),x4]∧H7 F = some (.lst ((mixM sh cs ms (1 + j)).map V.bl))∧H7 c = some (.lst (cs.map nV))∧H7 t = some (.tup [V.int 2,V.int 1,V.int 0])∧But F H H7) ?_ ?_ ?_
  ·exact ⟨_,rfl,by rw [zjD hml]; exact h6,h6c,h6t,k6⟩
  ·rintro j σ H7 hj ⟨x4,rfl,h7,h7c,h7t,k7⟩
   have ek : (1 : Int) + (j : Int) = ((1 + j : Nat) : Int):=by omega
   have hk1 : 1≤1 + j:=by omega
   have hkl : 1 + j < cs.length:=by omega
   rw [ek]
   have es1 : 1 + (j + 1) = 1 + j + 1:=by omega
   rw [es1]
   generalize 1 + j = k at h7 hk1 hkl ⊢
   have hat:=zga (xs:=cs) hkl
   have mc : cs.getD k 0 = sh→zdh (mixM sh cs ms k) k = zdh ms k:=fun z=>ziy cu hml hkl hk1 z
   refine ⟨_,rfl,_,rfl,_,_,_,_,rfl,rfl,SqL.of h7c,hat,_,rfl,rfl,_,rfl,?_⟩
   refine ite2 (fun e=>?_) (fun e=>?_)
   ·have e' : cs.getD k 0 = sh:=by
     have:=V.int.inj (yaC e)
     omega
    refine ⟨_,rfl,_,rfl,F,_,k,rfl,h7,fun b H8 hb sb hbb=>?_⟩
    rw [zph] at hbb
    have kb : But F H H8:=fun x o n e=>sb _ _ (k7 x o n e)
    refine ⟨_,_,rfl,.inl (SqL.of hbb),rfl,zmm _,_,rfl,?_⟩
    show if (!inV (.bl true) ((besB (mixM sh cs ms k) k).map V.bl)) = true then _ else _
    rw [zjQ,znN hk1,mc e',Bool.not_not]
    refine ite2 (fun y=>?_) (fun y=>?_)
    ·refine ⟨_,rfl,_,rfl,_,_,_,k,rfl,rfl,sb _ _ h7,zeX (by rw [yab,km]; exact hkl),?_⟩
     have same : ∀ b o,b≠F→H8 b = some o→upd H8 F (.lst (((mixM sh cs ms k).map V.bl).set k (.bl true))) b = some o:=fun b o n e=>by
      rw [zaf n]
      exact e
     refine ⟨_,rfl,?_,same _ _ (fun z=>?_) (sb _ _ h7c),same _ _ (Ne.symm (zbK (sb _ _ h7) (sb _ _ h7t))) (sb _ _ h7t),fun b o n e=>same _ _ n (kb b o n e)⟩
     ·rw [zac,zlN hml hkl ⟨hk1,e',y⟩,yb1]
     ·exact nFc z
    ·exact ⟨_,rfl,by rw [zgy hml hkl (fun z=>y z.2)]; exact sb _ _ h7,sb _ _ h7c,sb _ _ h7t,kb⟩
   ·have e' : cs.getD k 0≠sh:=fun z=>e (by rw [z]; exact yan rfl)
    refine iteF ?_
    exact ⟨_,rfl,by rw [zgy hml hkl (fun z=>e' z.1)]; exact h7,h7c,h7t,k7⟩
  ·rintro σ H7 ⟨x4,rfl,h7,h7c,h7t,k7⟩
   rw [zjE hml (by omega)] at h7
   exact ⟨_,_,rfl,h7,h7c,h7t,k7⟩
 ·rintro σ H6 ⟨x3,x4,rfl,h6,_,_,k6⟩
  refine ⟨_,rfl,?_⟩
  refine q F H6 hF0 (fun b o e=>k6 b o (zab e hF0) e) ?_
  rw [fin]
  exact h6
theorem znE {α : Type} : zbX ([] : List α) [] = []:=rfl
theorem zql {ms : List Bool} {i : Nat} {x : V} (h : (ms.map V.bl)[i]? = some x) : ∃ hi : i < ms.length,x = .bl ms[i]:=by
 rw [yaj] at h
 cases e : ms[i]? with
 | none=>rw [e] at h; cases h
 | some y=>
  rw [e] at h
  obtain ⟨hi,rfl⟩:=yah.mp e
  exact ⟨hi,(yaf h).symm⟩
theorem zd8 {α : Type} {l : List α} {i : Nat} (h : i < l.length) : l.take (i + 1) = l.take i ++ [l[i]]:=yaH h
theorem zlH (T : Txt K mg) (D_handed : DF K mg "handed" zfs zet) (F_marks : FC P w K mg base 5 "marks" zfv (zgP K)) : FC P w K mg base 6 "handed" zet (zjl K):=by
 refine D_handed.ok sc_handed (fun vs H Q E h=>?_) (fun f cdv A outer s H vs Q E hr h=>?_)
 ·obtain ⟨a,ws,es,rfl,_⟩:=h
  rfl
 obtain ⟨a,ws,es,rfl,ha,hw,hz,he,hri,q⟩:=h
 have hwl:=hw.length
 have hml:=za8 es
 refine ⟨_,(zai (zaz (zbQ (N:=["entry","mark"]) (own:=2) (cap:=[]) rfl (zlp rfl T.m_zip (zaa (pv 0) (zaa (zaI F_marks hr (zaa (pv 0) zad)) zad))) ⟨rfl,rfl,rfl,rfl,rfl,rfl⟩ (fun _ _ _ _ _=>(zoG (K:=K) (n:=2) rfl (za1 (zan (i:=0) (show List.Nodup (["entry","mark"] : List Str) by decide +kernel) rfl (Or.inl rfl)) (za1 (zan (i:=1) (show List.Nodup (["entry","mark"] : List Str) by decide +kernel) rfl (Or.inl rfl)) zc5)))) (fun _ _ _ _ _=>(zc1 (zhF (pv 1)))) (fun _ _ _ _ _=>(pv 0))))),?_⟩
 refine ⟨_,rfl,_,rfl,a,ws,es,rfl,ha,hw,hz,he,hri,fun u H6 hu g6 h6u=>?_⟩
 have h6p:=g6 _ _ ha
 generalize za4 es = ms at hml h6u q
 refine ⟨a,u,rfl,⟨_,SqL.of h6p⟩,⟨_,SqL.of h6u⟩,fun D hD=>?_⟩
 refine znK (xs:=ws) (ys:=ms.map V.bl) (by rw [yab,hml]; exact hwl.symm) (fun j σ H7=>∃ x0 x1 : Option V,σ = [x0,x1]∧H7 D = some (.lst (zbX (ws.take j) (ms.take j)))∧But D H6 H7) ?_ ?_ ?_ ?_
 ·exact ⟨_,_,rfl,by rw [ybY,ybY,znE]; exact zac,fun b o n e=>by rw [zaf n]; exact e⟩
 ·rintro j σ H7 _ ⟨x0,x1,rfl,_,k7⟩
  exact ⟨k7.sq (SqL.of h6p) hD,k7.sq (SqL.of h6u) hD⟩
 ·rintro j m' x y σ H7 r' hx hy hm' ⟨x0,x1,rfl,h7,k7⟩ hr'
  obtain ⟨hj,rfl⟩:=zql hy
  obtain ⟨hjw,rfl⟩:=yah.mp hx
  have hsn:=zfW (a:=ws[j]) (b:=ms[j]) (show (ws.take j).length = (ms.take j).length by rw [yas,yas]; omega)
  rw [← zd8 hjw,← zd8 hj] at hsn
  refine ⟨r',_,rfl,SqT.of zac,rfl,_,_,rfl,_,_,rfl,rfl,?_⟩
  have s7:=zak hr' (.tup [ws[j],.bl ms[j]])
  have h8:=s7 _ _ h7
  have k8:=k7.new hr' (.tup [ws[j],.bl ms[j]])
  generalize upd H7 r' (.tup [ws[j],.bl ms[j]]) = H8 at h8 k8 ⊢
  refine ⟨_,rfl,_,rfl,?_⟩
  have hl8:=zfX (ws.take j) (ms.take j)
  rw [yas] at hl8
  refine ite2 (fun e=>?_) (fun e=>?_)
  ·refine ⟨_,rfl,_,h8,zao (by omega),m' - 1,by omega,by omega,_,_,rfl,?_,fun b o n e=>by rw [zaf n]; exact k8 b o n e⟩
   rw [zac,hsn,if_pos e]
  ·refine ⟨m' - 1,by omega,by omega,_,_,rfl,?_,k8⟩
   rw [h8,hsn,if_neg e,yaD]
 ·rintro σ H7 ⟨x0,x1,rfl,h7,k7⟩
  rw [yar (yaa _),yar (by omega)] at h7
  have s7 : Same H6 H7:=fun b o e=>k7 b o (zab e hD) e
  exact q D H7 (g6.free hD) (g6.trans s7) h7
theorem zih {v : Nat} {xs : List Nat} {k : Nat} : ((List.range (k + 1)).filter fun k=>decide (xs.getD k 0 = v)) = ((List.range k).filter fun k=>decide (xs.getD k 0 = v)) ++ (if xs.getD k 0 = v then [k] else []):=by
 rw [ybj,yaP]
 congr 1
 by_cases h : xs.getD k 0 = v
 ·rw [if_pos h,yaO (by exact yan h)]
  rfl
 ·rw [if_neg h,yaZ (by rw [yam h]; decide)]
  rfl
theorem ziw (T : Txt K mg) (D_l_colours : DF K mg "_law_colours" zcH zcp) : FC P w K mg base 1 "_law_colours" zcp (zd9 K):=by
 refine D_l_colours.ok sc_l_colours (fun vs H Q E h=>?_) (fun f cdv A outer s H vs Q E hr h=>?_)
 ·obtain ⟨a,xs,rfl,_⟩:=h
  rfl
 obtain ⟨a,xs,rfl,hS,hu,hb,hz,q⟩:=h
 refine ⟨_,(zae (zap (i:=1) sc_l_colours.nd rfl (Or.inr rfl) (zbA zdi rfl T.m_list boot_list (zaa (pv 0) zad)))
   (zae (zaT PassesOwn.never rfl (zc2 (zbz (zaa zag (zaa zag (zaa zag zad))))) (zan (i:=2) sc_l_colours.nd rfl (Or.inr rfl)) (zae (zdT (i:=3) (N:=["_law_k","_law_found_here","_law_high"]) (own:=1) (cap:=[1,2]) sc_l_colours.nd rfl rfl rfl (zba rfl T.m_range (zaa (zas zam rfl T.m_len boot_len (zaa (pv 1) zad)) zad)) ⟨rfl,rfl,rfl,rfl,rfl,rfl⟩ (fun _ _ _ _ _=>(zan (i:=0) (show List.Nodup (["_law_k","_law_found_here","_law_high"] : List Str) by decide +kernel) rfl (Or.inl rfl))) (fun _ _ _ _ _=>(zc1 (zaB zeV (zaC (zjO (K:=K)) (pv 1) (pv 0) (fun _ _=>rfl)) (pv 2) (zaN _)))) (fun _ _ _ _ _=>(pv 0)))
   (zai (zaT PassesOwn.never rfl (zby (pv 3)) (zan (i:=4) sc_l_colours.nd rfl (Or.inl rfl)) (zae (zap (i:=5) sc_l_colours.nd rfl (Or.inr rfl) (zar zlw (zdC zeR (pv 1) (zca (zas (zf5 rfl) rfl T.m_max boot_max (zaa zag (zaa (zar zbu (pv 4) zag) zad)))) (zca (pv 4))) (zdC zeR (pv 1) (zca (zar zaS (pv 4) zag)) (zca (zar zaS (pv 4) zag)))))
   (zai (ze5 (zaC zaw (zbQ (N:=["_law_colour","_law_beside"]) (own:=1) (cap:=[5]) rfl (zba rfl T.m_range (zaa zag zad)) ⟨rfl,rfl,rfl,rfl,rfl,rfl⟩ (fun _ _ _ _ _=>(zan (i:=0) (show List.Nodup (["_law_colour","_law_beside"] : List Str) by decide +kernel) rfl (Or.inl rfl))) (fun _ _ _ _ _=>(zc1 (zaB (zew (K:=K)) (pv 0) (pv 1) (by with_unfolding_all rfl)))) (fun _ _ _ _ _=>(pv 0))) zag (fun _ _=>rfl)) (zgt (pv 1) (pv 4) zdl))))))))
   (zai (zaz (pv 1))))),?_⟩
 refine ⟨_,rfl,a,_,rfl,.inl hS,fun p hp=>?_⟩
 have k0 : But p H (upd H p (.lst (xs.map nV))):=fun b o n e=>by rw [zaf n]; exact e
 refine ⟨(by show 3≤sizeLine; decide),fun t ht=>?_⟩
 have npt : p≠t:=zab zac ht
 refine ⟨t,rfl,⟨_,SqT.of zac⟩,?_⟩
 refine zeZ (xs:=[V.int 3,V.int 4,V.int 5]) (fun i σ H2=>∃ x2 x3 x4 x5 : Option V,σ = [some (.ref a),some (.ref p),x2,x3,x4,x5]∧H2 p = some (.lst ((colN xs i).map nV))∧H2 t = some (.tup [V.int 3,V.int 4,V.int 5])∧But p H H2) ?_ ?_ ?_ ?_
 ·exact ⟨_,_,_,_,rfl,by rw [zaf npt]; exact zac,zac,k0.new ht _⟩
 ·rintro i σ H2 _ ⟨x2,x3,x4,x5,rfl,_,h2t,_⟩
  exact SqT.of h2t
 ·rintro i x σ H2 hx ⟨x2,x3,x4,x5,rfl,h2,h2t,k2⟩
  obtain ⟨hi,rfl⟩ : i < 3∧x = V.int ((3 + i : Nat) : Int):=by
   rcases i with _ | _ | _ | i
   ·exact ⟨by decide,(yaf hx).symm⟩
   ·exact ⟨by decide,(yaf hx).symm⟩
   ·exact ⟨by decide,(yaf hx).symm⟩
   ·cases hx
  have hyl:=zf1 xs i
  have hyu:=zj0 hu i
  have hnx : colN xs (i + 1) = recL (3 + i) (colN xs i):=rfl
  rw [hnx]
  generalize colN xs i = ys at h2 hyl hyu ⊢
  generalize 3 + i = v
  refine ⟨_,rfl,_,_,rfl,.inl (SqL.of h2),_,rfl,by rw [yab]; omega,by rw [yab]; omega,fun D hD=>?_⟩
  have el : ((((ys.map nV).length : Nat) : Int)).toNat = ys.length:=by rw [yab,yaU]
  rw [el]
  refine zb2 (n:=ys.length) (fun k σ H3=>∃ x0 : Option V,σ = [x0,some (.ref p),some (.int v)]∧H3 D = some (.lst (((List.range k).filter fun k=>decide (ys.getD k 0 = v)).map nV))∧But D H2 H3) ?_ ?_ ?_
  ·exact ⟨_,rfl,zac,fun b o n e=>by rw [zaf n]; exact e⟩
  ·rintro k m σ H3 hm hk ⟨x0,rfl,h3,k3⟩
   have h3p : H3 p = some (.lst (ys.map nV)):=k3 _ _ (zab h2 hD) h2
   have hat : atI (ys.map nV) (0 + (k : Int)) = some (nV (ys.getD k 0)):=by
    rw [yba]
    exact zga hk
   have hlen:=ya9 (fun k=>decide (ys.getD k 0 = v)) (List.range k)
   rw [yaG] at hlen
   refine ⟨_,rfl,_,rfl,_,_,_,_,rfl,rfl,SqL.of h3p,hat,_,rfl,rfl,_,rfl,?_⟩
   refine ite2 (fun c=>?_) (fun c=>?_)
   ·have c' : ys.getD k 0 = v:=by
     have:=V.int.inj (yaC c)
     omega
    refine ⟨_,rfl,_,h3,zao (by rw [yab]; omega),m - 1,by omega,by omega,_,rfl,?_,fun b o n e=>by rw [zaf n]; exact k3 b o n e⟩
    rw [zac,zih,if_pos c',yaq,yba]
    rfl
   ·have c' : ys.getD k 0≠v:=fun z=>c (by rw [z]; exact yan rfl)
    refine ⟨m - 1,by omega,by omega,_,rfl,?_,k3⟩
    rw [h3,zih,if_neg c',yaD]
  ·rintro σ H3 ⟨x0,rfl,h3,k3⟩
   have h3 : H3 D = some (.lst ((atsL v ys).map nV)):=h3
   have h3p : H3 p = some (.lst (ys.map nV)):=k3 _ _ (zab h2 hD) h2
   have h3t:=k3 _ _ (zab h2t hD) h2t
   have kk3 : But p H H3:=fun b o n e=>k3 b o (zab (k2 b o n e) hD) (k2 b o n e)
   have npD : p≠D:=zab h2 hD
   have A:=zf9 v ys
   refine ⟨_,rfl,D,rfl,⟨_,SqL.of h3⟩,?_⟩
   refine zdI (xs:=(atsL v ys).map nV) (fun j σ H4=>∃ x4 x5 : Option V,σ = [some (.ref a),some (.ref p),some (.int v),some (.ref D),x4,x5]∧H4 p = some (.lst ((mixL v ys ((atsL v ys).getD j ys.length)).map nV))∧H4 D = some (.lst ((atsL v ys).map nV))∧H4 t = some (.tup [V.int 3,V.int 4,V.int 5])∧But p H H4) ?_ ?_ ?_ ?_
   ·exact ⟨_,_,rfl,by rw [zlM]; exact h3p,h3,h3t,kk3⟩
   ·rintro j σ H4 _ ⟨x4,x5,rfl,_,h4D,_⟩
    exact SqL.of h4D
   ·rintro j x σ H4 hx ⟨x4,x5,rfl,h4,h4D,h4t,k4⟩
    obtain ⟨hj,rfl⟩:=zh0 hx
    have eg : (atsL v ys).getD j 0 = (atsL v ys)[j]:=by
     rw [yad,yac hj]
     rfl
    have eg2 : (atsL v ys).getD j ys.length = (atsL v ys)[j]:=by
     rw [yad,yac hj]
     rfl
    obtain ⟨g1,g2⟩:=A.get hj
    have nx:=zno hj
    rw [eg2] at h4
    rw [eg]
    generalize (atsL v ys)[j] = k at h4 g1 g2 nx ⊢
    have g2 : ys.getD k 0 = v:=yaC g2
    have hb2:=zfP hyu g1 g2
    have ml:=zdX v ys k
    refine zou (k:=k) rfl rfl rfl h4 fun g H5 hg s5 h5=>?_
    rw [hb2] at h5
    have h5p:=s5 _ _ h4
    have npg : p≠g:=zab h4 hg
    refine ⟨3,rfl,by decide,by decide,fun D2 hD2=>?_⟩
    refine zb2 (n:=3) (fun c σ H6=>∃ x0 : Option V,σ = [x0,some (.ref g)]∧H6 D2 = some (.lst (((List.range c).filter fun c=>!decide (c∈zaG ys k)).map nV))∧But D2 H5 H6) ?_ ?_ ?_
    ·exact ⟨_,rfl,zac,fun b o n e=>by rw [zaf n]; exact e⟩
    ·rintro c m σ H6 hm hc ⟨x0,rfl,h6,k6⟩
     have h6g:=k6 _ _ (zab h5 hD2) h5
     have hlen:=ya9 (fun c=>!decide (c∈zaG ys k)) (List.range c)
     rw [yaG] at hlen
     refine ⟨_,rfl,_,rfl,_,_,rfl,.inl (SqL.of h6g),rfl,ziM _,_,rfl,?_⟩
     show if (!inV (.int (0 + (c : Int))) ((zaG ys k).map nV)) = true then _ else _
     rw [yba,zmb]
     refine ite2 (fun e=>?_) (fun e=>?_)
     ·have e' : c∉zaG ys k:=fun z=>by
       rw [yan z] at e
       cases e
      refine ⟨_,rfl,_,h6,zao (by rw [yab]; omega),m - 1,by omega,by omega,_,rfl,?_,fun b o n e=>by rw [zaf n]; exact k6 b o n e⟩
      rw [zac,zbL,if_neg e',yaq]
      rfl
     ·have e' : c∈zaG ys k:=Decidable.byContradiction fun z=>e (by rw [yam z]; rfl)
      refine ⟨m - 1,by omega,by omega,_,rfl,?_,k6⟩
      rw [h6,zbL,if_pos e',yaD]
    ·rintro σ H6 ⟨x0,rfl,h6,k6⟩
     have h6p:=k6 _ _ (zab h5p hD2) h5p
     have hff:=zh3 (xs:=ys) (k:=k)
     have hat0 : atI (((List.range 3).filter fun c=>!decide (c∈zaG ys k)).map nV) 0 = some (nV (zce ys k)):=by
      rw [show (0 : Int) = ((0 : Nat) : Int) from rfl]
      refine zaV ?_
      rw [yaj,← List.head?_eq_getElem?,hff]
      rfl
     refine ⟨_,_,_,_,rfl,rfl,SqL.of h6,hat0,?_⟩
     refine ⟨_,rfl,_,rfl,_,_,_,k,rfl,rfl,h6p,zeX (by rw [yab,ml]; exact g1),?_⟩
     have same : ∀ b o,b≠p→H4 b = some o→upd H6 p (.lst (((mixL v ys k).map nV).set k (nV (zce ys k)))) b = some o:=fun b o n e=>by
      rw [zaf n]
      exact k6 _ _ (zab (s5 _ _ e) hD2) (s5 _ _ e)
     refine ⟨_,_,rfl,?_,same _ _ (Ne.symm npD) h4D,same _ _ (Ne.symm (zbK h4 h4t)) h4t,fun b o n e=>same _ _ n (k4 b o n e)⟩
     rw [zac,nx,yb1]
   ·rintro σ H4 ⟨x4,x5,rfl,h4,h4D,h4t,k4⟩
    rw [yab,znp] at h4
    exact ⟨_,_,_,_,rfl,h4,h4t,k4⟩
 ·rintro σ H2 ⟨x2,x3,x4,x5,rfl,h2,_,k2⟩
  refine ⟨_,rfl,?_⟩
  exact q p H2 hp (fun b o e=>k2 b o (zab e hp) e) h2
theorem zlD (T : Txt K mg) (D_l_marks : DF K mg "_law_marks" zee zdu) (F_l_code : FC P w K mg base 1 "_law_code" zes (zjm K)) (F_l_turned : FC P w K mg base 1 "_law_turned" zcM (zfk K)) (F_l_colours : FC P w K mg base 1 "_law_colours" zcp (zd9 K)) : FC P w K mg base 2 "_law_marks" zdu (zgP K):=by
 refine D_l_marks.ok sc_l_marks (fun vs H Q E h=>?_) (fun f cdv A outer s H vs Q E hr h=>?_)
 ·obtain ⟨a,ws,es,rfl,_⟩:=h
  rfl
 obtain ⟨a,ws,es,rfl,ha,hw,hz,he,hri,q⟩:=h
 have hlen:=hw.length
 refine ⟨_,(zae (zdT (i:=1) (N:=["_law_entry"]) (own:=1) (cap:=[]) sc_l_marks.nd rfl rfl rfl (zby (pv 0)) ⟨rfl,rfl,rfl,rfl,rfl,rfl⟩ (fun _ _ _ _ _=>(zan (i:=0) (show List.Nodup (["_law_entry"] : List Str) by decide +kernel) rfl (Or.inl rfl))) (fun _ _ _ _ _=>zbP) (fun _ _ _ _ _=>(zaI F_l_code hr (zaa (pv 0) zad))))
   (zae (zaT PassesOwn.never rfl (zba rfl T.m_range (zaa zag zad)) (zan (i:=2) sc_l_marks.nd rfl (Or.inl rfl)) (zai (zap (i:=1) sc_l_marks.nd rfl (Or.inl rfl) (zaI F_l_turned hr (zaa (pv 1) zad)))))
   (zae (zap (i:=3) sc_l_marks.nd rfl (Or.inl rfl) (zaI F_l_colours hr (zaa (pv 1) zad)))
   (zae (zdT (i:=4) (N:=["_law_entry"]) (own:=1) (cap:=[]) sc_l_marks.nd rfl rfl rfl (zby (pv 0)) ⟨rfl,rfl,rfl,rfl,rfl,rfl⟩ (fun _ _ _ _ _=>(zan (i:=0) (show List.Nodup (["_law_entry"] : List Str) by decide +kernel) rfl (Or.inl rfl))) (fun _ _ _ _ _=>zbP) (fun _ _ _ _ _=>zfh))
   (zae (zaT PassesOwn.never rfl (zc2 (zbz (zaa zag (zaa zag (zaa zag zad))))) (zan (i:=5) sc_l_marks.nd rfl (Or.inl rfl)) (zai (zaT PassesOwn.never rfl (zc3 rfl T.m_range (zaa zag (zaa (zas zam rfl T.m_len boot_len (zaa (pv 0) zad)) zad))) (zan (i:=2) sc_l_marks.nd rfl (Or.inl rfl)) (zai (zch (PW.pt (zjt (zaB zeV (zaC zaw (pv 3) (pv 2) (fun _ _=>rfl)) (pv 5) (zaN _)) (zg0 (zaB zc9 zfh (zdC zeR (pv 4) (zca (zar zbu (pv 2) zag)) (zca (zar zaS (pv 2) zag))) (by with_unfolding_all rfl))))) (zai (ze5 zfh (zgt (pv 4) (pv 2) zdl))) za7)))))
   (zai (zaz (pv 4)))))))),?_⟩
 refine ⟨_,rfl,a,rfl,⟨_,SqL.of ha⟩,fun D hD=>?_⟩
 have k0 : But D H (upd H D (.lst [])):=fun b o n e=>by rw [zaf n]; exact e
 refine zbO (xs:=ws) (fun i σ H2=>∃ x0 : Option V,σ = [x0]∧H2 D = some (.lst (((zbH es).take i).map nV))∧But D H H2) ?_ ?_ ?_ ?_
 ·exact ⟨_,rfl,zac,k0⟩
 ·rintro i σ H2 _ ⟨x0,rfl,_,k2⟩
  exact k2.sq (SqL.of ha) hD
 ·rintro i m x σ H2 hx hm ⟨x0,rfl,h2,k2⟩
  obtain ⟨hi,hhas⟩:=zgJ hD hw hx k2
  refine zcW ?_
  refine ⟨_,rfl,x,es[i],rfl,hhas,?_⟩
  refine ⟨_,h2,zao (by rw [yab,yas,zaD]; omega),m - 1,by omega,by omega,_,rfl,?_,fun b o n e=>by rw [zaf n]; exact k2 b o n e⟩
  rw [zac,zgI hi,yaq,← zeI (he _ (yaB hi))]
  rfl
 rintro σ H2 ⟨x0,rfl,h2,k2⟩
 have e0 : H2 D = some (.lst ((zbH es).map nV)):=by
  rw [h2,yar (by rw [zaD]; omega)]
 have same0 : Same H H2:=fun b o e=>k2 b o (zab e hD) e
 refine ⟨5,rfl,by decide,by decide,?_⟩
 refine zbg (n:=5) (fun i σ H3=>∃ (p : Addr) (x2 : Option V),σ = [some (.ref a),some (.ref p),x2,none,none,none]∧Same H H3∧H3 p = some (.lst ((zb4 i (zbH es)).map nV))) ?_ ?_ ?_
 ·exact ⟨D,_,rfl,same0,e0⟩
 ·rintro i σ H3 hi ⟨p,x2,rfl,s3,h3⟩
  refine ⟨_,rfl,p,_,rfl,SqL.of h3,zb3 (zeH he hri) i,by rw [zbd,zaD]; exact hz,fun p4 H4 hp4 s4 h4=>?_⟩
  exact ⟨p4,_,rfl,s3.trans s4,h4⟩
 rintro σ H3 ⟨p,x2,rfl,s3,h3⟩
 refine ⟨_,rfl,p,_,rfl,SqL.of h3,zfS he hri,zfT he hri,by rw [zbd,zaD]; exact hz,fun c H4 hc s4 h4=>?_⟩
 have cu : Unl (colL (zb4 5 (zbH es))):=zkP (zhl (unlZ (zfS he hri)))
 have cl : (colL (zb4 5 (zbH es))).length = es.length:=by rw [zd1,zbd,zaD]
 have fin : za4 es = mkN (colL (zb4 5 (zbH es))) 3:=(zhQ _).symm
 generalize colL (zb4 5 (zbH es)) = cs at h4 cu cl fin
 have s04:=s3.trans s4
 have h4a:=s04 _ _ ha
 refine ⟨_,rfl,a,rfl,⟨_,SqL.of h4a⟩,fun F hF=>?_⟩
 refine zbO (xs:=ws) (fun i σ H5=>∃ x0 : Option V,σ = [x0]∧H5 F = some (.lst ((List.replicate i false).map V.bl))∧But F H4 H5) ?_ ?_ ?_ ?_
 ·exact ⟨_,rfl,zac,fun b o n e=>by rw [zaf n]; exact e⟩
 ·rintro i σ H5 _ ⟨x0,rfl,_,k5⟩
  exact k5.sq (SqL.of h4a) hF
 ·rintro i m x σ H5 hx hm ⟨x0,rfl,h5,k5⟩
  have hi:=(yah.mp hx).1
  refine zcW ?_
  refine ⟨_,h5,zao (by rw [yab,ya6]; omega),m - 1,by omega,by omega,_,rfl,?_,fun b o n e=>by rw [zaf n]; exact k5 b o n e⟩
  rw [zac,List.replicate_succ',yaq]
  rfl
 rintro σ H5 ⟨x0,rfl,h5,k5⟩
 have s45 : Same H4 H5:=fun b o e=>k5 b o (zab e hF) e
 have h5c:=s45 _ _ h4
 have h5a:=s45 _ _ h4a
 have nFc : c≠F:=zab h4 hF
 have hF0 : H F = none:=s04.free hF
 have k05 : But F H H5:=fun b o _ e=>s45 _ _ (s04 _ _ e)
 have e5 : H5 F = some (.lst ((mkN cs 0).map V.bl)):=by
  rw [h5,mkN,show List.replicate ws.length false = cs.map (fun _=>false) from by rw [List.map_const',cl,hlen]]
 refine ⟨(by show 3≤sizeLine; decide),fun t ht=>?_⟩
 have st:=zak ht (.tup [V.int 2,V.int 1,V.int 0])
 refine ⟨t,rfl,⟨_,SqT.of zac⟩,?_⟩
 refine zeZ (xs:=[V.int 2,V.int 1,V.int 0]) (fun i σ H6=>∃ (x1 x2 x5 : Option V),σ = [some (.ref a),x1,x2,some (.ref c),some (.ref F),x5]∧H6 F = some (.lst ((mkN cs i).map V.bl))∧H6 c = some (.lst (cs.map nV))∧H6 t = some (.tup [V.int 2,V.int 1,V.int 0])∧But F H H6) ?_ ?_ ?_ ?_
 ·exact ⟨_,_,_,rfl,st _ _ e5,st _ _ h5c,zac,k05.new ht _⟩
 ·rintro i σ H6 _ ⟨x1,x2,x5,rfl,_,_,h6t,_⟩
  exact SqT.of h6t
 ·rintro i x σ H6 hx ⟨x1,x2,x5,rfl,h6,h6c,h6t,k6⟩
  obtain ⟨hi,rfl⟩ : i < 3∧x = V.int ((2 - i : Nat) : Int):=by
   rcases i with _ | _ | _ | i
   ·exact ⟨by decide,(yaf hx).symm⟩
   ·exact ⟨by decide,(yaf hx).symm⟩
   ·exact ⟨by decide,(yaf hx).symm⟩
   ·cases hx
  have hml:=zgx cs i
  have hnx : mkN cs (i + 1) = zbR (2 - i) cs (mkN cs i):=rfl
  rw [hnx]
  generalize mkN cs i = ms at h6 hml ⊢
  generalize 2 - i = sh
  have h6a:=k6 _ _ (zab ha hF0) ha
  refine ⟨_,rfl,_,_,rfl,.inl (SqL.of h6a),1,_,rfl,⟨by omega,by omega,by omega,by omega⟩,?_⟩
  have en : (((ws.length : Nat) : Int) - 1).toNat = cs.length - 1:=by omega
  rw [en]
  have km : ∀ k,(mixM sh cs ms k).length = cs.length:=zcP hml
  refine zbg (n:=cs.length - 1) (fun j σ H7=>∃ (x2 : Option V),σ = [some (.ref a),x1,x2,some (.ref c),some (.ref F),some (.int sh)]∧H7 F = some (.lst ((mixM sh cs ms (1 + j)).map V.bl))∧H7 c = some (.lst (cs.map nV))∧H7 t = some (.tup [V.int 2,V.int 1,V.int 0])∧But F H H7) ?_ ?_ ?_
  ·exact ⟨_,rfl,by rw [zjD hml]; exact h6,h6c,h6t,k6⟩
  ·rintro j σ H7 hj ⟨x2,rfl,h7,h7c,h7t,k7⟩
   have ek : (1 : Int) + (j : Int) = ((1 + j : Nat) : Int):=by omega
   have hk1 : 1≤1 + j:=by omega
   have hkl : 1 + j < cs.length:=by omega
   rw [ek]
   have es1 : 1 + (j + 1) = 1 + j + 1:=by omega
   rw [es1]
   generalize 1 + j = k at h7 hk1 hkl ⊢
   have hat:=zga (xs:=cs) hkl
   have mc : cs.getD k 0 = sh→zdg (mixM sh cs ms k) k = zdg ms k:=fun z=>zkl cu hml hkl hk1 z
   refine ⟨_,rfl,_,rfl,_,_,_,_,rfl,rfl,SqL.of h7c,hat,_,rfl,rfl,_,rfl,?_⟩
   refine ite2 (fun e=>?_) (fun e=>?_)
   ·have e' : cs.getD k 0 = sh:=by
     have:=V.int.inj (yaC e)
     omega
    refine ⟨_,rfl,_,rfl,_,_,rfl,rfl,_,rfl,_,rfl,_,_,rfl,rfl,_,rfl,_,_,rfl,SqL.of h7,fun b hb=>?_⟩
    have sb:=zak hb (.lst (cutV ((mixM sh cs ms k).map V.bl) (some ((k : Int) - 1)) (some ((k : Int) + 2))))
    have hbb : upd H7 b (.lst (cutV ((mixM sh cs ms k).map V.bl) (some ((k : Int) - 1)) (some ((k : Int) + 2)))) b = some (.lst ((((mixM sh cs ms k).drop (k - 1)).take 3).map V.bl)):=by
     rw [zac,zpe hk1 rfl rfl]
    have kb:=k7.new hb (.lst (cutV ((mixM sh cs ms k).map V.bl) (some ((k : Int) - 1)) (some ((k : Int) + 2))))
    generalize upd H7 b (.lst (cutV ((mixM sh cs ms k).map V.bl) (some ((k : Int) - 1)) (some ((k : Int) + 2)))) = H8 at sb hbb kb ⊢
    refine ⟨_,_,rfl,.inl (SqL.of hbb),rfl,zmm _,_,rfl,?_⟩
    show if (!inV (.bl true) ((((mixM sh cs ms k).drop (k - 1)).take 3).map V.bl)) = true then _ else _
    rw [zjQ,any3 _ hk1,mc e',Bool.not_not]
    refine ite2 (fun y=>?_) (fun y=>?_)
    ·refine ⟨_,rfl,_,rfl,_,_,_,k,rfl,rfl,sb _ _ h7,zeX (by rw [yab,km]; exact hkl),?_⟩
     have same : ∀ b o,b≠F→H8 b = some o→upd H8 F (.lst (((mixM sh cs ms k).map V.bl).set k (.bl true))) b = some o:=fun b o n e=>by
      rw [zaf n]
      exact e
     refine ⟨_,rfl,?_,same _ _ (fun z=>?_) (sb _ _ h7c),same _ _ (Ne.symm (zbK (sb _ _ h7) (sb _ _ h7t))) (sb _ _ h7t),fun b o n e=>same _ _ n (kb b o n e)⟩
     ·rw [zac,znq hml hkl ⟨hk1,e',y⟩,yb1]
     ·exact nFc z
    ·exact ⟨_,rfl,by rw [zfO hml hkl (fun z=>y z.2.2)]; exact sb _ _ h7,sb _ _ h7c,sb _ _ h7t,kb⟩
   ·have e' : cs.getD k 0≠sh:=fun z=>e (by rw [z]; exact yan rfl)
    refine iteF ?_
    exact ⟨_,rfl,by rw [zfO hml hkl (fun z=>e' z.2.1)]; exact h7,h7c,h7t,k7⟩
  ·rintro σ H7 ⟨x2,rfl,h7,h7c,h7t,k7⟩
   rw [zjE hml (by omega)] at h7
   exact ⟨_,_,_,rfl,h7,h7c,h7t,k7⟩
 ·rintro σ H6 ⟨x1,x2,x5,rfl,h6,_,_,k6⟩
  refine ⟨_,rfl,?_⟩
  refine q F H6 hF0 (fun b o e=>k6 b o (zab e hF0) e) ?_
  rw [fin]
  exact h6
set_option maxHeartbeats 1000000 in
theorem zaO {K : Frag} {H : Hp} {q : Addr} {zs : List V} {o : HO} (hq : H q = some (.lst zs)) : ∀ {es : List (Int×Int)} {ws : List V},zal K H es ws→zal K (upd H q o) es ws
 | _,_,.nil=>.nil
 | _,_,.cons h t=>by
  refine .cons ?_ (zaO hq t)
  obtain ⟨a,x1,x2,rfl,hT,e1,e2⟩:=(show hasP K H _ _ from h)
  exact ⟨a,x1,x2,rfl,by rw [zaf (zp8 hT hq (by intro z; cases z))]; exact hT,e1,e2⟩
def Own (K : Frag) (H : Hp) : List Addr→List (List (Int×Int))→Prop:=Paired fun q l=>∃ ws,H q = some (.lst ws)∧zal K H l ws
section
variable {K : Frag} {H H' : Hp}
theorem Own.length {qs : List Addr} {ls : List (List (Int×Int))} (h : Own K H qs ls) : qs.length = ls.length:=Paired.length h
theorem Own.ext (e : Ext H H') : ∀ {qs : List Addr} {ls : List (List (Int×Int))},Own K H qs ls→Own K H' qs ls
 | _,_,.nil=>.nil
 | _,_,.cons ⟨ws,h1,h2⟩ t=>.cons ⟨ws,e _ _ h1 (fun _ z=>nomatch z),zal.mono e h2⟩ (Own.ext e t)
theorem Own.get : ∀ {qs : List Addr} {ls : List (List (Int×Int))} {i : Nat} {x : V},Own K H qs ls→(qs.map V.ref)[i]? = some x→∃ q l ws,qs[i]? = some q∧x = .ref q∧ls[i]? = some l∧H q = some (.lst ws)∧zal K H l ws
 | _,_,_,_,.nil,e=>by simp at e
 | _,_,0,_,.cons ⟨ws,h1,h2⟩ _,e=>by
  simp at e
  exact ⟨_,_,ws,rfl,e.symm,rfl,h1,h2⟩
 | _,_,i + 1,x,.cons _ t,e=>by
  obtain ⟨q,l,ws,h1,h2,h3,h4,h5⟩:=Own.get (i:=i) (x:=x) t (by simpa using e)
  exact ⟨q,l,ws,by simpa using h1,h2,by simpa using h3,h4,h5⟩
theorem Own.append : ∀ {qs qs' : List Addr} {ls ls' : List (List (Int×Int))},Own K H qs ls→Own K H qs' ls'→Own K H (qs ++ qs') (ls ++ ls')
 | _,_,_,_,.nil,s=>s
 | _,_,_,_,.cons r t,s=>.cons r (Own.append t s)
theorem Own.other {q : Addr} {o : HO} {zs : List V} (hq : H q = some (.lst zs)) : ∀ {qs : List Addr} {ls : List (List (Int×Int))},Own K H qs ls→q∉qs→Own K (upd H q o) qs ls
 | _,_,.nil,_=>.nil
 | _,_,.cons ⟨ws,h1,h2⟩ t,hn=>by
  rw [yal,not_or] at hn
  exact .cons ⟨ws,by rw [zaf (Ne.symm hn.1)]; exact h1,zaO hq h2⟩ (Own.other hq t hn.2)
end
theorem zh4 {ls : List (List (Int×Int))} {i : Nat} {l : List (Int×Int)} (h : ls[i]? = some l) : (ls.take (i + 1)).flatten = (ls.take i).flatten ++ l:=by
 have hi:=(yah.mp h).1
 rw [yaH hi,ycl,(yah.mp h).2]
 simp
theorem zo8 {ls : List (List (Int×Int))} (i : Nat) : (ls.take i).flatten.length≤ls.flatten.length:=by
 have e : ls.flatten = (ls.take i).flatten ++ (ls.drop i).flatten:=by rw [← ycl,ybp]
 rw [e,yai]
 omega
def znY (K : Frag) : Sp:=fun vs H Q _=>∃ (a : Addr) (qs : List Addr) (ls : List (List (Int×Int))),vs = [.ref a]∧H a = some (.lst (qs.map V.ref))∧Own K H qs ls∧ls.flatten.length≤63∧
 ∀ (p : Addr) (ws : List V) (H' : Hp),H p = none→Same H H'→H' p = some (.lst ws)→zal K H' (zbS ls.flatten) ws→Q (.ref p) H'
theorem zlG (T : Txt K mg) (D_joined_up : DF K mg "joined_up" zcI zcq) : FC P w K mg base 1 "joined_up" zcq (znY K):=by
 refine D_joined_up.ok sc_joined_up (fun vs H Q E h=>?_) (fun f cdv A outer s H vs Q E hr h=>?_)
 ·obtain ⟨a,qs,ls,rfl,_⟩:=h
  rfl
 obtain ⟨a,qs,ls,rfl,ha,ho,hz,q⟩:=h
 have hll:=ho.length
 refine ⟨_,(zae (zap (i:=1) sc_joined_up.nd rfl (Or.inl rfl) (zbF zad))
   (zae (zaT PassesOwn.never rfl (zby (pv 0)) (zan (i:=2) sc_joined_up.nd rfl (Or.inl rfl)) (zai (zbe (zc7 F.plainAttrs_list F.slot_list_extend F.type_list_extend zlL (pv 1) (zaa (pv 2) zad)))))
   (zai (zaz (zas (zcv (Int×Int)) rfl T.m_sorted boot_sorted (zaa (pv 1) zad)))))),?_⟩
 refine ⟨(by show 0≤sizeLine; decide),fun t ht=>?_⟩
 have k0 : But t H (upd H t (.lst [])):=fun b o n e=>by rw [zaf n]; exact e
 refine ⟨_,rfl,a,rfl,⟨_,SqL.of (k0 _ _ (zab ha ht) ha)⟩,?_⟩
 refine zdI (xs:=qs.map V.ref) (fun i σ H2=>∃ (zs : List V) (x2 : Option V),σ = [some (.ref a),some (.ref t),x2]∧H2 t = some (.lst zs)∧zal K H2 (ls.take i).flatten zs∧But t H H2∧Own K H2 qs ls) ?_ ?_ ?_ ?_
 ·exact ⟨[],_,rfl,zac,.nil,k0,ho.ext (zak ht _).ext⟩
 ·rintro i σ H2 _ ⟨zs,x2,rfl,h2,_,k2,_⟩
  exact SqL.of (k2 _ _ (zab ha ht) ha)
 ·rintro i x σ H2 hx ⟨zs,x2,rfl,h2,hw,k2,o2⟩
  obtain ⟨g,l,ws,e1,rfl,e3,e4,e5⟩:=o2.get hx
  have hlen : zs.length + ws.length≤1000:=by
   have z1:=hw.length
   have z2:=e5.length
   have z3:=zo8 (ls:=ls) (i + 1)
   rw [zh4 e3,yai] at z3
   omega
  have hgo : ∀ b∈qs,b≠t:=fun b hb z=>by
   obtain ⟨j,hj,rfl⟩:=yaX hb
   obtain ⟨_,_,ws0,f1,f2,_,f4,_⟩:=ho.get (i:=j) (x:=.ref qs[j]) (by rw [yaj,yac hj]; rfl)
   cases f2
   rw [z,ht] at f4
   cases f4
  refine ⟨_,rfl,.inl ⟨rfl,_,SqL.of h2⟩,_,rfl,t,g,zs,ws,rfl,rfl,h2,e4,ybk (zao hlen),?_⟩
  refine ⟨_,_,rfl,zac,?_,fun b o n e=>by rw [zaf n]; exact k2 b o n e,o2.other h2 (fun z=>hgo t z rfl)⟩
  rw [zh4 e3]
  exact (zaO h2 hw).append (zaO h2 e5)
 ·rintro σ H2 ⟨zs,x2,rfl,h2,hw,k2,o2⟩
  rw [yar (by rw [yab]; omega)] at hw
  refine ⟨_,rfl,t,zs,_,rfl,SqL.of h2,hw,by omega,fun l ws hl hs=>?_⟩
  have e2:=zak hl (.lst ws)
  have s2 : Same H H2:=fun b o e=>k2 b o (zab e ht) e
  exact q l ws _ (s2.free hl) (s2.trans e2) zac (zal.mono e2.ext hs)
def zcg (ps : List Nat) : List V:=.non :: ps.map nV
def parV (ps : List Nat) (k : Nat) : V:=match par ps k with
 | none=>.non
 | some p=>nV p
theorem zav (ps : List Nat) : (zcg ps).length = ps.length + 1:=by
 unfold zcg
 rw [yaW,yab]
theorem zhp {ps : List Nat} {k : Nat} (h : k < ps.length + 1) : atI (zcg ps) (k : Int) = some (parV ps k):=by
 refine zaV ?_
 unfold zcg parV
 cases k with
 | zero=>rfl
 | succ k=>
  show (ps.map nV)[k]? = some (match ps[k]? with | none=>_ | some p=>nV p)
  rw [yaj,yac (show k < ps.length by omega)]
  rfl
theorem zev {ps : List Nat} {k p : Nat} (h : par ps k = some p) : parV ps k = nV p:=by
 unfold parV
 rw [h]
theorem zhI {ps : List Nat} {k : Nat} (h : par ps k = none) : parV ps k = .non:=by
 unfold parV
 rw [h]
theorem ziu {ps : List Nat} {k m : Nat} : parV ps k = .int (m : Int)↔par ps k = some m:=by
 cases e : par ps k with
 | none=>
  rw [zhI e]
  exact ⟨(fun z=>nomatch z),(fun z=>nomatch z)⟩
 | some p=>
  rw [zev e]
  constructor
  ·intro z
   have:=Int.ofNat.inj (V.int.inj z)
   rw [this]
  ·intro z
   rw [yaf z]
theorem zlh (ps : List Nat) (k : Nat) (i : Int) : scal (parV ps k) (.int i) = true:=by
 cases e : par ps k with
 | none=>rw [zhI e]; rfl
 | some p=>rw [zev e]; rfl
theorem But.new' {p b : Addr} {H H2 : Hp} (k : But p H H2) (hb : H2 b = none) (o : HO) : But p H (upd H2 b o):=fun x o' n e=>(zak hb o) x o' (k x o' n e)
def znV (K : Frag) : Sp:=fun vs H Q _=>∃ (d L : Addr) (m : Int),vs = [.ref d,.int m]∧(0 < m∧m≤40)∧LS K L d H∧
 ∀ (t : Addr) (ps : List Nat) (H' : Hp),H t = none→zax ps→(ps.length : Int) < m→H' t = some (.tup (zcg ps))→Keep d H H'→LS K L d H'→Q (.ref t) H'
theorem zkW {ps : List Nat} {u : Nat} (T : zax ps) (h : u≤ps.length) : zax (ps ++ [u]):=by
 intro i hi
 rw [yai,yaV] at hi
 by_cases c : i < ps.length
 ·rw [List.getElem_append_left c]
  exact T i c
 ·have : i = ps.length:=by omega
  subst this
  rw [List.getElem_append_right (yaa _)]
  simp
  exact h
theorem znf (T : Txt K mg) (D_l_tree : DF K mg "_law_tree" zfo zeq) (F_l_take : FC P w K mg base 2 "_law_take" zbN (zgp K)) : FC P w K mg base 3 "_law_tree" zeq (znV K):=by
 refine D_l_tree.ok sc_l_tree (fun vs H Q E h=>?_) (fun f cdv A outer s H vs Q E hr h=>?_)
 ·obtain ⟨d,L,m,rfl,_⟩:=h
  rfl
 obtain ⟨d,L,m,rfl,⟨hm0,hm1⟩,hs,q⟩:=h
 refine ⟨_,(zae (zap (i:=2) sc_l_tree.nd rfl (Or.inl rfl) (zaI F_l_take hr (zaa (pv 0) (zaa zag zad))))
   (zae (zap (i:=3) sc_l_tree.nd rfl (Or.inl rfl) (zbF (zaa zpO zad)))
   (zae (zaT PassesOwn.never rfl (zc3 rfl T.m_range (zaa zag (zaa (zar zaS zag (zaI F_l_take hr (zaa (pv 0) (zaa (pv 1) zad)))) zad))) (zan (i:=4) sc_l_tree.nd rfl (Or.inl rfl)) (zai (zbe (zc7 F.plainAttrs_list F.slot_list_append F.type_list_append zaL (pv 3) (zaa (zaC zaw (zbF (zaa (zar zbu (pv 4) zag) (zaa zag (zaa (zaI F_l_take hr (zaa (pv 0) (zaa (pv 4) zad))) (zaa (zas (zf5 rfl) rfl T.m_max boot_max (zaa zag (zaa (zar zbu (zar zbu (pv 4) zag) (zaI F_l_take hr (zaa (pv 0) (zaa zag zad)))) zad))) zad))))) (pv 2) (fun _ _=>rfl)) zad)))))
   (zai (zaz (zbA zcS rfl T.m_tuple boot_tuple (zaa (pv 3) zad))))))),?_⟩
 refine ⟨_,rfl,d,L,4,rfl,by decide,hs,fun w1 H1 w0 w4 k1 s1=>?_⟩
 refine ⟨(by show 1≤sizeLine; decide),fun p hp=>?_⟩
 have g0:=zak hp (.lst [V.non])
 have hpd : p≠d:=by
  obtain ⟨ns,a,l,e,_⟩:=s1.ex
  exact Ne.symm (zab e hp)
 have hp0 : H p = none:=by
  cases e : H p with
  | none=>rfl
  | some o=>
   have:=k1 p o hpd e
   rw [hp] at this
   cases this
 refine ⟨_,rfl,_,rfl,d,L,m,rfl,⟨hm0,by omega⟩,s1.same g0,fun n H2 n0 n1 k2 s2=>⟨_,_,rfl,rfl,1,_,rfl,⟨by omega,by omega,by omega,by omega⟩,?_⟩⟩
 have en : ((1 : Int) + n - 1).toNat = n.toNat:=by omega
 rw [en]
 refine zbg (n:=n.toNat) (fun i σ H3=>∃ (ps : List Nat) (x4 : Option V),σ = [some (.ref d),some (.int m),some (.int w1),some (.ref p),x4]∧H3 p = some (.lst (zcg ps))∧ps.length = i∧zax ps∧(∀ b o,b≠d→b≠p→H b = some o→H3 b = some o)∧LS K L d H3) ?_ ?_ ?_
 ·exact ⟨[],_,rfl,k2 p _ hpd zac,rfl,fun i hi=>absurd hi (by simp),fun b o n1 n2 e=>k2 b o n1 (g0 b o (k1 b o n1 e)),s2⟩
 ·rintro i σ H3 hi ⟨ps,x4,rfl,h3,rfl,hT,k3,s3⟩
  have ek : (1 : Int) + ((ps.length : Nat) : Int) = ((ps.length + 1 : Nat) : Int):=by omega
  rw [ek]
  refine ⟨_,rfl,.inl ⟨rfl,_,SqL.of h3⟩,?_⟩
  refine ⟨_,rfl,_,_,rfl,rfl,_,rfl,_,rfl,d,L,_,rfl,⟨by omega,by omega⟩,s3,fun v1 H4 v10 v11 k4 s4=>?_⟩
  refine ⟨_,rfl,_,_,rfl,rfl,_,rfl,d,L,2,rfl,by decide,s4,fun v2 H5 v20 v21 k5 s5=>⟨_,_,rfl,rfl,_,_,rfl,(by show 4≤sizeLine; decide),fun l hl=>?_⟩⟩
  have h4:=k4 p _ hpd h3
  have h5:=k5 p _ hpd h4
  obtain ⟨u,hat,hu⟩ : ∃ u : Nat,atI [V.int (((ps.length + 1 : Nat) : Int) - 1),V.int 0,V.int v1,V.int (if ((ps.length + 1 : Nat) : Int) - 1 - v2 > 0 then ((ps.length + 1 : Nat) : Int) - 1 - v2 else 0)] w1 = some (nV u)∧u≤ps.length:=by
   have z : w1 = 0∨w1 = 1∨w1 = 2∨w1 = 3:=by omega
   rcases z with rfl | rfl | rfl | rfl
   ·refine ⟨ps.length,?_,yaa _⟩
    rw [show ((ps.length + 1 : Nat) : Int) - 1 = ((ps.length : Nat) : Int) by omega]
    rfl
   ·exact ⟨0,rfl,yaA _⟩
   ·obtain ⟨u,rfl⟩:=zn7 v10
    exact ⟨u,rfl,by omega⟩
   ·refine ⟨(if ((ps.length + 1 : Nat) : Int) - 1 - v2 > 0 then ((ps.length + 1 : Nat) : Int) - 1 - v2 else 0).toNat,?_,?_⟩
    ·show some (V.int _) = some (V.int _)
     rw [Int.toNat_of_nonneg (by split <;> omega)]
    ·split <;> omega
  refine ⟨_,rfl,_,_,_,_,rfl,rfl,SqL.of zac,hat,_,_,_,rfl,rfl,by rw [zaf (zab h5 hl)]; exact h5,zao (by rw [zav]; omega),?_⟩
  refine ⟨ps ++ [u],_,rfl,?_,by rw [yai,yaV],zkW hT hu,fun b o n1 n2 e=>?_,?_⟩
  ·rw [zac]
   unfold zcg
   rw [yaq]
   rfl
  ·rw [zaf n2]
   have e5:=k5 b o n1 (k4 b o n1 (k3 b o n1 n2 e))
   exact (zak hl _) _ _ e5
  ·exact LS.put hs hp0 (fun b o n1 n2 e=>(zak hl _) _ _ (k5 b o n1 (k4 b o n1 (k3 b o n1 n2 e)))) (s5.of_new hl _)
 ·rintro σ H3 ⟨ps,x4,rfl,h3,hl,hT,k3,s3⟩
  refine ⟨_,rfl,p,_,rfl,.inl ⟨SqL.of h3,fun t ht=>?_⟩⟩
  have sn:=zak ht (.tup (zcg ps))
  have htp : t≠p:=Ne.symm (zab h3 ht)
  have ht0 : H t = none:=by
   cases e : H t with
   | none=>rfl
   | some o=>
    have htd : t≠d:=by
     obtain ⟨ns,a,l,e,_⟩:=s3.ex
     exact Ne.symm (zab e ht)
    have:=k3 t o htd htp e
    rw [ht] at this
    cases this
  exact q t ps _ ht0 hT (by omega) zac (fun b o n e=>sn _ _ (k3 b o n (zab e hp0) e)) (s3.of_new ht _)
def zeP (K : Frag) : Sp:=fun vs H Q _=>∃ (t : Addr) (ps : List Nat) (k : Nat),vs = [.ref t,.int k]∧H t = some (.tup (zcg ps))∧ps.length≤900∧
 ∀ (p : Addr) (H' : Hp),H p = none→Same H H'→H' p = some (.lst ((zaF ps k (ps.length + 1)).map nV))→Q (.ref p) H'
theorem zix (T : Txt K mg) (D_children : DF K mg "children" zdp zb9) : FC P w K mg base 1 "children" zb9 (zeP K):=by
 refine D_children.ok sc_children (fun vs H Q E h=>?_) (fun f cdv A outer s H vs Q E hr h=>?_)
 ·obtain ⟨t,ps,k,rfl,_⟩:=h
  rfl
 obtain ⟨t,ps,k,rfl,ht,hz,q⟩:=h
 refine ⟨_,(zai (zaz (zbQ (N:=["other","tree","knot"]) (own:=1) (cap:=[0,1]) rfl (zba rfl T.m_range (zaa (zas zam rfl T.m_len boot_len (zaa (pv 0) zad)) zad)) ⟨rfl,rfl,rfl,rfl,rfl,rfl⟩ (fun _ _ _ _ _=>(zan (i:=0) (show List.Nodup (["other","tree","knot"] : List Str) by decide +kernel) rfl (Or.inl rfl))) (fun _ _ _ _ _=>(zc1 (zaB zeV (zaC (ziI (K:=K)) (pv 1) (pv 0) (fun _ _=>rfl)) (pv 2) (zaN _)))) (fun _ _ _ _ _=>(pv 0))))),?_⟩
 refine ⟨_,rfl,_,_,rfl,.inr (SqT.of ht),_,rfl,by omega,by rw [zav]; omega,fun D hD=>?_⟩
 have el : ((((zcg ps).length : Nat) : Int)).toNat = ps.length + 1:=by rw [zav,yaU]
 rw [el]
 refine zb2 (n:=ps.length + 1) (fun j σ H3=>∃ x0 : Option V,σ = [x0,some (.ref t),some (.int k)]∧H3 D = some (.lst ((zaF ps k j).map nV))∧But D H H3) ?_ ?_ ?_
 ·exact ⟨_,rfl,zac,fun b o n e=>by rw [zaf n]; exact e⟩
 ·rintro j m σ H3 hm hj ⟨x0,rfl,h3,k3⟩
  rw [yba]
  have h3t:=k3 _ _ (zab ht hD) ht
  have hlen:=zdJ ps k j
  refine ⟨_,rfl,_,rfl,_,_,_,_,rfl,rfl,SqT.of h3t,zhp hj,_,rfl,zlh _ _ _,_,rfl,?_⟩
  refine ite2 (fun c=>?_) (fun c=>?_)
  ·have c' : par ps j = some k:=ziu.mp (yaC c)
   refine ⟨_,rfl,_,h3,zao (by rw [yab]; omega),m - 1,by omega,by omega,_,rfl,?_,fun b o n e=>by rw [zaf n]; exact k3 b o n e⟩
   rw [zac,zf3,if_pos c',yaq]
   rfl
  ·have c' : ¬ par ps j = some k:=fun z=>c (yan (ziu.mpr z))
   refine ⟨m - 1,by omega,by omega,_,rfl,?_,k3⟩
   rw [h3,zf3,if_neg c',yaD]
 ·rintro σ H3 ⟨x0,rfl,h3,k3⟩
  exact q D H3 hD (fun b o e=>k3 b o (zab e hD) e) h3
def zhC (K : Frag) : Sp:=fun vs H Q _=>∃ (t : Addr) (ps : List Nat) (k : Nat),vs = [.ref t,.int k]∧H t = some (.tup (zcg ps))∧zax ps∧k < ps.length + 1∧ps.length≤900∧
 ∀ (p : Addr) (H' : Hp),H p = none→Same H H'→H' p = some (.lst ((benL ps k (ps.length + 1)).map nV))→Q (.ref p) H'
theorem zkk (T : Txt K mg) (D_beneath : DF K mg "beneath" zek zdB) : FC P w K mg base 1 "beneath" zdB (zhC K):=by
 refine D_beneath.ok sc_beneath (fun vs H Q E h=>?_) (fun f cdv A outer s H vs Q E hr h=>?_)
 ·obtain ⟨t,ps,k,rfl,_⟩:=h
  rfl
 obtain ⟨t,ps,k,rfl,ht,hT,hk,hz,q⟩:=h
 refine ⟨_,(zae (zap (i:=2) sc_beneath.nd rfl (Or.inl rfl) (zbF (zaa (pv 1) zad)))
   (zae (zaT PassesOwn.never rfl (zc3 rfl T.m_range (zaa (zar zaS (pv 1) zag) (zaa (zas zam rfl T.m_len boot_len (zaa (pv 0) zad)) zad))) (zan (i:=3) sc_beneath.nd rfl (Or.inl rfl)) (zai (zch (zaB zlu (zaC zbc (pv 0) (pv 3) (fun _ _=>rfl)) (pv 2) (by with_unfolding_all rfl)) (zai (zbe (zc7 F.plainAttrs_list F.slot_list_append F.type_list_append zaL (pv 2) (zaa (pv 3) zad)))) za7)))
   (zai (zaz (pv 2))))),?_⟩
 refine ⟨_,rfl,(by show 1≤sizeLine; decide),fun p hp=>?_⟩
 have k0 : But p H (upd H p (.lst [.int (k : Int)])):=fun b o n e=>by rw [zaf n]; exact e
 have ntp : t≠p:=zab ht hp
 refine ⟨_,rfl,_,_,rfl,rfl,_,rfl,_,_,rfl,.inr (SqT.of (k0 _ _ ntp ht)),_,_,rfl,⟨by omega,by omega,by omega,by rw [zav]; omega⟩,?_⟩
 have en : ((((zcg ps).length : Nat) : Int) - ((k : Int) + 1)).toNat = ps.length - k:=by rw [zav]; omega
 rw [en]
 refine zbg (n:=ps.length - k) (fun i σ H3=>∃ x3 : Option V,σ = [some (.ref t),some (.int k),some (.ref p),x3]∧H3 p = some (.lst ((benL ps k (k + 1 + i)).map nV))∧But p H H3) ?_ ?_ ?_
 ·refine ⟨_,rfl,?_,k0⟩
  rw [zac,ybq,znO hT]
  rfl
 ·rintro i σ H3 hi ⟨x3,rfl,h3,k3⟩
  have ek : (k : Int) + 1 + (i : Int) = ((k + 1 + i : Nat) : Int):=by omega
  rw [ek]
  have hj : k + 1 + i < ps.length + 1:=by omega
  have hj1 : 1≤k + 1 + i:=by omega
  have hjk : k + 1 + i≠k:=by omega
  have ei : k + 1 + (i + 1) = k + 1 + i + 1:=by omega
  rw [ei]
  generalize k + 1 + i = j at h3 hj hj1 hjk ⊢
  obtain ⟨u,hu⟩:=zfz hj1 hj
  have h3t:=k3 _ _ ntp ht
  have hat:=zhp hj
  rw [zev hu] at hat
  have hlen:=zhn ps k j
  refine ⟨_,rfl,_,rfl,_,_,_,_,rfl,rfl,SqT.of h3t,hat,_,rfl,_,_,rfl,.inl (SqL.of h3),rfl,ziM _,_,rfl,?_⟩
  show if inV (.int (u : Int)) ((benL ps k j).map nV) = true then _ else _
  rw [zmb]
  have hB : isB ps k j = isB ps k u:=zbs hT hjk hu
  have hult:=(zaJ hT hu).1
  refine ite2 (fun c=>?_) (fun c=>?_)
  ·have c' : isB ps k u = true:=(zbY.mp (yaC c)).2
   refine ⟨_,rfl,.inl ⟨rfl,_,SqL.of h3⟩,_,rfl,_,_,_,rfl,rfl,h3,zao (by rw [yab]; omega),?_⟩
   refine ⟨_,rfl,?_,fun b o n e=>by rw [zaf n]; exact k3 b o n e⟩
   rw [zac,zf8,hB,if_pos c',yaq]
   rfl
  ·have c' : ¬ isB ps k u = true:=fun z=>c (yan (zbY.mpr ⟨hult,z⟩))
   refine ⟨_,rfl,?_,k3⟩
   rw [h3,zf8,hB,if_neg c',yaD]
 ·rintro σ H3 ⟨x3,rfl,h3,k3⟩
  refine ⟨_,rfl,?_⟩
  rw [show k + 1 + (ps.length - k) = ps.length + 1 by omega] at h3
  exact q p H3 hp (fun b o e=>k3 b o (zab e hp) e) h3
def zbC (es : List (Int×Int)) : List (Int×Int):=zbX es (za4 es)
def za9 (rows : List (List Int)) (k : Nat) : List Int:=rows.getD k []
def ownE (rows : List (List Int)) (k : Nat) : List (Int×Int):=(za9 rows k).map fun x=>(x,(k : Int))
def zkv (ps : List Nat) (rows : List (List Int)) : Nat→Nat→List (Int×Int)
 | 0,_=>[]
 | f + 1,k=>zbS (((zaF ps k (ps.length + 1)).map fun c=>zbC (zkv ps rows f c)).flatten ++ ownE rows k)
theorem zgE {ps : List Nat} (T : zax ps) {rows : List (List Int)} : ∀ f g k,k < ps.length + 1→ps.length + 1 - k≤f→ps.length + 1 - k≤g→zkv ps rows f k = zkv ps rows g k
 | 0,_,k,hk,h,_=>by omega
 | _,0,k,hk,_,h=>by omega
 | f + 1,g + 1,k,hk,hf,hg=>by
  unfold zkv
  congr 3
  refine ycA fun c hc=>?_
  have h:=zaA.mp hc
  have:=zaJ T h.2
  show zbC _ = zbC _
  rw [zgE T f g c h.1 (by omega) (by omega)]
def zah (ps : List Nat) (rows : List (List Int)) (k : Nat) : List (Int×Int):=zkv ps rows (ps.length + 1 - k) k
def zdN (ps : List Nat) (rows : List (List Int)) (k : Nat) : List (List (Int×Int)):=((zaF ps k (ps.length + 1)).map fun c=>zbC (zah ps rows c)) ++ [ownE rows k]
theorem zcu {ps : List Nat} (T : zax ps) {rows : List (List Int)} {k : Nat} (hk : k < ps.length + 1) : zah ps rows k = zbS (zdN ps rows k).flatten:=by
 unfold zah zdN
 obtain ⟨f,hf⟩ : ∃ f,ps.length + 1 - k = f + 1:=⟨ps.length - k,by omega⟩
 rw [hf,zkv,ycl,List.flatten_singleton]
 congr 3
 refine ycA fun c hc=>?_
 have h:=zaA.mp hc
 have:=zaJ T h.2
 show zbC _ = zbC _
 rw [zgE T f (ps.length + 1 - c) c h.1 (by omega) (by omega)]
 rfl
structure zaP (rows : List (List Int)) : Prop where
 up : ∀ row∈rows,row.Pairwise (· < ·)
 key : ∀ row∈rows,∀ x∈row,-(10 ^ 60) < x∧x < 10 ^ 60
theorem zaP.at_up {rows : List (List Int)} (R : zaP rows) (k : Nat) : (za9 rows k).Pairwise (· < ·):=by
 unfold za9
 rw [yad]
 cases e : rows[k]? with
 | none=>exact .nil
 | some row=>exact R.up row (yaI e)
theorem zaP.at_key {rows : List (List Int)} (R : zaP rows) (k : Nat) : ∀ x∈za9 rows k,-(10 ^ 60) < x∧x < 10 ^ 60:=by
 unfold za9
 rw [yad]
 cases e : rows[k]? with
 | none=>exact fun x hx=>nomatch hx
 | some row=>exact R.key row (yaI e)
theorem zhZ {α : Type} : ∀ (es : List α) (ms : List Bool),(zbX es ms).Sublist es
 | [],_=>by
  unfold zbX
  exact List.Sublist.refl _
 | e :: es,[]=>by
  unfold zbX
  exact List.nil_sublist _
 | e :: es,m :: ms=>by
  have ih:=zhZ es ms
  unfold zbX at ih ⊢
  cases m with
  | false=>exact List.Sublist.cons e ih
  | true=>exact List.Sublist.cons₂ e ih
theorem zaX (es : List (Int×Int)) : (zbC es).Sublist es:=zhZ _ _
def Of (ps : List Nat) (rows : List (List Int)) (k : Nat) (e : Int×Int) : Prop:=∃ j,j < ps.length + 1∧isB ps k j = true∧e.2 = (j : Int)∧e.1∈za9 rows j
theorem zhJ {ps : List Nat} {rows : List (List Int)} {k : Nat} (hk : k < ps.length + 1) {e : Int×Int} (h : e∈ownE rows k) : Of ps rows k e∧e.2 = (k : Int):=by
 obtain ⟨x,hx,rfl⟩:=yaF.mp h
 exact ⟨⟨k,hk,zcs,rfl,hx⟩,rfl⟩
theorem zhK {rows : List (List Int)} (R : zaP rows) (k : Nat) : (ownE rows k).Nodup:=by
 unfold ownE
 rw [List.nodup_iff_pairwise_ne,ybv]
 exact List.Pairwise.imp (fun {a b} (h : a < b) z=>by
  have:=congrArg Prod.fst z
  have : a = b:=this
  omega) (R.at_up k)
theorem zfB {ps : List Nat} (T : zax ps) {rows : List (List Int)} (R : zaP rows) : ∀ (m k : Nat),ps.length + 1 - k≤m→k < ps.length + 1→(∀ e∈zah ps rows k,Of ps rows k e)∧(zdN ps rows k).flatten.Nodup
 | 0,k,hm,hk=>by omega
 | m + 1,k,hm,hk=>by
  have ih : ∀ c,par ps c = some k→(∀ e∈zah ps rows c,Of ps rows c e)∧(zah ps rows c).Nodup:=fun c hc=>by
   have:=zaJ T hc
   have q:=zfB T R m c (by omega) this.2
   refine ⟨q.1,?_⟩
   rw [zcu T this.2]
   exact (zbZ _).nodup_iff.mpr q.2
  have up : ∀ {c : Nat} {e : Int×Int},par ps c = some k→Of ps rows c e→Of ps rows k e:=fun {c e} hc h=>by
   obtain ⟨j,h1,h2,h3,h4⟩:=h
   exact ⟨j,h1,(zeB T j j (yaa _) h1).mpr (.inr ⟨c,hc,h2⟩),h3,h4⟩
  refine ⟨fun e he=>?_,?_⟩
  ·rw [zcu T hk,zea] at he
   obtain ⟨l,hl,he⟩:=ycj.mp he
   rcases yaE.mp hl with q | q
   ·obtain ⟨c,hc,rfl⟩:=yaF.mp q
    have hp:=(zaA.mp hc).2
    exact up hp ((ih c hp).1 e ((zaX _).mem he))
   ·rw [yap.mp q] at he
    exact (zhJ hk he).1
  ·show List.Pairwise _ _
   unfold zdN
   rw [List.pairwise_flatten]
   refine ⟨fun l hl=>?_,?_⟩
   ·rcases yaE.mp hl with q | q
    ·obtain ⟨c,hc,rfl⟩:=yaF.mp q
     exact (ih c (zaA.mp hc).2).2.sublist (zaX _)
    ·rw [yap.mp q]
     exact zhK R k
   ·rw [ycv]
    refine ⟨?_,List.pairwise_singleton _ _,?_⟩
    ·rw [ybv]
     refine List.Pairwise.imp_of_mem (fun {c d} hc hd hcd=>?_) (zia ps k _)
     intro x hx y hy z
     subst z
     have pc:=(zaA.mp hc).2
     have pd:=(zaA.mp hd).2
     obtain ⟨j,_,h2,h3,_⟩:=(ih c pc).1 x ((zaX _).mem hx)
     obtain ⟨i,_,g2,g3,_⟩:=(ih d pd).1 x ((zaX _).mem hy)
     have : j = i:=by omega
     subst this
     exact zdd T pc pd (yak hcd) j j (yaa _) h2 g2
    ·intro l hl l' hl' x hx y hy z
     subst z
     obtain ⟨c,hc,rfl⟩:=yaF.mp hl
     rw [yap.mp hl'] at hy
     have pc:=(zaA.mp hc).2
     obtain ⟨j,_,h2,h3,_⟩:=(ih c pc).1 x ((zaX _).mem hx)
     have h4:=(zhJ hk hy).2
     have : j = k:=by omega
     subst this
     rw [zcX T (zaJ T pc).1] at h2
     cases h2
theorem zdH {ps : List Nat} (T : zax ps) {rows : List (List Int)} (R : zaP rows) {k : Nat} (hk : k < ps.length + 1) : ∀ e∈zah ps rows k,Of ps rows k e:=(zfB T R _ k (yaa _) hk).1
theorem zdZ {ps : List Nat} (T : zax ps) {rows : List (List Int)} (R : zaP rows) {k : Nat} (hk : k < ps.length + 1) : (zah ps rows k).Nodup:=by
 rw [zcu T hk]
 exact (zbZ _).nodup_iff.mpr (zfB T R _ k (yaa _) hk).2
theorem zaR {ps : List Nat} (T : zax ps) {rows : List (List Int)} (R : zaP rows) {k : Nat} (hk : k < ps.length + 1) : Rise (zah ps rows k):=by
 rw [zcu T hk]
 exact zeQ (zfB T R _ k (yaa _) hk).2
theorem zeD {ps : List Nat} (T : zax ps) {rows : List (List Int)} (R : zaP rows) (hz : ps.length≤40) {k : Nat} (hk : k < ps.length + 1) : ∀ e∈zah ps rows k,zd4 64 e:=fun e he=>by
 obtain ⟨j,h1,h2,h3,h4⟩:=zdH T R hk e he
 have:=R.at_key j _ h4
 exact ⟨this.1,this.2,by omega,by omega⟩
def wtR (ps : List Nat) (rows : List (List Int)) (k : Nat) : Nat:=((benL ps k (ps.length + 1)).map fun j=>(za9 rows j).length).sum
theorem zmW {l m : List Nat} (h : l.Perm m) : l.sum = m.sum:=by
 induction h with
 | nil=>rfl
 | cons x _ ih=>rw [yaS,yaS,ih]
 | swap x y l=>rw [yaS,yaS,yaS,yaS]; omega
 | trans _ _ h1 h2=>rw [h1,h2]
theorem zjb (f : Nat→Nat) : ∀ (ls : List (List Nat)),(ls.flatten.map f).sum = (ls.map fun l=>(l.map f).sum).sum
 | []=>rfl
 | l :: ls=>by
  rw [List.flatten_cons,yaq,List.sum_append,zjb f ls,yax,yaS]
theorem zkJ {ps : List Nat} (T : zax ps) (f : Nat→Nat) {k : Nat} (hk : k < ps.length + 1) : ((benL ps k (ps.length + 1)).map f).sum = f k + ((zaF ps k (ps.length + 1)).map fun c=>((benL ps c (ps.length + 1)).map f).sum).sum:=by
 have h:=zmW ((zkd T hk).map f)
 rw [yax,yaS,zjb,ybu] at h
 exact h.symm
theorem znU {f g : Nat→Nat} : ∀ {l : List Nat},(∀ x∈l,f x≤g x)→(l.map f).sum≤(l.map g).sum
 | [],_=>yaa _
 | x :: l,h=>by
  rw [yax,yaS,yax,yaS]
  have h1:=h x yav
  have h2:=znU (f:=f) (g:=g) (l:=l) fun y hy=>h y (yay _ hy)
  omega
theorem zjJ {α : Type} : ∀ (ls : List (List α)),ls.flatten.length = (ls.map List.length).sum
 | []=>rfl
 | l :: ls=>by
  rw [List.flatten_cons,yai,zjJ ls,yax,yaS]
theorem zml {ps : List Nat} (T : zax ps) {rows : List (List Int)} {k : Nat} (hk : k < ps.length + 1) : (zah ps rows k).length = (za9 rows k).length + ((zaF ps k (ps.length + 1)).map fun c=>(zbC (zah ps rows c)).length).sum:=by
 rw [zcu T hk,zci]
 unfold zdN
 rw [ycl,yai,List.flatten_singleton,zjJ,ybu]
 unfold ownE
 rw [yab,Nat.add_comm]
 rfl
theorem zgD {ps : List Nat} (T : zax ps) {rows : List (List Int)} : ∀ (m k : Nat),ps.length + 1 - k≤m→k < ps.length + 1→(zah ps rows k).length≤wtR ps rows k
 | 0,k,hm,hk=>by omega
 | m + 1,k,hm,hk=>by
  unfold wtR
  rw [zml T hk,zkJ T _ hk]
  refine ycq (znU fun c hc=>?_) _
  have h:=zaA.mp hc
  have:=zaJ T h.2
  exact yao (zaX _).length_le (zgD T m c (by omega) h.1)
theorem zgo (f : Nat→Nat) (P : Nat→Bool) : ∀ (l : List Nat),((l.filter P).map f).sum≤(l.map f).sum
 | []=>yaa _
 | x :: l=>by
  have ih:=zgo f P l
  rw [yax,yaS]
  by_cases h : P x = true
  ·rw [yaO h,yax,yaS]
   omega
  ·rw [yaZ h]
   omega
def zbW (rows : List (List Int)) : Nat:=(rows.map List.length).sum
theorem zk4 (rows : List (List Int)) : ((List.range rows.length).map fun j=>(za9 rows j).length).sum = zbW rows:=by
 unfold zbW
 congr 1
 apply ybc
 intro i
 rw [yaj,yaj]
 by_cases h : i < rows.length
 ·rw [ybi h,yac h]
  show some (za9 rows i).length = some rows[i].length
  unfold za9
  rw [yad,yac h]
  rfl
 ·rw [yaM (by rw [yaG]; omega),yaM (by omega)]
  rfl
theorem znR {ps : List Nat} {rows : List (List Int)} (hl : rows.length = ps.length + 1) (k : Nat) : wtR ps rows k≤zbW rows:=by
 unfold wtR benL
 refine yao (zgo _ _ _) ?_
 rw [← hl,zk4]
 exact yaa _
theorem zdY {ps : List Nat} (T : zax ps) {rows : List (List Int)} (hl : rows.length = ps.length + 1) {k : Nat} (hk : k < ps.length + 1) : (zah ps rows k).length≤zbW rows:=yao (zgD T _ k (yaa _) hk) (znR hl k)
def zaQ (H : Hp) (as : List Addr) (rows : List (List Int)) : Prop:=Paired (fun a row=>H a = some (.tup (row.map V.int))) as rows
theorem zaQ.ext {H H' : Hp} (e : ∀ b o,H b = some o→H' b = some o) : ∀ {as : List Addr} {rows : List (List Int)},zaQ H as rows→zaQ H' as rows
 | _,_,.nil=>.nil
 | _,_,.cons h t=>.cons (e _ _ h) (zaQ.ext e t)
theorem zaQ.keep {d p : Addr} {H H' : Hp} (hd : ∀ a row,H a = some (.tup row)→a≠d) (e : ∀ b o,b≠d→H b = some o→H' b = some o) : ∀ {as : List Addr} {rows : List (List Int)},zaQ H as rows→zaQ H' as rows
 | _,_,.nil=>.nil
 | _,_,.cons h t=>.cons (e _ _ (hd _ _ h) h) (zaQ.keep (p:=p) hd e t)
theorem zaQ.length {H : Hp} {as : List Addr} {rows : List (List Int)} (h : zaQ H as rows) : as.length = rows.length:=Paired.length h
theorem zaQ.get {H : Hp} : ∀ {as : List Addr} {rows : List (List Int)} {k : Nat},zaQ H as rows→k < rows.length→∃ a,as[k]? = some a∧H a = some (.tup ((za9 rows k).map V.int))
 | _,_,_,.nil,hk=>by simp at hk
 | a :: as,row :: rows,0,.cons h t,_=>⟨a,rfl,h⟩
 | a :: as,row :: rows,k + 1,.cons h t,hk=>by
  obtain ⟨b,h1,h2⟩:=zaQ.get (k:=k) t (by simpa using hk)
  refine ⟨b,by rw [ycx]; exact h1,?_⟩
  have : za9 (row :: rows) (k + 1) = za9 rows k:=by
   unfold za9
   rw [yad,yad,ycx]
  rw [this]
  exact h2
theorem zaQ.snoc {H : Hp} {a : Addr} {row : List Int} : ∀ {as : List Addr} {rows : List (List Int)},zaQ H as rows→H a = some (.tup (row.map V.int))→zaQ H (as ++ [a]) (rows ++ [row])
 | _,_,.nil,h=>.cons h .nil
 | _,_,.cons h t,h2=>.cons h (zaQ.snoc t h2)
structure zcz (H : Hp) (st : Addr) (ps : List Nat) (rows : List (List Int)) (t rs : Addr) (as : List Addr) : Prop where
 st : H st = some (.tup [.ref t,.ref rs])
 tr : H t = some (.tup (zcg ps))
 rs : H rs = some (.tup (as.map V.ref))
 at_ : zaQ H as rows
 len : rows.length = ps.length + 1
 T : zax ps
 R : zaP rows
 few : ps.length≤40
 keys : zbW rows≤20
theorem zcz.same {H H' : Hp} {st t rs : Addr} {ps : List Nat} {rows : List (List Int)} {as : List Addr} (S : zcz H st ps rows t rs as) (e : Same H H') : zcz H' st ps rows t rs as:=
 ⟨e _ _ S.st,e _ _ S.tr,e _ _ S.rs,S.at_.ext e,S.len,S.T,S.R,S.few,S.keys⟩
theorem zdQ {as : List Addr} {k : Nat} {a : Addr} (h : as[k]? = some a) : atI (as.map V.ref) (k : Int) = some (.ref a):=zaV (by rw [yaj,h]; rfl)
theorem zhN {α : Type} {l : List α} (h : l.Nodup) : l.reverse.Nodup:=(List.reverse_perm l).nodup_iff.mpr h
def zge (K : Frag) (H : Hp) (ps : List Nat) (rows : List (List Int)) (j : Nat) (q : Addr) : Prop:=∃ ws,H q = some (.lst ws)∧zal K H (zah ps rows j) ws
def zau (K : Frag) (H : Hp) (ps : List Nat) (rows : List (List Int)) : List Nat→List Addr→Prop:=Paired (zge K H ps rows)
theorem zge.same {K : Frag} {H H' : Hp} {ps : List Nat} {rows : List (List Int)} {j : Nat} {q : Addr} (h : zge K H ps rows j q) (e : Same H H') : zge K H' ps rows j q:=by
 obtain ⟨ws,h1,h2⟩:=h
 exact ⟨ws,e _ _ h1,h2.mono e.ext⟩
theorem zau.same {K : Frag} {H H' : Hp} {ps : List Nat} {rows : List (List Int)} (e : Same H H') : ∀ {js : List Nat} {qs : List Addr},zau K H ps rows js qs→zau K H' ps rows js qs
 | _,_,.nil=>.nil
 | _,_,.cons h t=>.cons (zge.same h e) (zau.same e t)
theorem zau.ext {K : Frag} {H H' : Hp} {ps : List Nat} {rows : List (List Int)} (e : Ext H H') : ∀ {js : List Nat} {qs : List Addr},zau K H ps rows js qs→zau K H' ps rows js qs
 | _,_,.nil=>.nil
 | _,_,.cons h t=>by
  obtain ⟨ws,a1,a2⟩:=h
  exact .cons ⟨ws,e _ _ a1 (fun _ z=>nomatch z),a2.mono e⟩ (zau.ext e t)
theorem zau.length {K : Frag} {H : Hp} {ps : List Nat} {rows : List (List Int)} {js : List Nat} {qs : List Addr} (h : zau K H ps rows js qs) : js.length = qs.length:=Paired.length h
theorem zau.snoc {K : Frag} {H : Hp} {ps : List Nat} {rows : List (List Int)} {j : Nat} {q : Addr} : ∀ {js : List Nat} {qs : List Addr},zau K H ps rows js qs→zge K H ps rows j q→zau K H ps rows (js ++ [j]) (qs ++ [q])
 | _,_,.nil,h=>.cons h .nil
 | _,_,.cons h t,h2=>.cons h (zau.snoc t h2)
theorem zau.get {K : Frag} {H : Hp} {ps : List Nat} {rows : List (List Int)} : ∀ {js : List Nat} {qs : List Addr} {i j : Nat},zau K H ps rows js qs→js[i]? = some j→∃ q,qs[i]? = some q∧zge K H ps rows j q
 | _,_,i,j,.nil,h=>by simp at h
 | _ :: _,q :: _,0,j,.cons h t,e=>by
  have:=yaf (show some _ = some j from e)
  subst this
  exact ⟨q,rfl,h⟩
 | _ :: _,_ :: _,i + 1,j,.cons h t,e=>by
  obtain ⟨q,h1,h2⟩:=zau.get (i:=i) t (by simpa using e)
  exact ⟨q,by simpa using h1,h2⟩
theorem zau.rev {K : Frag} {H : Hp} {ps : List Nat} {rows : List (List Int)} : ∀ {js : List Nat} {qs : List Addr},zau K H ps rows js qs→zau K H ps rows js.reverse qs.reverse
 | _,_,.nil=>.nil
 | j :: js,q :: qs,.cons h t=>by
  rw [ycb,ycb]
  exact zau.snoc (zau.rev t) h
theorem zau.alloc {K : Frag} {H : Hp} {ps : List Nat} {rows : List (List Int)} : ∀ {js : List Nat} {qs : List Addr},zau K H ps rows js qs→∀ q∈qs,∃ ws,H q = some (.lst ws)
 | _,_,.nil=>fun q hq=>nomatch hq
 | _ :: _,_ :: _,.cons h t=>fun q hq=>by
  rcases yal.mp hq with e | e
  ·obtain ⟨ws,h1,_⟩:=h
   exact ⟨ws,e ▸ h1⟩
  ·exact zau.alloc t q e
abbrev kN (j : Nat) : Key:=Sum.inl (j : Int)
def zdc : List Nat→List Addr→List (Key×V)
 | j :: js,q :: qs=>(kN j,.ref q) :: zdc js qs
 | _,_=>[]
theorem zjL {j : Nat} : ∀ {js : List Nat} {qs : List Addr},j∉js→valV (zdc js qs) (kN j) = none
 | [],_,_=>rfl
 | _ :: _,[],_=>rfl
 | i :: js,q :: qs,h=>by
  have h1 : ¬ kN i = kN j:=fun z=>h (by
   have:=Int.ofNat.inj (Sum.inl.inj z)
   rw [this]
   exact yav)
  show valV ((kN i,V.ref q) :: zdc js qs) (kN j) = none
  rw [zaM h1]
  exact zjL fun z=>h (yay _ z)
theorem ziC {j : Nat} {q : Addr} : ∀ {js : List Nat} {qs : List Addr} {i : Nat},js.Nodup→js[i]? = some j→qs[i]? = some q→valV (zdc js qs) (kN j) = some (.ref q)
 | [],_,_,_,h,_=>by simp at h
 | _ :: _,[],_,_,_,h=>by simp at h
 | a :: js,b :: qs,0,_,h1,h2=>by
  have:=yaf (show some a = some j from h1)
  subst this
  have:=yaf (show some b = some q from h2)
  subst this
  exact zaZ (p:=(kN a,V.ref b)) rfl
 | a :: js,b :: qs,i + 1,hn,h1,h2=>by
  have g1 : js[i]? = some j:=by simpa using h1
  have hne : ¬ kN a = kN j:=fun z=>by
   have e:=Int.ofNat.inj (Sum.inl.inj z)
   exact (yaR.mp hn).1 (e ▸ yaI g1)
  show valV ((kN a,V.ref b) :: zdc js qs) (kN j) = _
  rw [zaM hne]
  exact ziC (yaR.mp hn).2 g1 (by simpa using h2)
theorem zjK {j : Nat} {q : Addr} : ∀ {js : List Nat} {qs : List Addr},js.length = qs.length→zdc (js ++ [j]) (qs ++ [q]) = zdc js qs ++ [(kN j,.ref q)]
 | [],[],_=>rfl
 | [],_ :: _,h=>by cases h
 | _ :: _,[],h=>by cases h
 | a :: js,b :: qs,h=>by
  show (kN a,V.ref b) :: zdc (js ++ [j]) (qs ++ [q]) = (kN a,V.ref b) :: (zdc js qs ++ [(kN j,V.ref q)])
  rw [zjK (Nat.succ.inj h)]
theorem zoX {j : Nat} {q : Addr} {js : List Nat} {qs : List Addr} (hl : js.length = qs.length) (h : j∉js) : putK (zdc js qs) (kN j) (.ref q) = zdc (js ++ [j]) (qs ++ [q]):=by
 rw [zcK _ (zjL h),zjK hl]
theorem zlZ : ∀ {js : List Nat} {qs : List Addr},js.length = qs.length→(zdc js qs).length = js.length
 | [],[],_=>rfl
 | [],_ :: _,h=>by cases h
 | _ :: _,[],h=>by cases h
 | a :: js,b :: qs,h=>by
  show (zdc js qs).length + 1 = js.length + 1
  rw [zlZ (Nat.succ.inj h)]
theorem znP {l : List Nat} (h : l.Pairwise (· > ·)) {i j c : Nat} (hj : l[i]? = some j) (hc : c∈l) (hcj : j < c) : c∈l.take i:=by
 obtain ⟨u,hu,rfl⟩:=yaX hc
 obtain ⟨hi,rfl⟩:=yah.mp hj
 have : u < i:=by
  refine yci fun z=>?_
  by_cases e : i = u
  ·subst e
   omega
  ·have:=yaL.mp h i u hi hu (by omega)
   omega
 rw [List.mem_iff_getElem?]
 exact ⟨u,by rw [ycg,if_pos this,yac hu]⟩
theorem zny {ps : List Nat} (T : zax ps) {k j c : Nat} (h : isB ps k j = true) (hc : par ps c = some j) : isB ps k c = true:=by
 by_cases e : c = k
 ·rw [e]
  exact zcs
 ·rw [zbs T e hc]
  exact h
def zpz (K : Frag) : Sp:=fun vs H Q _=>∃ (st : Addr) (ps : List Nat) (rows : List (List Int)) (t rs : Addr) (as : List Addr) (j : Nat),vs = [.ref st,.int j]∧zcz H st ps rows t rs as∧j < ps.length + 1∧
 ∀ (D : Addr) (us : List V) (H' : Hp),H D = none→Same H H'→H' D = some (.lst us)→zal K H' (ownE rows j) us→Q (.ref D) H'
theorem zp0 (T : Txt K mg) (D_own_entries : DF K mg "own_entries" zbT zbJ) : FC P w K mg base 1 "own_entries" zbJ (zpz K):=by
 refine D_own_entries.ok sc_own_entries (fun vs H Q E h=>?_) (fun f cdv A outer s H vs Q E hr h=>?_)
 ·obtain ⟨st,ps,rows,t,rs,as,k,rfl,_⟩:=h
  rfl
 obtain ⟨st,ps,rows,t,rs,as,j,rfl,S4,hjn,q⟩:=h
 refine ⟨_,(zai (zaz (zbQ (N:=["key","knot"]) (own:=1) (cap:=[1]) rfl (zc2 (zaC zbc (zaC zbc (pv 0) zag (fun _ _=>rfl)) (pv 1) (fun _ _=>rfl))) ⟨rfl,rfl,rfl,rfl,rfl,rfl⟩ (fun _ _ _ _ _=>(zan (i:=0) (show List.Nodup (["key","knot"] : List Str) by decide +kernel) rfl (Or.inl rfl))) (fun _ _ _ _ _=>zbP) (fun _ _ _ _ _=>(zbz (zaa (pv 0) (zaa (pv 1) zad))))))),?_⟩
 obtain ⟨a,ha1,ha4⟩:=S4.at_.get (k:=j) (by rw [S4.len]; exact hjn)
 have hkeys:=S4.keys
 refine ⟨_,rfl,_,_,_,_,rfl,rfl,SqT.of S4.st,rfl,_,rfl,_,_,_,_,rfl,rfl,SqT.of S4.rs,zdQ ha1,a,rfl,⟨_,SqT.of ha4⟩,fun D3 hD3=>?_⟩
 refine zeG (xs:=(za9 rows j).map V.int) (fun m σ H5=>∃ (us : List V) (x0 : Option V),σ = [x0,some (.int j)]∧H5 D3 = some (.lst us)∧zal K H5 ((ownE rows j).take m) us∧But D3 H H5) ?_ ?_ ?_ ?_
 ·exact ⟨[],_,rfl,zac,.nil,fun b o n e=>by rw [zaf n]; exact e⟩
 ·rintro m σ H5 _ ⟨us,x0,rfl,_,_,k5⟩
  exact SqT.of (k5 _ _ (zab ha4 hD3) ha4)
 ·rintro m r x σ H5 hx hm ⟨us,x0,rfl,h5,hw5,k5⟩
  rw [yaj] at hx
  obtain ⟨y,hy,rfl⟩:=ya4.mp hx
  have hlow:=(yah.mp hy).1
  have htk3 : (ownE rows j).take (m + 1) = (ownE rows j).take m ++ [(y,(j : Int))]:=by
   unfold ownE
   rw [← ybI,← ybI,yaH hlow,yaq]
   rw [(yah.mp hy).2]
   rfl
  have hul:=hw5.length
  rw [yas] at hul
  rw [yab] at hm
  have hrl : (za9 rows j).length≤zbW rows:=by
   have:=znR S4.len (k:=j) (ps:=ps)
   have e2 : wtR ps rows j = (za9 rows j).length + _:=zkJ S4.T _ hjn
   omega
  refine zcW ?_
  refine ⟨_,rfl,_,rfl,(by show 2≤sizeLine; decide),fun u hu=>?_⟩
  have su:=zak hu (.tup [.int y,.int (j : Int)])
  have h6:=su _ _ h5
  have hut : upd H5 u (.tup [.int y,.int (j : Int)]) u = some (.tup [.int y,.int (j : Int)]):=zac
  have k6:=k5.new' hu (.tup [.int y,.int (j : Int)])
  have hw6:=hw5.mono su.ext
  generalize upd H5 u (.tup [.int y,.int (j : Int)]) = H6 at su h6 hut k6 hw6 ⊢
  refine ⟨_,h6,zao (by omega),r - 1,by omega,by rw [yab]; omega,us ++ [.ref u],_,rfl,zac,?_,fun b o n e=>by rw [zaf n]; exact k6 b o n e⟩
  rw [htk3]
  exact (zaO h6 hw6).append (zaO h6 (.cons ⟨u,.int y,.int (j : Int),rfl,hut,rfl,rfl⟩ .nil))
 ·rintro σ H5 ⟨us,x0,rfl,h5,hw5,k5⟩
  rw [yab,yar (by unfold ownE; rw [yab]; exact yaa _)] at hw5
  exact q D3 us H5 hD3 (fun x o e=>k5 x o (zab e hD3) e) h5 hw5
def zpD (K : Frag) : Sp:=fun vs H Q _=>∃ (st : Addr) (ps : List Nat) (rows : List (List Int)) (t rs : Addr) (as : List Addr) (k : Nat),vs = [.ref st,.int k]∧zcz H st ps rows t rs as∧k < ps.length + 1∧
 ∀ (D : Addr) (qs : List Addr) (H' : Hp),H D = none→Same H H'→H' D = some (.dK (zdc (benL ps k (ps.length + 1)).reverse qs))→qs.Nodup→(∀ q∈qs,H q = none)→zau K H' ps rows (benL ps k (ps.length + 1)).reverse qs→Q (.ref D) H'
theorem zp5 (T : Txt K mg) (D_full_rows_beneath : DF K mg "full_rows_beneath" za5 za0) (F_beneath : FC P w K mg base 1 "beneath" zdB (zhC K)) (F_children : FC P w K mg base 1 "children" zb9 (zeP K)) (F_handed : FC P w K mg base 6 "handed" zet (zjl K)) (F_own_entries : FC P w K mg base 1 "own_entries" zbJ (zpz K)) (F_joined_up : FC P w K mg base 1 "joined_up" zcq (znY K)) : FC P w K mg base 7 "full_rows_beneath" za0 (zpD K):=by
 refine D_full_rows_beneath.ok sc_full_rows_beneath (fun vs H Q E h=>?_) (fun f cdv A outer s H vs Q E hr h=>?_)
 ·obtain ⟨st,ps,rows,t,rs,as,k,rfl,_⟩:=h
  rfl
 obtain ⟨st,ps,rows,t,rs,as,k,rfl,S,hk,q⟩:=h
 refine ⟨_,(zae (zap (i:=2) sc_full_rows_beneath.nd rfl (Or.inl rfl) (zaC zbc (pv 0) zag (fun _ _=>rfl)))
   (zae (zap (i:=3) sc_full_rows_beneath.nd rfl (Or.inr rfl) zjx)
   (zae (zaT PassesOwn.never rfl (zis rfl T.m_reversed (zaa (zaI F_beneath hr (zaa (pv 2) (zaa (pv 1) zad))) zad)) (zan (i:=4) sc_full_rows_beneath.nd rfl (Or.inl rfl)) (zae (zdT (i:=5) (N:=["child","told"]) (own:=1) (cap:=[3]) sc_full_rows_beneath.nd rfl rfl rfl (zby (zaI F_children hr (zaa (pv 2) (zaa (pv 4) zad)))) ⟨rfl,rfl,rfl,rfl,rfl,rfl⟩ (fun _ _ _ _ _=>(zan (i:=0) (show List.Nodup (["child","told"] : List Str) by decide +kernel) rfl (Or.inl rfl))) (fun _ _ _ _ _=>zbP) (fun _ _ _ _ _=>(zaI F_handed hr (zaa (zcO (zcY hr) (pv 1) (pv 0) (fun _ _=>rfl)) zad))))
   (zae (zbe (zc7 F.plainAttrs_list F.slot_list_append F.type_list_append zaL (pv 5) (zaa (zaI F_own_entries hr (zaa (pv 0) (zaa (pv 4) zad))) zad)))
   (zai (zdU (zcY hr) (pv 3) (pv 4) (zaI F_joined_up hr (zaa (pv 5) zad)) rfl)))))
   (zai (zaz (pv 3)))))),?_⟩
 refine ⟨_,rfl,_,_,_,_,rfl,rfl,SqT.of S.st,rfl,fun D hD=>?_⟩
 have s0:=zak hD (.dK [])
 have hD0 : upd H D (.dK []) D = some (.dK []):=zac
 generalize upd H D (.dK []) = H0 at s0 hD0 ⊢
 refine ⟨_,rfl,_,rfl,t,ps,k,rfl,s0 _ _ S.tr,S.T,hk,by have:=S.few; omega,fun b H1 hb s1 h1=>?_⟩
 refine ⟨b,_,rfl,SqL.of h1,?_⟩
 have hup:=ziW ps k (ps.length + 1)
 have hmem:=fun j=>zbY (ps:=ps) (k:=k) (n:=ps.length + 1) (j:=j)
 have hbl:=zhn ps k (ps.length + 1)
 generalize benL ps k (ps.length + 1) = bs at h1 q hup hmem hbl ⊢
 have hdn : bs.reverse.Pairwise (· > ·):=by
  rw [List.pairwise_reverse]
  exact hup
 have hnd : bs.reverse.Nodup:=List.Pairwise.imp (fun {a b} (q : a > b)=>ybe q) hdn
 refine zo7 (xs:=bs.map nV) (fun i σ H2=>∃ (qs : List Addr) (x5 x6 : Option V),σ = [some (.ref st),some (.int k),some (.ref t),some (.ref D),x5,x6]∧H2 D = some (.dK (zdc (bs.reverse.take i) qs))∧qs.Nodup∧(∀ q∈qs,H q = none)∧zau K H2 ps rows (bs.reverse.take i) qs∧H2 b = some (.lst (bs.map nV))∧But D H H2) ?_ ?_ ?_ ?_
 ·exact ⟨[],_,_,rfl,s1 _ _ hD0,ybn,(fun q hq=>nomatch hq),.nil,h1,fun x o _ e=>s1 _ _ (s0 _ _ e)⟩
 ·rintro i σ H2 _ ⟨qs,x5,x6,rfl,_,_,_,_,h2b,_⟩
  exact SqL.of h2b
 ·rintro i x σ H2 hx ⟨qs,x5,x6,rfl,h2,hqn,hqf,hF,h2b,k2⟩
  rw [← List.map_reverse] at hx
  obtain ⟨hi,hxe⟩:=zh0 hx
  have hji : bs.reverse[i]? = some (bs.reverse.getD i 0):=by
   rw [yad,yac hi]
   rfl
  subst hxe
  have htk : bs.reverse.take (i + 1) = bs.reverse.take i ++ [bs.reverse.getD i 0]:=by
   rw [yaH hi,yad,yac hi]
   rfl
  rw [htk]
  generalize bs.reverse.getD i 0 = j at hji htk ⊢
  have hjm : j∈bs:=ybV.mp (yaI hji)
  obtain ⟨hjn,hjB⟩:=(hmem j).mp hjm
  have hjnot : j∉bs.reverse.take i:=fun z=>by
   have hnd':=hnd
   rw [← ybp (i + 1) bs.reverse,htk] at hnd'
   have:=(ybh.mp hnd').1
   exact (ybh.mp this).2.2 j z j (yap.mpr rfl) rfl
  have noD : ∀ {p : Addr} {o : HO},H p = some o→p≠D:=fun {p o} e=>zab e hD
  have S2 : zcz H2 st ps rows t rs as:=⟨k2 _ _ (noD S.st) S.st,k2 _ _ (noD S.tr) S.tr,k2 _ _ (noD S.rs) S.rs,zaQ.keep (p:=D) (d:=D) (fun a row e=>noD e) k2 S.at_,S.len,S.T,S.R,S.few,S.keys⟩
  have hkeys:=S.keys
  have hfew:=S.few
  refine ⟨_,rfl,_,rfl,t,ps,j,rfl,S2.tr,by omega,fun c H3 hc s3 h3=>?_⟩
  refine ⟨c,rfl,⟨_,SqL.of h3⟩,fun D2 hD2=>?_⟩
  have hcmem:=fun m=>zaA (ps:=ps) (k:=j) (n:=ps.length + 1) (j:=m)
  have hcl:=zdJ ps j (ps.length + 1)
  have hparts : zdN ps rows j = ((zaF ps j (ps.length + 1)).map fun c=>zbC (zah ps rows c)) ++ [ownE rows j]:=rfl
  generalize zaF ps j (ps.length + 1) = cs at h3 hcmem hcl hparts ⊢
  have h3D:=s3 _ _ h2
  have nDD2 : D≠D2:=zab h3D hD2
  have F3 : zau K H3 ps rows (bs.reverse.take i) qs:=hF.same s3
  refine zbO (xs:=cs.map nV) (fun m σ H4=>∃ (gs : List Addr) (x0 : Option V),σ = [x0,some (.ref D)]∧H4 D2 = some (.lst (gs.map V.ref))∧Own K H4 gs ((cs.take m).map fun c=>zbC (zah ps rows c))∧D2∉gs∧But D2 H3 H4) ?_ ?_ ?_ ?_
  ·exact ⟨[],_,rfl,zac,.nil,(fun z=>nomatch z),fun b o n e=>by rw [zaf n]; exact e⟩
  ·rintro m σ H4 _ ⟨gs,x0,rfl,_,_,_,k4⟩
   exact k4.sq (SqL.of h3) hD2
  ·rintro m r x σ H4 hx hm ⟨gs,x0,rfl,h4,hO,hg,k4⟩
   obtain ⟨hmi,rfl⟩:=zh0 hx
   have hcm : cs[m]? = some (cs.getD m 0):=by
    rw [yad,yac hmi]
    rfl
   have htk2 : cs.take (m + 1) = cs.take m ++ [cs.getD m 0]:=by
    rw [yaH hmi,yad,yac hmi]
    rfl
   rw [htk2]
   generalize cs.getD m 0 = ch at hcm ⊢
   obtain ⟨hchn,hchp⟩:=(hcmem ch).mp (yaI hcm)
   have hlt:=(zaJ S.T hchp).1
   have hin : ch∈bs.reverse.take i:=znP hdn hji (ybV.mpr ((hmem ch).mpr ⟨hchn,zny S.T hjB hchp⟩)) hlt
   obtain ⟨u,hu,hue⟩:=yaX hin
   have hu2 : (bs.reverse.take i)[u]? = some ch:=by rw [yac hu,hue]
   obtain ⟨qq,hq1,ws,hq2,hq3⟩:=F3.get hu2
   have hnd2 : (bs.reverse.take i).Nodup:=hnd.sublist (List.take_sublist _ _)
   have hv:=ziC hnd2 hu2 hq1
   have k4D:=k4 _ _ nDD2 h3D
   have hq4:=k4 _ _ (zab hq2 hD2) hq2
   have hq5 : zal K H4 (zah ps rows ch) ws:=by
    have key : ∀ {es : List (Int×Int)} {vs : List V},zal K H3 es vs→zal K H4 es vs:=by
     intro es vs hh
     induction hh with
     | nil=>exact .nil
     | cons a _ ih=>
      obtain ⟨b,x1,x2,rfl,q,e1,e2⟩:=(show hasP K H3 _ _ from a)
      exact .cons ⟨b,x1,x2,rfl,k4 _ _ (zab q hD2) q,e1,e2⟩ ih
    exact key hq3
   have hlen:=zdY S.T S.len (rows:=rows) hchn
   refine zcW ?_
   have hdg : DGet H4 D (.int (ch : Int)) (some (.ref qq)):=by
    rw [← hv]
    exact DGet.k (k:=kN ch) k4D
   refine ⟨_,rfl,_,rfl,D,_,rfl,hdg,?_⟩
   refine ⟨qq,ws,zah ps rows ch,rfl,hq4,hq5,by omega,zeD S.T S.R hfew hchn,zaR S.T S.R hchn,fun g H5 hg5 s5 h5=>?_⟩
   have hgl:=hO.length
   rw [yab,yas] at hgl
   have h5D2:=s5 _ _ h4
   have ngD2 : D2≠g:=zab h4 hg5
   rw [yab] at hm
   refine ⟨_,h5D2,zao (by rw [yab]; omega),r - 1,by omega,by rw [yab]; omega,gs ++ [g],_,rfl,?_,?_,?_,fun x o n e=>by rw [zaf n]; exact s5 _ _ (k4 x o n e)⟩
   ·rw [zac,yaq]
    rfl
   ·rw [yaq]
    refine Own.other h5D2 (Own.append (hO.ext s5.ext) (.cons ⟨_,h5,?_⟩ .nil)) ?_
    ·exact zjU (hq5.mono s5.ext)
    ·intro z
     rcases yaE.mp z with z | z
     ·exact hg z
     ·exact ngD2 (yap.mp z)
   ·intro z
    rcases yaE.mp z with z | z
    ·exact hg z
    ·exact ngD2 (yap.mp z)
  ·rintro σ H4 ⟨gs,x0,rfl,h4,hO,hg,k4⟩
   rw [yab,yar (yaa _)] at hO
   have hgl:=hO.length
   rw [yab] at hgl
   have s34 : Same H3 H4:=fun x o e=>k4 x o (zab e hD2) e
   have s24 : Same H2 H4:=s3.trans s34
   have S4:=S2.same s24
   refine ⟨_,rfl,.inl ⟨rfl,_,SqL.of h4⟩,_,rfl,_,rfl,st,ps,rows,t,rs,as,j,rfl,S4,hjn,fun D3 us H5 hD3 s45 h5 hw5=>?_⟩
   have h5D2:=s45 _ _ h4
   have n23 : D2≠D3:=zab h4 hD3
   refine ⟨_,_,_,rfl,rfl,h5D2,zao (by rw [yab]; omega),?_⟩
   have O5 : Own K H5 (gs ++ [D3]) (zdN ps rows j):=by
    rw [hparts]
    exact Own.append (hO.ext s45.ext) (.cons ⟨us,h5,hw5⟩ .nil)
   have nin : D2∉gs ++ [D3]:=fun z=>by
    rcases yaE.mp z with z | z
    ·exact hg z
    ·exact n23 (yap.mp z)
   have O6:=O5.other (o:=.lst (gs.map V.ref ++ [.ref D3])) h5D2 nin
   have h6 : upd H5 D2 (.lst (gs.map V.ref ++ [.ref D3])) D2 = some (.lst ((gs ++ [D3]).map V.ref)):=by
    rw [zac,yaq]
    rfl
   have k26 : ∀ x o,H2 x = some o→upd H5 D2 (.lst (gs.map V.ref ++ [.ref D3])) x = some o:=fun x o e=>by
    rw [zaf (zab (s3 _ _ e) hD2)]
    exact s45 _ _ (s24 _ _ e)
   generalize upd H5 D2 (.lst (gs.map V.ref ++ [.ref D3])) = H6 at O6 h6 k26 ⊢
   have hfl : (zdN ps rows j).flatten.length≤63:=by
    have:=zdY S.T S.len (rows:=rows) hjn
    rw [zcu S.T hjn,zci] at this
    omega
   refine ⟨_,rfl,D2,gs ++ [D3],zdN ps rows j,rfl,h6,O6,hfl,fun p ws H7 hp s7 h7 hw7=>?_⟩
   rw [← zcu S.T hjn] at hw7
   have s27 : Same H2 H7:=fun x o e=>s7 _ _ (k26 x o e)
   have h7D:=s27 _ _ h2
   have hql:=hF.length
   have hpD : p≠D:=Ne.symm (zab (k26 _ _ h2) hp)
   refine ⟨_,rfl,_,rfl,D,_,rfl,DPut.k (k:=kN j) h7D (zao (by rw [zlZ hql,yas,yb2]; omega)),?_⟩
   rw [zoX hql hjnot]
   have e78 : Ext H7 (upd H7 D (.dK (zdc (bs.reverse.take i ++ [j]) (qs ++ [p])))):=fun x o e n=>by
    rw [zaf (fun z=>by
     rw [z,h7D] at e
     cases e
     exact n _ rfl)]
    exact e
   have F8 : zau K (upd H7 D (.dK (zdc (bs.reverse.take i ++ [j]) (qs ++ [p])))) ps rows (bs.reverse.take i ++ [j]) (qs ++ [p]):=by
    exact zau.ext e78 (zau.snoc (hF.same s27) ⟨ws,h7,hw7⟩)
   refine ⟨qs ++ [p],_,_,rfl,zac,?_,?_,F8,?_,fun x o n e=>?_⟩
   ·rw [ybh]
    refine ⟨hqn,yaR.mpr ⟨(fun z=>nomatch z),ybn⟩,fun a ha b hb z=>?_⟩
    rw [yap.mp hb] at z
    subst z
    obtain ⟨ws',hws⟩:=hF.alloc a ha
    have:=k26 _ _ hws
    rw [hp] at this
    cases this
   ·intro x hx
    rcases yaE.mp hx with z | z
    ·exact hqf x z
    ·rw [yap.mp z]
     cases e : H p with
     | none=>rfl
     | some o=>
      have:=k26 _ _ (k2 p o hpD e)
      rw [hp] at this
      cases this
   ·rw [zaf (fun z=>by rw [z,h2] at h2b; cases h2b)]
    exact s27 _ _ h2b
   ·rw [zaf n]
    exact s27 _ _ (k2 x o n e)
 ·rintro σ H2 ⟨qs,x5,x6,rfl,h2,hqn,hqf,hF,h2b,k2⟩
  refine ⟨_,rfl,?_⟩
  rw [yab,yar (by rw [yb2]; exact yaa _)] at h2 hF
  exact q D qs H2 hD (fun x o e=>k2 x o (zab e hD) e) h2 hqn hqf hF
def zlc (K : Frag) : Sp:=fun vs H Q _=>∃ (st : Addr) (ps : List Nat) (rows : List (List Int)) (t rs : Addr) (as : List Addr),vs = [.ref st]∧zcz H st ps rows t rs as∧
 ∀ (p : Addr) (qs : List Addr) (H' : Hp),H p = none→Same H H'→H' p = some (.lst (qs.map V.ref))→qs.Nodup→(∀ q∈qs,H q = none)→p∉qs→zau K H' ps rows (List.range (ps.length + 1)) qs→Q (.ref p) H'
theorem zgZ {n i : Nat} (h : i < n) : (List.range n).reverse[n - 1 - i]? = some i:=by
 rw [yct (by rw [yaG]; omega),yaG,ybi (by omega)]
 congr 1
 omega
theorem zni (T : Txt K mg) (D_full_rows : DF K mg "full_rows" zcJ zcr) (F_full_rows_beneath : FC P w K mg base 7 "full_rows_beneath" za0 (zpD K)) : FC P w K mg base 8 "full_rows" zcr (zlc K):=by
 refine D_full_rows.ok sc_full_rows (fun vs H Q E h=>?_) (fun f cdv A outer s H vs Q E hr h=>?_)
 ·obtain ⟨st,ps,rows,t,rs,as,rfl,_⟩:=h
  rfl
 obtain ⟨st,ps,rows,t,rs,as,rfl,S,q⟩:=h
 refine ⟨_,(zae (zap (i:=1) sc_full_rows.nd rfl (Or.inr rfl) (zaI F_full_rows_beneath hr (zaa (pv 0) (zaa zag zad))))
   (zai (zaz (zbQ (N:=["knot","told"]) (own:=1) (cap:=[1]) rfl (zba rfl T.m_range (zaa (zas zam rfl T.m_len boot_len (zaa (zaC zbc (pv 0) zag (fun _ _=>rfl)) zad)) zad)) ⟨rfl,rfl,rfl,rfl,rfl,rfl⟩ (fun _ _ _ _ _=>(zan (i:=0) (show List.Nodup (["knot","told"] : List Str) by decide +kernel) rfl (Or.inl rfl))) (fun _ _ _ _ _=>zbP) (fun _ _ _ _ _=>(zcO (zcY hr) (pv 1) (pv 0) (fun _ _=>rfl))))))),?_⟩
 refine ⟨_,rfl,st,ps,rows,t,rs,as,0,rfl,S,by omega,fun D qs H1 hD s1 h1 hqn hqf hF=>?_⟩
 rw [zig S.T] at h1 hF
 have S1:=S.same s1
 have hfew:=S.few
 have hql:=hF.length
 rw [yb2,yaG] at hql
 refine ⟨_,rfl,_,_,_,_,rfl,rfl,SqT.of S1.st,rfl,_,_,rfl,.inr (SqT.of S1.tr),_,rfl,by omega,by rw [zav]; omega,fun p hp=>?_⟩
 have el : ((((zcg ps).length : Nat) : Int)).toNat = ps.length + 1:=by rw [zav,yaU]
 rw [el]
 refine zb2 (n:=ps.length + 1) (fun i σ H2=>∃ x0 : Option V,σ = [x0,some (.ref D)]∧H2 p = some (.lst ((qs.reverse.take i).map V.ref))∧But p H1 H2) ?_ ?_ ?_
 ·exact ⟨_,rfl,zac,fun b o n e=>by rw [zaf n]; exact e⟩
 ·rintro i m σ H2 hm hi ⟨x0,rfl,h2,k2⟩
  rw [yba]
  have hi2 : i < qs.reverse.length:=by rw [yb2]; omega
  have hq1 : qs[ps.length + 1 - 1 - i]? = some qs.reverse[i]:=by
   have:=yct (l:=qs) (i:=i) (by omega)
   rw [yac hi2] at this
   rw [this]
   congr 1
   omega
  have hv:=ziC (zhN ycm) (zgZ hi) hq1
  have h2D:=k2 _ _ (zab h1 hp) h1
  have hdg : DGet H2 D (.int (i : Int)) (some (.ref qs.reverse[i])):=by
   rw [← hv]
   exact DGet.k (k:=kN i) h2D
  refine zcW ?_
  refine ⟨_,rfl,_,rfl,D,_,rfl,hdg,?_⟩
  refine ⟨_,h2,zao (by rw [yab,yas]; omega),m - 1,by omega,by omega,_,rfl,?_,fun b o n e=>by rw [zaf n]; exact k2 b o n e⟩
  rw [zac,yaH hi2,yaq]
  rfl
 ·rintro σ H2 ⟨x0,rfl,h2,k2⟩
  rw [yar (by rw [yb2]; omega)] at h2
  have s2 : Same H1 H2:=fun b o e=>k2 b o (zab e hp) e
  have F2:=(hF.same s2).rev
  rw [List.reverse_reverse] at F2
  refine q p qs.reverse H2 ?_ (s1.trans s2) h2 (zhN hqn) (fun x hx=>hqf x (ybV.mp hx)) (fun z=>?_) F2
  ·cases e : H p with
   | none=>rfl
   | some o=>
    have:=s1 _ _ e
    rw [hp] at this
    cases this
  ·obtain ⟨ws,hws⟩:=hF.alloc p (ybV.mp z)
   rw [hp] at hws
   cases hws
def zgO (x : Key) : Prop:=∃ a : Int,x = .inl a∧-(10 ^ 60) < a∧a < 10 ^ 60
def toI : Key→Int
 | .inl a=>a
 | _=>0
theorem zoD {kvs : List (Key×V)} {x : Key} {v : V} (h1 : (kvs.map (·.1)).Nodup) (h2 : ∀ y∈kvs.map (·.1),zgO y) (hx : zgO x) : ((putK kvs x v).map (·.1)).Nodup∧∀ y∈(putK kvs x v).map (·.1),zgO y:=by
 rw [zlj]
 split
 ·exact ⟨h1,h2⟩
 ·rename_i c
  refine ⟨?_,fun y hy=>?_⟩
  ·rw [ybh]
   refine ⟨h1,yaR.mpr ⟨(fun z=>nomatch z),ybn⟩,fun a ha b hb z=>?_⟩
   rw [yap.mp hb] at z
   subst z
   obtain ⟨p,hp,e⟩:=yaF.mp ha
   exact c (ybX.mpr ⟨p,hp,yan e⟩)
  ·rcases yaE.mp hy with z | z
   ·exact h2 y z
   ·rw [yap.mp z]
    exact hx
theorem zfb : ∀ {l : List Key},(∀ y∈l,zgO y)→l.map kV = (l.map toI).map V.int
 | [],_=>rfl
 | x :: l,h=>by
  obtain ⟨a,rfl,_⟩:=h x yav
  show V.int a :: l.map kV = V.int a :: (l.map toI).map V.int
  rw [zfb fun y hy=>h y (yay _ hy)]
theorem zhA : ∀ {l : List Key},l.Nodup→(∀ y∈l,zgO y)→(l.map toI).Nodup
 | [],_,_=>ybn
 | x :: l,hn,h=>by
  rw [yax,yaR]
  have hc:=yaR.mp hn
  refine ⟨fun z=>?_,zhA hc.2 fun y hy=>h y (yay _ hy)⟩
  obtain ⟨y,hy,e⟩:=yaF.mp z
  obtain ⟨a,rfl,_⟩:=h x yav
  obtain ⟨b,rfl,_⟩:=h y (yay _ hy)
  have : b = a:=e
  subst this
  exact hc.1 hy
def zpy (K : Frag) : Sp:=fun vs H Q _=>∃ (d L : Addr) (m : Int),vs = [.ref d,.int m]∧(0≤m∧m≤40)∧LS K L d H∧
 ∀ (a : Addr) (row : List Int) (H' : Hp),H a = none→row.Pairwise (· < ·)→(∀ x∈row,-(10 ^ 60) < x∧x < 10 ^ 60)→(row.length : Int)≤m→H' a = some (.tup (row.map V.int))→Keep d H H'→LS K L d H'→Q (.ref a) H'
theorem zoM (T : Txt K mg) (D_l_row : DF K mg "_law_row" zgT zfw) (F_l_take : FC P w K mg base 2 "_law_take" zbN (zgp K)) (F_l_key : FC P w K mg base 3 "_law_key" zfx (zpB K)) : FC P w K mg base 4 "_law_row" zfw (zpy K):=by
 refine D_l_row.ok sc_l_row (fun vs H Q E h=>?_) (fun f cdv A outer s H vs Q E hr h=>?_)
 ·obtain ⟨d,L,m,rfl,_⟩:=h
  rfl
 obtain ⟨d,L,m,rfl,⟨hm0,hm1⟩,hs,q⟩:=h
 refine ⟨_,(zae (zap (i:=2) sc_l_row.nd rfl (Or.inl rfl) zjx)
   (zae (zaT PassesOwn.never rfl (zba rfl T.m_range (zaa (zaI F_l_take hr (zaa (pv 0) (zaa (zar zaS (pv 1) zag) zad))) zad)) (zan (i:=3) sc_l_row.nd rfl (Or.inl rfl)) (zai (zdU (zcY hr) (pv 2) (zaI F_l_key hr (zaa (pv 0) zad)) zfh rfl)))
   (zai (zaz (zbA zcS rfl T.m_tuple boot_tuple (zaa (zas (zcv Int) rfl T.m_sorted boot_sorted (zaa (zbA (zkE rfl) rfl T.m_list boot_list (zaa (pv 2) zad)) zad)) zad)))))),?_⟩
 intro g hg
 have ngd : g≠d:=fun z=>by
  obtain ⟨_,_,_,e,_⟩:=hs.ex
  rw [← z,hg] at e
  cases e
 refine ⟨_,rfl,_,rfl,_,_,rfl,rfl,d,L,m + 1,rfl,⟨by omega,by omega⟩,hs.of_new hg _,fun n H1 n0 n1 k1 s1=>⟨_,rfl,by omega,by omega,?_⟩⟩
 refine zbg (n:=n.toNat) (fun i σ H2=>∃ (kvs : List (Key×V)) (x3 : Option V),σ = [some (.ref d),some (.int m),some (.ref g),x3]∧H2 g = some (.dK kvs)∧kvs.length≤i∧(kvs.map (·.1)).Nodup∧(∀ y∈kvs.map (·.1),zgO y)∧(∀ b o,b≠d→b≠g→H b = some o→H2 b = some o)∧LS K L d H2) ?_ ?_ ?_
 ·exact ⟨[],_,rfl,k1 g _ ngd zac,yaa _,ybn,fun y hy=>(by simp at hy),fun b o b1 b2 e=>k1 b o b1 (by rw [zaf b2]; exact e),s1⟩
 ·rintro i σ H2 hi ⟨kvs,x3,rfl,h2,hl,hn,hy,kk,s2⟩
  refine ⟨_,rfl,_,rfl,d,L,rfl,s2,fun v H3 v0 v1 k3 s3=>?_⟩
  have h3 : H3 g = some (.dK kvs):=k3 g _ ngd h2
  obtain ⟨p1,p2⟩:=zoD (v:=.bl true) hn hy (x:=.inl v) ⟨v,rfl,v0,v1⟩
  refine ⟨g,_,rfl,DPut.k (k:=.inl v) (kvs:=kvs) h3 (zao (by omega)),?_⟩
  refine ⟨putK kvs (.inl v) (.bl true),_,rfl,zac,?_,p1,p2,?_,?_⟩
  ·have:=zcQ kvs (Sum.inl v : Key) (.bl true)
   omega
  ·intro b o b1 b2 e
   rw [zaf b2]
   exact k3 b o b1 (kk b o b1 b2 e)
  ·exact LS.put hs hg (fun b o b1 b2 e=>k3 b o b1 (kk b o b1 b2 e)) s3
 ·rintro σ H2 ⟨kvs,x3,rfl,h2,hl,hn,hy,kk,s2⟩
  refine ⟨_,rfl,g,kvs,rfl,h2,fun l hl1=>?_⟩
  have ei : kvs.map (fun kv=>kV kv.1) = ((kvs.map (·.1)).map toI).map V.int:=by
   rw [← zfb hy,ybu]
   rfl
  rw [ei]
  have e1:=zak hl1 (.lst (((kvs.map (·.1)).map toI).map V.int))
  refine ⟨l,_,_,rfl,SqL.of zac,zal.ints,by rw [yab,yab]; omega,fun l2 ws hl2 hw=>?_⟩
  rw [hw.toInts]
  have e2:=zak hl2 (.lst ((zbS ((kvs.map (·.1)).map toI)).map V.int))
  refine ⟨l2,_,rfl,.inl ⟨SqL.of zac,fun a ha=>?_⟩⟩
  have e3:=zak ha (.tup ((zbS ((kvs.map (·.1)).map toI)).map V.int))
  have e13:=e1.trans (e2.trans e3)
  have free : H a = none:=by
   have z2 : H2 a = none:=e1.free (e2.free ha)
   cases z : H a with
   | none=>rfl
   | some o=>
    by_cases c1 : a = d
    ·obtain ⟨_,_,_,e,_⟩:=s2.ex
     rw [← c1,z2] at e
     cases e
    ·by_cases c2 : a = g
     ·rw [c2,h2] at z2
      cases z2
     ·rw [kk a o c1 c2 z] at z2
      cases z2
  refine q a _ _ free ?_ (fun x hx=>?_) ?_ zac (fun b o b1 e=>e13 _ _ (kk b o b1 (zab e hg) e)) (s2.same e13)
  ·exact List.Pairwise.imp (fun {a b} (h : Srt.blt a b = true)=>yaC h) (zeQ (zhA hn hy))
  ·rw [zea] at hx
   obtain ⟨y,hy2,rfl⟩:=yaF.mp hx
   obtain ⟨a,rfl,h1,h2⟩:=hy y hy2
   exact ⟨h1,h2⟩
  ·rw [zci,yab,yab]
   omega
def znW (K : Frag) : Sp:=fun vs H Q _=>∃ (d L : Addr) (n m : Nat),vs = [.ref d,.int n,.int m]∧n≤40∧m≤40∧LS K L d H∧
 ∀ (r : Addr) (as : List Addr) (rows : List (List Int)) (H' : Hp),H r = none→zaQ H' as rows→rows.length = n→zaP rows→(∀ row∈rows,row.length≤m)→H' r = some (.tup (as.map V.ref))→Keep d H H'→LS K L d H'→Q (.ref r) H'
theorem zaP.snoc {rows : List (List Int)} {row : List Int} (R : zaP rows) (h1 : row.Pairwise (· < ·)) (h2 : ∀ x∈row,-(10 ^ 60) < x∧x < 10 ^ 60) : zaP (rows ++ [row]):=by
 refine ⟨fun r hr=>?_,fun r hr=>?_⟩
 ·rcases yaE.mp hr with z | z
  ·exact R.up r z
  ·rw [yap.mp z]
   exact h1
 ·rcases yaE.mp hr with z | z
  ·exact R.key r z
  ·rw [yap.mp z]
   exact h2
theorem zng (T : Txt K mg) (D_l_rows : DF K mg "_law_rows" zfq zer) (F_l_take : FC P w K mg base 2 "_law_take" zbN (zgp K)) (F_l_row : FC P w K mg base 4 "_law_row" zfw (zpy K)) : FC P w K mg base 5 "_law_rows" zer (znW K):=by
 refine D_l_rows.ok sc_l_rows (fun vs H Q E h=>?_) (fun f cdv A outer s H vs Q E hr h=>?_)
 ·obtain ⟨d,L,n,m,rfl,_⟩:=h
  rfl
 obtain ⟨d,L,n,m,rfl,hn,hm,hs,q⟩:=h
 refine ⟨_,(zae (zap (i:=3) sc_l_rows.nd rfl (Or.inl rfl) (zbF zad))
   (zae (zaT PassesOwn.never rfl (zba rfl T.m_range (zaa (pv 1) zad)) (zan (i:=4) sc_l_rows.nd rfl (Or.inl rfl)) (zae (zap (i:=5) sc_l_rows.nd rfl (Or.inl rfl) (zaI F_l_row hr (zaa (pv 0) (zaa (pv 2) zad))))
   (zbp (zch (zaB zeV (zaI F_l_take hr (zaa (pv 0) (zaa zag zad))) zag (zaN _)) (zai (zap (i:=5) sc_l_rows.nd rfl (Or.inl rfl) (zbz zad))) za7)
   (zbp (zch (PW.pt (zjt (zaB zlv (pv 4) zag (zaN _)) (zg0 (zaB zeV (zaI F_l_take hr (zaa (pv 0) (zaa zag zad))) zag (zaN _))))) (zai (zap (i:=5) sc_l_rows.nd rfl (Or.inl rfl) (zaC zaw (pv 3) (zar zbu (pv 4) zag) (fun _ _=>rfl)))) za7)
   (zai (zbe (zc7 F.plainAttrs_list F.slot_list_append F.type_list_append zaL (pv 3) (zaa (pv 5) zad))))))))
   (zai (zaz (zbA zcS rfl T.m_tuple boot_tuple (zaa (pv 3) zad)))))),?_⟩
 refine ⟨(by show 0≤sizeLine; decide),fun p hp=>?_⟩
 have g0:=zak hp (.lst [])
 have ndT : ∀ {H' : Hp} {a : Addr} {o : List V},LS K L d H'→H' a = some (.tup o)→a≠d:=fun {H' a o} s e z=>by
  obtain ⟨_,_,_,e2,_⟩:=s.ex
  rw [← z,e] at e2
  cases e2
 have nd : ∀ {H' : Hp} {a : Addr},LS K L d H'→H' a = none→a≠d:=fun {H' a} s e z=>by
  obtain ⟨_,_,_,e2,_⟩:=s.ex
  rw [← z,e] at e2
  cases e2
 have hpd : p≠d:=nd hs hp
 refine ⟨_,rfl,_,rfl,by omega,by omega,?_⟩
 rw [yaU]
 refine zbg (n:=n) (fun i σ H2=>∃ (as : List Addr) (rows : List (List Int)) (x4 x5 : Option V),σ = [some (.ref d),some (.int n),some (.int m),some (.ref p),x4,x5]∧H2 p = some (.lst (as.map V.ref))∧zaQ H2 as rows∧rows.length = i∧zaP rows∧(∀ row∈rows,row.length≤m)∧(∀ b o,b≠d→b≠p→H b = some o→H2 b = some o)∧LS K L d H2) ?_ ?_ ?_
 ·exact ⟨[],[],_,_,rfl,zac,.nil,rfl,⟨(fun r hr=>nomatch hr),(fun r hr=>nomatch hr)⟩,(fun r hr=>nomatch hr),fun b o _ n e=>g0 b o e,hs.same g0⟩
 ·rintro i σ H2 hi ⟨as,rows,x4,x5,rfl,h2,hA,hl,hR,hlen,k2,s2⟩
  rw [yba]
  have hal:=hA.length
  have old : ∀ {H3 : Hp} {b : Addr} {o : HO},(∀ b o,b≠d→H2 b = some o→H3 b = some o)→b≠d→b≠p→H b = some o→H3 b = some o:=fun k n1 n2 e=>k _ _ n1 (k2 _ _ n1 n2 e)
  refine ⟨_,rfl,_,rfl,d,L,m,rfl,⟨by omega,by omega⟩,s2,fun a row H3 ha hup hky hlr h3 k3 s3=>?_⟩
  refine ⟨fun σ' H'=>∃ (a : Addr) (row : List Int),σ' = [some (.ref d),some (.int n),some (.int m),some (.ref p),some (.int i),some (.ref a)]∧H' a = some (.tup (row.map V.int))∧row.Pairwise (· < ·)∧(∀ x∈row,-(10 ^ 60) < x∧x < 10 ^ 60)∧row.length≤m∧(∀ b o,b≠d→H2 b = some o→H' b = some o)∧LS K L d H',?_,?_⟩
  ·refine ⟨_,rfl,d,L,4,rfl,by decide,s3,fun v H4 _ _ k4 s4=>⟨rfl,_,rfl,?_⟩⟩
   have h4:=k4 _ _ (ndT s3 h3) h3
   refine ite2 (fun _=>?_) (fun _=>?_)
   ·refine ⟨(by show 0≤sizeLine; decide),fun u hu=>?_⟩
    have su:=zak hu (.tup [])
    exact ⟨u,[],rfl,zac,.nil,(fun x hx=>nomatch hx),yaA _,fun b o n1 e=>su _ _ (k4 _ _ n1 (k3 _ _ n1 e)),s4.same su⟩
   ·exact ⟨a,row,rfl,h4,hup,hky,by omega,fun b o n1 e=>k4 _ _ n1 (k3 _ _ n1 e),s4⟩
  rintro σ' H4 ⟨a,row,rfl,h4,hup,hky,hlr,k4,s4⟩
  refine ⟨fun σ' H'=>∃ (a : Addr) (row : List Int),σ' = [some (.ref d),some (.int n),some (.int m),some (.ref p),some (.int i),some (.ref a)]∧H' a = some (.tup (row.map V.int))∧row.Pairwise (· < ·)∧(∀ x∈row,-(10 ^ 60) < x∧x < 10 ^ 60)∧row.length≤m∧(∀ b o,b≠d→H2 b = some o→H' b = some o)∧LS K L d H',?_,?_⟩
  ·refine ⟨_,rfl,_,_,rfl,rfl,_,rfl,?_⟩
   refine ite2 (fun c=>?_) (fun c=>?_)
   ·have c' : (0 : Int) < (i : Int):=yaC c
    refine ⟨_,rfl,d,L,4,rfl,by decide,s4,fun v H5 _ _ k5 s5=>⟨rfl,_,rfl,?_⟩⟩
    have h5:=k5 _ _ (ndT s4 h4) h4
    refine ite2 (fun _=>?_) (fun _=>?_)
    ·have h5p : H5 p = some (.lst (as.map V.ref)):=k5 _ _ hpd (k4 _ _ hpd h2)
     obtain ⟨b,hb1,hb2⟩:=hA.get (k:=i - 1) (by omega)
     have hb5:=k5 _ _ (ndT s4 (k4 _ _ (ndT s2 hb2) hb2)) (k4 _ _ (ndT s2 hb2) hb2)
     have hat : atI (as.map V.ref) ((i : Int) - 1) = some (.ref b):=by
      rw [show (i : Int) - 1 = ((i - 1 : Nat) : Int) by omega]
      exact zdQ hb1
     refine ⟨_,rfl,_,rfl,_,_,rfl,rfl,_,_,_,_,rfl,rfl,SqL.of h5p,hat,?_⟩
     have hmem : za9 rows (i - 1)∈rows:=by
      unfold za9
      rw [yad,yac (show i - 1 < rows.length by omega)]
      exact yaB _
     exact ⟨b,za9 rows (i - 1),rfl,hb5,hR.up _ hmem,hR.key _ hmem,hlen _ hmem,fun b o n1 e=>k5 _ _ n1 (k4 _ _ n1 e),s5⟩
    ·exact ⟨a,row,rfl,h5,hup,hky,hlr,fun b o n1 e=>k5 _ _ n1 (k4 _ _ n1 e),s5⟩
   ·refine iteF ?_
    exact ⟨a,row,rfl,h4,hup,hky,hlr,k4,s4⟩
  rintro σ' H5 ⟨a,row,rfl,h5,hup,hky,hlr,k5,s5⟩
  have h5p : H5 p = some (.lst (as.map V.ref)):=k5 _ _ hpd h2
  have keep : ∀ b o,b≠p→H5 b = some o→upd H5 p (.lst (as.map V.ref ++ [.ref a])) b = some o:=fun b o n e=>by rw [zaf n]; exact e
  have ntp : ∀ {b : Addr} {o : List V},H5 b = some (.tup o)→b≠p:=fun {b o} e z=>by
   rw [z,h5p] at e
   cases e
  refine ⟨_,rfl,.inl ⟨rfl,_,SqL.of h5p⟩,_,rfl,_,_,_,rfl,rfl,h5p,zao (by rw [yab]; omega),?_⟩
  refine ⟨as ++ [a],rows ++ [row],_,_,rfl,?_,?_,by rw [yai,yaV,hl],hR.snoc hup hky,fun r hr=>?_,fun b o n1 n2 e=>keep _ _ n2 (k5 _ _ n1 (k2 _ _ n1 n2 e)),?_⟩
  ·rw [zac,yaq]
   rfl
  ·refine zaQ.snoc ?_ (keep _ _ (ntp h5) h5)
   have hA5 : zaQ H5 as rows:=zaQ.keep (p:=d) (fun a row e=>ndT s2 e) k5 hA
   exact zaQ.keep (p:=p) (d:=p) (fun a row e=>ntp e) keep hA5
  ·rcases yaE.mp hr with z | z
   ·exact hlen r z
   ·rw [yap.mp z]
    exact hlr
  ·exact LS.put hs hp (fun b o n1 n2 e=>k5 _ _ n1 (k2 _ _ n1 n2 e)) s5
 ·rintro σ H2 ⟨as,rows,x4,x5,rfl,h2,hA,hl,hR,hlen,k2,s2⟩
  refine ⟨_,rfl,p,_,rfl,.inl ⟨SqL.of h2,fun t ht=>?_⟩⟩
  have sn:=zak ht (.tup (as.map V.ref))
  have ht0 : H t = none:=by
   cases e : H t with
   | none=>rfl
   | some o=>
    have:=k2 t o (nd s2 ht) (Ne.symm (zab h2 ht)) e
    rw [ht] at this
    cases this
  exact q t as rows _ ht0 (hA.ext sn) hl hR hlen zac (fun b o n e=>sn _ _ (k2 b o n (zab e hp) e)) (s2.same sn)
abbrev En:=Int×Int
def zdW (k : Nat) (es : List En) : Nat:=(es.filter fun e=>decide (e.2 = (k : Int))).length
def zm9 (k : Nat) (es : List En) : List Nat:=(List.range (es.length + 1)).map fun p=>zdW k (es.take p)
def zpx (cs : List En) (s : Nat) (e : En) : Nat:=if e∈cs then cs.idxOf e + 1 else s
def stN (cs es : List En) : Nat:=es.foldl (zpx cs) 0
def zeO (es cs : List En) : List Nat:=(List.range (es.length + 1)).map fun p=>stN cs (es.take p)
def inN (cs es : List En) : Nat:=(es.filter fun e=>decide (e∈cs)).length
theorem zgq {l : List En} (h : Rise l) : l.Nodup:=List.Pairwise.imp (fun {a b} (q : pLt a b = true) z=>by
 subst z
 have:=zcx.mp q
 omega) h
theorem zir {l m : List En} (h1 : Rise l) (h2 : Rise m) (h : ∀ e,e∈l↔e∈m) : l = m:=by
 refine List.Perm.eq_of_pairwise (le:=fun a b=>pLt a b = true) (fun a b _ _ q1 q2=>?_) h1 h2 ((List.perm_ext_iff_of_nodup (zgq h1) (zgq h2)).mpr h)
 have:=zcx.mp q1
 have:=zcx.mp q2
 omega
theorem zeC {ps : List Nat} (T : zax ps) {rows : List (List Int)} {k : Nat} (hk : k < ps.length + 1) {e : En} : e∈zah ps rows k↔e∈ownE rows k∨∃ c,par ps c = some k∧e∈zbC (zah ps rows c):=by
 rw [zcu T hk,zea,ycj]
 unfold zdN
 constructor
 ·rintro ⟨l,hl,he⟩
  rcases yaE.mp hl with q | q
  ·obtain ⟨c,hc,rfl⟩:=yaF.mp q
   exact .inr ⟨c,(zaA.mp hc).2,he⟩
  ·rw [yap.mp q] at he
   exact .inl he
 ·rintro (h | ⟨c,hc,h⟩)
  ·exact ⟨_,yaE.mpr (.inr (yap.mpr rfl)),h⟩
  ·exact ⟨_,yaE.mpr (.inl (yaF.mpr ⟨c,zaA.mpr ⟨(zaJ T hc).2,hc⟩,rfl⟩)),h⟩
theorem znL {ps : List Nat} (T : zax ps) {rows : List (List Int)} (R : zaP rows) {k c : Nat} (hk : k < ps.length + 1) (hc : par ps c = some k) {e : En} : (e∈zah ps rows k∧e∈zah ps rows c)↔e∈zbC (zah ps rows c):=by
 have hcn:=(zaJ T hc).2
 constructor
 ·rintro ⟨h1,h2⟩
  obtain ⟨j,g1,g2,g3,_⟩:=zdH T R hcn e h2
  rcases (zeC T hk).mp h1 with h | ⟨d,hd,h⟩
  ·have h4:=(zhJ hk h).2
   have : j = k:=by omega
   subst this
   rw [zcX T (zaJ T hc).1] at g2
   cases g2
  ·by_cases z : d = c
   ·rw [z] at h
    exact h
   ·obtain ⟨i,_,f2,f3,_⟩:=zdH T R (zaJ T hd).2 e ((zaX _).mem h)
    have : i = j:=by omega
    subst this
    exact (zdd T hd hc z i i (yaa _) f2 g2).elim
 ·intro h
  exact ⟨(zeC T hk).mpr (.inr ⟨c,hc,h⟩),(zaX _).mem h⟩
theorem zmx {ps : List Nat} (T : zax ps) {rows : List (List Int)} (R : zaP rows) {k c : Nat} (hk : k < ps.length + 1) (hc : par ps c = some k) : ((zah ps rows k).filter fun e=>decide (e∈zah ps rows c)) = zbC (zah ps rows c):=by
 refine zir (List.Pairwise.filter _ (zaR T R hk)) ((zaR T R (zaJ T hc).2).sublist (zaX _)) fun e=>?_
 rw [ya0,decide_eq_true_eq]
 exact znL T R hk hc
theorem zj9 {l : List En} {p : Nat} (h : p < l.length) : l.take (p + 1) = l.take p ++ [l[p]]:=yaH h
theorem zkf (k : Nat) (es : List En) (e : En) : zdW k (es ++ [e]) = zdW k es + if e.2 = (k : Int) then 1 else 0:=by
 unfold zdW
 rw [yaP,yai]
 congr 1
 by_cases h : e.2 = (k : Int)
 ·rw [if_pos h,yaO (by exact yan h)]
  rfl
 ·rw [if_neg h,yaZ (by rw [yam h]; decide)]
  rfl
theorem znA (cs es : List En) (e : En) : inN cs (es ++ [e]) = inN cs es + if e∈cs then 1 else 0:=by
 unfold inN
 rw [yaP,yai]
 congr 1
 by_cases h : e∈cs
 ·rw [if_pos h,yaO (by exact yan h)]
  rfl
 ·rw [if_neg h,yaZ (by rw [yam h]; decide)]
  rfl
theorem zje (cs es : List En) (e : En) : stN cs (es ++ [e]) = if e∈cs then cs.idxOf e + 1 else stN cs es:=by
 unfold stN
 rw [List.foldl_append]
 rfl
def spL (es : List En) : List Nat:=(List.range es.length).filter fun j=>(za4 es).getD j false
theorem zjj (es : List En) : zdj (za4 es) (spL es):=by
 have:=zmX (za4 es)
 rw [za8] at this
 exact this
theorem zgA {es : List En} {ms : List Bool} (hl : es.length = ms.length) : ∀ i,i≤ms.length→zbX (es.take i) (ms.take i) = ((List.range i).filter fun j=>ms.getD j false).map fun j=>es.getD j (0,0)
 | 0,_=>rfl
 | i + 1,h=>by
  have ft : ((List.range (i + 1)).filter fun j=>ms.getD j false) = ((List.range i).filter fun j=>ms.getD j false) ++ (if ms.getD i false = true then [i] else []):=by
   rw [ybj,yaP]
   congr 1
   by_cases h : ms.getD i false = true
   ·rw [if_pos h,yaO (p:=fun j=>ms.getD j false) (a:=i) h]
    rfl
   ·rw [if_neg h,yaZ (p:=fun j=>ms.getD j false) (a:=i) h]
    rfl
  rw [zd8 (show i < es.length by omega),zd8 (show i < ms.length by omega),zfW (by rw [yas,yas]; omega),zgA hl i (by omega),ft,yaq]
  congr 1
  have e : ms.getD i false = ms[i]'(by omega):=by
   rw [yad,yac (show i < ms.length by omega)]
   rfl
  rw [e]
  split
  ·rw [List.map_singleton,yad,yac (show i < es.length by omega)]
   rfl
  ·rfl
theorem zgB (es : List En) : zbC es = (spL es).map fun j=>es.getD j (0,0):=by
 have hl:=za8 es
 have:=zgA (es:=es) (ms:=za4 es) hl.symm (za4 es).length (yaa _)
 rw [yar (yaa _),yar (by omega),hl] at this
 exact this
def stAt (sp : List Nat) (t : Nat) : Nat:=if t = 0 then 0 else sp.getD (t - 1) 0 + 1
theorem zmc {l : List En} (h : l.Nodup) {j : Nat} (hj : j < l.length) : l.idxOf (l.getD j (0,0)) = j:=by
 rw [yad,yac hj]
 exact List.Nodup.idxOf_getElem h j hj
theorem ziN {P : En→Bool} : ∀ (l : List En) (p : Nat),(l.take p).filter P = (l.filter P).take ((l.take p).filter P).length:=by
 intro l p
 have e : l.filter P = (l.take p).filter P ++ (l.drop p).filter P:=by rw [← yaP,ybp]
 rw [e,List.take_append_of_le_length (yaa _),yar (yaa _)]
theorem zpw {ps : List Nat} (T : zax ps) {rows : List (List Int)} (R : zaP rows) {k c : Nat} (hk : k < ps.length + 1) (hc : par ps c = some k) : ∀ p,p≤(zah ps rows k).length→stN (zah ps rows c) ((zah ps rows k).take p) = stAt (spL (zah ps rows c)) (inN (zah ps rows c) ((zah ps rows k).take p))
 | 0,_=>rfl
 | p + 1,h=>by
  have ih:=zpw T R hk hc p (by omega)
  have hp : p < (zah ps rows k).length:=by omega
  have hft:=ziN (P:=fun e=>decide (e∈zah ps rows c)) (zah ps rows k) (p + 1)
  rw [zmx T R hk hc] at hft
  rw [zj9 hp] at hft ⊢
  rw [zje,znA]
  by_cases z : (zah ps rows k)[p]∈zah ps rows c
  ·rw [if_pos z,if_pos z]
   unfold stAt
   rw [if_neg (by omega),ycf]
   congr 1
   rw [yaP,yaO (by exact yan z),List.filter_nil,yai,yaV] at hft
   have hin : ((zah ps rows k).take p |>.filter fun e=>decide (e∈zah ps rows c)).length = inN (zah ps rows c) ((zah ps rows k).take p):=rfl
   generalize inN (zah ps rows c) ((zah ps rows k).take p) = t at hin ⊢
   have hg : (zbC (zah ps rows c))[t]? = some (zah ps rows k)[p]:=by
    have h2 : (((zah ps rows k).take p |>.filter fun e=>decide (e∈zah ps rows c)) ++ [(zah ps rows k)[p]])[t]? = some (zah ps rows k)[p]:=by
     rw [ybl (by omega),hin,Nat.sub_self]
     rfl
    rw [hft,ycg] at h2
    split at h2
    ·exact h2
    ·cases h2
   rw [zgB,yaj] at hg
   obtain ⟨j,hj,he⟩:=ya4.mp hg
   have hjl : j < (zah ps rows c).length:=by
    have:=(zjj (zah ps rows c)).lt (yaI hj)
    rw [za8] at this
    exact this
   rw [← he,zmc (zdZ T R (zaJ T hc).2) hjl,yad,hj]
   rfl
  ·rw [if_neg z,if_neg z,ybq]
   exact ih
theorem zox {es : List En} (he : ∀ e∈es,zd4 64 e) (hri : Rise es) {t : Nat} (ht : t < (spL es).length) : stAt (spL es) (t + 1) = stAt (spL es) t + 2∨stAt (spL es) (t + 1) = stAt (spL es) t + 3:=by
 have M:=zhS he hri
 have S:=zjj es
 have g : ∀ i (h : i < (spL es).length),(spL es).getD i 0 = (spL es)[i]:=fun i h=>by
  rw [yad,yac h]
  rfl
 unfold stAt
 rw [if_neg (by omega),ycf]
 by_cases z : t = 0
 ·subst z
  rw [if_pos rfl,g 0 ht]
  have hlen : 2≤(za4 es).length:=by
   refine ybg fun y=>?_
   have:=S.none M (by omega)
   rw [this] at ht
   simp at ht
  obtain ⟨_,h1,h2⟩:=S.first M hlen
  omega
 ·rw [if_neg z,g t ht,g (t - 1) (by omega)]
  have:=S.step M (t:=t - 1) (by omega)
  have e : t - 1 + 1 = t:=by omega
  have e2 : (spL es)[t - 1 + 1]'(by omega) = (spL es)[t]:=by congr 1
  rw [e2] at this
  omega
theorem zow {es : List En} (he : ∀ e∈es,zd4 64 e) (hri : Rise es) : stAt (spL es) (spL es).length≤es.length∧es.length≤stAt (spL es) (spL es).length + 1:=by
 have M:=zhS he hri
 have S:=zjj es
 have hl:=za8 es
 unfold stAt
 by_cases z : (spL es).length = 0
 ·rw [if_pos z]
  refine ⟨yaA _,?_⟩
  refine ybg fun y=>?_
  obtain ⟨h,_⟩:=S.first M (by omega)
  omega
 ·have g : (spL es).getD ((spL es).length - 1) 0 = (spL es)[(spL es).length - 1]'(by omega):=by
   rw [yad,yac (by omega)]
   rfl
  rw [if_neg z,g]
  have h1:=S.lt (yaB (show (spL es).length - 1 < (spL es).length by omega))
  refine ⟨by omega,?_⟩
  have hlen : 2≤(za4 es).length:=ybg fun y=>z (by rw [S.none M y]; rfl)
  have h2:=S.last M hlen (by omega)
  omega
theorem zdE {f : Nat→Nat} {i : Nat} : ((List.range (i + 1)).map f).map nV = (((List.range i).map f) ++ [f i]).map nV:=by
 rw [ybj,yaq]
 rfl
theorem ziY {us : List Nat} {c : Nat} : atI ((us ++ [c]).map nV) (-1) = some (nV c):=by
 unfold atI ixN
 rw [yaq]
 simp
 rw [if_pos (by omega)]
 show (List.map nV us ++ [nV c])[(-1 + ((us.length : Int) + 1)).toNat]? = _
 rw [show (-1 + ((us.length : Int) + 1)).toNat = us.length by omega,ybl (by rw [yab]; exact yaa _),yab,Nat.sub_self]
 rfl
def znX (K : Frag) : Sp:=fun vs H Q _=>∃ (a : Addr) (ws : List V) (es : List En) (k : Nat),vs = [.ref a,.int k]∧H a = some (.lst ws)∧zal K H es ws∧es.length≤900∧
 ∀ (p : Addr) (H' : Hp),H p = none→Same H H'→H' p = some (.lst ((zm9 k es).map nV))→Q (.ref p) H'
theorem zoL (T : Txt K mg) (D_owns_of : DF K mg "owns_of" zeb zdr) : FC P w K mg base 1 "owns_of" zdr (znX K):=by
 refine D_owns_of.ok sc_owns_of (fun vs H Q E h=>?_) (fun f cdv A outer s H vs Q E hr h=>?_)
 ·obtain ⟨a,ws,es,k,rfl,_⟩:=h
  rfl
 obtain ⟨a,ws,es,k,rfl,ha,hw,hz,q⟩:=h
 have hwl:=hw.length
 refine ⟨_,(zae (zap (i:=2) sc_owns_of.nd rfl (Or.inl rfl) (zbF (zaa zag zad)))
   (zae (zaT PassesOwn.never rfl (zby (pv 0)) (zan (i:=3) sc_owns_of.nd rfl (Or.inl rfl)) (zai (zbe (zc7 F.plainAttrs_list F.slot_list_append F.type_list_append zaL (pv 2) (zaa (zjw (zaB zeV (zaC zbc (pv 3) zag (fun _ _=>rfl)) (pv 1) (zaN _)) (zar zaS (zaC zaw (pv 2) (zhH ze4 zag) (fun _ _=>rfl)) zag) (zaC zaw (pv 2) (zhH ze4 zag) (fun _ _=>rfl))) zad)))))
   (zai (zaz (pv 2))))),?_⟩
 refine ⟨(by show 1≤sizeLine; decide),fun p hp=>?_⟩
 have k0 : But p H (upd H p (.lst [V.int 0])):=fun b o n e=>by rw [zaf n]; exact e
 have nap : a≠p:=zab ha hp
 refine ⟨_,rfl,a,rfl,⟨_,SqL.of (k0 _ _ nap ha)⟩,?_⟩
 refine zdI (xs:=ws) (fun i σ H2=>∃ x3 : Option V,σ = [some (.ref a),some (.int k),some (.ref p),x3]∧H2 p = some (.lst (((List.range (i + 1)).map fun p=>zdW k (es.take p)).map nV))∧But p H H2) ?_ ?_ ?_ ?_
 ·exact ⟨_,rfl,zac,k0⟩
 ·rintro i σ H2 _ ⟨x3,rfl,_,k2⟩
  exact SqL.of (k2 _ _ nap ha)
 ·rintro i x σ H2 hx ⟨x3,rfl,h2,k2⟩
  obtain ⟨e,he,hhas⟩:=hw.get hx
  obtain ⟨b,y1,y2,rfl,hb,hy1,hy2⟩:=(show hasP K H e x from hhas)
  have hy1 : y1 = .int e.1:=hy1
  have hy2 : y2 = .int e.2:=hy2
  subst hy1 hy2
  have h2b:=k2 _ _ (zab hb hp) hb
  have hi:=(yah.mp he).1
  have htk : es.take (i + 1) = es.take i ++ [e]:=by
   rw [yaH hi,(yah.mp he).2]
  have hon:=zkf k (es.take i) e
  rw [← htk] at hon
  rw [zdE] at h2
  have hlen : ((((List.range i).map fun p=>zdW k (es.take p)) ++ [zdW k (es.take i)]).map nV).length < sizeLine:=zao (by
   rw [yab,yai,yab,yaG,yaV]
   omega)
  have fin : ∀ v : Nat,v = zdW k (es.take (i + 1))→upd H2 p (.lst ((((List.range i).map fun p=>zdW k (es.take p)) ++ [zdW k (es.take i)]).map nV ++ [nV v])) p = some (.lst (((List.range (i + 1 + 1)).map fun p=>zdW k (es.take p)).map nV)):=fun v hv=>by
   rw [zac,zdE,yaq (l₂:=[zdW k (es.take (i + 1))]),zdE,hv]
   rfl
  refine ⟨_,rfl,.inl ⟨rfl,_,SqL.of h2⟩,?_⟩
  refine ⟨_,rfl,_,_,_,_,rfl,rfl,SqT.of h2b,rfl,_,rfl,rfl,_,rfl,?_⟩
  refine ite2 (fun c=>?_) (fun c=>?_)
  ·have c' : e.2 = (k : Int):=V.int.inj (yaC c)
   rw [if_pos c'] at hon
   refine ⟨_,rfl,_,rfl,_,_,_,_,rfl,rfl,SqL.of h2,ziY,_,_,rfl,rfl,_,_,_,rfl,rfl,h2,hlen,?_⟩
   refine ⟨_,rfl,?_,fun b o n e=>by rw [zaf n]; exact k2 b o n e⟩
   have:=fin (zdW k (es.take i) + 1) hon.symm
   rw [← this]
   rfl
  ·have c' : ¬ e.2 = (k : Int):=fun z=>c (by rw [z]; exact yan rfl)
   rw [if_neg c',ybq] at hon
   refine ⟨_,rfl,_,rfl,_,_,_,_,rfl,rfl,SqL.of h2,ziY,_,_,_,rfl,rfl,h2,hlen,?_⟩
   exact ⟨_,rfl,fin _ hon.symm,fun b o n e=>by rw [zaf n]; exact k2 b o n e⟩
 ·rintro σ H2 ⟨x3,rfl,h2,k2⟩
  refine ⟨_,rfl,?_⟩
  rw [← hwl] at h2
  exact q p H2 hp (fun b o e=>k2 b o (zab e hp) e) h2
def kvT : Nat→List En→List (List Key×V)
 | _,[]=>[]
 | o,e :: es=>([.inl e.1,.inl e.2],nV (o + 1)) :: kvT (o + 1) es
abbrev kE (e : En) : List Key:=[.inl e.1,.inl e.2]
theorem zqh {e f : En} (h : kE e = kE f) : e = f:=by
 obtain ⟨a,b⟩:=e
 obtain ⟨c,d⟩:=f
 injection h with h1 h2
 injection h2 with h2 _
 have h1 : a = c:=Sum.inl.inj h1
 have h2 : b = d:=Sum.inl.inj h2
 rw [h1,h2]
theorem ziD (e : En) : ∀ (o : Nat) (es : List En),valV (kvT o es) (kE e) = if e∈es then some (nV (o + es.idxOf e + 1)) else none
 | _,[]=>rfl
 | o,f :: es=>by
  show valV ((kE f,nV (o + 1)) :: kvT (o + 1) es) (kE e) = _
  by_cases z : f = e
  ·subst z
   rw [zaZ rfl,if_pos yav,List.idxOf_cons_self]
  ·rw [zaM (fun y=>z (zqh y)),ziD e (o + 1) es]
   have hm : (e∈f :: es) = (e∈es):=propext ⟨fun h=>(yal.mp h).resolve_left fun y=>z y.symm,fun h=>yay _ h⟩
   by_cases y : e∈es
   ·have ei : (f :: es).idxOf e = es.idxOf e + 1:=by
     rw [List.idxOf_cons,beq_false_of_ne z]
     rfl
    rw [if_pos y,if_pos (by rw [hm]; exact y),ei]
    congr 2
    have : o + 1 + es.idxOf e + 1 = o + (es.idxOf e + 1) + 1:=by omega
    rw [this]
   ·rw [if_neg y,if_neg (by rw [hm]; exact y)]
theorem zjM (e : En) : ∀ (o : Nat) (es : List En),kvT o (es ++ [e]) = kvT o es ++ [(kE e,nV (o + es.length + 1))]
 | _,[]=>rfl
 | o,f :: es=>by
  show (kE f,nV (o + 1)) :: kvT (o + 1) (es ++ [e]) = (kE f,nV (o + 1)) :: (kvT (o + 1) es ++ _)
  rw [zjM e (o + 1) es,yaW,show o + 1 + es.length + 1 = o + (es.length + 1) + 1 by omega]
theorem zl1 : ∀ (o : Nat) (es : List En),(kvT o es).length = es.length
 | _,[]=>rfl
 | o,e :: es=>by
  show (kvT (o + 1) es).length + 1 = es.length + 1
  rw [zl1 (o + 1) es]
def zjf (K : Frag) : Sp:=fun vs H Q _=>∃ (a c : Addr) (ws vs' : List V) (es cs : List En),vs = [.ref a,.ref c]∧H a = some (.lst ws)∧zal K H es ws∧es.length≤900∧H c = some (.lst vs')∧zal K H cs vs'∧cs.length≤900∧cs.Nodup∧
 ∀ (p : Addr) (H' : Hp),H p = none→Same H H'→H' p = some (.lst ((zeO es cs).map nV))→Q (.ref p) H'
theorem zly (T : Txt K mg) (D_starts_of : DF K mg "starts_of" zcF zcn) : FC P w K mg base 1 "starts_of" zcn (zjf K):=by
 refine D_starts_of.ok sc_starts_of (fun vs H Q E h=>?_) (fun f cdv A outer s H vs Q E hr h=>?_)
 ·obtain ⟨a,c,ws,us,es,cs,rfl,_⟩:=h
  rfl
 obtain ⟨a,c,ws,us,es,cs,rfl,ha,hw,hz,hc,hu,hzc,hnd,q⟩:=h
 have hwl:=hw.length
 have hul:=hu.length
 refine ⟨_,(zae (zap (i:=2) sc_starts_of.nd rfl (Or.inl rfl) zm4)
   (zae (zaT PassesOwn.never rfl (zc4 rfl T.m_enumerate (zaa (pv 1) zad)) (ze6 rfl (za1 (zan (i:=3) sc_starts_of.nd rfl (Or.inl rfl)) (za1 (zan (i:=4) sc_starts_of.nd rfl (Or.inl rfl)) zc5))) (zai (zdU (zcY hr) (pv 2) (pv 4) (zar zaS (pv 3) zag) rfl)))
   (zae (zap (i:=5) sc_starts_of.nd rfl (Or.inl rfl) (zbF (zaa zag zad)))
   (zae (zaT PassesOwn.never rfl (zby (pv 0)) (zan (i:=4) sc_starts_of.nd rfl (Or.inl rfl)) (zai (zbe (zc7 F.plainAttrs_list F.slot_list_append F.type_list_append zaL (pv 5) (zaa (zm5 (zcY hr) (pv 2) (pv 4) (zaC zaw (pv 5) (zhH ze4 zag) (fun _ _=>rfl)) ⟨rfl,rfl,rfl,rfl⟩) zad)))))
   (zai (zaz (pv 5))))))),?_⟩
 intro D hD
 have k0 : But D H (upd H D (.dT [])):=fun b o n e=>by rw [zaf n]; exact e
 have naD : a≠D:=zab ha hD
 have ncD : c≠D:=zab hc hD
 refine ⟨_,rfl,c,rfl,⟨_,SqL.of (k0 _ _ ncD hc)⟩,?_⟩
 refine zhg (xs:=us) (fun i σ H2=>∃ x3 x4 : Option V,σ = [some (.ref a),some (.ref c),some (.ref D),x3,x4,none]∧H2 D = some (.dT (kvT 0 (cs.take i)))∧But D H H2) ?_ ?_ ?_ ?_
 ·exact ⟨_,_,rfl,zac,k0⟩
 ·rintro i σ H2 _ ⟨x3,x4,rfl,_,k2⟩
  exact SqL.of (k2 _ _ ncD hc)
 ·rintro i x σ H2 r hx ⟨x3,x4,rfl,h2,k2⟩ hr
  obtain ⟨e,he,hhas⟩:=hu.get hx
  obtain ⟨b,y1,y2,rfl,hb,hy1,hy2⟩:=(show hasP K H e x from hhas)
  have hy1 : y1 = .int e.1:=hy1
  have hy2 : y2 = .int e.2:=hy2
  subst hy1 hy2
  have hi:=(yah.mp he).1
  have htk : cs.take (i + 1) = cs.take i ++ [e]:=by
   rw [yaH hi,(yah.mp he).2]
  refine ⟨r,_,rfl,SqT.of zac,rfl,_,_,rfl,_,_,rfl,rfl,?_⟩
  have sr:=zak hr (.tup [.int (i : Int),.ref b])
  have h3:=sr _ _ h2
  have k3 : But D H (upd H2 r (.tup [.int (i : Int),.ref b])):=fun b o n e=>sr b o (k2 b o n e)
  clear sr
  generalize upd H2 r (.tup [.int (i : Int),.ref b]) = H3 at h3 k3 ⊢
  have h3b:=k3 _ _ (zab hb hD) hb
  have hnot : e∉cs.take i:=fun z=>by
   have hn2:=hnd
   rw [← ybp (i + 1) cs,htk] at hn2
   have:=(ybh.mp (ybh.mp hn2).1).2.2 e z e (yap.mpr rfl)
   exact this rfl
  refine ⟨_,rfl,_,_,rfl,rfl,_,rfl,_,rfl,D,_,rfl,DPut.t (k:=kE e) h3 h3b (zao (by rw [zl1,yas]; omega)),?_⟩
  refine ⟨_,_,rfl,?_,fun b o n e=>by rw [zaf n]; exact k3 b o n e⟩
  rw [zac,zcK _ (by rw [ziD,if_neg hnot]),htk,zjM,yas,ybo (by omega),ybM]
  rfl
 ·rintro σ H2 ⟨x3,x4,rfl,h2,k2⟩
  rw [yar (by omega)] at h2
  refine ⟨(by show 1≤sizeLine; decide),fun p hp=>?_⟩
  have nDp : D≠p:=zab h2 hp
  have s2 : Same H H2:=fun b o e=>k2 b o (zab e hD) e
  have k3 : But p H2 (upd H2 p (.lst [V.int 0])):=fun b o n e=>by rw [zaf n]; exact e
  have h2a:=s2 _ _ ha
  refine ⟨_,rfl,a,rfl,⟨_,SqL.of (k3 _ _ (zab h2a hp) h2a)⟩,?_⟩
  refine zdI (xs:=ws) (fun i σ H4=>∃ x4 : Option V,σ = [some (.ref a),some (.ref c),some (.ref D),x3,x4,some (.ref p)]∧H4 p = some (.lst (((List.range (i + 1)).map fun p=>stN cs (es.take p)).map nV))∧But p H2 H4) ?_ ?_ ?_ ?_
  ·exact ⟨_,rfl,zac,k3⟩
  ·rintro i σ H4 _ ⟨x4,rfl,_,k4⟩
   exact SqL.of (k4 _ _ (zab h2a hp) h2a)
  ·rintro i x σ H4 hx ⟨x4,rfl,h4,k4⟩
   obtain ⟨e,he,hhas⟩:=hw.get hx
   obtain ⟨b,y1,y2,rfl,hb,hy1,hy2⟩:=(show hasP K H e x from hhas)
   have hy1 : y1 = .int e.1:=hy1
   have hy2 : y2 = .int e.2:=hy2
   subst hy1 hy2
   have h2b:=s2 _ _ hb
   have h4b:=k4 _ _ (zab h2b hp) h2b
   have h4D:=k4 _ _ nDp h2
   have hi:=(yah.mp he).1
   have htk : es.take (i + 1) = es.take i ++ [e]:=by
    rw [yaH hi,(yah.mp he).2]
   have hon:=zje cs (es.take i) e
   rw [← htk] at hon
   rw [zdE] at h4
   have hlen : ((((List.range i).map fun p=>stN cs (es.take p)) ++ [stN cs (es.take i)]).map nV).length < sizeLine:=zao (by
    rw [yab,yai,yab,yaG,yaV]
    omega)
   refine ⟨_,rfl,.inl ⟨rfl,_,SqL.of h4⟩,?_⟩
   refine ⟨_,rfl,D,rfl,.inr ⟨_,.inl h4D⟩,_,rfl,_,rfl,_,rfl,_,_,_,_,rfl,rfl,SqL.of h4,ziY,_,DGet.t (k:=kE e) h4D h4b,?_⟩
   have ev : (valV (kvT 0 cs) (kE e)).getD (nV (stN cs (es.take i))) = nV (stN cs (es.take (i + 1))):=by
    rw [ziD,hon]
    by_cases z : e∈cs
    ·rw [if_pos z,if_pos z,ybM]
     rfl
    ·rw [if_neg z,if_neg z]
     rfl
   rw [ev]
   refine ⟨_,_,_,rfl,rfl,h4,hlen,?_⟩
   refine ⟨_,rfl,?_,fun b o n e=>by rw [zaf n]; exact k4 b o n e⟩
   rw [zac,zdE,yaq (l₂:=[stN cs (es.take (i + 1))]),zdE]
   rfl
  ·rintro σ H4 ⟨x4,rfl,h4,k4⟩
   refine ⟨_,rfl,?_⟩
   rw [← hwl] at h4
   refine q p H4 (s2.free hp) (s2.trans fun b o e=>k4 b o (zab e hp) e) h4
theorem zay {α β : Type} {F G : α→β→Prop} (h : ∀ a b,F a b→G a b) : ∀ {l : List α} {m : List β},Paired F l m→Paired G l m
 | _,_,.nil=>.nil
 | _,_,.cons a t=>.cons (h _ _ a) (zay h t)
theorem zcb {α β : Type} {F : α→β→Prop} {a : α} {b : β} : ∀ {l : List α} {m : List β},Paired F l m→F a b→Paired F (l ++ [a]) (m ++ [b])
 | _,_,.nil,h=>.cons h .nil
 | _,_,.cons a t,h=>.cons a (zcb t h)
theorem zeT {α β : Type} {F : α→β→Prop} : ∀ {l : List α} {m : List β} {i : Nat} {a : α},Paired F l m→l[i]? = some a→∃ b,m[i]? = some b∧F a b
 | _,_,i,a,.nil,h=>by simp at h
 | _ :: _,b :: _,0,a,.cons h t,e=>by
  have:=yaf (show some _ = some a from e)
  subst this
  exact ⟨b,rfl,h⟩
 | _ :: _,_ :: _,i + 1,a,.cons h t,e=>by
  obtain ⟨q,h1,h2⟩:=zeT (i:=i) t (by simpa using e)
  exact ⟨q,by simpa using h1,h2⟩
theorem zdV {α β : Type} {F : α→β→Prop} : ∀ {l : List α} {m : List β} {i : Nat} {b : β},Paired F l m→m[i]? = some b→∃ a,l[i]? = some a∧F a b
 | _,_,i,a,.nil,h=>by simp at h
 | a :: _,_ :: _,0,b,.cons h t,e=>by
  have:=yaf (show some _ = some b from e)
  subst this
  exact ⟨a,rfl,h⟩
 | _ :: _,_ :: _,i + 1,a,.cons h t,e=>by
  obtain ⟨q,h1,h2⟩:=zdV (i:=i) t (by simpa using e)
  exact ⟨q,by simpa using h1,h2⟩
def zbm (Av : List Addr) (H : Hp) (es : List En) (ps : List Nat) (rows : List (List Int)) (c : Nat) (x : V) : Prop:=∃ j s,x = .ref j∧s∉Av∧H j = some (.tup [.int (c : Int),.ref s])∧H s = some (.lst ((zeO es (zah ps rows c)).map nV))
def BrAt (Av : List Addr) (H : Hp) (ps : List Nat) (rows : List (List Int)) (k : Nat) (x : V) : Prop:=∃ b o j xs,x = .ref b∧o∉Av∧j∉Av∧H b = some (.tup [.int ((zah ps rows k).length : Nat),.ref o,.ref j])∧H o = some (.lst ((zm9 k (zah ps rows k)).map nV))∧H j = some (.lst xs)∧Paired (zbm Av H (zah ps rows k) ps rows) (zaF ps k (ps.length + 1)) xs
theorem zbm.same {Av : List Addr} {H H' : Hp} {es : List En} {ps : List Nat} {rows : List (List Int)} {c : Nat} {x : V} (e : Same H H') (h : zbm Av H es ps rows c x) : zbm Av H' es ps rows c x:=by
 obtain ⟨j,s,h1,h2,h3,h4⟩:=h
 exact ⟨j,s,h1,h2,e _ _ h3,e _ _ h4⟩
theorem zbm.but {p : Addr} {Av : List Addr} {H H' : Hp} {es : List En} {ps : List Nat} {rows : List (List Int)} {c : Nat} {x : V} {zs : List V} (k : But p H H') (hp : p∈Av) (hz : H p = some (.lst zs)) (h : zbm Av H es ps rows c x) : zbm Av H' es ps rows c x:=by
 obtain ⟨j,s,h1,h2,h3,h4⟩:=h
 exact ⟨j,s,h1,h2,k _ _ (fun z=>by rw [z,hz] at h3; cases h3) h3,k _ _ (fun z=>h2 (z ▸ hp)) h4⟩
theorem zbm.less {Av Av' : List Addr} {H : Hp} {es : List En} {ps : List Nat} {rows : List (List Int)} {c : Nat} {x : V} (s : ∀ a∈Av',a∈Av) (h : zbm Av H es ps rows c x) : zbm Av' H es ps rows c x:=by
 obtain ⟨j,q,h1,h2,h3,h4⟩:=h
 exact ⟨j,q,h1,fun z=>h2 (s _ z),h3,h4⟩
theorem BrAt.same {Av : List Addr} {H H' : Hp} {ps : List Nat} {rows : List (List Int)} {k : Nat} {x : V} (e : Same H H') (h : BrAt Av H ps rows k x) : BrAt Av H' ps rows k x:=by
 obtain ⟨b,o,j,xs,h1,h2,h3,h4,h5,h6,h7⟩:=h
 exact ⟨b,o,j,xs,h1,h2,h3,e _ _ h4,e _ _ h5,e _ _ h6,zay (fun a b=>zbm.same e) h7⟩
theorem BrAt.but {p : Addr} {Av : List Addr} {H H' : Hp} {ps : List Nat} {rows : List (List Int)} {k : Nat} {x : V} {zs : List V} (kk : But p H H') (hp : p∈Av) (hz : H p = some (.lst zs)) (h : BrAt Av H ps rows k x) : BrAt Av H' ps rows k x:=by
 obtain ⟨b,o,j,xs,h1,h2,h3,h4,h5,h6,h7⟩:=h
 exact ⟨b,o,j,xs,h1,h2,h3,kk _ _ (fun z=>by rw [z,hz] at h4; cases h4) h4,kk _ _ (fun z=>h2 (z ▸ hp)) h5,kk _ _ (fun z=>h3 (z ▸ hp)) h6,zay (fun a b=>zbm.but kk hp hz) h7⟩
theorem BrAt.less {Av : List Addr} {H : Hp} {ps : List Nat} {rows : List (List Int)} {k : Nat} {x : V} (h : BrAt Av H ps rows k x) : BrAt [] H ps rows k x:=by
 obtain ⟨b,o,j,xs,h1,h2,h3,h4,h5,h6,h7⟩:=h
 exact ⟨b,o,j,xs,h1,(fun z=>nomatch z),(fun z=>nomatch z),h4,h5,h6,zay (fun a b=>zbm.less (fun a z=>absurd z yaY)) h7⟩
def spBr (K : Frag) : Sp:=fun vs H Q _=>∃ (st : Addr) (ps : List Nat) (rows : List (List Int)) (t rs : Addr) (as : List Addr),vs = [.ref st]∧zcz H st ps rows t rs as∧
 ∀ (p : Addr) (xs : List V) (H' : Hp),H p = none→Same H H'→H' p = some (.lst xs)→Paired (BrAt [] H' ps rows) (List.range (ps.length + 1)) xs→Q (.ref p) H'
def zn1 (K : Frag) : Sp:=fun vs H Q _=>∃ (st : Addr) (ps : List Nat) (rows : List (List Int)) (t rs : Addr) (as : List Addr) (pf : Addr) (qs : List Addr),vs = [.ref t,.ref pf]∧zcz H st ps rows t rs as∧H pf = some (.lst (qs.map V.ref))∧zau K H ps rows (List.range (ps.length + 1)) qs∧
 ∀ (p : Addr) (xs : List V) (H' : Hp),H p = none→Same H H'→H' p = some (.lst xs)→Paired (BrAt [] H' ps rows) (List.range (ps.length + 1)) xs→Q (.ref p) H'
theorem zoO (T : Txt K mg) (D_bridges_of : DF K mg "bridges_of" zcm zbV) (F_children : FC P w K mg base 1 "children" zb9 (zeP K)) (F_starts_of : FC P w K mg base 1 "starts_of" zcn (zjf K)) (F_owns_of : FC P w K mg base 1 "owns_of" zdr (znX K)) : FC P w K mg base 2 "bridges_of" zbV (zn1 K):=by
 refine D_bridges_of.ok sc_bridges_of (fun vs H Q E h=>?_) (fun f cdv A outer s H vs Q E hr h=>?_)
 ·obtain ⟨st,ps,rows,t,rs,as,pf,qs,rfl,_⟩:=h
  rfl
 obtain ⟨st,ps,rows,t,rs,as,pf,qs,rfl,S,h1,hF,q⟩:=h
 refine ⟨_,(zae (zap (i:=2) sc_bridges_of.nd rfl (Or.inl rfl) (zbF zad))
   (zae (zaT PassesOwn.never rfl (zc4 rfl T.m_enumerate (zaa (pv 1) zad)) (ze6 rfl (za1 (zan (i:=3) sc_bridges_of.nd rfl (Or.inl rfl)) (za1 (zan (i:=4) sc_bridges_of.nd rfl (Or.inr rfl)) zc5))) (zae (zdT (i:=5) (N:=["child","full","fulls"]) (own:=1) (cap:=[4,1]) sc_bridges_of.nd rfl rfl rfl (zby (zaI F_children hr (zaa (pv 0) (zaa (pv 3) zad)))) ⟨rfl,rfl,rfl,rfl,rfl,rfl⟩ (fun _ _ _ _ _=>(zan (i:=0) (show List.Nodup (["child","full","fulls"] : List Str) by decide +kernel) rfl (Or.inl rfl))) (fun _ _ _ _ _=>zbP) (fun _ _ _ _ _=>(zbz (zaa (pv 0) (zaa (zaI F_starts_of hr (zaa (pv 1) (zaa (zaC (zjO (K:=K)) (pv 2) (pv 0) (fun _ _=>rfl)) zad))) zad)))))
   (zai (zbe (zc7 F.plainAttrs_list F.slot_list_append F.type_list_append zaL (pv 2) (zaa (zbz (zaa (zas zam rfl T.m_len boot_len (zaa (pv 4) zad)) (zaa (zaI F_owns_of hr (zaa (pv 4) (zaa (pv 3) zad))) (zaa (pv 5) zad)))) zad))))))
   (zai (zaz (pv 2))))),?_⟩
 have hfew:=S.few
 have hkeys:=S.keys
 have hql:=hF.length
 rw [yaG] at hql
 refine ⟨(by show 0≤sizeLine; decide),fun p hp=>?_⟩
 have k0 : But p H (upd H p (.lst [])):=fun b o n e=>by rw [zaf n]; exact e
 have npf : pf≠p:=zab h1 hp
 refine ⟨_,rfl,pf,rfl,⟨_,SqL.of (k0 _ _ npf h1)⟩,?_⟩
 refine zhg (xs:=qs.map V.ref) (fun i σ H2=>∃ (xs : List V) (x4 x5 x6 : Option V),σ = [some (.ref t),some (.ref pf),some (.ref p),x4,x5,x6]∧H2 p = some (.lst xs)∧Paired (BrAt [p] H2 ps rows) (List.range i) xs∧But p H H2) ?_ ?_ ?_ ?_
 ·exact ⟨[],_,_,_,rfl,zac,.nil,k0⟩
 ·rintro i σ H2 _ ⟨xs,x4,x5,x6,rfl,_,_,k2⟩
  exact SqL.of (k2 _ _ npf h1)
 ·rintro i x σ H2 r hx ⟨xs,x4,x5,x6,rfl,h2,hB,k2⟩ hr
  rw [yaj] at hx
  obtain ⟨qq,hqi,rfl⟩:=ya4.mp hx
  have hi : i < ps.length + 1:=by
   have:=(yah.mp hqi).1
   omega
  have hxl : xs.length = i:=by
   have:=Paired.length hB
   rw [yaG] at this
   exact this.symm
  have noP : ∀ {b : Addr} {o : HO},H b = some o→b≠p:=fun e=>zab e hp
  have s12 : Same H H2:=fun b o e=>k2 b o (noP e) e
  have S2:=S.same s12
  have F2:=hF.same s12
  have h2f:=s12 _ _ h1
  obtain ⟨q2,hq2,ws,hq3,hw3⟩:=F2.get (i:=i) (j:=i) (ybi hi)
  rw [hqi] at hq2
  have:=yaf hq2
  subst this
  refine ⟨r,_,rfl,SqT.of zac,rfl,_,_,rfl,_,_,rfl,rfl,?_⟩
  have sr:=zak hr (.tup [.int (i : Int),.ref qq])
  generalize upd H2 r (.tup [.int (i : Int),.ref qq]) = H3 at sr ⊢
  refine ⟨_,rfl,_,rfl,t,ps,i,rfl,sr _ _ S2.tr,by omega,fun c H4 hc s4 h4=>?_⟩
  have s24 : Same H2 H4:=sr.trans s4
  refine ⟨c,rfl,⟨_,SqL.of h4⟩,fun D hD=>?_⟩
  have hpD : p≠D:=zab (s24 _ _ h2) hD
  have F4:=F2.same s24
  have h4q:=s24 _ _ hq3
  have h4w:=hw3.mono s24.ext
  have hfl:=zdY S.T S.len (rows:=rows) hi
  refine zbO (xs:=(zaF ps i (ps.length + 1)).map nV) (fun m σ H5=>∃ (ys : List V) (x0 : Option V),σ = [x0,some (.ref qq),some (.ref pf)]∧H5 D = some (.lst ys)∧Paired (zbm [p,D] H5 (zah ps rows i) ps rows) ((zaF ps i (ps.length + 1)).take m) ys∧But D H4 H5) ?_ ?_ ?_ ?_
  ·exact ⟨[],_,rfl,zac,.nil,fun b o n e=>by rw [zaf n]; exact e⟩
  ·rintro m σ H5 _ ⟨ys,x0,rfl,_,_,k5⟩
   exact k5.sq (SqL.of h4) hD
  ·rintro m u x σ H5 hx hm ⟨ys,x0,rfl,h5,hJ,k5⟩
   obtain ⟨hmi,rfl⟩:=zh0 hx
   have hcl:=zdJ ps i (ps.length + 1)
   have hyl:=Paired.length hJ
   rw [yas] at hyl
   rw [yab] at hm
   have hcm : (zaF ps i (ps.length + 1))[m]? = some ((zaF ps i (ps.length + 1)).getD m 0):=by
    rw [yad,yac hmi]
    rfl
   have htk2 : (zaF ps i (ps.length + 1)).take (m + 1) = (zaF ps i (ps.length + 1)).take m ++ [(zaF ps i (ps.length + 1)).getD m 0]:=by
    rw [yaH hmi,yad,yac hmi]
    rfl
   rw [htk2]
   generalize (zaF ps i (ps.length + 1)).getD m 0 = ch at hcm ⊢
   obtain ⟨hchn,hchp⟩:=zaA.mp (yaI hcm)
   have s45 : Same H4 H5:=fun b o e=>k5 b o (zab e hD) e
   have F5:=F4.same s45
   obtain ⟨qc,hqc,wc,hqc3,hwc⟩:=F5.get (i:=ch) (j:=ch) (ybi hchn)
   have hfc:=zdY S.T S.len (rows:=rows) hchn
   refine zcW ?_
   refine ⟨_,rfl,_,rfl,_,rfl,_,rfl,_,_,_,_,rfl,rfl,SqL.of (s45 _ _ (s24 _ _ h2f)),zdQ hqc,?_⟩
   refine ⟨qq,qc,ws,wc,zah ps rows i,zah ps rows ch,rfl,s45 _ _ h4q,h4w.mono s45.ext,by omega,hqc3,hwc,by omega,zdZ S.T S.R hchn,fun sa H6 hsa s6 h6=>?_⟩
   refine ⟨(by show 2≤sizeLine; decide),fun j hj=>?_⟩
   have sj:=zak hj (.tup [.int (ch : Int),.ref sa])
   have hjj : upd H6 j (.tup [.int (ch : Int),.ref sa]) j = some (.tup [.int (ch : Int),.ref sa]):=zac
   generalize upd H6 j (.tup [.int (ch : Int),.ref sa]) = H7 at sj hjj ⊢
   have s57:=s6.trans sj
   have h7D:=s57 _ _ h5
   have nsaD : sa≠D:=Ne.symm (zab h5 hsa)
   have nsap : sa≠p:=Ne.symm (zab (s45 _ _ (s24 _ _ h2)) hsa)
   have kD : But D H7 (upd H7 D (.lst (ys ++ [.ref j]))):=fun b o n e=>by rw [zaf n]; exact e
   refine ⟨_,h7D,zao (by omega),u - 1,by omega,by rw [yab]; omega,ys ++ [.ref j],_,rfl,zac,?_,fun b o n e=>by rw [zaf n]; exact s57 _ _ (k5 b o n e)⟩
   refine zcb (zay (fun a b h=>zbm.but kD (yay _ yav) h7D (zbm.same s57 h)) hJ) ?_
   refine zbm.but kD (yay _ yav) h7D ⟨j,sa,rfl,?_,hjj,sj _ _ h6⟩
   intro z
   rcases yal.mp z with z | z
   ·exact nsap z
   ·exact nsaD (yap.mp z)
  ·rintro σ H5 ⟨ys,x0,rfl,h5,hJ,k5⟩
   rw [yab,yar (yaa _)] at hJ
   have s45 : Same H4 H5:=fun b o e=>k5 b o (zab e hD) e
   have s25:=s24.trans s45
   refine ⟨_,rfl,.inl ⟨rfl,_,SqL.of (s25 _ _ h2)⟩,_,rfl,_,_,rfl,.inl (SqL.of (s45 _ _ h4q)),?_⟩
   have hwl:=h4w.length
   refine ⟨_,rfl,_,rfl,qq,ws,zah ps rows i,i,rfl,s45 _ _ h4q,h4w.mono s45.ext,by omega,fun o H6 ho s6 h6=>?_⟩
   refine ⟨_,rfl,(by show 3≤sizeLine; decide),fun b hb=>?_⟩
   have sb:=zak hb (.tup [.int ((ws.length : Nat) : Int),.ref o,.ref D])
   have hbb : upd H6 b (.tup [.int ((ws.length : Nat) : Int),.ref o,.ref D]) b = some (.tup [.int ((ws.length : Nat) : Int),.ref o,.ref D]):=zac
   generalize upd H6 b (.tup [.int ((ws.length : Nat) : Int),.ref o,.ref D]) = H7 at sb hbb ⊢
   have s57:=s6.trans sb
   have s27:=s25.trans s57
   have h7p:=s27 _ _ h2
   have kp : But p H7 (upd H7 p (.lst (xs ++ [.ref b]))):=fun b o n e=>by rw [zaf n]; exact e
   have nop : o≠p:=Ne.symm (zab (s25 _ _ h2) ho)
   refine ⟨_,_,_,rfl,rfl,h7p,zao (by omega),?_⟩
   refine ⟨xs ++ [.ref b],_,_,_,rfl,zac,?_,fun b o n e=>by rw [zaf n]; exact s27 _ _ (k2 b o n e)⟩
   rw [ybj]
   refine zcb (zay (fun a b h=>BrAt.but kp yav h7p (BrAt.same s27 h)) hB) ?_
   refine BrAt.but kp yav h7p ⟨b,o,D,ys,rfl,fun z=>nop (yap.mp z),fun z=>hpD (yap.mp z).symm,?_,sb _ _ h6,s57 _ _ h5,?_⟩
   ·rw [hbb,hwl]
   ·exact zay (fun a b h=>zbm.same s57 (zbm.less (fun a z=>by rw [yap.mp z]; exact yav) h)) hJ
 ·rintro σ H2 ⟨xs,x4,x5,x6,rfl,h2,hB,k2⟩
  refine ⟨_,rfl,?_⟩
  rw [yab,← hql] at hB
  refine q p xs H2 hp (fun b o e=>k2 b o (zab e hp) e) h2 (zay (fun a b=>BrAt.less) hB)
theorem zkj (T : Txt K mg) (D_bridges : DF K mg "bridges" zej zdA) (F_full_rows : FC P w K mg base 8 "full_rows" zcr (zlc K)) (F_bridges_of : FC P w K mg base 2 "bridges_of" zbV (zn1 K)) : FC P w K mg base 9 "bridges" zdA (spBr K):=by
 refine D_bridges.ok sc_bridges (fun vs H Q E h=>?_) (fun f cdv A outer s H vs Q E hr h=>?_)
 ·obtain ⟨st,ps,rows,t,rs,as,rfl,_⟩:=h
  rfl
 obtain ⟨st,ps,rows,t,rs,as,rfl,S,q⟩:=h
 refine ⟨_,(zai (zaz (zaI F_bridges_of hr (zaa (zaC zbc (pv 0) zag (fun _ _=>rfl)) (zaa (zaI F_full_rows hr (zaa (pv 0) zad)) zad))))),?_⟩
 refine ⟨_,rfl,_,_,_,_,rfl,rfl,SqT.of S.st,rfl,?_⟩
 refine ⟨_,rfl,st,ps,rows,t,rs,as,rfl,S,fun pf qs H1 hpf s1 h1 hqn hqf hpq hF=>?_⟩
 exact ⟨st,ps,rows,t,rs,as,pf,qs,rfl,S.same s1,h1,hF,fun p xs H2 hp s2 h2 hB=>q p xs H2 (s1.free hp) (s1.trans s2) h2 hB⟩
theorem zl3 {m : Nat} : ∀ {rows : List (List Int)},(∀ row∈rows,row.length≤m)→zbW rows≤rows.length * m
 | [],_=>yaA _
 | r :: rows,h=>by
  have h1:=h r yav
  have h2:=zl3 (m:=m) (rows:=rows) fun x hx=>h x (yay _ hx)
  unfold zbW at h2 ⊢
  rw [yax,yaS,yaW,Nat.succ_mul]
  omega
def zk8 (K : Frag) : Sp:=fun vs H Q _=>∃ (d L : Addr) (m kk : Nat),vs = [.ref d,.int m,.int kk]∧0 < m∧m≤40∧kk≤10∧m * kk≤20∧LS K L d H∧
 ∀ (st : Addr) (ps : List Nat) (rows : List (List Int)) (t rs : Addr) (as : List Addr) (H' : Hp),H st = none→zcz H' st ps rows t rs as→Keep d H H'→LS K L d H'→Q (.ref st) H'
theorem zlC (T : Txt K mg) (D_l_stand : DF K mg "_law_stand" zec zds) (F_l_tree : FC P w K mg base 3 "_law_tree" zeq (znV K)) (F_l_rows : FC P w K mg base 5 "_law_rows" zer (znW K)) : FC P w K mg base 6 "_law_stand" zds (zk8 K):=by
 refine D_l_stand.ok sc_l_stand (fun vs H Q E h=>?_) (fun f cdv A outer s H vs Q E hr h=>?_)
 ·obtain ⟨d,L,m,kk,rfl,_⟩:=h
  rfl
 obtain ⟨d,L,m,kk,rfl,hm0,hm,hkk,hmk,hs,q⟩:=h
 refine ⟨_,(zae (zap (i:=3) sc_l_stand.nd rfl (Or.inl rfl) (zaI F_l_tree hr (zaa (pv 0) (zaa (pv 1) zad))))
   (zai (zaz (zbz (zaa (pv 3) (zaa (zaI F_l_rows hr (zaa (pv 0) (zaa (zas zam rfl T.m_len boot_len (zaa (pv 3) zad)) (zaa (pv 2) zad)))) zad)))))),?_⟩
 refine ⟨_,rfl,_,rfl,d,L,m,rfl,⟨by omega,by omega⟩,hs,fun t ps H1 ht hT hl h1 k1 s1=>?_⟩
 refine ⟨_,rfl,_,rfl,_,rfl,_,_,rfl,.inr (SqT.of h1),_,rfl,?_⟩
 refine ⟨d,L,(zcg ps).length,kk,rfl,by rw [zav]; omega,by omega,s1,fun r as rows H2 hr2 hA hrl hR hlen h2 k2 s2=>?_⟩
 rw [zav] at hrl
 have ntd : t≠d:=fun z=>by
  obtain ⟨_,_,_,e,_⟩:=s1.ex
  rw [← z,h1] at e
  cases e
 refine ⟨(by show 2≤sizeLine; decide),fun st hst=>?_⟩
 have ss:=zak hst (.tup [.ref t,.ref r])
 have hk:=zl3 hlen
 have hk2 : rows.length * kk≤m * kk:=Nat.mul_le_mul_right kk (by omega)
 have std : st≠d:=fun z=>by
  obtain ⟨_,_,_,e,_⟩:=s2.ex
  rw [← z,hst] at e
  cases e
 refine q st ps rows t r as _ ?_ ⟨zac,ss _ _ (k2 _ _ ntd h1),ss _ _ h2,hA.ext ss,hrl,hT,hR,by omega,by omega⟩ (fun b o n e=>ss _ _ (k2 _ _ n (k1 _ _ n e))) (s2.same ss)
 cases e : H st with
 | none=>rfl
 | some o=>
  have:=k2 _ _ std (k1 _ _ std e)
  rw [hst] at this
  cases this
theorem znv {rows : List (List Int)} {row : List Int} (h : row∈rows) : row.length≤zbW rows:=by
 unfold zbW
 induction rows with
 | nil=>cases h
 | cons r rows ih=>
  rw [yax,yaS]
  rcases yal.mp h with e | e
  ·rw [e]
   omega
  ·have:=ih e
   omega
def accL (ps : List Nat) (rows : List (List Int)) : Nat→Nat→List En
 | 0,j=>ownE rows j
 | i + 1,j=>accL ps rows i j ++ (if par ps (ps.length - i) = some j then zbC (zah ps rows (ps.length - i)) else [])
theorem zi2 {ps : List Nat} (T : zax ps) {rows : List (List Int)} {j : Nat} {e : En} : ∀ i,i≤ps.length→(e∈accL ps rows i j↔e∈ownE rows j∨∃ c,ps.length - i < c∧par ps c = some j∧e∈zbC (zah ps rows c))
 | 0,_=>by
  unfold accL
  constructor
  ·exact .inl
  ·rintro (h | ⟨c,h1,h2,_⟩)
   ·exact h
   ·have:=(zaJ T h2).2
    omega
 | i + 1,hi=>by
  unfold accL
  rw [yaE,zi2 T i (by omega)]
  constructor
  ·rintro ((h | ⟨c,h1,h2,h3⟩) | h)
   ·exact .inl h
   ·exact .inr ⟨c,by omega,h2,h3⟩
   ·by_cases z : par ps (ps.length - i) = some j
    ·rw [if_pos z] at h
     exact .inr ⟨_,by omega,z,h⟩
    ·rw [if_neg z] at h
     cases h
  ·rintro (h | ⟨c,h1,h2,h3⟩)
   ·exact .inl (.inl h)
   ·by_cases z : c = ps.length - i
    ·subst z
     rw [if_pos h2]
     exact .inr h3
    ·exact .inl (.inr ⟨c,by omega,h2,h3⟩)
theorem zij {ps : List Nat} (T : zax ps) {rows : List (List Int)} (R : zaP rows) {j : Nat} (hj : j < ps.length + 1) : ∀ i,i≤ps.length→(accL ps rows i j).Nodup
 | 0,_=>zhK R j
 | i + 1,hi=>by
  unfold accL
  have ih:=zij T R hj i (by omega)
  by_cases z : par ps (ps.length - i) = some j
  ·rw [if_pos z,ybh]
   have hc:=(zaJ T z).2
   refine ⟨ih,(zdZ T R hc).sublist (zaX _),fun a ha b hb hab=>?_⟩
   subst hab
   obtain ⟨u,_,g2,g3,_⟩:=zdH T R hc a ((zaX _).mem hb)
   rcases (zi2 T i (by omega)).mp ha with h | ⟨c,h1,h2,h3⟩
   ·have:=(zhJ hj h).2
    have : u = j:=by omega
    subst this
    rw [zcX T (zaJ T z).1] at g2
    cases g2
   ·obtain ⟨v,_,f2,f3,_⟩:=zdH T R (zaJ T h2).2 a ((zaX _).mem h3)
    have : u = v:=by omega
    subst this
    exact zdd T h2 z (by omega) u u (yaa _) f2 g2
  ·rw [if_neg z,yaD]
   exact ih
theorem zhs {ps : List Nat} (T : zax ps) {rows : List (List Int)} (R : zaP rows) {k : Nat} (hk : k < ps.length + 1) : zbS (accL ps rows (ps.length - k) k) = zah ps rows k:=by
 refine zir (zeQ (zij T R hk _ (by omega))) (zaR T R hk) fun e=>?_
 rw [zea,zi2 T _ (by omega),zeC T hk]
 constructor
 ·rintro (h | ⟨c,_,h2,h3⟩)
  ·exact .inl h
  ·exact .inr ⟨c,h2,h3⟩
 ·rintro (h | ⟨c,h2,h3⟩)
  ·exact .inl h
  ·exact .inr ⟨c,by have:=(zaJ T h2).1; omega,h2,h3⟩
theorem zof {ps : List Nat} {rows : List (List Int)} {j : Nat} (i : Nat) : ∀ d,(accL ps rows i j).length≤(accL ps rows (i + d) j).length
 | 0=>yaa _
 | d + 1=>by
  refine yao (zof i d) ?_
  show _≤(accL ps rows (i + d) j ++ _).length
  rw [yai]
  omega
theorem zgc {ps : List Nat} (T : zax ps) {rows : List (List Int)} (R : zaP rows) (hl : rows.length = ps.length + 1) {i j : Nat} (hj : j < ps.length + 1) (hi : i≤ps.length - j) : (accL ps rows i j).length≤zbW rows:=by
 obtain ⟨d,hd⟩ : ∃ d,ps.length - j = i + d:=⟨ps.length - j - i,by omega⟩
 have h:=zhs T R hj
 rw [hd] at h
 have h2:=congrArg List.length h
 rw [zci] at h2
 exact yao (zof i d) (by rw [h2]; exact zdY T hl hj)
def valL (ps : List Nat) (rows : List (List Int)) (i j : Nat) : List En:=if ps.length - i < j then zah ps rows j else accL ps rows i j
structure FA (K : Frag) (H : Hp) (p : Addr) (qs : List Addr) (n : Nat) (f : Nat→List En) : Prop where
 at_ : H p = some (.lst (qs.map V.ref))
 len : qs.length = n
 nd : qs.Nodup
 np : p∉qs
 get : ∀ (j : Nat) (q : Addr),qs[j]? = some q→∃ ws,H q = some (.lst ws)∧zal K H (f j) ws
section
variable {K : Frag} {H H' : Hp} {p : Addr} {qs : List Addr} {n : Nat} {f g : Nat→List En}
theorem FA.ext (h : FA K H p qs n f) (e : Ext H H') : FA K H' p qs n f:=
 ⟨e _ _ h.at_ (fun _ z=>nomatch z),h.len,h.nd,h.np,fun j q hq=>by
  obtain ⟨ws,h1,h2⟩:=h.get j q hq
  exact ⟨ws,e _ _ h1 (fun _ z=>nomatch z),h2.mono e⟩⟩
theorem FA.congr (h : FA K H p qs n f) (e : ∀ j,j < n→f j = g j) : FA K H p qs n g:=
 ⟨h.at_,h.len,h.nd,h.np,fun j q hq=>by
  rw [← e j (by have:=(yah.mp hq).1; have:=h.len; omega)]
  exact h.get j q hq⟩
theorem FA.set (h : FA K H p qs n f) {k : Nat} {q' : Addr} {l : List En} {ws : List V} (hq : H q' = some (.lst ws)) (hw : zal K H l ws) (hn : q'∉qs) (hp : q'≠p) : FA K (upd H p (.lst ((qs.map V.ref).set k (.ref q')))) p (qs.set k q') n (fun j=>if j = k then l else f j):=by
 refine ⟨?_,by rw [List.length_set]; exact h.len,?_,fun z=>?_,fun j q hj=>?_⟩
 ·rw [zac,yb1]
 ·show List.Pairwise _ _
  rw [yaL]
  intro i j hi hj hij
  rw [List.length_set] at hi hj
  rw [List.getElem_set,List.getElem_set]
  have old:=yaL.mp h.nd i j hi hj hij
  split
  ·rw [if_neg (by omega)]
   exact fun z=>hn (z ▸ yaB hj)
  ·split
   ·exact fun z=>hn (z ▸ yaB hi)
   ·exact old
 ·rcases ycB z with y | y
  ·exact h.np y
  ·exact hp y.symm
 ·rw [ybZ] at hj
  show ∃ ws,_∧zal K _ (if j = k then l else f j) ws
  by_cases c : k = j
  ·rw [if_pos c] at hj
   by_cases c2 : k < qs.length
   ·rw [if_pos c2] at hj
    have:=yaf hj
    subst this
    rw [if_pos c.symm]
    exact ⟨ws,by rw [zaf hp]; exact hq,zaO h.at_ hw⟩
   ·rw [if_neg c2] at hj
    cases hj
  ·rw [if_neg c] at hj
   rw [if_neg (fun z=>c z.symm)]
   obtain ⟨us,h1,h2⟩:=h.get j q hj
   have hqp : q≠p:=fun z=>h.np (by rw [← z]; exact yaI hj)
   exact ⟨us,by rw [zaf hqp]; exact h1,zaO h.at_ h2⟩
theorem FA.put (h : FA K H p qs n f) {k : Nat} {q : Addr} {ws : List V} {e : En} {x : V} (hk : qs[k]? = some q) (hq : H q = some (.lst ws)) (hx : Rep.has K H e x) : FA K (upd H q (.lst (ws ++ [x]))) p qs n (fun j=>if j = k then f j ++ [e] else f j):=by
 have hqp : p≠q:=fun z=>h.np (z ▸ yaI hk)
 refine ⟨by rw [zaf hqp]; exact h.at_,h.len,h.nd,h.np,fun j q2 hj=>?_⟩
 obtain ⟨us,h1,h2⟩:=h.get j q2 hj
 show ∃ ws,_∧zal K _ (if j = k then f j ++ [e] else f j) ws
 by_cases c : j = k
 ·subst c
  rw [hk] at hj
  have:=yaf hj
  subst this
  rw [hq] at h1
  cases h1
  rw [if_pos rfl]
  exact ⟨_,zac,(zaO hq h2).append (zaO hq (.one hx))⟩
 ·rw [if_neg c]
  have hne : q2≠q:=fun z=>by
   subst z
   obtain ⟨i1,e1⟩:=yah.mp hj
   obtain ⟨i2,e2⟩:=yah.mp hk
   have old:=yaL.mp h.nd
   rcases Nat.lt_or_gt_of_ne c with z | z
   ·exact old j k i1 i2 z (e1.trans e2.symm)
   ·exact old k j i2 i1 z (e2.trans e1.symm)
  exact ⟨us,by rw [zaf hne]; exact h1,zaO hq h2⟩
theorem FA.at (h : FA K H p qs n f) {k : Nat} (hk : k < n) : ∃ q ws,qs[k]? = some q∧H q = some (.lst ws)∧zal K H (f k) ws:=by
 have e : qs[k]? = some (qs[k]'(by have:=h.len; omega)):=yac _
 obtain ⟨ws,h1,h2⟩:=h.get k _ e
 exact ⟨_,ws,e,h1,h2⟩
end
def zjk (K : Frag) : Sp:=fun vs H Q _=>∃ (t r : Addr) (ps : List Nat) (rows : List (List Int)) (as : List Addr),vs = [.ref t,.ref r]∧H t = some (.tup (zcg ps))∧H r = some (.tup (as.map V.ref))∧zaQ H as rows∧rows.length = ps.length + 1∧zax ps∧zaP rows∧ps.length≤40∧zbW rows≤63∧
 ∀ (p : Addr) (qs : List Addr) (H' : Hp),H p = none→Same H H'→FA K H' p qs (ps.length + 1) (zah ps rows)→(∀ q∈qs,H q = none)→Q (.ref p) H'
theorem zlE (T : Txt K mg) (D_l_fulls : DF K mg "_law_fulls" zef zdv) (F_l_marks : FC P w K mg base 2 "_law_marks" zdu (zgP K)) : FC P w K mg base 3 "_law_fulls" zdv (zjk K):=by
 refine D_l_fulls.ok sc_l_fulls (fun vs H Q E h=>?_) (fun f cdv A outer s H vs Q E hr h=>?_)
 ·obtain ⟨t,r,ps,rows,as,rfl,_⟩:=h
  rfl
 obtain ⟨t,r,ps,rows,as,rfl,ht,hr0,hA,hlen,hT,hR,hfew,hkeys,q⟩:=h
 refine ⟨_,(zae (zm3 "_law_k" (i:=2) (N:=["_law_k","_law_rows_here"]) (own:=1) (cap:=[1]) sc_l_fulls.nd rfl rfl rfl (zba rfl T.m_range (zaa (zas zam rfl T.m_len boot_len (zaa (pv 0) zad)) zad)) ⟨rfl,rfl,rfl,rfl,rfl,rfl,rfl⟩ (fun _ _ _ _ _=>(zan (i:=0) (show List.Nodup (["_law_k","_law_rows_here"] : List Str) by decide +kernel) rfl (Or.inr rfl))) (fun _ _ _ _ _=>zbP) (fun _ _ _ _ _=>(zbQ (N:=["_law_key_here","_law_k"]) (own:=1) (cap:=[0]) rfl (zoF (K:=K) (zaC (ziI (K:=K)) (pv 1) (pv 0) (fun _ _=>rfl))) ⟨rfl,rfl,rfl,rfl,rfl,rfl⟩ (fun _ _ _ _ _=>(zan (i:=0) (show List.Nodup (["_law_key_here","_law_k"] : List Str) by decide +kernel) rfl (Or.inl rfl))) (fun _ _ _ _ _=>zbP) (fun _ _ _ _ _=>(zbz (zaa (pv 0) (zaa (pv 1) zad)))))))
   (zae (zaT PassesOwn.never rfl (zlq rfl T.m_range (zaa (zar zbu (zas zam rfl T.m_len boot_len (zaa (pv 0) zad)) zag) (zaa zag (zaa (zhH ze4 zag) zad)))) (zan (i:=3) sc_l_fulls.nd rfl (Or.inl rfl)) (zae (ze5 (zas (zcv (Int×Int)) rfl T.m_sorted boot_sorted (zaa (zaC zaw (pv 2) (pv 3) (fun _ _=>rfl)) zad)) (zgt (pv 2) (pv 3) zdl))
   (zae (zap (i:=4) sc_l_fulls.nd rfl (Or.inl rfl) (zaC zbc (pv 0) (pv 3) (fun _ _=>rfl)))
   (zai (zaT PassesOwn.never rfl (zlp rfl T.m_zip (zaa (zaC zaw (pv 2) (pv 3) (fun _ _=>rfl)) (zaa (zaI F_l_marks hr (zaa (zaC zaw (pv 2) (pv 3) (fun _ _=>rfl)) zad)) zad))) (ze6 rfl (za1 (zan (i:=5) sc_l_fulls.nd rfl (Or.inl rfl)) (za1 (zan (i:=6) sc_l_fulls.nd rfl (Or.inl rfl)) zc5))) (zai (zch (zhF (pv 6)) (zai (zbe (zc7 F.plainAttrs_list F.slot_list_append F.type_list_append zaL (zaC zaw (pv 2) (pv 4) (fun _ _=>rfl)) (zaa (pv 5) zad)))) za7)))))))
   (zae (ze5 (zas (zcv (Int×Int)) rfl T.m_sorted boot_sorted (zaa (zaC zaw (pv 2) zag (fun _ _=>rfl)) zad)) (zgt (pv 2) zag zdl))
   (zai (zaz (pv 2)))))),?_⟩
 have el : ((((zcg ps).length : Nat) : Int)).toNat = ps.length + 1:=by rw [zav,yaU]
 refine ⟨_,rfl,_,_,rfl,.inr (SqT.of ht),_,rfl,by omega,by rw [zav]; omega,fun D hD=>?_⟩
 rw [el]
 refine zb2 (n:=ps.length + 1) (fun i σ H2=>∃ (qs : List Addr) (x0 : Option V),σ = [x0,some (.ref r)]∧FA K H2 D qs i (ownE rows)∧(∀ q∈qs,H q = none)∧But D H H2) ?_ ?_ ?_
 ·exact ⟨[],_,rfl,⟨zac,rfl,ybn,(fun z=>nomatch z),fun j q e=>by simp at e⟩,(fun q z=>nomatch z),fun b o n e=>by rw [zaf n]; exact e⟩
 ·rintro i m σ H2 hm hi ⟨qs,x0,rfl,h2,hqs,k2⟩
  rw [yba]
  have s2 : Same H H2:=fun b o e=>k2 b o (zab e hD) e
  obtain ⟨b,hb1,hb2⟩:=(hA.ext s2).get (k:=i) (by rw [hlen]; exact hi)
  refine zcW ?_
  refine ⟨_,rfl,_,rfl,_,_,_,_,rfl,rfl,SqT.of (s2 _ _ hr0),zdQ hb1,b,rfl,⟨_,SqT.of hb2⟩,fun D3 hD3=>?_⟩
  refine zeG (xs:=(za9 rows i).map V.int) (fun m σ H5=>∃ (us : List V) (x0 : Option V),σ = [x0,some (.int i)]∧H5 D3 = some (.lst us)∧zal K H5 ((ownE rows i).take m) us∧But D3 H2 H5) ?_ ?_ ?_ ?_
  ·exact ⟨[],_,rfl,zac,.nil,fun b o n e=>by rw [zaf n]; exact e⟩
  ·rintro m σ H5 _ ⟨us,x0,rfl,_,_,k5⟩
   exact SqT.of (k5 _ _ (zab hb2 hD3) hb2)
  ·rintro j m' x σ H5 hx hm' ⟨us,x0,rfl,h5,hw5,k5⟩
   rw [yaj] at hx
   obtain ⟨y,hy,rfl⟩:=ya4.mp hx
   have hlow:=(yah.mp hy).1
   have htk3 : (ownE rows i).take (j + 1) = (ownE rows i).take j ++ [(y,(i : Int))]:=by
    unfold ownE
    rw [← ybI,← ybI,yaH hlow,yaq]
    rw [(yah.mp hy).2]
    rfl
   have hul:=hw5.length
   rw [yas] at hul
   rw [yab] at hm'
   have hrl : (za9 rows i).length≤zbW rows:=by
    refine znv ?_
    unfold za9
    rw [yad,yac (show i < rows.length by omega)]
    exact yaB _
   refine zcW ?_
   refine ⟨_,rfl,_,rfl,(by show 2≤sizeLine; decide),fun u hu=>?_⟩
   have su:=zak hu (.tup [.int y,.int (i : Int)])
   have h6:=su _ _ h5
   have hut : upd H5 u (.tup [.int y,.int (i : Int)]) u = some (.tup [.int y,.int (i : Int)]):=zac
   have k6:=k5.new' hu (.tup [.int y,.int (i : Int)])
   have hw6:=hw5.mono su.ext
   generalize upd H5 u (.tup [.int y,.int (i : Int)]) = H6 at su h6 hut k6 hw6 ⊢
   refine ⟨_,h6,zao (by omega),m' - 1,by omega,by rw [yab]; omega,us ++ [.ref u],_,rfl,zac,?_,fun b o n e=>by rw [zaf n]; exact k6 b o n e⟩
   rw [htk3]
   exact (zaO h6 hw6).append (zaO h6 (.cons ⟨u,.int y,.int (i : Int),rfl,hut,rfl,rfl⟩ .nil))
  rintro σ H5 ⟨us,x0,rfl,h5,hw5,k5⟩
  rw [yab,yar (by unfold ownE; rw [yab]; exact yaa _)] at hw5
  have s5 : Same H2 H5:=fun x o e=>k5 x o (zab e hD3) e
  have F5:=h2.ext s5.ext
  have hqn : D3∉qs:=fun z=>by
   obtain ⟨j,hj,e⟩:=yaX z
   obtain ⟨ws,w1,_⟩:=h2.get j D3 (by rw [yac hj,e])
   rw [hD3] at w1
   cases w1
  have hDD : D3≠D:=fun z=>by
   have:=h2.at_
   rw [← z,hD3] at this
   cases this
  have hql:=h2.len
  refine ⟨_,F5.at_,zao (by rw [yab]; omega),m - 1,by omega,by omega,qs ++ [D3],_,rfl,⟨?_,by rw [yai,yaV,hql],?_,?_,?_⟩,?_,?_⟩
  ·rw [zac,yaq]
   rfl
  ·rw [ybh]
   refine ⟨h2.nd,yaR.mpr ⟨(fun z=>nomatch z),ybn⟩,fun a ha b hb e=>?_⟩
   rw [yap.mp hb] at e
   exact hqn (e ▸ ha)
  ·intro z
   rcases yaE.mp z with y | y
   ·exact h2.np y
   ·exact hDD (yap.mp y).symm
  ·intro j q0 hj
   by_cases c : j < qs.length
   ·rw [ybB c] at hj
    obtain ⟨ws,w1,w2⟩:=F5.get j q0 hj
    have hne : q0≠D:=fun z=>h2.np (by rw [← z]; exact yaI hj)
    exact ⟨ws,by rw [zaf hne]; exact w1,zaO F5.at_ w2⟩
   ·rw [ybl (by omega)] at hj
    have hj0 : j - qs.length = 0:=by
     have:=(yah.mp hj).1
     rw [yaV] at this
     omega
    rw [hj0] at hj
    have:=yaf (show some D3 = some q0 from hj)
    subst this
    have : j = i:=by omega
    subst this
    exact ⟨us,by rw [zaf hDD]; exact h5,zaO F5.at_ hw5⟩
  ·intro q0 hq0
   rcases yaE.mp hq0 with y | y
   ·exact hqs q0 y
   ·rw [yap.mp y]
    exact s2.free hD3
  ·exact fun b o n e=>by
    rw [zaf n]
    exact s5 _ _ (k2 b o n e)
 rintro σ H2 ⟨qs,x0,rfl,F2,hqs2,k2⟩
 have s2 : Same H H2:=fun b o e=>k2 b o (zab e hD) e
 have hD0:=hD
 clear k2
 have F0 : FA K H2 D qs (ps.length + 1) (valL ps rows 0):=F2.congr fun j hj=>by
  unfold valL accL
  rw [if_neg (by omega)]
 clear F2
 have h2t:=s2 _ _ ht
 refine ⟨_,rfl,_,_,rfl,.inr (SqT.of h2t),_,_,rfl,rfl,?_⟩
 refine ⟨_,rfl,_,_,rfl,⟨by rw [zav]; omega,by rw [zav]; omega,by omega,by omega⟩,?_⟩
 have en : ((((zcg ps).length : Nat) : Int) - 1 - 0).toNat = ps.length:=by rw [zav]; omega
 rw [en]
 refine znG (n:=ps.length) (fun i σ H3=>∃ (qs : List Addr) (x3 x4 x5 x6 : Option V),σ = [some (.ref t),some (.ref r),some (.ref D),x3,x4,x5,x6]∧FA K H3 D qs (ps.length + 1) (valL ps rows i)∧(∀ q∈qs,H q = none)∧Same H H3) ?_ ?_ ?_
 ·exact ⟨qs,_,_,_,_,rfl,F0,hqs2,s2⟩
 ·rintro i σ H3 hi ⟨qs,x3,x4,x5,x6,rfl,F3,hqs,s3⟩
  have ek : (((zcg ps).length : Nat) : Int) - 1 - (i : Int) = ((ps.length - i : Nat) : Int):=by rw [zav]; omega
  rw [ek]
  have eI : i = ps.length - (ps.length - i):=by omega
  obtain ⟨k,hk⟩ : ∃ k,k = ps.length - i:=⟨_,rfl⟩
  rw [← hk] at eI ⊢
  have hkn : k < ps.length + 1:=by omega
  have hk1 : 1≤k:=by omega
  obtain ⟨q0,ws,hq0,hq1,hq2⟩:=F3.at hkn
  have ev : valL ps rows i k = accL ps rows i k:=by
   unfold valL
   rw [if_neg (by omega)]
  rw [ev] at hq2
  have hfl:=yao (zdY hT hlen hkn (rows:=rows)) hkeys
  refine ⟨_,rfl,_,rfl,_,_,_,_,rfl,rfl,SqL.of F3.at_,zdQ hq0,q0,ws,_,rfl,SqL.of hq1,hq2,(by first | exact yb0 (yao (zgc hT hR hlen hkn (by omega)) hkeys) | exact yb0 (yao (zgc hT hR hlen (j:=0) (by omega) (by omega)) hkeys)),fun l us hl hus=>?_⟩
  have hsort : zbS (accL ps rows i k) = zah ps rows k:=by
   rw [eI]
   exact zhs hT hR hkn
  rw [hsort] at hus
  have sl:=zak hl (.lst us)
  have F4:=F3.ext sl.ext
  have hl4 : upd H3 l (.lst us) l = some (.lst us):=zac
  have hus4:=hus.mono sl.ext
  have s4:=s3.trans sl
  have hlq : l∉qs:=fun z=>by
   obtain ⟨j,hj,e⟩:=yaX z
   obtain ⟨ws,w1,_⟩:=F3.get j l (by rw [yac hj,e])
   rw [hl] at w1
   cases w1
  have hlD : l≠D:=fun z=>by
   have:=F3.at_
   rw [← z,hl] at this
   cases this
  have hl0 : H l = none:=s3.free hl
  clear sl
  generalize upd H3 l (.lst us) = H4 at F4 hl4 hus4 s4 ⊢
  refine ⟨_,rfl,_,rfl,_,_,_,k,rfl,rfl,F4.at_,zeX (by rw [yab,F4.len]; exact hkn),?_⟩
  have F5:=F4.set (k:=k) hl4 hus4 hlq hlD
  have hl5 : upd H4 D (.lst ((qs.map V.ref).set k (.ref l))) l = some (.lst us):=by rw [zaf hlD]; exact hl4
  have hus5 : zal K (upd H4 D (.lst ((qs.map V.ref).set k (.ref l)))) (zah ps rows k) us:=zaO F4.at_ hus4
  have s5 : Same H (upd H4 D (.lst ((qs.map V.ref).set k (.ref l)))):=fun b o e=>by
   rw [zaf (zab e hD)]
   exact s4 _ _ e
  have hqs5 : ∀ q∈qs.set k l,H q = none:=fun q hq=>by
   rcases ycB hq with y | y
   ·exact hqs q y
   ·rw [y]
    exact hl0
  have hqk : (qs.set k l)[k]? = some l:=by
   rw [ybZ,if_pos rfl,if_pos (by rw [F4.len]; exact hkn)]
  generalize upd H4 D (.lst ((qs.map V.ref).set k (.ref l))) = H5 at F5 hl5 hus5 s5 ⊢
  generalize qs.set k l = qs' at F5 hqs5 hqk ⊢
  obtain ⟨u,hu⟩:=zfz (ps:=ps) (k:=k) (by omega) hkn
  have hlt:=(zaJ hT hu).1
  refine ⟨_,rfl,_,rfl,_,_,_,_,rfl,rfl,SqT.of (s5 _ _ ht),zhp hkn,?_⟩
  rw [zev hu]
  refine ⟨_,rfl,_,rfl,_,_,_,_,rfl,rfl,SqL.of F5.at_,zdQ hqk,?_⟩
  refine ⟨_,rfl,_,rfl,_,_,_,_,rfl,rfl,SqL.of F5.at_,zdQ hqk,?_⟩
  refine ⟨l,us,zah ps rows k,rfl,hl5,hus5,by omega,zeD hT hR (by omega) hkn,zaR hT hR hkn,fun pm H6 hpm s6 h6=>?_⟩
  refine ⟨l,pm,rfl,⟨_,SqL.of (s6 _ _ hl5)⟩,⟨_,SqL.of h6⟩,?_⟩
  have hul:=hus5.length
  have hml:=za8 (zah ps rows k)
  have F6:=F5.ext s6.ext
  have s06:=s5.trans s6
  have hl6:=s6 _ _ hl5
  have hus6:=hus5.mono s6.ext
  have hpmq : pm∉qs':=fun z=>by
   obtain ⟨j,hj,e⟩:=yaX z
   obtain ⟨ws,w1,_⟩:=F5.get j pm (by rw [yac hj,e])
   rw [hpm] at w1
   cases w1
  have F6' : FA K H6 D qs' (ps.length + 1) (fun j=>if j = u then accL ps rows i u ++ zbX ((zah ps rows k).take 0) ((za4 (zah ps rows k)).take 0) else if j = k then zah ps rows k else valL ps rows i j):=F6.congr fun j hj=>by
   show (if j = k then _ else _) = _
   by_cases c : j = u
   ·subst c
    rw [if_pos rfl,if_neg (by omega)]
    unfold valL
    rw [if_neg (by omega)]
    show _ = _ ++ []
    rw [yaD]
   ·rw [if_neg c]
  clear F5 F6
  refine zo6 (xs:=us) (ys:=(za4 (zah ps rows k)).map V.bl) (by rw [yab,hml]; exact hul.symm) (fun m σ H7=>∃ x5 x6 : Option V,σ = [some (.ref t),some (.ref r),some (.ref D),some (.int k),some (.int u),x5,x6]∧FA K H7 D qs' (ps.length + 1) (fun j=>if j = u then accL ps rows i u ++ zbX ((zah ps rows k).take m) ((za4 (zah ps rows k)).take m) else if j = k then zah ps rows k else valL ps rows i j)∧H7 l = some (.lst us)∧zal K H7 (zah ps rows k) us∧H7 pm = some (.lst ((za4 (zah ps rows k)).map V.bl))∧Same H H7) ?_ ?_ ?_ ?_
  ·exact ⟨_,_,rfl,F6',hl6,hus6,h6,s06⟩
  ·rintro m σ H7 _ ⟨x5,x6,rfl,F7,hl7,hus7,hm7,s7⟩
   exact ⟨SqL.of hl7,SqL.of hm7⟩
  ·rintro m x y σ H7 rr hx hy ⟨x5,x6,rfl,F7,hl7,hus7,hm7,s7⟩ hrr
   obtain ⟨e,he,hex⟩:=hus7.get hx
   rw [yaj] at hy
   obtain ⟨b,hb,rfl⟩:=ya4.mp hy
   have hme:=(yah.mp he).1
   have hmb:=(yah.mp hb).1
   have tke : (zah ps rows k).take (m + 1) = (zah ps rows k).take m ++ [e]:=by rw [yaH hme,(yah.mp he).2]
   have tkb : (za4 (zah ps rows k)).take (m + 1) = (za4 (zah ps rows k)).take m ++ [b]:=by rw [yaH hmb,(yah.mp hb).2]
   have hhs : zbX ((zah ps rows k).take (m + 1)) ((za4 (zah ps rows k)).take (m + 1)) = zbX ((zah ps rows k).take m) ((za4 (zah ps rows k)).take m) ++ (if b = true then [e] else []):=by
    rw [tke,tkb]
    exact zfW (by rw [yas,yas]; omega)
   rw [hhs]
   have sr:=zak hrr (.tup [x,.bl b])
   refine ⟨rr,_,rfl,SqT.of zac,rfl,_,_,rfl,_,_,rfl,rfl,?_⟩
   have F8:=F7.ext sr.ext
   have hl8:=sr _ _ hl7
   have hus8:=hus7.mono sr.ext
   have hm8:=sr _ _ hm7
   have s8:=s7.trans sr
   have hex8:=Rep.mono sr.ext hex
   clear sr F7 hl7 hus7 hm7 s7 hex
   generalize upd H7 rr (.tup [x,.bl b]) = H8 at F8 hl8 hus8 hm8 s8 hex8 ⊢
   refine ⟨_,rfl,b,rfl,?_⟩
   cases b with
   | false=>
    refine iteF ?_
    refine ⟨_,_,rfl,?_,hl8,hus8,hm8,s8⟩
    rw [if_neg yaz,yaD]
    exact F8
   | true=>
    refine iteT ?_
    obtain ⟨qu,wu,hqu,hqu1,hqu2⟩:=F8.at (k:=u) (by omega)
    have hqu2 : zal K H8 (accL ps rows i u ++ zbX ((zah ps rows k).take m) ((za4 (zah ps rows k)).take m)) wu:=by
     have z:=hqu2
     rw [if_pos rfl] at z
     exact z
    have hwl:=hqu2.length
    have hal:=yao (zgc hT hR hlen (i:=i) (j:=u) (by omega) (by omega)) hkeys
    have hhl:=zfX ((zah ps rows k).take m) ((za4 (zah ps rows k)).take m)
    rw [yas] at hhl
    rw [yai] at hwl
    have hlu : l≠qu:=fun z=>by
     subst z
     obtain ⟨i1,e1⟩:=yah.mp hqk
     obtain ⟨i2,e2⟩:=yah.mp hqu
     exact yaL.mp F8.nd u k i2 i1 hlt (e2.trans e1.symm)
    have hpu : pm≠qu:=fun z=>hpmq (by rw [z]; exact yaI hqu)
    have hu0:=hqs5 qu (yaI hqu)
    have F9:=F8.put hqu hqu1 hex8
    refine ⟨_,rfl,_,rfl,_,_,_,_,rfl,rfl,SqL.of F8.at_,zdQ hqu,.inl ⟨rfl,_,SqL.of hqu1⟩,_,rfl,_,_,_,rfl,rfl,hqu1,zao (by omega),?_⟩
    refine ⟨_,_,rfl,F9.congr fun j hj=>?_,by rw [zaf hlu]; exact hl8,zaO hqu1 hus8,by rw [zaf hpu]; exact hm8,fun b o e=>by rw [zaf (zab e hu0)]; exact s8 _ _ e⟩
    show (if j = u then (if j = u then _ else _) ++ [e] else (if j = u then _ else _)) = _
    by_cases c : j = u
    ·rw [if_pos c,if_pos c,if_pos c,if_pos rfl,ybH]
    ·rw [if_neg c,if_neg c,if_neg c]
  rintro σ H7 ⟨x5,x6,rfl,F7,hl7,hus7,hm7,s7⟩
  refine ⟨qs',_,_,_,_,rfl,F7.congr fun j hj=>?_,hqs5,s7⟩
  rw [← hul,yar (yaa _),yar (by rw [hml]; exact yaa _)]
  unfold valL
  have e1 : ps.length - (i + 1) = k - 1:=by omega
  have e2 : ps.length - i = k:=by omega
  have eacc : accL ps rows (i + 1) j = accL ps rows i j ++ (if par ps k = some j then zbC (zah ps rows k) else []):=by
   rw [accL,e2]
  rw [e1,e2,eacc,hu]
  by_cases c : j = u
  ·subst c
   rw [if_pos rfl,if_neg (by omega),if_pos rfl]
   rfl
  ·rw [if_neg c]
   by_cases c2 : j = k
   ·rw [if_pos c2,if_pos (by omega),c2]
   ·rw [if_neg c2]
    by_cases c3 : k < j
    ·rw [if_pos c3,if_pos (by omega)]
    ·rw [if_neg c3,if_neg (by omega),if_neg (fun z=>c (yaf z).symm),yaD]
 rintro σ H3 ⟨qs,x3,x4,x5,x6,rfl,F3,hqs,s3⟩
 obtain ⟨q0,ws,hq0,hq1,hq2⟩:=F3.at (k:=0) (by omega)
 have ev : valL ps rows ps.length 0 = accL ps rows ps.length 0:=by
  unfold valL
  rw [if_neg (by omega)]
 rw [ev] at hq2
 refine ⟨_,rfl,_,_,_,_,rfl,rfl,SqL.of F3.at_,zdQ hq0,q0,ws,_,rfl,SqL.of hq1,hq2,(by first | exact yb0 (yao (zgc hT hR hlen hkn (by omega)) hkeys) | exact yb0 (yao (zgc hT hR hlen (j:=0) (by omega) (by omega)) hkeys)),fun l us hl hus=>?_⟩
 have hsort : zbS (accL ps rows ps.length 0) = zah ps rows 0:=zhs hT hR (k:=0) (by omega)
 rw [hsort] at hus
 have sl:=zak hl (.lst us)
 have F4:=F3.ext sl.ext
 have hl4 : upd H3 l (.lst us) l = some (.lst us):=zac
 have hus4:=hus.mono sl.ext
 have s4:=s3.trans sl
 have hlq : l∉qs:=fun z=>by
  obtain ⟨j,hj,e⟩:=yaX z
  obtain ⟨ws,w1,_⟩:=F3.get j l (by rw [yac hj,e])
  rw [hl] at w1
  cases w1
 have hlD : l≠D:=fun z=>by
  have:=F3.at_
  rw [← z,hl] at this
  cases this
 have hl0 : H l = none:=s3.free hl
 clear sl
 generalize upd H3 l (.lst us) = H4 at F4 hl4 hus4 s4 ⊢
 refine ⟨_,rfl,_,_,_,0,rfl,rfl,F4.at_,zeX (k:=0) (by rw [yab,F4.len]; exact Nat.succ_pos _),?_⟩
 refine ⟨_,rfl,?_⟩
 refine q D (qs.set 0 l) _ hD0 (fun b o e=>by rw [zaf (zab e hD)]; exact s4 _ _ e) ((F4.set (k:=0) hl4 hus4 hlq hlD).congr fun j hj=>?_) fun q hq=>?_
 ·show (if j = 0 then _ else _) = _
  by_cases c : j = 0
  ·rw [if_pos c,c]
  ·rw [if_neg c]
   unfold valL
   rw [if_pos (by omega)]
 ·rcases ycB hq with y | y
  ·exact hqs q y
  ·rw [y]
   exact hl0
def zaq (es : List (Int×Int)) (key : Int) : Nat:=(es.filter fun e=>decide (e.1 < key)).length
theorem zmH {es : List (Int×Int)} {key : Int} {m : Nat} (hm : m≤es.length) (h1 : ∀ i,i < m→decide ((es.getD i (0,0)).1 < key) = true) (h2 : ∀ i,m≤i→i < es.length→decide ((es.getD i (0,0)).1 < key) = false) : zaq es key = m:=by
 unfold zaq
 conv=>lhs; rw [← ybp m es]
 rw [yaP,yai]
 have e1 : (es.take m).filter (fun e=>decide (e.1 < key)) = es.take m:=by
  rw [ycz]
  intro x hx
  obtain ⟨i,hi,rfl⟩:=yaX hx
  rw [yas] at hi
  have:=h1 i (by omega)
  rw [yad,yac (by omega)] at this
  rw [List.getElem_take]
  exact this
 have e2 : (es.drop m).filter (fun e=>decide (e.1 < key)) = []:=by
  rw [ybL]
  intro x hx
  obtain ⟨i,hi,rfl⟩:=yaX hx
  rw [ybb] at hi
  have:=h2 (m + i) (by omega) (by omega)
  rw [yad,yac (by omega)] at this
  rw [List.getElem_drop]
  intro z
  rw [show decide (es[m + i].1 < key) = false from this] at z
  cases z
 rw [e1,e2,yas,ybP]
 omega
theorem zel {es : List (Int×Int)} (h : Rise es) : es.Pairwise (fun a b=>a.1≤b.1):=h.imp fun {a b} h=>by
 have:=zcx.mp h
 omega
theorem zcf (es : List (Int×Int)) (key : Int) : zaq es key≤es.length:=ya9 _ _
theorem zcT {key : Int} : ∀ {es : List (Int×Int)},es.Pairwise (fun a b=>a.1≤b.1)→(∀ e∈es.take (zaq es key),e.1 < key)∧∀ e∈es.drop (zaq es key),¬ e.1 < key
 | [],_=>⟨fun e he=>(by simp at he),fun e he=>(by simp at he)⟩
 | a :: es,h=>by
  rw [List.pairwise_cons] at h
  obtain ⟨h1,h2⟩:=zcT (key:=key) h.2
  by_cases c : a.1 < key
  ·have e : zaq (a :: es) key = zaq es key + 1:=by
    unfold zaq
    rw [yaO (by simpa using c),yaW]
   rw [e,List.take_succ_cons,List.drop_succ_cons]
   refine ⟨fun x hx=>?_,h2⟩
   rcases yal.mp hx with z | z
   ·rw [z]
    exact c
   ·exact h1 x z
  ·have all : ∀ x∈a :: es,¬ x.1 < key:=fun x hx=>by
    rcases yal.mp hx with z | z
    ·rw [z]
     exact c
    ·have:=h.1 x z
     omega
   have e : zaq (a :: es) key = 0:=by
    unfold zaq
    rw [ybL.mpr fun x hx=>by simpa using all x hx]
    rfl
   rw [e]
   exact ⟨fun x hx=>(by simp at hx),fun x hx=>all x (by simpa using hx)⟩
theorem zff {es : List (Int×Int)} {key : Int} (h : es.Pairwise (fun a b=>a.1≤b.1)) : es.take (zaq es key) = es.filter fun e=>decide (e.1 < key):=by
 obtain ⟨h1,h2⟩:=zcT (key:=key) h
 conv=>rhs; rw [← ybp (zaq es key) es]
 rw [yaP,ycz.mpr fun e he=>yan (h1 e he),ybL.mpr fun e he z=>h2 e he (yaC z),yaD]
theorem zho {es : List (Int×Int)} {key : Int} (h : es.Pairwise (fun a b=>a.1≤b.1)) {i : Nat} (hi : i < es.length) : (i < zaq es key→es[i].1 < key)∧(zaq es key≤i→¬ es[i].1 < key):=by
 obtain ⟨h1,h2⟩:=zcT (key:=key) h
 refine ⟨fun z=>h1 _ ?_,fun z=>h2 _ ?_⟩
 ·exact ycw.mpr ⟨i,by omega,rfl⟩
 ·refine List.mem_drop_iff_getElem.mpr ⟨i - zaq es key,by omega,?_⟩
  congr 1
  omega
structure zqA (C F hd : List (Int×Int)) (key : Int) (st : Nat) : Prop where
 lo : st≤zaq C key
 hi : zaq C key≤st + 2
 none : st = 0→∀ e∈hd,¬ e.1 < key
 some : st≠0→∃ h : st - 1 < C.length,C[st - 1]∈hd∧C[st - 1].1 < key∧C[st - 1]∈F
theorem zlJ {ps : List Nat} (T : zax ps) {rows : List (List Int)} (R : zaP rows) (few : ps.length≤40) {k c : Nat} (hk : k < ps.length + 1) (hc : par ps c = some k) (key : Int) :
  zqA (zah ps rows c) (zah ps rows k) (zbC (zah ps rows c)) key (stN (zah ps rows c) ((zah ps rows k).take (zaq (zah ps rows k) key))):=by
 have hcn:=(zaJ T hc).2
 have hst:=zpw T R hk hc (rows:=rows) (zaq (zah ps rows k) key) (zcf _ _)
 have hF:=zel (zaR T R hk)
 have hC:=zel (zaR T R hcn)
 have hcome:=zmx T R hk hc (rows:=rows)
 have hgr:=fun t=>zox (zeD T R few hcn) (zaR T R hcn) (t:=t)
 have hla:=zow (zeD T R few hcn) (zaR T R hcn)
 have hsub:=zaX (zah ps rows c)
 have hpick:=zgB (zah ps rows c)
 have hspl : ∀ j∈spL (zah ps rows c),j < (zah ps rows c).length:=fun j hj=>by
  have:=(zjj (zah ps rows c)).lt hj
  rw [za8] at this
  exact this
 have ht : inN (zah ps rows c) ((zah ps rows k).take (zaq (zah ps rows k) key)) = zaq (zbC (zah ps rows c)) key:=by
  unfold inN
  rw [zff hF,← hcome]
  unfold zaq
  rw [ycn,ycn]
  congr 2
  funext e
  rw [Bool.and_comm]
 rw [hst,ht]
 have hmem : ∀ e∈zbC (zah ps rows c),e∈zah ps rows k:=fun e he=>by
  rw [← hcome] at he
  exact (ya0.mp he).1
 clear hst ht hcome hF
 generalize zah ps rows k = F at hmem ⊢
 generalize zah ps rows c = C at *
 have hhd : (zbC C).Pairwise (fun a b=>a.1≤b.1):=hC.sublist hsub
 have hlen : (zbC C).length = (spL C).length:=by rw [hpick,yab]
 have hti:=zcf (zbC C) key
 have hat : ∀ i (h : i < (spL C).length),∃ (h1 : (spL C)[i] < C.length) (h2 : i < (zbC C).length),(zbC C)[i] = C[(spL C)[i]]:=fun i h=>by
  have h1:=hspl _ (yaB h)
  refine ⟨h1,by omega,?_⟩
  have e : (zbC C)[i]? = some C[(spL C)[i]]:=by
   rw [hpick,yaj,yac h]
   show some (C.getD (spL C)[i] (0,0)) = _
   rw [yad,yac h1]
   rfl
  exact (yah.mp e).2
 have bat:=fun i h=>zho (key:=key) hhd (i:=i) h
 have cat:=fun i h=>zho (key:=key) hC (i:=i) h
 have hall:=zcT (key:=key) hhd
 generalize zaq (zbC C) key = t at *
 have hsp : ∀ i (h : i < (spL C).length),stAt (spL C) (i + 1) = (spL C)[i] + 1:=fun i h=>by
  unfold stAt
  rw [if_neg (by omega),ycf,yad,yac h]
  rfl
 have before : ∀ t',t = t' + 1→∃ (h : t' < (spL C).length) (h1 : (spL C)[t'] < C.length),stAt (spL C) t = (spL C)[t'] + 1∧C[(spL C)[t']]∈zbC C∧C[(spL C)[t']].1 < key:=fun t' e=>by
  have h : t' < (spL C).length:=by omega
  obtain ⟨h1,h2,h3⟩:=hat t' h
  refine ⟨h,h1,by rw [e]; exact hsp t' h,?_,?_⟩
  ·rw [← h3]
   exact yaB h2
  ·rw [← h3]
   exact (bat t' h2).1 (by omega)
 refine ⟨?_,?_,?_,?_⟩
 ·cases t with
  | zero=>exact yaA _
  | succ t'=>
   obtain ⟨h,h1,e,_,hlt⟩:=before t' rfl
   rw [e]
   refine Nat.succ_le_of_lt (yci fun z=>(cat _ h1).2 z hlt)
 ·rcases Nat.lt_or_ge t (spL C).length with z | z
  ·obtain ⟨h1,h2,h3⟩:=hat t z
   have hge : ¬ C[(spL C)[t]].1 < key:=by
    rw [← h3]
    exact (bat t h2).2 (yaa _)
   have hle : zaq C key≤(spL C)[t]:=ybg fun y=>hge ((cat _ h1).1 y)
   have:=hgr t z
   rw [hsp t z] at this
   omega
  ·have e : t = (spL C).length:=by omega
   rw [e]
   have:=zcf C key
   omega
 ·intro z
  cases t with
  | zero=>exact fun e he=>hall.2 e (by simpa using he)
  | succ t'=>
   obtain ⟨_,_,e,_⟩:=before t' rfl
   omega
 ·intro z
  cases t with
  | zero=>exact absurd rfl z
  | succ t'=>
   obtain ⟨h,h1,e,hm,hlt⟩:=before t' rfl
   have e2 : stAt (spL C) (t' + 1) - 1 = (spL C)[t']:=by omega
   refine ⟨by omega,?_⟩
   have e3 : C[stAt (spL C) (t' + 1) - 1]'(by omega) = C[(spL C)[t']]:=by
    congr 1
   rw [e3]
   exact ⟨hm,hlt,hmem _ hm⟩
theorem zbb {β : Type} {F : Nat→β→Prop} {n : Nat} {l : List β} {k : Nat} (h : Paired F (List.range n) l) (hk : k < n) : ∃ b,l[k]? = some b∧F k b:=zeT h (ybi hk)
theorem zjN {Av : List Addr} {H : Hp} {es : List En} {ps : List Nat} {rows : List (List Int)} : ∀ {cs : List Nat} {xs : List V},Paired (zbm Av H es ps rows) cs xs→∃ kvs : List (Key×V),Paired (fun (z : V) (kv : Key×V)=>∃ b,z = .ref b∧H b = some (.tup [kV kv.1,kv.2])) xs kvs∧kvs.map (·.1) = cs.map (fun c : Nat=>(Sum.inl (c : Int) : Key))∧
  ∀ c∈cs,cs.Nodup→∃ s,valV kvs (.inl (c : Int)) = some (.ref s)∧H s = some (.lst ((zeO es (zah ps rows c)).map nV))
 | _,_,.nil=>⟨[],.nil,rfl,fun c hc=>nomatch hc⟩
 | c0 :: cs,_,.cons ⟨j,s,e1,_,e3,e4⟩ t=>by
  obtain ⟨kvs,h1,h2,h3⟩:=zjN t
  refine ⟨(.inl (c0 : Int),.ref s) :: kvs,.cons ⟨j,e1,e3⟩ h1,by rw [yax,h2]; rfl,fun c hc hn=>?_⟩
  rw [yaR] at hn
  unfold valV
  by_cases z : c = c0
  ·subst z
   exact ⟨s,by rw [List.find?_cons_of_pos (by simp)]; rfl,e4⟩
  ·rw [List.find?_cons_of_neg (by simp; omega)]
   rcases yal.mp hc with y | y
   ·exact absurd y z
   ·exact h3 c y hn.2
theorem zd2 (ps : List Nat) (k n : Nat) : (zaF ps k n).Nodup:=by
 unfold zaF
 exact List.Pairwise.filter _ ycm
def figN (n : Nat) : Nat:=if h : n = 0 then 0 else figN (n / 2) + 1
termination_by n
decreasing_by exact Nat.div_lt_self (ycd h) (by decide)
theorem zeE : figN 0 = 0:=by
 unfold figN
 rfl
theorem zeF {n : Nat} (h : n≠0) : figN n = figN (n / 2) + 1:=by
 rw [figN,dif_neg h]
theorem zh5 : ∀ (n a b : Nat),b≤n→a≤b→figN a≤figN b
 | 0,a,b,hb,ha=>by
  have e1 : a = 0:=by omega
  have e2 : b = 0:=by omega
  rw [e1,e2]
  exact yaa _
 | n + 1,a,b,hb,ha=>by
  by_cases z : a = 0
  ·rw [z,zeE]
   exact yaA _
  ·rw [zeF z,zeF (show b≠0 by omega)]
   exact Nat.succ_le_succ (zh5 n _ _ (by omega) (by omega))
theorem zhj : ∀ (n m : Nat),m≤n→figN m≤m
 | 0,m,h=>by
  rw [show m = 0 by omega,zeE]
  exact yaa _
 | n + 1,m,h=>by
  by_cases z : m = 0
  ·rw [z,zeE]
   exact yaa _
  ·rw [zeF z]
   have:=zhj n (m / 2) (by omega)
   omega
def znZ (P : Program) (w : World) (K : Frag) (mg : Str→Option Value) (base : Heap) : Sp:=fun vs H Q _=>∃ (n : Nat) (f : Addr) (ps : List Str) (sp : Sp) (b : Nat→Bool) (R : List Nat→Hp→Prop),vs = [.int n,.ref f]∧FV P w K mg base 3 f ps sp∧R [] H∧
 (∀ (i : Nat) (L : List Nat) (H1 : Hp) (Q1 : VK),i < n→L.length≤figN n→R L H1→(∀ H2,R (L ++ [i]) H2→Q1 (.bl (b i)) H2)→sp [.int i] H1 Q1 E0)∧(∀ i j,i≤j→j < n→b j = true→b i = true)∧
 ∀ (m : Nat) (L : List Nat) (H' : Hp),m≤n→(∀ i,i < m→b i = true)→(∀ i,m≤i→i < n→b i = false)→L.length≤figN n→R L H'→Q (.int m) H'
def zpo : L2.St→Hp→Nat:=fun σ _=>match σ with
 | [_,_,some (.int lo),some (.int hi),_]=>(hi - lo).toNat
 | _=>0
theorem zp4 (T : Txt K mg) (D_how_many_below : DF K mg "how_many_below" zbo zbj) : FC P w K mg base 4 "how_many_below" zbj (znZ P w K mg base):=by
 refine D_how_many_below.ok sc_how_many_below (fun vs H Q E h=>?_) (fun f cdv A outer s H vs Q E hr h=>?_)
 ·obtain ⟨n,f,ps,sp,b,R,rfl,_⟩:=h
  rfl
 obtain ⟨n,f,ps,sp,b,R,rfl,hF,hR,hask,hmono,q⟩:=h
 refine ⟨_,(zae (zap (i:=2) sc_how_many_below.nd rfl (Or.inl rfl) zag)
   (zae (zap (i:=3) sc_how_many_below.nd rfl (Or.inl rfl) (pv 0))
   (zae (zem PassesOwn.never (zaB zfM (pv 2) (pv 3) (zaN _)) (zae (zap (i:=4) sc_how_many_below.nd rfl (Or.inl rfl) (zar zeU (zar zaS (pv 2) (pv 3)) zag))
   (zai (zch (zhF (zg3 (kr:=3) hr (pv 1) (zaa (pv 4) zad))) (zai (zap (i:=2) sc_how_many_below.nd rfl (Or.inl rfl) (zar zaS (pv 4) zag))) (zai (zap (i:=3) sc_how_many_below.nd rfl (Or.inl rfl) (pv 4)))))))
   (zai (zaz (pv 2)))))),?_⟩
 refine ⟨_,rfl,?_⟩
 refine zfE (fun σ H2=>∃ (lo hi : Nat) (x4 : Option V) (L : List Nat),σ = [some (.int n),some (.ref f),some (.int lo),some (.int hi),x4]∧lo≤hi∧hi≤n∧(∀ i,i < lo→b i = true)∧(∀ i,hi≤i→i < n→b i = false)∧L.length + figN (hi - lo)≤figN n∧R L H2) (fun σ H2=>∃ (lo : Nat) (x4 : Option V) (L : List Nat),σ = [some (.int n),some (.ref f),some (.int lo),some (.int lo),x4]∧lo≤n∧(∀ i,i < lo→b i = true)∧(∀ i,lo≤i→i < n→b i = false)∧L.length≤figN n∧R L H2) zpo ?_ ?_ ?_ ?_
 ·exact ⟨0,n,_,[],rfl,yaA _,yaa _,fun i h=>absurd h (yce _),fun i h1 h2=>absurd h2 (ybd.mpr h1),by rw [ybP,Nat.sub_zero,ybM]; exact yaa _,hR⟩
 ·rintro σ H2 ⟨lo,hi,x4,L,rfl,h1,h2,hb1,hb2,hL,hR2⟩
  refine ⟨_,rfl,_,rfl,_,_,rfl,rfl,_,rfl,?_⟩
  refine ite2 (fun c=>?_) (fun c=>?_)
  ·have c1 : (lo : Int) < (hi : Int):=yaC c
   have em : ((lo : Int) + (hi : Int)) / 2 = (((lo + hi) / 2 : Nat) : Int):=by omega
   have m1 : lo≤(lo + hi) / 2:=by omega
   have m2 : (lo + hi) / 2 < hi:=by omega
   have fst : figN (hi - lo) = figN ((hi - lo) / 2) + 1:=zeF (by omega)
   have fle : ∀ d,d≤(hi - lo) / 2→(L ++ [(lo + hi) / 2]).length + figN d≤figN n:=fun d hd=>by
    have:=zh5 _ d _ (yaa _) hd
    rw [yai,yaV]
    omega
   refine ⟨_,rfl,_,rfl,_,_,rfl,rfl,_,_,rfl,rfl,⟨by decide,by decide⟩,?_⟩
   refine ⟨_,rfl,f,3,ps,sp,rfl,hF,yaa _,_,rfl,?_⟩
   show sp [V.int (((lo : Int) + (hi : Int)) / 2)] H2 _ E0
   rw [em]
   refine hask ((lo + hi) / 2) L H2 _ (by omega) (by omega) hR2 fun H3 hR3=>⟨_,rfl,?_⟩
   cases hbm : b ((lo + hi) / 2) with
   | true=>
    refine iteT ?_
    refine ⟨_,rfl,_,_,rfl,rfl,⟨(lo + hi) / 2 + 1,hi,some (V.int (((lo : Int) + (hi : Int)) / 2)),_,?_,by omega,h2,fun i hi'=>hmono i ((lo + hi) / 2) (by omega) (by omega) hbm,hb2,fle _ (by omega),hR3⟩,?_⟩
    ·show [some (V.int n),some (V.ref f),some (V.int (((lo : Int) + (hi : Int)) / 2 + 1)),some (V.int hi),some (V.int (((lo : Int) + (hi : Int)) / 2))] = _
     rw [em,Int.natCast_add]
     rfl
    ·show ((hi : Int) - (((lo : Int) + (hi : Int)) / 2 + 1)).toNat < ((hi : Int) - (lo : Int)).toNat
     omega
   | false=>
    refine iteF ?_
    refine ⟨_,rfl,⟨lo,(lo + hi) / 2,some (V.int (((lo : Int) + (hi : Int)) / 2)),_,?_,m1,by omega,hb1,fun i hi' hin=>?_,fle _ (by omega),hR3⟩,?_⟩
    ·show [some (V.int n),some (V.ref f),some (V.int lo),some (V.int (((lo : Int) + (hi : Int)) / 2)),some (V.int (((lo : Int) + (hi : Int)) / 2))] = _
     rw [em]
    ·cases hbi : b i with
     | false=>rfl
     | true=>
      have:=hmono ((lo + hi) / 2) i hi' hin hbi
      rw [hbm] at this
      cases this
    ·show ((((lo : Int) + (hi : Int)) / 2) - (lo : Int)).toNat < ((hi : Int) - (lo : Int)).toNat
     omega
  ·have c1 : ¬ (lo : Int) < (hi : Int):=ybA (ybz.mpr c)
   have e : hi = lo:=by omega
   subst e
   exact ⟨hi,_,L,rfl,h2,hb1,hb2,by omega,hR2⟩
 ·intro σ H Q Q' m h
  obtain ⟨y1,e3,y2,e4,i2,j2,f2,g2,b2,e5,q⟩:=h
  exact ⟨y1,e3,y2,e4,i2,j2,f2,g2,b2,e5,m _ _ q⟩
 rintro σ H2 ⟨lo,x4,L,rfl,h2,hb1,hb2,hL,hR2⟩
 refine ⟨_,rfl,?_⟩
 exact q lo L H2 h2 hb1 hb2 hL hR2
abbrev zlW : Str:=(envOfC ("first_place" : Str) (zaj zbh) 0 0 .none).qual ++ "<lambda>"
abbrev zfR : Pos:=⟨111,44,111,73⟩
structure zmL (H : Hp) (wa : Addr) (ps w : List Nat) : Prop where
 at_ : H wa = some (.lst (w.map nV))
 len : w.length≤900
 ne : w≠[]
 ch : zpm ps w
 kn : ∀ x∈w,x < ps.length + 1
theorem zmv (xs : List V) (a : Nat) : cutV xs (some (a : Int)) none = xs.drop a:=by
 unfold cutV
 rw [zgV,show HT.sIx xs.length xs.length none = xs.length from rfl]
 by_cases h : a≤xs.length
 ·rw [ybo h,yar (by rw [ybb]; exact yaa _)]
 ·rw [ybU (by omega),ya2 (yaa _),ya2 (show xs.length≤a by omega),List.take_nil]
def ownB (rows : List (List Int)) (k : Nat) (key : Int) : Nat:=((za9 rows k).filter fun x=>decide (x < key)).length
theorem zkg {ps : List Nat} (T : zax ps) {rows : List (List Int)} (R : zaP rows) {k : Nat} (hk : k < ps.length + 1) : ((zah ps rows k).filter fun e=>decide (e.2 = (k : Int))) = ownE rows k:=by
 have hup:=R.at_up k
 refine zir ((zaR T R hk).filter _) ?_ fun e=>?_
 ·unfold ownE
  refine List.Pairwise.map _ (R:=fun a b : Int=>a < b) (fun a b (h : a < b)=>zcx.mpr (.inl h)) hup
 ·rw [ya0]
  refine ⟨fun ⟨h1,h2⟩=>?_,fun h=>⟨(zeC T hk).mpr (.inl h),yan (zhJ hk h).2⟩⟩
  rcases (zeC T hk).mp h1 with h | ⟨c,hc,h⟩
  ·exact h
  ·exfalso
   have h2:=yaC h2
   have hcn:=(zaJ T hc)
   obtain ⟨j,hj,hb,e2,_⟩:=zdH T R hcn.2 e ((zaX _).subset h)
   have ej : j = k:=by omega
   subst ej
   have:=zcX T hcn.1
   rw [hb] at this
   cases this
theorem zpS {ps : List Nat} (T : zax ps) {rows : List (List Int)} (R : zaP rows) {k : Nat} (hk : k < ps.length + 1) (key : Int) : zdW k ((zah ps rows k).take (zaq (zah ps rows k) key)) = ownB rows k key:=by
 rw [zff (zel (zaR T R hk))]
 unfold zdW
 have e : ((zah ps rows k).filter fun e=>decide (e.1 < key)).filter (fun e=>decide (e.2 = (k : Int))) = (ownE rows k).filter fun e=>decide (e.1 < key):=by
  rw [← zkg T R hk,ycn,ycn]
  congr 1
  funext e
  rw [Bool.and_comm]
 rw [e]
 unfold ownE ownB
 rw [List.filter_map,yab]
 rfl
def KpV (Av : List Addr) (H H' : Hp) : Prop:=∀ b o,b∉Av→H b = some o→H' b = some o
def KpA (Av : List Addr) (mp : Addr) (H H' : Hp) : Prop:=∀ b o,b∉Av→b≠mp→H b = some o→H' b = some o
theorem KpA.trans {Av : List Addr} {mp : Addr} {H H1 H2 : Hp} (a : KpA Av mp H H1) (b : KpA Av mp H1 H2) : KpA Av mp H H2:=fun c o n1 n2 h=>b c o n1 n2 (a c o n1 n2 h)
theorem KpV.a {Av : List Addr} {mp : Addr} {H H1 : Hp} (a : KpV Av H H1) : KpA Av mp H H1:=fun c o n1 _ h=>a c o n1 h
theorem KpA.of {Av : List Addr} {mp : Addr} {H H1 : Hp} (a : Same H H1) : KpA Av mp H H1:=fun c o _ _ h=>a c o h
theorem KpA.gro {Av : List Addr} {mp : Addr} {H H1 : Hp} (a : Gro mp H H1) : KpA Av mp H H1:=fun c o _ n h=>a c o n h
structure AskF (P : Program) (w : World) (K : Frag) (mg : Str→Option Value) (base : Heap) (f : Addr) (Av : List Addr) (mp : Addr) (fp : Addr→Prop) (R : List (Nat×Nat)→Hp→Prop) (ps : List Nat) (rows : List (List Int)) (key : Int) : Prop where
 keep : ∀ L H H',R L H→(∀ b o,fp b→H b = some o→H' b = some o)→R L H'
 alloc : ∀ L H b,R L H→fp b→H b≠none
 avl : ∀ L H,R L H→∀ a∈Av,∃ zs,H a = some (.lst zs)
 nmp : ¬ fp mp
 ask : ∃ (pn : List Str) (sp : Sp),FV P w K mg base 2 f pn sp∧∀ (kn i : Nat) (L : List (Nat×Nat)) (H : Hp) (Q : VK),kn < ps.length + 1→i < (zah ps rows kn).length→L.length≤9000→R L H→
  (∀ H',R (L ++ [(kn,i)]) H'→KpV Av H H'→Q (.bl (decide (((zah ps rows kn).getD i (0,0)).1 < key))) H')→sp [.int kn,.int i] H Q E0
theorem AskF.lift {P : Program} {w : World} {K : Frag} {mg : Str→Option Value} {b1 b2 : Heap} {f : Addr} {Av : List Addr} {mp : Addr} {fp : Addr→Prop} {R : List (Nat×Nat)→Hp→Prop} {ps : List Nat} {rows : List (List Int)} {key : Int} (A : AskF P w K mg b1 f Av mp fp R ps rows key) (S : Sub K mg b1 b2) : AskF P w K mg b2 f Av mp fp R ps rows key:=by
 obtain ⟨a,b,c,d,pn,sp,hF,r⟩:=A
 exact ⟨a,b,c,d,pn,sp,hF.lift S,r⟩
structure za2 (Av : List Addr) (mp : Addr) (R : List (Nat×Nat)→Hp→Prop) (ps : List Nat) (rows : List (List Int)) (br : Addr) (xs : List V) (L : List (Nat×Nat)) (H : Hp) : Prop where
 r : R L H
 avs : ∀ a∈Av,∃ zs,H a = some (.lst zs)
 at_ : H br = some (.lst xs)
 nb : br∉Av
 ba : Paired (BrAt Av H ps rows) (List.range (ps.length + 1)) xs
 tb : zaK H mp zfR zlW
section
variable {Av : List Addr} {mp : Addr} {R : List (Nat×Nat)→Hp→Prop} {ps : List Nat} {rows : List (List Int)} {br : Addr} {xs : List V} {L L' : List (Nat×Nat)} {H H' : Hp}
theorem za2.nm (S : za2 Av mp R ps rows br xs L H) {b : Addr} {o : HO} (h : H b = some o) (n : ∀ tab,o≠.tbl tab) : b≠mp:=fun z=>by
 obtain ⟨tab,e,_⟩:=S.tb.ex
 rw [← z,h] at e
 exact n _ (yaf e)
theorem za2.na (S : za2 Av mp R ps rows br xs L H) {b : Addr} {o : HO} (h : H b = some o) (n : ∀ zs,o≠.lst zs) : b∉Av:=fun z=>by
 obtain ⟨zs,e⟩:=S.avs b z
 rw [h] at e
 exact n _ (yaf e)
theorem za2.tup (S : za2 Av mp R ps rows br xs L H) (k : KpA Av mp H H') {b : Addr} {us : List V} (h : H b = some (.tup us)) : H' b = some (.tup us):=k _ _ (S.na h (fun _ z=>nomatch z)) (S.nm h (fun _ z=>nomatch z)) h
theorem za2.lst (S : za2 Av mp R ps rows br xs L H) (k : KpA Av mp H H') {b : Addr} {us : List V} (h : H b = some (.lst us)) (n : b∉Av) : H' b = some (.lst us):=k _ _ n (S.nm h (fun _ z=>nomatch z)) h
theorem za2.kp (S : za2 Av mp R ps rows br xs L H) (k : KpA Av mp H H') (hT : zaK H' mp zfR zlW) (hR : R L' H') (ha : ∀ a∈Av,∃ zs,H' a = some (.lst zs)) : za2 Av mp R ps rows br xs L' H':=
 ⟨hR,ha,S.lst k S.at_ S.nb,S.nb,zay (fun j x ⟨b,o,j',ys,h1,h2,h3,h4,h5,h6,h7⟩=>⟨b,o,j',ys,h1,h2,h3,S.tup k h4,S.lst k h5 h2,S.lst k h6 h3,zay (fun c y ⟨a,s,g1,g2,g3,g4⟩=>⟨a,s,g1,g2,S.tup k g3,S.lst k g4 g2⟩) h7⟩) S.ba,hT⟩
theorem za2.tbv (S : za2 Av mp R ps rows br xs L H) (k : KpV Av H H') : zaK H' mp zfR zlW:=by
 obtain ⟨tab,h1,h2,h3⟩:=S.tb.ex
 refine ⟨tab,k _ _ (S.na h1 (fun _ z=>nomatch z)) h1,h2,?_⟩
 rcases h3 with h3 | ⟨c,h3,h4⟩
 ·exact .inl h3
 ·exact .inr ⟨c,h3,k _ _ (S.na h4 (fun _ z=>nomatch z)) h4⟩
end
theorem zc8 {K : Frag} {H H' : Hp} (k : ∀ b us,H b = some (.tup us)→H' b = some (.tup us)) : ∀ {es : List (Int×Int)} {ws : List V},zal K H es ws→zal K H' es ws
 | _,_,.nil=>.nil
 | _,_,.cons h t=>by
  refine .cons ?_ (zc8 k t)
  obtain ⟨a,x1,x2,rfl,hT,e1,e2⟩:=(show hasP K H _ _ from h)
  exact ⟨a,x1,x2,rfl,k _ _ hT,e1,e2⟩
theorem zoq {H : Hp} {Pt D : Addr} {pos : Pos} {q : Str} {xs : List V} {o : HO} (x : zaK H Pt pos q) (hD : H D = some (.lst xs)) : zaK (upd H D o) Pt pos q:=by
 obtain ⟨tab,h1,h2,h3⟩:=x.ex
 have n1 : Pt≠D:=fun z=>by
  rw [z,hD] at h1
  cases h1
 refine ⟨tab,by rw [zaf n1]; exact h1,h2,?_⟩
 rcases h3 with h3 | ⟨c,h3,h4⟩
 ·exact .inl h3
 ·refine .inr ⟨c,h3,?_⟩
  have n2 : c≠D:=fun z=>by
   rw [z] at h4
   rw [show H D = _ from h4] at hD
   cases hD
  show upd H D o c = _
  rw [zaf n2]
  exact h4
theorem za2.free {Av : List Addr} {mp : Addr} {R : List (Nat×Nat)→Hp→Prop} {ps : List Nat} {rows : List (List Int)} {br : Addr} {xs : List V} {L : List (Nat×Nat)} {H H1 : Hp} (S : za2 Av mp R ps rows br xs L H1) (k : KpA Av mp H H1) {D : Addr} (h : H1 D = none) : H D = none∧D∉Av∧D≠mp:=by
 have n1 : D∉Av:=fun z=>by
  obtain ⟨zs,e⟩:=S.avs D z
  rw [h] at e
  cases e
 have n2 : D≠mp:=fun z=>by
  obtain ⟨tab,e,_⟩:=S.tb.ex
  rw [← z,h] at e
  cases e
 refine ⟨?_,n1,n2⟩
 cases e : H D with
 | none=>rfl
 | some o=>
  have:=k _ _ n1 n2 e
  rw [h] at this
  cases this
theorem zg5 {ps : List Nat} (T : zax ps) {rows : List (List Int)} (R : zaP rows) {k : Nat} (hk : k < ps.length + 1) (key : Int) : atI ((zm9 k (zah ps rows k)).map nV) ((zaq (zah ps rows k) key : Nat) : Int) = some (.int ((ownB rows k key : Nat) : Int)):=by
 have hle:=zcf (zah ps rows k) key
 refine zaV ?_
 rw [yaj]
 unfold zm9
 rw [yaj,ybi (by omega),← zpS T R hk key]
 rfl
theorem zi7 {wy : List Nat} {i : Nat} (h : i < wy.length) : (wy.map nV)[i]? = some (nV (wy.getD i 0)):=by
 rw [yaj,yad,yac h]
 rfl
theorem zi6 {wy : List Nat} {i : Nat} (h : i < wy.length) : wy.getD i 0∈wy:=by
 rw [yad,yac h]
 exact yaB h
theorem zim {α : Type} (f : Nat→α) {wy : List Nat} {i : Nat} (h : i < wy.length) : (wy.take (i + 1)).map f = (wy.take i).map f ++ [f (wy.getD i 0)]:=by
 rw [yaH h,yaq,yad,yac h]
 rfl
theorem zpd (l : List Nat) : cutV (l.map nV) (some 1) none = (l.drop 1).map nV:=by
 rw [show (1 : Int) = ((1 : Nat) : Int) from rfl,zmv,← List.map_drop]
def ziq (P : Program) (w : World) (K : Frag) (mg : Str→Option Value) (base : Heap) (mp : Addr) : Sp:=fun vs H Q _=>∃ (br f : Addr) (xs : List V) (ps : List Nat) (rows : List (List Int)) (k : Nat) (key : Int) (Av : List Addr) (fp : Addr→Prop) (R : List (Nat×Nat)→Hp→Prop) (L : List (Nat×Nat)),vs = [.ref br,.int k,.ref f]∧
 AskF P w K mg base f Av mp fp R ps rows key∧za2 Av mp R ps rows br xs L H∧zax ps∧zaP rows∧k < ps.length + 1∧L.length≤3000∧(zah ps rows k).length≤1000∧
 ∀ (H' : Hp) (L' : List (Nat×Nat)),za2 Av mp R ps rows br xs (L ++ L') H'→KpA Av mp H H'→L'.length≤figN (zah ps rows k).length→Q (.int (zaq (zah ps rows k) key : Nat)) H'
theorem znj (T : Txt K mg) {mc mp : Addr} (D_first_place : DFT K mg "first_place" zbh zbl mc mp) (hBM : BMAt mg base) (F_how_many_below : ∀ b,Sub K mg base b→FC P w K mg b 4 "how_many_below" zbj (znZ P w K mg b)) : FC P w K mg base 5 "first_place" zbl (ziq P w K mg base mp):=by
 refine D_first_place.ok sc_first_place (fun vs H Q E h=>?_) (fun f A outer s H vs Q E hr h=>?_)
 ·obtain ⟨br,f,xs,ps,rows,k,key,Av,fp,R,L,rfl,_⟩:=h
  rfl
 obtain ⟨br,f,xs,ps,rows,k,key,Av,fp,R,L,rfl,AF,S,hT,hR,hk,hLn,hFn,q⟩:=h
 refine ⟨_,(zai (zaz (zit (kf:=2) F_how_many_below hr (zaC zbc (zaC zaw (pv 0) (pv 1) (fun _ _=>rfl)) zag (fun _ _=>rfl)) (zlT (osc:=zaj zbh) (N:=["bridges","knot","is_below"]) (ps:=["at"]) (caps:=["is_below","knot"]) (cap:=[2,1]) ⟨rfl,rfl,rfl,by decide +kernel,by decide +kernel,by decide +kernel,by decide +kernel⟩ (by decide +kernel) (by decide +kernel) rfl rfl rfl rfl (fun _ _ _ _ us hl=>match us,hl with | [_],_=>rfl) (fun _=>rfl)) rfl D_first_place.hd hBM (fun b _ _ _ _ _ _ _ S hr=>(zm7 P w K mg b (kr:=2) hr (pv 1) (zaa (pv 2) (zaa (pv 0) zad))))))),?_⟩
 obtain ⟨x,hx,b,o,j,ys,rfl,_,_,hb,ho,hj,hJ⟩:=zbb S.ba hk
 have hF:=zel (zaR hT hR hk (rows:=rows))
 refine ⟨_,rfl,_,rfl,_,_,_,_,rfl,rfl,SqL.of S.at_,zaV hx,_,_,_,_,rfl,rfl,SqT.of hb,rfl,S.tb,[.ref f,.int k],rfl,?_,fun bs g c' H2 hg hT2 hC SB hV=>?_⟩
 ·intro j i v h1 h2
  rcases j with _ | _ | j
  ·cases h1; cases h2; rfl
  ·cases h1; cases h2; rfl
  ·cases h1
 obtain ⟨pn,sp,hFV,hask⟩:=(AF.lift SB).ask
 have hR2 : R L H2:=AF.keep _ _ _ S.r fun b o hb e=>hg _ _ (fun z=>AF.nmp (z ▸ hb)) e
 have S2 : za2 Av mp R ps rows br xs L H2:=S.kp (.gro hg) hT2 hR2 (AF.avl _ _ hR2)
 refine ⟨(zah ps rows k).length,g,_,_,fun i=>decide (((zah ps rows k).getD i (0,0)).1 < key),fun L1 H1=>R (L ++ L1.map fun i=>(k,i)) H1∧KpV Av H2 H1,rfl,hV,⟨by rw [ybE,yaD]; exact hR2,fun _ _ _ h=>h⟩,fun i L1 H1 Q1 hi hLi hR1 hQ=>?_,fun i j hij hj hb=>?_,fun m L1 H' hm hb1 hb2 hL hR1=>?_⟩
 ·refine ⟨rfl,hR1.2 _ _ (S2.na hC (fun _ z=>nomatch z)) hC,?_⟩
  refine ⟨_,rfl,f,2,pn,sp,rfl,hFV,yaa _,_,rfl,_,rfl,?_⟩
  refine hask k i _ H1 _ hk hi (by have:=zhj _ _ (yaa (zah ps rows k).length); rw [yai,yab]; omega) hR1.1 fun H3 hR3 k3=>hQ _ ⟨?_,fun b o n h=>k3 _ _ n (hR1.2 _ _ n h)⟩
  rw [yaq,← ybH]
  exact hR3
 ·refine yan ?_
  have hb:=yaC hb
  by_cases e : i = j
  ·subst e
   exact hb
  ·have:=yaL.mp hF i j (by omega) hj (by omega)
   rw [yad,yac (by omega)] at hb ⊢
   exact Int.lt_of_le_of_lt this hb
 ·have e:=zmH hm hb1 hb2
  have q2:=q H' _ (S2.kp hR1.2.a (S2.tbv hR1.2) hR1.1 (AF.avl _ _ hR1.1)) (KpA.trans (.gro hg) hR1.2.a) (by rw [yab]; exact hL)
  rw [e] at q2
  exact q2
def zk7 (K : Frag) : Sp:=fun vs H Q _=>∃ (Av : List Addr) (br : Addr) (ps : List Nat) (rows : List (List Int)) (xs : List V) (k c m : Nat),vs = [.ref br,.int k,.int m,.int c]∧H br = some (.lst xs)∧Paired (BrAt Av H ps rows) (List.range (ps.length + 1)) xs∧zax ps∧k < ps.length + 1∧par ps c = some k∧m≤(zah ps rows k).length∧
 ∀ H',Same H H'→Q (.int (stN (zah ps rows c) ((zah ps rows k).take m) : Nat)) H'
theorem znb (T : Txt K mg) (D_start_in : DF K mg "start_in" zdm zcL) : FC P w K mg base 1 "start_in" zcL (zk7 K):=by
 refine D_start_in.ok sc_start_in (fun vs H Q E h=>?_) (fun f cdv A outer s H vs Q E hr h=>?_)
 ·obtain ⟨Av,br,ps,rows,xs,k,c,m,rfl,_⟩:=h
  rfl
 obtain ⟨Av,br,ps,rows,xs,k,c,m,rfl,hbr,hB,hT,hk,hc,hm,q⟩:=h
 obtain ⟨x,hx,b,o,j,ys,rfl,_,_,hb,ho,hj,hJ⟩:=zbb hB hk
 obtain ⟨kvs,h1,h2,h3⟩:=zjN hJ
 have hcm : c∈zaF ps k (ps.length + 1):=zaA.mpr ⟨(zaJ hT hc).2,hc⟩
 obtain ⟨sa,hv,hsa⟩:=h3 c hcm (zd2 _ _ _)
 refine ⟨_,(zai (zaz (zaC zaw (zcO (zcY hr) (zbA (zkF rfl) rfl T.m_dict boot_dict (zaa (zaC zbc (zaC zaw (pv 0) (pv 1) (fun _ _=>rfl)) zag (fun _ _=>rfl)) zad)) (pv 3) (fun _ _=>rfl)) (pv 2) (fun _ _=>rfl)))),?_⟩
 refine ⟨_,rfl,_,rfl,_,_,_,_,rfl,rfl,SqL.of hbr,zaV hx,_,_,_,_,rfl,rfl,SqT.of hb,rfl,?_⟩
 refine ⟨j,ys,kvs,rfl,SqL.of hj,h1,?_,fun d hd=>?_⟩
 ·rw [h2]
  exact List.Pairwise.map (R:=fun a b : Nat=>a≠b) _ (fun a b (n : a≠b) z=>n (by have:=Sum.inl.inj z; omega)) (zd2 ps k _)
 have sd:=zak hd (.dK kvs)
 refine ⟨_,rfl,d,.ref sa,rfl,?_,?_⟩
 ·have:=DGet.k (k:=(.inl (c : Int))) (zac (H:=H) (a:=d) (o:=.dK kvs))
  rw [hv] at this
  exact this
 refine ⟨_,rfl,_,_,_,_,rfl,rfl,SqL.of (sd _ _ hsa),zaV (v:=nV (stN (zah ps rows c) ((zah ps rows k).take m))) ?_,q _ sd⟩
 rw [yaj]
 unfold zeO
 rw [yaj,ybi (by omega)]
 rfl
def zk9 (P : Program) (w : World) (K : Frag) (mg : Str→Option Value) (base : Heap) (mp : Addr) : Sp:=fun vs H Q _=>∃ (br f : Addr) (xs : List V) (ps : List Nat) (rows : List (List Int)) (k st : Nat) (key : Int) (Av : List Addr) (fp : Addr→Prop) (R : List (Nat×Nat)→Hp→Prop) (L : List (Nat×Nat)),vs = [.ref br,.int k,.int st,.ref f]∧
 AskF P w K mg base f Av mp fp R ps rows key∧za2 Av mp R ps rows br xs L H∧zax ps∧zaP rows∧k < ps.length + 1∧L.length≤8000∧st≤zaq (zah ps rows k) key∧zaq (zah ps rows k) key≤st + 2∧
 ∀ (H' : Hp) (L' : List (Nat×Nat)),za2 Av mp R ps rows br xs (L ++ L') H'→KpA Av mp H H'→L'.length≤2→Q (.int (zaq (zah ps rows k) key : Nat)) H'
theorem zlB (T : Txt K mg) {mp : Addr} (D_next_place : DF K mg "next_place" zcj zbw) : FC P w K mg base 3 "next_place" zbw (zk9 P w K mg base mp):=by
 refine D_next_place.ok sc_next_place (fun vs H Q E h=>?_) (fun f cdv A outer s H vs Q E hr h=>?_)
 ·obtain ⟨br,f,xs,ps,rows,k,st,key,Av,fp,R,L,rfl,_⟩:=h
  rfl
 obtain ⟨br,f,xs,ps,rows,k,st,key,Av,fp,R,L,rfl,AF,S,hT,hR,hk,hLn,hlo,hhi,q⟩:=h
 refine ⟨_,(zae (zap (i:=4) sc_next_place.nd rfl (Or.inl rfl) (zas (zmC rfl) rfl T.m_min boot_min (zaa (zar zaS (pv 2) (zg2 rfl T.g_MOST_BEHIND_START)) (zaa (zaC zbc (zaC zaw (pv 0) (pv 1) (fun _ _=>rfl)) zag (fun _ _=>rfl)) zad))))
   (zae (zap (i:=5) sc_next_place.nd rfl (Or.inl rfl) (pv 2))
   (zae (zem PassesOwn.never (PW.pt (zjt (zaB zfM (pv 5) (pv 4) (zaN _)) (zg0 (zhF (zg3 (kr:=2) hr (pv 3) (zaa (pv 1) (zaa (pv 5) zad))))))) (zai (zap (i:=5) sc_next_place.nd rfl (Or.inl rfl) (zar zaS (pv 5) zag))))
   (zai (zaz (pv 5)))))),?_⟩
 obtain ⟨x,hx,b,o,j,ys,rfl,_,_,hb,ho,hj,hJ⟩:=zbb S.ba hk
 have hF:=zel (zaR hT hR hk (rows:=rows))
 have hle:=zcf (zah ps rows k) key
 have hat:=fun i h=>zho (key:=key) hF (i:=i) h
 obtain ⟨pn,sp,hFV,hask⟩:=AF.ask
 refine ⟨_,rfl,_,_,rfl,rfl,_,rfl,_,rfl,_,_,_,_,rfl,rfl,SqL.of S.at_,zaV hx,_,_,_,_,rfl,rfl,SqT.of hb,rfl,_,_,rfl,?_⟩
 have eb : ∃ m : Nat,(if (((zah ps rows k).length : Nat) : Int) < (st : Int) + 2 then (((zah ps rows k).length : Nat) : Int) else (st : Int) + 2) = (m : Int)∧m≤(zah ps rows k).length∧m≤st + 2∧zaq (zah ps rows k) key≤m:=by
  by_cases c : (((zah ps rows k).length : Nat) : Int) < (st : Int) + 2
  ·exact ⟨_,if_pos c,yaa _,by omega,hle⟩
  ·exact ⟨st + 2,by rw [if_neg c]; rfl,by omega,yaa _,hhi⟩
 obtain ⟨m,em,hm1,hm2,hm3⟩:=eb
 rw [em]
 refine ⟨_,rfl,?_⟩
 refine ⟨fun n σ H1=>∃ (at_ : Nat) (L1 : List (Nat×Nat)),σ = [some (.ref br),some (.int k),some (.int st),some (.ref f),some (.int m),some (.int at_)]∧st≤at_∧at_≤zaq (zah ps rows k) key∧at_ + n = m∧L1.length + st = at_∧za2 Av mp R ps rows br xs (L ++ L1) H1∧KpA Av mp H H1,⟨m - st,st,[],rfl,yaa _,hlo,by omega,by rw [ybP,ybM],by rw [yaD]; exact S,fun _ _ _ _ h=>h⟩,?_⟩
 rintro n σ H1 ⟨at_,L1,rfl,h1,h2,h3,h4,S1,k1⟩
 refine ⟨_,rfl,_,rfl,_,_,rfl,rfl,_,rfl,?_⟩
 refine ite2 (fun c=>?_) (fun c=>?_)
 ·have c1 : (at_ : Int) < (m : Int):=yaC c
  refine ⟨_,rfl,f,2,pn,sp,rfl,hFV,yaa _,_,rfl,_,rfl,?_⟩
  refine hask k at_ _ H1 _ hk (by omega) (by rw [yai]; omega) S1.r fun H2 hR2 k2=>?_
  have S2:=S1.kp k2.a (S1.tbv k2) hR2 (AF.avl _ _ hR2)
  rw [ybH] at S2
  have k02 : KpA Av mp H H2:=k1.trans k2.a
  have hL2 : (L1 ++ [(k,at_)]).length = L1.length + 1:=by rw [yai,yaV]
  have hge : (zah ps rows k).getD at_ (0,0) = (zah ps rows k)[at_]'(by omega):=by
   rw [yad,yac (by omega)]
   rfl
  refine ⟨_,rfl,?_⟩
  refine ite2 (fun c2=>?_) (fun c2=>?_)
  ·have c3:=yaC c2
   rw [hge] at c3
   have hlt : at_ < zaq (zah ps rows k) key:=yci fun z=>(hat at_ (by omega)).2 z c3
   refine ⟨fun σ' H'=>σ' = [some (.ref br),some (.int k),some (.int st),some (.ref f),some (.int m),some (.int ((at_ : Int) + 1))]∧H' = H2,?_,?_⟩
   ·rintro σ' H' ⟨rfl,rfl⟩
    exact ⟨n - 1,by omega,at_ + 1,_,rfl,by omega,by omega,by omega,by omega,S2,k02⟩
   ·exact ⟨_,rfl,_,_,rfl,rfl,rfl,rfl⟩
  ·have hge2 : zaq (zah ps rows k) key≤at_:=ybg fun z=>c2 (yan (by rw [hge]; exact (hat at_ (by omega)).1 z))
   have e : at_ = zaq (zah ps rows k) key:=by omega
   refine ⟨_,rfl,?_⟩
   rw [e]
   exact q _ _ S2 k02 (by omega)
 ·have c1 : ¬ (at_ : Int) < (m : Int):=ybA (ybz.mpr c)
  have e : at_ = zaq (zah ps rows k) key:=by omega
  refine iteF ?_
  refine ⟨_,rfl,?_⟩
  rw [e]
  exact q _ _ S1 k1 (by omega)
def zjg (P : Program) (w : World) (K : Frag) (mg : Str→Option Value) (base : Heap) (mp : Addr) : Sp:=fun vs H Q _=>∃ (br wa f : Addr) (xs : List V) (ps : List Nat) (rows : List (List Int)) (wy : List Nat) (key : Int) (Av : List Addr) (fp : Addr→Prop) (R : List (Nat×Nat)→Hp→Prop) (L : List (Nat×Nat)),vs = [.ref br,.ref wa,.ref f]∧
 AskF P w K mg base f Av mp fp R ps rows key∧za2 Av mp R ps rows br xs L H∧zax ps∧zaP rows∧ps.length≤40∧zmL H wa ps wy∧wa∉Av∧L.length≤1000∧(∀ k,k < ps.length + 1→(zah ps rows k).length≤1000)∧
 ∀ (D : Addr) (zs : List V) (H' : Hp) (L' : List (Nat×Nat)),za2 Av mp R ps rows br xs (L ++ L') H'→KpA Av mp H H'→H D = none→H' D = some (.lst zs)→zal K H' (wy.map fun k=>(((zaq (zah ps rows k) key : Nat) : Int),((ownB rows k key : Nat) : Int))) zs→L'.length≤figN (zah ps rows (wy.getD 0 0)).length + 2 * (wy.length - 1)→Q (.ref D) H'
theorem zlz (T : Txt K mg) {mp : Addr} (D_search : DF K mg "search" zfm zeo) (F_first_place : FC P w K mg base 5 "first_place" zbl (ziq P w K mg base mp)) (F_start_in : FC P w K mg base 1 "start_in" zcL (zk7 K)) (F_next_place : FC P w K mg base 3 "next_place" zbw (zk9 P w K mg base mp)) : FC P w K mg base 6 "search" zeo (zjg P w K mg base mp):=by
 refine D_search.ok sc_search (fun vs H Q E h=>?_) (fun f cdv A outer s H vs Q E hr h=>?_)
 ·obtain ⟨br,wa,f,xs,ps,rows,wy,key,Av,fp,R,L,rfl,_⟩:=h
  rfl
 obtain ⟨br,wa,f,xs,ps,rows,wy,key,Av,fp,R,L,rfl,AF,S,hT,hR,few,W,nwa,hLn,hFn,q⟩:=h
 have hwl:=W.len
 have hpos : 0 < wy.length:=List.length_pos_iff.mpr W.ne
 refine ⟨_,(zae (zap (i:=3) sc_search.nd rfl (Or.inl rfl) (zaI F_first_place hr (zaa (pv 0) (zaa (zaC zaw (pv 1) zag (fun _ _=>rfl)) (zaa (pv 2) zad)))))
   (zae (zap (i:=4) sc_search.nd rfl (Or.inl rfl) (zbF (zaa (zbz (zaa (pv 3) (zaa (zaC zaw (zaC zbc (zaC zaw (pv 0) (zaC zaw (pv 1) zag (fun _ _=>rfl)) (fun _ _=>rfl)) zag (fun _ _=>rfl)) (pv 3) (fun _ _=>rfl)) zad))) zad)))
   (zae (zaT PassesOwn.never rfl (zlp rfl T.m_zip (zaa (pv 1) (zaa (zdC zeR (pv 1) (zca zag) zoE) zad))) (ze6 rfl (za1 (zan (i:=5) sc_search.nd rfl (Or.inl rfl)) (za1 (zan (i:=6) sc_search.nd rfl (Or.inl rfl)) zc5))) (zae (zap (i:=3) sc_search.nd rfl (Or.inl rfl) (zaI F_next_place hr (zaa (pv 0) (zaa (pv 6) (zaa (zaI F_start_in hr (zaa (pv 0) (zaa (pv 5) (zaa (pv 3) (zaa (pv 6) zad))))) (zaa (pv 2) zad))))))
   (zai (zbe (zc7 F.plainAttrs_list F.slot_list_append F.type_list_append zaL (pv 4) (zaa (zbz (zaa (pv 3) (zaa (zaC zaw (zaC zbc (zaC zaw (pv 0) (pv 6) (fun _ _=>rfl)) zag (fun _ _=>rfl)) (pv 3) (fun _ _=>rfl)) zad))) zad))))))
   (zai (zaz (pv 4)))))),?_⟩
 have hk0 : wy.getD 0 0 < ps.length + 1:=W.kn _ (zi6 hpos)
 have hw0 : atI (wy.map nV) 0 = some (nV (wy.getD 0 0)):=zaV (j:=0) (zi7 hpos)
 refine ⟨_,rfl,_,rfl,_,_,_,_,rfl,rfl,SqL.of W.at_,hw0,_,rfl,br,f,xs,ps,rows,wy.getD 0 0,key,Av,fp,R,L,rfl,AF,S,hT,hR,hk0,by omega,hFn _ hk0,fun H1 L1 S1 k1 hL1=>?_⟩
 have W1:=S.lst k1 W.at_ nwa
 obtain ⟨x0,hx0,b0,o0,j0,ys0,rfl,_,_,hb0,ho0,_,_⟩:=zbb S1.ba hk0
 refine ⟨_,rfl,_,rfl,_,rfl,_,_,_,_,rfl,rfl,SqL.of W1,hw0,_,_,_,_,rfl,rfl,SqL.of S1.at_,zaV hx0,_,_,_,_,rfl,rfl,SqT.of hb0,rfl,_,rfl,_,_,_,_,rfl,rfl,SqL.of ho0,zg5 hT hR hk0 key,(by show 2≤sizeLine; decide),fun t ht=>⟨(by show 1≤sizeLine; decide),fun D hD=>?_⟩⟩
 have st:=zak ht (.tup [.int ((zaq (zah ps rows (wy.getD 0 0)) key : Nat) : Int),.int ((ownB rows (wy.getD 0 0) key : Nat) : Int)])
 have sD:=zak hD (.lst [.ref t])
 have hD1 : H1 D = none:=st.free hD
 obtain ⟨hDn,nDA,nDm⟩:=S1.free k1 hD1
 have nfD : ¬ fp D:=fun z=>AF.alloc _ _ _ S1.r z hD1
 have s13:=st.trans sD
 have tb3:=S1.tb.ext s13.ext
 have hR3:=AF.keep _ _ _ S1.r fun b o _ e=>s13 b o e
 have S3:=S1.kp (.of s13) tb3 hR3 (AF.avl _ _ hR3)
 have k03 : KpA Av mp H _:=k1.trans (.of s13)
 have h3D : upd (upd H1 t (.tup [.int ((zaq (zah ps rows (wy.getD 0 0)) key : Nat) : Int),.int ((ownB rows (wy.getD 0 0) key : Nat) : Int)])) D (.lst [.ref t]) D = some (.lst [.ref t]):=zac
 have h3t:=sD _ _ (zac (H:=H1) (a:=t) (o:=.tup [.int ((zaq (zah ps rows (wy.getD 0 0)) key : Nat) : Int),.int ((ownB rows (wy.getD 0 0) key : Nat) : Int)]))
 generalize upd (upd H1 t (.tup [.int ((zaq (zah ps rows (wy.getD 0 0)) key : Nat) : Int),.int ((ownB rows (wy.getD 0 0) key : Nat) : Int)])) D (.lst [.ref t]) = H3 at S3 k03 h3D h3t ⊢
 clear tb3 hR3 s13 sD hD st ht hb0 ho0 hx0
 have W3:=S.lst k03 W.at_ nwa
 refine ⟨_,rfl,_,rfl,1,rfl,wa,_,rfl,SqL.of W3,fun y hy=>?_⟩
 rw [zpd]
 have sy:=zak hy (.lst ((wy.drop 1).map nV))
 obtain ⟨hyn,nyA,nym⟩:=S3.free k03 hy
 have nDy : D≠y:=zab h3D hy
 have tb4:=S3.tb.ext sy.ext
 have hR4:=AF.keep _ _ _ S3.r fun b o _ e=>sy b o e
 have S4:=S3.kp (.of sy) tb4 hR4 (AF.avl _ _ hR4)
 have k04 : KpA Av mp H _:=k03.trans (.of sy)
 have h4y : upd H3 y (.lst ((wy.drop 1).map nV)) y = some (.lst ((wy.drop 1).map nV)):=zac
 have h4D:=sy _ _ h3D
 have h4t:=sy _ _ h3t
 generalize upd H3 y (.lst ((wy.drop 1).map nV)) = H4 at S4 k04 h4D h4t h4y ⊢
 clear tb4 hR4 sy hy h3D h3t S3 k03 W3
 refine ⟨wa,y,rfl,⟨_,SqL.of (S.lst k04 W.at_ nwa)⟩,⟨_,SqL.of h4y⟩,?_⟩
 have hdl : ((wy.drop 1).map nV).length = wy.length - 1:=by rw [yab,ybb]
 refine znF (xs:=wy.map nV) (ys:=(wy.drop 1).map nV) (by rw [hdl,yab]; omega) (fun i σ H5=>∃ (x5 x6 : Option V) (zs : List V) (L2 : List (Nat×Nat)),σ = [some (.ref br),some (.ref wa),some (.ref f),some (.int ((zaq (zah ps rows (wy.getD i 0)) key : Nat) : Int)),some (.ref D),x5,x6]∧H5 D = some (.lst zs)∧zal K H5 ((wy.take (i + 1)).map fun k=>(((zaq (zah ps rows k) key : Nat) : Int),((ownB rows k key : Nat) : Int))) zs∧za2 Av mp R ps rows br xs (L ++ L2) H5∧KpA Av mp H H5∧L2.length≤figN (zah ps rows (wy.getD 0 0)).length + 2 * i∧H5 y = some (.lst ((wy.drop 1).map nV))) ?_ ?_ ?_ ?_
 ·refine ⟨_,_,[.ref t],L1,rfl,h4D,?_,S4,k04,by omega,h4y⟩
  rw [zim _ hpos,ybY]
  exact .cons ⟨t,_,_,rfl,h4t,rfl,rfl⟩ .nil
 ·rintro i σ H5 _ ⟨x5,x6,zs,L2,rfl,h5,hA,S5,k05,hL2,h5y⟩
  exact ⟨SqL.of (S.lst k05 W.at_ nwa),SqL.of h5y⟩
 ·rintro i x x' σ H5 p hx hx' ⟨x5,x6,zs,L2,rfl,h5,hA,S5,k05,hL2,h5y⟩ hp
  have hi : i + 1 < wy.length:=by
   have:=(yah.mp hx').1
   omega
  rw [zi7 (by omega)] at hx
  cases hx
  rw [List.map_drop,ycy,Nat.add_comm 1 i,zi7 hi] at hx'
  cases hx'
  have hpar:=W.ch i hi
  have hki : wy.getD i 0 < ps.length + 1:=W.kn _ (zi6 (by omega))
  have hkj : wy.getD (i + 1) 0 < ps.length + 1:=W.kn _ (zi6 hi)
  have NO:=zlJ hT hR few hki hpar (rows:=rows) key
  refine ⟨p,_,rfl,SqT.of zac,rfl,_,_,rfl,_,_,rfl,rfl,?_⟩
  have s6:=zak hp (.tup [nV (wy.getD i 0),nV (wy.getD (i + 1) 0)])
  have hR6:=AF.keep _ _ _ S5.r fun b o _ e=>s6 b o e
  have S6:=S5.kp (.of s6) (S5.tb.ext s6.ext) hR6 (AF.avl _ _ hR6)
  refine ⟨_,rfl,_,rfl,_,rfl,_,rfl,_,rfl,_,rfl,Av,br,ps,rows,xs,wy.getD i 0,wy.getD (i + 1) 0,_,rfl,S6.at_,S6.ba,hT,hki,hpar,zcf _ _,fun H7 s7=>?_⟩
  have s57:=s6.trans s7
  have hR7:=AF.keep _ _ _ S5.r fun b o _ e=>s57 b o e
  have S7:=S5.kp (.of s57) (S5.tb.ext s57.ext) hR7 (AF.avl _ _ hR7)
  refine ⟨_,rfl,br,f,xs,ps,rows,wy.getD (i + 1) 0,_,key,Av,fp,R,_,rfl,AF,S7,hT,hR,hkj,(by have:=zhj _ _ (yaa (zah ps rows (wy.getD 0 0)).length); have:=hFn _ hk0; rw [yai]; omega),NO.lo,NO.hi,fun H8 L3 S8 k8 hL3=>?_⟩
  have k58 : KpA Av mp H5 H8:=(KpA.of s57).trans k8
  have k08:=k05.trans k58
  have h8:=k58 _ _ nDA nDm h5
  have h8y:=k58 _ _ nyA nym h5y
  obtain ⟨x1,hx1,b1,o1,j1,ys1,rfl,_,_,hb1,ho1,_,_⟩:=zbb S8.ba hkj
  have hzl:=hA.length
  rw [yab,yas] at hzl
  refine ⟨_,rfl,.inl ⟨rfl,_,SqL.of h8⟩,_,rfl,_,rfl,_,rfl,_,_,_,_,rfl,rfl,SqL.of S8.at_,zaV hx1,_,_,_,_,rfl,rfl,SqT.of hb1,rfl,_,rfl,_,_,_,_,rfl,rfl,SqL.of ho1,zg5 hT hR hkj key,(by show 2≤sizeLine; decide),fun t2 ht2=>?_⟩
  have s9:=zak ht2 (.tup [.int ((zaq (zah ps rows (wy.getD (i + 1) 0)) key : Nat) : Int),.int ((ownB rows (wy.getD (i + 1) 0) key : Nat) : Int)])
  have h9t : upd H8 t2 (.tup [.int ((zaq (zah ps rows (wy.getD (i + 1) 0)) key : Nat) : Int),.int ((ownB rows (wy.getD (i + 1) 0) key : Nat) : Int)]) t2 = _:=zac
  have h9:=s9 _ _ h8
  have h9y:=s9 _ _ h8y
  have k09:=k08.trans (.of s9)
  have hR9:=AF.keep _ _ _ S8.r fun b o _ e=>s9 b o e
  have tb9:=S8.tb.ext s9.ext
  have hA9:=zc8 (H':=upd H8 t2 (.tup [.int ((zaq (zah ps rows (wy.getD (i + 1) 0)) key : Nat) : Int),.int ((ownB rows (wy.getD (i + 1) 0) key : Nat) : Int)])) (fun b us e=>s9 _ _ (S5.tup k58 e)) hA
  generalize upd H8 t2 (.tup [.int ((zaq (zah ps rows (wy.getD (i + 1) 0)) key : Nat) : Int),.int ((ownB rows (wy.getD (i + 1) 0) key : Nat) : Int)]) = H9 at h9t h9 h9y k09 hR9 tb9 hA9 ⊢
  have k0D : KpA Av mp H (upd H9 D (.lst (zs ++ [.ref t2]))):=fun b o n1 n2 e=>by
   rw [zaf (zab e hDn)]
   exact k09 _ _ n1 n2 e
  have hRD : R (L ++ L2 ++ L3) (upd H9 D (.lst (zs ++ [.ref t2]))):=AF.keep _ _ _ hR9 fun b o hb e=>by
   have n : b≠D:=fun z=>by
    rw [z] at hb
    exact nfD hb
   rw [zaf n]
   exact e
  refine ⟨_,_,_,rfl,rfl,h9,zao (by omega),_,_,_,L2 ++ L3,rfl,zac,?_,?_,k0D,?_,?_⟩
  ·rw [zim _ hi]
   exact zal.append (zaO h9 hA9) (.cons ⟨t2,_,_,rfl,by rw [zaf (fun z=>by rw [z,h9] at h9t; cases h9t)]; exact h9t,rfl,rfl⟩ .nil)
  ·rw [← ybH]
   exact S.kp k0D (zoq tb9 h9) hRD (AF.avl _ _ hRD)
  ·rw [yai]
   omega
  ·rw [zaf (Ne.symm nDy)]
   exact h9y
 ·rintro σ H5 ⟨x5,x6,zs,L2,rfl,h5,hA,S5,k05,hL2,h5y⟩
  rw [hdl] at hA hL2
  rw [yar (by omega)] at hA
  refine ⟨_,rfl,?_⟩
  exact q D zs H5 L2 S5 k05 hDn h5 hA hL2
def plcB (ps : List Nat) (k0 e j : Nat) : Bool:=isB ps k0 j && (decide (j = k0) || match par ps j with | some p=>decide (p < e) | none=>false)
theorem zln {ps : List Nat} (T : zax ps) {k0 e : Nat} : plcB ps k0 e e = isB ps k0 e:=by
 unfold plcB
 cases h : isB ps k0 e with
 | false=>rfl
 | true=>
  rw [Bool.true_and]
  by_cases c : e = k0
  ·rw [yan c]
   rfl
  ·cases hp : par ps e with
   | none=>
    exfalso
    have z : e = 0:=by
     cases e with
     | zero=>rfl
     | succ e=>
      have hb:=h
      unfold isB wayL at hb
      unfold wayF at hb
      rw [if_neg c,hp] at hb
      cases hb
    rw [z] at h c
    have:=zcX T (show 0 < k0 by omega)
    rw [h] at this
    cases this
   | some p=>
    have:=(zaJ T hp).1
    show (decide (e = k0) || decide (p < e)) = true
    rw [yan this,Bool.or_true]
theorem zkt {ps : List Nat} (T : zax ps) {k0 e j : Nat} (hk : k0≤e) (hp : par ps j = some e) : isB ps k0 j = isB ps k0 e:=zbs T (fun z=>by have:=(zaJ T hp).1; omega) hp
theorem zlm {ps : List Nat} (T : zax ps) {k0 e : Nat} (hk : k0≤e) (j : Nat) : plcB ps k0 (e + 1) j = (plcB ps k0 e j || (isB ps k0 e && decide (j∈zaF ps e (ps.length + 1)))):=by
 unfold plcB
 cases hp : par ps j with
 | none=>
  have hn : decide (j∈zaF ps e (ps.length + 1)) = false:=yam fun z=>by
   rw [(zaA.mp z).2] at hp
   cases hp
  rw [hn,ybs,yby]
  simp
 | some p=>
  have hm : j∈zaF ps e (ps.length + 1)↔p = e:=by
   rw [zaA,hp]
   exact ⟨fun z=>yaf z.2,fun z=>⟨(zaJ T hp).2,by rw [z]⟩⟩
  by_cases c : p = e
  ·subst c
   rw [yan (hm.mpr rfl),← zkt T hk hp]
   cases isB ps k0 j <;> simp
  ·rw [yam (fun z=>c (hm.mp z)),ybs,yby]
   congr 2
   show decide (p < e + 1) = decide (p < e)
   exact decide_eq_decide.mpr (by omega)
theorem zhG {ps : List Nat} (T : zax ps) {k0 : Nat} (j : Nat) : plcB ps k0 k0 j = decide (j = k0):=by
 unfold plcB
 by_cases c : j = k0
 ·subst c
  rw [zcs,yan rfl]
  rfl
 ·rw [yam c,yb6]
  cases hp : par ps j with
  | none=>rw [ybs]
  | some p=>
   show (isB ps k0 j && decide (p < k0)) = false
   by_cases d : p < k0
   ·rw [zbs T c hp,zcX T d]
    rfl
   ·rw [yam d,ybs]
theorem zhh {P : Nat→Bool} {c : Nat} (hc : P c = false) : ∀ {l : List Nat},l.Nodup→c∈l→(l.filter fun j=>P j || decide (j = c)).length = (l.filter P).length + 1
 | [],_,h=>absurd h yaY
 | a :: l,hn,h=>by
  rw [yaR] at hn
  by_cases e : a = c
  ·subst e
   rw [yaO (by simp),yaZ (by simp [hc]),yaW]
   congr 2
   refine yb3 fun j hj=>?_
   have : j≠a:=fun z=>hn.1 (z ▸ hj)
   simp [this]
  ·have ih:=zhh hc hn.2 ((yal.mp h).resolve_left fun z=>e z.symm)
   cases hp : P a with
   | true=>rw [yaO (by simp [hp]),yaO hp,yaW,yaW,ih]
   | false=>rw [yaZ (by simp [hp,e]),yaZ (by simp [hp]),ih]
theorem zop {H : Hp} {Pt b : Addr} {pos : Pos} {q : Str} {o' o : HO} (x : zaK H Pt pos q) (hb : H b = some o') (n1 : ∀ tab,o'≠.tbl tab) (n2 : ∀ F,o'≠.ext F) : zaK (upd H b o) Pt pos q:=by
 obtain ⟨tab,h1,h2,h3⟩:=x.ex
 have m1 : Pt≠b:=fun z=>by
  rw [z,hb] at h1
  exact n1 _ (yaf h1)
 refine ⟨tab,by rw [zaf m1]; exact h1,h2,?_⟩
 rcases h3 with h3 | ⟨c,h3,h4⟩
 ·exact .inl h3
 ·refine .inr ⟨c,h3,?_⟩
  have m2 : c≠b:=fun z=>by
   rw [z] at h4
   rw [show H b = _ from h4] at hb
   exact n2 _ (yaf hb).symm
  show upd H b o c = _
  rw [zaf m2]
  exact h4
section
variable {P : Program} {w : World} {K : Frag} {mg : Str→Option Value} {base : Heap} {f : Addr} {Av : List Addr} {mp : Addr} {fp : Addr→Prop} {R : List (Nat×Nat)→Hp→Prop} {ps : List Nat} {rows : List (List Int)} {key : Int} {br : Addr} {xs : List V} {L L5 : List (Nat×Nat)} {H H5 H6 : Hp}
theorem za2.put {b : Addr} {o' : HO} (AF : AskF P w K mg base f Av mp fp R ps rows key) (S : za2 Av mp R ps rows br xs L H) (S5 : za2 Av mp R ps rows br xs L5 H5) (k : KpA Av mp H H5) (hb : H b = none) (nf : ¬ fp b) (h5 : H5 b = some o') (n1 : ∀ tab,o'≠.tbl tab) (n2 : ∀ F,o'≠.ext F) (o : HO) :
  za2 Av mp R ps rows br xs L5 (upd H5 b o)∧KpA Av mp H (upd H5 b o):=by
 have k' : KpA Av mp H (upd H5 b o):=fun c u m1 m2 e=>by
  rw [zaf (zab e hb)]
  exact k _ _ m1 m2 e
 have hR : R L5 (upd H5 b o):=AF.keep _ _ _ S5.r fun c u hc e=>by
  have n : c≠b:=fun z=>by
   rw [z] at hc
   exact nf hc
  rw [zaf n]
  exact e
 exact ⟨S.kp k' (zop S5.tb h5 n1 n2) hR (AF.avl _ _ hR),k'⟩
theorem za2.more (AF : AskF P w K mg base f Av mp fp R ps rows key) (S5 : za2 Av mp R ps rows br xs L5 H5) (s : Same H5 H6) : za2 Av mp R ps rows br xs L5 H6:=by
 have hR:=AF.keep _ _ _ S5.r fun b o _ e=>s b o e
 exact S5.kp (.of s) (S5.tb.ext s.ext) hR (AF.avl _ _ hR)
end
def zgd (H : Hp) (ps : List Nat) (rows : List (List Int)) (key : Int) (k : Nat) (z : V) : Prop:=∃ t,z = .ref t∧H t = some (.tup [.int (k : Nat),.int ((zaq (zah ps rows k) key : Nat) : Int),.int ((ownB rows k key : Nat) : Int)])
theorem zd7 {H H' : Hp} {ps : List Nat} {rows : List (List Int)} {key : Int} {ks : List Nat} {zs : List V} (k : ∀ b us,H b = some (.tup us)→H' b = some (.tup us)) (h : Paired (zgd H ps rows key) ks zs) : Paired (zgd H' ps rows key) ks zs:=zay (fun _ _ ⟨t,e1,e2⟩=>⟨t,e1,k _ _ e2⟩) h
def zld (P : Program) (w : World) (K : Frag) (mg : Str→Option Value) (base : Heap) (mp : Addr) : Sp:=fun vs H Q _=>∃ (br f : Addr) (xs : List V) (ps : List Nat) (rows : List (List Int)) (k0 : Nat) (key : Int) (Av : List Addr) (fp : Addr→Prop) (R : List (Nat×Nat)→Hp→Prop) (L : List (Nat×Nat)),vs = [.ref br,.int k0,.ref f]∧
 AskF P w K mg base f Av mp fp R ps rows key∧za2 Av mp R ps rows br xs L H∧zax ps∧zaP rows∧ps.length≤40∧k0 < ps.length + 1∧L.length≤1000∧(∀ k,k < ps.length + 1→(zah ps rows k).length≤1000)∧
 ∀ (D : Addr) (zs : List V) (H' : Hp) (L' : List (Nat×Nat)),za2 Av mp R ps rows br xs (L ++ L') H'→KpA Av mp H H'→H D = none→H' D = some (.lst zs)→Paired (zgd H' ps rows key) (benL ps k0 (ps.length + 1)) zs→
  L'.length≤figN (zah ps rows k0).length + 2 * ((benL ps k0 (ps.length + 1)).length - 1)→Q (.ref D) H'
theorem znk (T : Txt K mg) {mp : Addr} (D_search_beneath : DF K mg "search_beneath" zbn zbi) (F_first_place : FC P w K mg base 5 "first_place" zbl (ziq P w K mg base mp)) (F_next_place : FC P w K mg base 3 "next_place" zbw (zk9 P w K mg base mp)) : FC P w K mg base 6 "search_beneath" zbi (zld P w K mg base mp):=by
 refine D_search_beneath.ok sc_search_beneath (fun vs H Q E h=>?_) (fun f cdv A outer s H vs Q E hr h=>?_)
 ·obtain ⟨br,f,xs,ps,rows,k0,key,Av,fp,R,L,rfl,_⟩:=h
  rfl
 obtain ⟨br,f,xs,ps,rows,k0,key,Av,fp,R,L,rfl,AF,S,hT,hR,few,hk0,hLn,hFn,q⟩:=h
 refine ⟨_,(zae (zap (i:=3) sc_search_beneath.nd rfl (Or.inl rfl) (zlr (zfy (pv 1) (zaI F_first_place hr (zaa (pv 0) (zaa (pv 1) (zaa (pv 2) zad)))) zlk) rfl rfl (by simp) (by decide)))
   (zae (zap (i:=4) sc_search_beneath.nd rfl (Or.inl rfl) (zbF zad))
   (zae (zaT PassesOwn.never rfl (zc3 rfl T.m_range (zaa (pv 1) (zaa (zas zam rfl T.m_len boot_len (zaa (pv 0) zad)) zad))) (zan (i:=5) sc_search_beneath.nd rfl (Or.inl rfl)) (zai (zch (zaB (zpX (zcY hr)) (pv 5) (pv 3) (by with_unfolding_all rfl)) (zae (zap (i:=6) sc_search_beneath.nd rfl (Or.inl rfl) (zcO (zcY hr) (pv 3) (pv 5) (fun _ _=>rfl)))
   (zae (zbe (zc7 F.plainAttrs_list F.slot_list_append F.type_list_append zaL (pv 4) (zaa (zbz (zaa (pv 5) (zaa (pv 6) (zaa (zaC zaw (zaC zbc (zaC zaw (pv 0) (pv 5) (fun _ _=>rfl)) zag (fun _ _=>rfl)) (pv 6) (fun _ _=>rfl)) zad)))) zad)))
   (zai (zaT PassesOwn.never rfl (zby (zaC zbc (zaC zaw (pv 0) (pv 5) (fun _ _=>rfl)) zag (fun _ _=>rfl))) (zan (i:=7) sc_search_beneath.nd rfl (Or.inl rfl)) (zai (zdU (zcY hr) (pv 3) (zaC zbc (pv 7) zag (fun _ _=>rfl)) (zaI F_next_place hr (zaa (pv 0) (zaa (zaC zbc (pv 7) zag (fun _ _=>rfl)) (zaa (zaC zaw (zaC zbc (pv 7) zag (fun _ _=>rfl)) (pv 6) (fun _ _=>rfl)) (zaa (pv 2) zad))))) rfl)))))) za7)))
   (zai (zaz (pv 4)))))),?_⟩
 have hxl:=Paired.length S.ba
 rw [yaG] at hxl
 intro pl hpl
 have spl:=zak hpl (.dK [])
 obtain ⟨_,npA,npm⟩:=S.free (fun _ _ _ _ h=>h) hpl
 have nfp : ¬ fp pl:=fun z=>AF.alloc _ _ _ S.r z hpl
 refine ⟨_,rfl,_,rfl,_,rfl,_,rfl,br,f,xs,ps,rows,k0,key,Av,fp,R,L,rfl,AF,S.more AF spl,hT,hR,hk0,by omega,hFn _ hk0,fun H1 L1 S1 k1 hL1=>?_⟩
 have h1p : H1 pl = some (.dK []):=k1 _ _ npA npm zac
 refine ⟨h1p,[(.inl (k0 : Int),.int ((zaq (zah ps rows k0) key : Nat) : Int))],rfl,by show 1≤15; decide,?_⟩
 have k01 : KpA Av mp H H1:=KpA.trans (.of spl) k1
 obtain ⟨S2,k02⟩:=za2.put AF S S1 k01 hpl nfp h1p (fun _ z=>nomatch z) (fun _ z=>nomatch z) (.dK (zda [] [(.inl (k0 : Int),.int ((zaq (zah ps rows k0) key : Nat) : Int))]))
 have h2p : upd H1 pl (.dK (zda [] [(.inl (k0 : Int),.int ((zaq (zah ps rows k0) key : Nat) : Int))])) pl = some (.dK [(.inl (k0 : Int),.int ((zaq (zah ps rows k0) key : Nat) : Int))]):=zac
 generalize upd H1 pl (.dK (zda [] [(.inl (k0 : Int),.int ((zaq (zah ps rows k0) key : Nat) : Int))])) = H2 at S2 k02 h2p ⊢
 refine ⟨(by show 0≤sizeLine; decide),fun D hD=>?_⟩
 have sD:=zak hD (.lst [])
 obtain ⟨hDn,nDA,nDm⟩:=S2.free k02 hD
 have nfD : ¬ fp D:=fun z=>AF.alloc _ _ _ S2.r z hD
 have npD : pl≠D:=zab h2p hD
 have S3:=S2.more AF sD
 have k03 : KpA Av mp H _:=k02.trans (.of sD)
 have h3p:=sD _ _ h2p
 have h3D : upd H2 D (.lst []) D = some (.lst []):=zac
 generalize upd H2 D (.lst []) = H3 at S3 k03 h3p h3D ⊢
 refine ⟨_,rfl,_,rfl,_,_,rfl,.inl (SqL.of S3.at_),k0,_,rfl,⟨by omega,by omega,by omega,by omega⟩,?_⟩
 have en : (((xs.length : Nat) : Int) - (k0 : Int)).toNat = ps.length + 1 - k0:=by omega
 rw [en]
 refine zbg (n:=ps.length + 1 - k0) (fun i σ H5=>∃ (x5 x6 x7 : Option V) (kvs : List (Key×V)) (zs : List V) (L5 : List (Nat×Nat)),σ = [some (.ref br),some (.int k0),some (.ref f),some (.ref pl),some (.ref D),x5,x6,x7]∧H5 pl = some (.dK kvs)∧(∀ j : Nat,valV kvs (.inl (j : Int)) = if plcB ps k0 (k0 + i) j = true then some (.int ((zaq (zah ps rows j) key : Nat) : Int)) else none)∧kvs.length = ((List.range (ps.length + 1)).filter (plcB ps k0 (k0 + i))).length∧
  H5 D = some (.lst zs)∧Paired (zgd H5 ps rows key) (benL ps k0 (k0 + i)) zs∧za2 Av mp R ps rows br xs (L ++ L5) H5∧KpA Av mp H H5∧L5.length + 2≤figN (zah ps rows k0).length + 2 * kvs.length) ?_ ?_ ?_
 ·refine ⟨_,_,_,_,[],L1,rfl,h3p,fun j=>?_,?_,h3D,?_,S3,k03,by show _≤_ + 2 * 1; omega⟩
  ·rw [ybq,zhG hT]
   unfold valV
   by_cases c : j = k0
   ·subst c
    rw [yan rfl,List.find?_cons_of_pos (by simp)]
    rfl
   ·rw [yam c,List.find?_cons_of_neg (by simp; omega)]
    rfl
  ·have e : (List.range (ps.length + 1)).filter (plcB ps k0 (k0 + 0)) = (List.range (ps.length + 1)).filter fun j=>(fun _=>false) j || decide (j = k0):=yb3 fun j _=>by rw [ybq,zhG hT,yb6]
   rw [e,zhh rfl ycm (yaQ.mpr hk0),ybL.mpr (fun _ _=>by simp)]
   rfl
  ·have e : benL ps k0 (k0 + 0) = []:=ybL.mpr fun j hj=>by
    have:=yaQ.mp hj
    rw [zcX hT (by omega)]
    decide
   rw [e]
   exact .nil
 ·rintro i σ H5 hi ⟨x5,x6,x7,kvs,zs,L5,rfl,h5p,hval,hkl,h5D,hTr,S5,k05,hL5⟩
  have ee : (k0 : Int) + (i : Int) = ((k0 + i : Nat) : Int):=by omega
  rw [ee]
  have he : k0 + i < ps.length + 1:=by omega
  have hke : k0≤k0 + i:=by omega
  have hsucc:=zlm hT hke
  have hself:=zln hT (k0:=k0) (e:=k0 + i)
  have hev:=hval (k0 + i)
  have hbs : benL ps k0 (k0 + (i + 1)) = benL ps k0 (k0 + i) ++ (if isB ps k0 (k0 + i) = true then [k0 + i] else []):=zf8
  have hcn:=zd2 ps (k0 + i) (ps.length + 1)
  have hcm:=fun j=>zaA (ps:=ps) (k:=k0 + i) (n:=ps.length + 1) (j:=j)
  have ec : k0 + (i + 1) = k0 + i + 1:=by omega
  rw [ec] at hbs
  rw [ec]
  generalize k0 + i = e at *
  have hg:=DGet.k (k:=(.inl (e : Int))) h5p
  rw [hev,hself] at hg
  refine ⟨_,rfl,_,rfl,pl,_,rfl,hg,_,rfl,?_⟩
  cases hB : isB ps k0 e with
  | false=>
   refine iteF ?_
   refine ⟨_,_,_,kvs,zs,L5,rfl,h5p,fun j=>?_,?_,h5D,?_,S5,k05,hL5⟩
   ·rw [hval j,hsucc j,hB,Bool.false_and,yby]
   ·rw [hkl]
    congr 1
    exact yb3 fun j _=>by rw [hsucc j,hB,Bool.false_and,yby]
   ·rw [hbs,hB,if_neg (by decide),yaD]
    exact hTr
  | true=>
   rw [hB] at hg hbs
   rw [if_pos rfl] at hg hbs
   refine iteT ?_
   refine ⟨_,rfl,_,rfl,pl,_,rfl,hg,?_⟩
   obtain ⟨x,hx,b,o,jj,ys,rfl,_,njA,hb,ho,hj,hJ⟩:=zbb S5.ba he
   have hzl:=Paired.length hTr
   have hbl:=zhn ps k0 e
   refine ⟨_,rfl,.inl ⟨rfl,_,SqL.of h5D⟩,_,rfl,_,rfl,_,rfl,_,rfl,_,_,_,_,rfl,rfl,SqL.of S5.at_,zaV hx,_,_,_,_,rfl,rfl,SqT.of hb,rfl,_,rfl,_,_,_,_,rfl,rfl,SqL.of ho,zg5 hT hR he key,(by show 3≤sizeLine; decide),fun t ht=>?_⟩
   have s6:=zak ht (.tup [.int (e : Int),.int ((zaq (zah ps rows e) key : Nat) : Int),.int ((ownB rows e key : Nat) : Int)])
   have S6:=S5.more AF s6
   have k06 : KpA Av mp H _:=k05.trans (.of s6)
   have h6t : upd H5 t (.tup [.int (e : Int),.int ((zaq (zah ps rows e) key : Nat) : Int),.int ((ownB rows e key : Nat) : Int)]) t = _:=zac
   have h6D:=s6 _ _ h5D
   have h6p:=s6 _ _ h5p
   have hTr6:=zd7 (fun b us h=>s6 b _ h) hTr
   have h6b:=s6 _ _ hb
   have h6j:=s6 _ _ hj
   have hJ6:=zay (fun _ _ h=>zbm.same s6 h) hJ
   generalize upd H5 t (.tup [.int (e : Int),.int ((zaq (zah ps rows e) key : Nat) : Int),.int ((ownB rows e key : Nat) : Int)]) = H6 at S6 k06 h6t h6D h6p hTr6 h6b h6j hJ6 ⊢
   refine ⟨_,_,_,rfl,rfl,h6D,zao (by omega),?_⟩
   obtain ⟨S7,k07⟩:=za2.put AF S S6 k06 hDn nfD h6D (fun _ z=>nomatch z) (fun _ z=>nomatch z) (.lst (zs ++ [.ref t]))
   have nD : ∀ {x : Addr} {us : List V},H6 x = some (.tup us)→x≠D:=fun {x us} h z=>by
    rw [z,h6D] at h
    cases h
   have hTr7 : Paired (zgd (upd H6 D (.lst (zs ++ [.ref t]))) ps rows key) (benL ps k0 (e + 1)) (zs ++ [.ref t]):=by
    rw [hbs]
    exact zcb (zd7 (fun b us h=>by rw [zaf (nD h)]; exact h) hTr6) ⟨t,rfl,by rw [zaf (nD h6t)]; exact h6t⟩
   have h7D : upd H6 D (.lst (zs ++ [.ref t])) D = some (.lst (zs ++ [.ref t])):=zac
   have h7p : upd H6 D (.lst (zs ++ [.ref t])) pl = some (.dK kvs):=by rw [zaf npD]; exact h6p
   generalize upd H6 D (.lst (zs ++ [.ref t])) = H7 at S7 k07 hTr7 h7D h7p ⊢
   clear hJ6 h6j h6b hTr6 h6p h6D h6t k06 S6 s6 ht hJ hj hb ho hx
   obtain ⟨x,hx,b,o,jj,ys,rfl,_,njA,hb,ho,hj,hJ⟩:=zbb S7.ba he
   have hyl:=Paired.length hJ
   have hcl:=zdJ ps e (ps.length + 1)
   refine ⟨_,rfl,_,rfl,_,_,_,_,rfl,rfl,SqL.of S7.at_,zaV hx,_,_,_,_,rfl,rfl,SqT.of hb,rfl,jj,rfl,⟨_,SqL.of hj⟩,?_⟩
   have npj : jj≠pl:=fun z=>by
    rw [z,h7p] at hj
    cases hj
   refine zdI (xs:=ys) (fun m σ H8=>∃ (x7 : Option V) (kvs : List (Key×V)) (L8 : List (Nat×Nat)),σ = [some (.ref br),some (.int k0),some (.ref f),some (.ref pl),some (.ref D),some (.int e),some (.int ((zaq (zah ps rows e) key : Nat) : Int)),x7]∧H8 pl = some (.dK kvs)∧(∀ j : Nat,valV kvs (.inl (j : Int)) = if (plcB ps k0 e j || decide (j∈(zaF ps e (ps.length + 1)).take m)) = true then some (.int ((zaq (zah ps rows j) key : Nat) : Int)) else none)∧kvs.length = ((List.range (ps.length + 1)).filter fun j=>plcB ps k0 e j || decide (j∈(zaF ps e (ps.length + 1)).take m)).length∧
    za2 Av mp R ps rows br xs (L ++ L8) H8∧KpA Av mp H H8∧L8.length + 2≤figN (zah ps rows k0).length + 2 * kvs.length∧∀ b o,b∉Av→b≠mp→b≠pl→H7 b = some o→H8 b = some o) ?_ ?_ ?_ ?_
   ·refine ⟨_,kvs,L5,rfl,h7p,fun j=>?_,?_,S7,k07,hL5,fun _ _ _ _ _ h=>h⟩
    ·rw [hval j]
     simp
    ·rw [hkl]
     simp
   ·rintro m σ H8 _ ⟨x7,kvs,L8,rfl,_,_,_,_,_,_,k78⟩
    exact SqL.of (k78 _ _ njA (S7.nm hj (fun _ z=>nomatch z)) npj hj)
   ·rintro m x σ H8 hxm ⟨x7,kvs,L8,rfl,h8p,hval8,hkl8,S8,k08,hL8,k78⟩
    obtain ⟨c,hc,a,sa,rfl,nsA,ha,hsa⟩:=zdV hJ hxm
    have hmi:=(yah.mp hc).1
    have hcm2:=(hcm c).mp (yaI hc)
    have hpar:=hcm2.2
    have hec:=(zaJ hT hpar).1
    have npt : ∀ {x : Addr} {us : List V},H7 x = some (.tup us)→x≠pl:=fun {x us} h z=>by
     rw [z,h7p] at h
     cases h
    have h8a:=k78 _ _ (S7.na ha (fun _ z=>nomatch z)) (S7.nm ha (fun _ z=>nomatch z)) (npt ha) ha
    have h8s:=k78 _ _ nsA (S7.nm hsa (fun _ z=>nomatch z)) (fun z=>by rw [z,h7p] at hsa; cases hsa) hsa
    have NO:=zlJ hT hR few he hpar (rows:=rows) key
    have hle:=zcf (zah ps rows e) key
    have hat : atI ((zeO (zah ps rows e) (zah ps rows c)).map nV) ((zaq (zah ps rows e) key : Nat) : Int) = some (nV (stN (zah ps rows c) ((zah ps rows e).take (zaq (zah ps rows e) key)))):=zaV (by
     rw [yaj]
     unfold zeO
     rw [yaj,ybi (by omega)]
     rfl)
    have hno : (plcB ps k0 e c || decide (c∈(zaF ps e (ps.length + 1)).take m)) = false:=by
     have h1 : plcB ps k0 e c = false:=by
      unfold plcB
      rw [hpar,yam (show ¬ c = k0 by omega)]
      show (isB ps k0 c && (false || decide (e < e))) = false
      rw [yam (yaT _),yby,ybs]
     have h2 : decide (c∈(zaF ps e (ps.length + 1)).take m) = false:=yam fun z=>by
      obtain ⟨i',hi',hi2⟩:=yaX z
      rw [yas] at hi'
      rw [List.getElem_take] at hi2
      have h3:=(yah.mp hc).2
      exact yaL.mp hcn i' m (by omega) hmi (by omega) (hi2.trans h3.symm)
     rw [h1,h2]
     rfl
    have hnone:=hval8 c
    rw [hno,if_neg (by decide)] at hnone
    refine ⟨_,rfl,_,rfl,_,_,_,_,rfl,rfl,SqT.of h8a,rfl,_,rfl,_,_,_,_,rfl,rfl,SqT.of h8a,rfl,_,rfl,_,_,_,_,rfl,rfl,SqL.of h8s,hat,_,rfl,br,f,xs,ps,rows,c,_,key,Av,fp,R,_,rfl,AF,S8,hT,hR,hcm2.1,(by have:=zhj _ _ (yaa (zah ps rows k0).length); have:=hFn _ hk0; have h9 : kvs.length≤ps.length + 1:=by { rw [hkl8]; exact yao (ya9 _ _) (by rw [yaG]; exact yaa _) }; rw [yai]; omega),NO.lo,NO.hi,fun H9 L9 S9 k9 hL9=>?_⟩
    have k09:=k08.trans k9
    have h9p:=k9 _ _ npA npm h8p
    have h9a:=S8.tup k9 h8a
    have hkl9 : kvs.length≤ps.length + 1:=by
     rw [hkl8]
     exact yao (ya9 _ _) (by rw [yaG]; exact yaa _)
    obtain ⟨S10,k010⟩:=za2.put AF S S9 k09 hpl nfp h9p (fun _ z=>nomatch z) (fun _ z=>nomatch z) (.dK (putK kvs (.inl (c : Int)) (.int ((zaq (zah ps rows c) key : Nat) : Int))))
    refine ⟨_,rfl,_,rfl,_,_,_,_,rfl,rfl,SqT.of h9a,rfl,pl,_,rfl,DPut.k (k:=.inl (c : Int)) h9p (zao (by omega)),?_⟩
    have htk : (zaF ps e (ps.length + 1)).take (m + 1) = (zaF ps e (ps.length + 1)).take m ++ [c]:=by
     rw [yaH hmi,(yah.mp hc).2]
    have hor : ∀ j,(plcB ps k0 e j || decide (j∈(zaF ps e (ps.length + 1)).take (m + 1))) = ((plcB ps k0 e j || decide (j∈(zaF ps e (ps.length + 1)).take m)) || decide (j = c)):=fun j=>by
     rw [htk,Bool.or_assoc]
     congr 1
     simp
    refine ⟨_,_,L8 ++ L9,rfl,zac,fun j=>?_,?_,by rw [← ybH]; exact S10,k010,?_,fun b o n1 n2 n3 h=>?_⟩
    ·rw [zmQ,hor j]
     by_cases z : j = c
     ·subst z
      rw [if_pos rfl,yan rfl,Bool.or_true,if_pos rfl]
     ·rw [if_neg (fun y=>z (by have:=Sum.inl.inj y; omega)),hval8 j,yam z,yby]
    ·rw [zcK _ hnone,yai,yaV,hkl8]
     have e2 : ((List.range (ps.length + 1)).filter fun j=>plcB ps k0 e j || decide (j∈(zaF ps e (ps.length + 1)).take (m + 1))) = (List.range (ps.length + 1)).filter fun j=>(fun j=>plcB ps k0 e j || decide (j∈(zaF ps e (ps.length + 1)).take m)) j || decide (j = c):=yb3 fun j _=>hor j
     rw [e2,zhh (P:=fun j=>plcB ps k0 e j || decide (j∈(zaF ps e (ps.length + 1)).take m)) hno ycm (yaQ.mpr hcm2.1)]
    ·rw [zcK _ hnone,yai,yai,yaV]
     omega
    ·rw [zaf n3]
     exact k9 _ _ n1 n2 (k78 _ _ n1 n2 n3 h)
   ·rintro σ H8 ⟨x7,kvs,L8,rfl,h8p,hval8,hkl8,S8,k08,hL8,k78⟩
    rw [yar (by omega)] at hkl8
    refine ⟨_,_,_,kvs,_,L8,rfl,h8p,fun j=>?_,?_,k78 _ _ nDA nDm (Ne.symm npD) h7D,?_,S8,k08,hL8⟩
    ·rw [hval8 j,yar (by omega),hsucc j,hB,Bool.true_and]
    ·rw [hkl8]
     congr 1
     exact yb3 fun j _=>by rw [hsucc j,hB,Bool.true_and]
    ·exact zd7 (fun b us h=>k78 _ _ (S7.na h (fun _ z=>nomatch z)) (S7.nm h (fun _ z=>nomatch z)) (fun z=>by rw [z,h7p] at h; cases h) h) hTr7
 rintro σ H5 ⟨x5,x6,x7,kvs,zs,L5,rfl,h5p,hval,hkl,h5D,hTr,S5,k05,hL5⟩
 have en2 : k0 + (ps.length + 1 - k0) = ps.length + 1:=by omega
 rw [en2] at hTr hkl
 refine ⟨_,rfl,q D zs H5 L5 S5 k05 hDn h5D hTr ?_⟩
 have hle : ((List.range (ps.length + 1)).filter (plcB ps k0 (ps.length + 1))).length≤(benL ps k0 (ps.length + 1)).length:=by
  unfold benL
  rw [← List.countP_eq_length_filter,← List.countP_eq_length_filter]
  refine List.countP_mono_left fun j _ hj=>?_
  unfold plcB at hj
  exact (Bool.and_eq_true_iff.mp hj).1
 omega
def zio (K : Frag) : Sp:=fun vs H Q _=>∃ (ad pf : Addr) (zs : List V) (qs : List Addr) (ps : List Nat) (rows : List (List Int)) (key : Int) (kn i : Nat),vs = [.ref ad,.ref pf,.int key,.int kn,.int i]∧H ad = some (.lst zs)∧zs.length≤9000∧H pf = some (.lst (qs.map V.ref))∧zau K H ps rows (List.range (ps.length + 1)) qs∧kn < ps.length + 1∧i < (zah ps rows kn).length∧ad≠pf∧ad∉qs∧
 ∀ t,H t = none→Q (.bl (decide (((zah ps rows kn).getD i (0,0)).1 < key))) (upd (upd H t (.tup [nV kn,nV i])) ad (.lst (zs ++ [.ref t])))
theorem znc (T : Txt K mg) (D_l_asked : DF K mg "_law_asked" zeh zdy) : FC P w K mg base 1 "_law_asked" zdy (zio K):=by
 refine D_l_asked.ok sc_l_asked (fun vs H Q E h=>?_) (fun f cdv A outer s H vs Q E hr h=>?_)
 ·obtain ⟨ad,pf,zs,qs,ps,rows,key,kn,i,rfl,_⟩:=h
  rfl
 obtain ⟨ad,pf,zs,qs,ps,rows,key,kn,i,rfl,ha,hz,hp,hF,hkn,hi,n1,n2,q⟩:=h
 refine ⟨_,(zae (zbe (zc7 F.plainAttrs_list F.slot_list_append F.type_list_append zaL (pv 0) (zaa (zbz (zaa (pv 3) (zaa (pv 4) zad))) zad)))
   (zai (zaz (zpQ (zm6 zqO zfM zag (pv 4) (zas zam rfl T.m_len boot_len (zaa (zaC zaw (pv 1) (pv 3) (fun _ _=>rfl)) zad))) (zpN (zls zfM (zaC zbc (zaC zaw (zaC zaw (pv 1) (pv 3) (fun _ _=>rfl)) (pv 4) (fun _ _=>rfl)) zag (fun _ _=>rfl)) (pv 2) (zaN _))))))),?_⟩
 refine ⟨_,rfl,.inl ⟨rfl,_,SqL.of ha⟩,_,rfl,_,rfl,(by show 2≤sizeLine; decide),fun t ht=>?_⟩
 have st:=zak ht (.tup [nV kn,nV i])
 have q1:=q t ht
 have hat:=st _ _ ha
 refine ⟨_,_,_,rfl,rfl,hat,ya5 hz (by decide),?_⟩
 obtain ⟨qk,hqk,wk,hwk,hak⟩:=zbb hF hkn
 have hge : (zah ps rows kn)[i]? = some ((zah ps rows kn).getD i (0,0)):=by
  rw [yad,yac hi]
  rfl
 obtain ⟨v,hv,bb,x1,x2,rfl,hb,e1,e2⟩ : ∃ v,wk[i]? = some v∧hasP K H ((zah ps rows kn).getD i (0,0)) v:=zeT hak hge
 have e1' : x1 = .int ((zah ps rows kn).getD i (0,0)).1:=e1
 subst e1'
 have hwl:=hak.length
 have kk : ∀ {b : Addr} {o : HO},b≠ad→H b = some o→upd (upd H t (.tup [nV kn,nV i])) ad (.lst (zs ++ [.ref t])) b = some o:=fun n e=>by
  rw [zaf n]
  exact st _ _ e
 have hp':=kk (Ne.symm n1) hp
 have hw':=kk (fun z=>n2 (z ▸ yaI hqk)) hwk
 have hb':=kk (fun z=>by rw [z,ha] at hb; cases hb) hb
 refine ⟨_,rfl,_,_,rfl,rfl,_,rfl,?_⟩
 refine zqi (by omega) ?_
 refine ⟨_,rfl,_,rfl,_,_,_,_,rfl,rfl,SqL.of hp',zaV (v:=.ref qk) (by rw [yaj,hqk]; rfl),_,_,rfl,.inl (SqL.of hw'),_,_,rfl,rfl,_,rfl,?_⟩
 refine zqi (by omega) ?_
 refine ⟨_,rfl,_,rfl,_,_,_,_,rfl,rfl,SqL.of hp',zaV (v:=.ref qk) (by rw [yaj,hqk]; rfl),_,rfl,_,_,_,_,rfl,rfl,SqL.of hw',zaV hv,_,_,_,_,rfl,rfl,SqT.of hb',rfl,_,rfl,_,_,rfl,rfl,?_⟩
 exact q1
def zpC (K : Frag) : Sp:=fun vs H Q _=>∃ n : Nat,vs = [.int n]∧Q (.int (figN n : Nat)) H
theorem zp6 (T : Txt K mg) (D_l_figures : DF K mg "_law_figures" zcG zco) : FC P w K mg base 1 "_law_figures" zco (zpC K):=by
 refine D_l_figures.ok sc_l_figures (fun vs H Q E h=>?_) (fun f cdv A outer s H vs Q E hr h=>?_)
 ·obtain ⟨n,rfl,_⟩:=h
  rfl
 obtain ⟨n,rfl,q⟩:=h
 refine ⟨_,(zae (zap (i:=1) sc_l_figures.nd rfl (Or.inl rfl) zag)
   (zae (zem PassesOwn.never (zaB zlv (pv 0) zag (zaN _)) (zae (zap (i:=0) sc_l_figures.nd rfl (Or.inl rfl) (zar zeU (pv 0) zag))
   (zai (zap (i:=1) sc_l_figures.nd rfl (Or.inl rfl) (zar zaS (pv 1) zag)))))
   (zai (zaz (pv 1))))),?_⟩
 refine zfE (fun σ H'=>∃ m c : Nat,σ = [some (.int m),some (.int c)]∧c + figN m = figN n∧H = H') (fun σ H'=>σ = [some (.int 0),some (.int (figN n : Nat))]∧H = H') (fun σ _=>match σ with | [some (.int m),_]=>m.toNat | _=>0) ?_ ?_ ?_ ?_
 ·exact ⟨n,0,rfl,ybM _,rfl⟩
 ·rintro σ H' ⟨m,c,rfl,e,rfl⟩
  refine ⟨_,rfl,_,_,rfl,rfl,_,rfl,?_⟩
  refine ite2 (fun z=>?_) (fun z=>?_)
  ·have z : (m : Int) > 0:=yaC z
   refine ⟨_,rfl,_,_,rfl,rfl,⟨by decide,by decide⟩,?_⟩
   refine ⟨_,rfl,_,_,rfl,rfl,⟨m / 2,c + 1,?_,?_,rfl⟩,?_⟩
   ·show [some (V.int ((m : Int) / 2)),some (V.int ((c : Int) + 1))] = _
    rw [show ((m / 2 : Nat) : Int) = (m : Int) / 2 by omega,show ((c + 1 : Nat) : Int) = (c : Int) + 1 by omega]
   ·rw [zeF (show m≠0 by omega)] at e
    omega
   ·show ((m : Int) / 2).toNat < (m : Int).toNat
    omega
  ·have z : ¬ (m : Int) > 0:=ybA (ybz.mpr z)
   have m0 : m = 0:=by omega
   subst m0
   rw [zeE,ybq] at e
   rw [e]
   exact ⟨rfl,rfl⟩
 ·intro σ H Q Q' m h
  obtain ⟨y1,e1,i2,j2,f2,g2,b2,e5,q⟩:=h
  exact ⟨y1,e1,i2,j2,f2,g2,b2,e5,m _ _ q⟩
 rintro σ H' ⟨rfl,rfl⟩
 exact ⟨_,rfl,q⟩
def Kp0 (H H' : Hp) : Prop:=∀ b o,(∀ tab,o≠.tbl tab)→H b = some o→H' b = some o
theorem zjz {K : Frag} {H H' : Hp} (k : Kp0 H H') : ∀ {es : List (Int×Int)} {ws : List V},zal K H es ws→zal K H' es ws
 | _,_,.nil=>.nil
 | _,_,.cons h t=>by
  refine .cons ?_ (zjz k t)
  obtain ⟨a,x1,x2,rfl,hT,e1,e2⟩:=(show hasP K H _ _ from h)
  exact ⟨a,x1,x2,rfl,k _ _ (fun _ z=>nomatch z) hT,e1,e2⟩
theorem zct {K : Frag} {H H' : Hp} {ps : List Nat} {rows : List (List Int)} {js : List Nat} {qs : List Addr} (k : Kp0 H H') (h : zau K H ps rows js qs) : zau K H' ps rows js qs:=zay (fun j q ⟨ws,h1,h2⟩=>⟨ws,k _ _ (fun _ z=>by cases z) h1,zjz k h2⟩) h
theorem zqu {H H' : Hp} {ps : List Nat} {rows : List (List Int)} {js : List Nat} {xs : List V} (k : Kp0 H H') (h : Paired (BrAt [] H ps rows) js xs) : Paired (BrAt [] H' ps rows) js xs:=zay (fun j x ⟨b,o,j',ys,h1,h2,h3,h4,h5,h6,h7⟩=>
 ⟨b,o,j',ys,h1,h2,h3,k _ _ (fun _ z=>by cases z) h4,k _ _ (fun _ z=>by cases z) h5,k _ _ (fun _ z=>by cases z) h6,zay (fun c y ⟨a,s,g1,g2,g3,g4⟩=>⟨a,s,g1,g2,k _ _ (fun _ z=>by cases z) g3,k _ _ (fun _ z=>by cases z) g4⟩) h7⟩) h
theorem Kp0.trans {H H1 H2 : Hp} (a : Kp0 H H1) (b : Kp0 H1 H2) : Kp0 H H2:=fun c o n h=>b c o n (a c o n h)
theorem Kp0.of {H H1 : Hp} (a : Same H H1) : Kp0 H H1:=fun c o _ h=>a c o h
theorem Kp0.tup {H H1 : Hp} (a : Kp0 H H1) {b : Addr} {us : List V} (h : H b = some (.tup us)) : H1 b = some (.tup us):=a _ _ (fun _ z=>nomatch z) h
theorem Kp0.lst {H H1 : Hp} (a : Kp0 H H1) {b : Addr} {us : List V} (h : H b = some (.lst us)) : H1 b = some (.lst us):=a _ _ (fun _ z=>nomatch z) h
theorem zgW {H H' : Hp} (e : Kp0 H H') : ∀ {as : List Addr} {rows : List (List Int)},zaQ H as rows→zaQ H' as rows
 | _,_,.nil=>.nil
 | _,_,.cons h t=>.cons (e.tup h) (zgW e t)
theorem znS {H H' : Hp} {wa : Addr} {ps w : List Nat} (e : Kp0 H H') (h : zmL H wa ps w) : zmL H' wa ps w:=⟨e.lst h.at_,h.len,h.ne,h.ch,h.kn⟩
theorem zm0 {rows : List (List Int)} {r : List Int} (h : r∈rows) : r.length≤zbW rows:=by
 unfold zbW
 induction rows with
 | nil=>cases h
 | cons a l ih=>
  rw [yax,yaS]
  rcases yal.mp h with z | z
  ·rw [z]
   omega
  ·have:=ih z
   omega
theorem zpE {rows : List (List Int)} {k : Nat} (h : k < rows.length) : za9 rows k∈rows:=by
 unfold za9
 rw [yad,yac h]
 exact yaB h
theorem zh1 {K : Frag} {H H' : Hp} {ps : List Nat} {rows : List (List Int)} {ad : Addr} : ∀ {js : List Nat} {qs : List Addr},ad∉qs→(∀ q∈qs,∀ ws,H q = some (.lst ws)→H' q = some (.lst ws))→(∀ b us,H b = some (.tup us)→H' b = some (.tup us))→zau K H ps rows js qs→zau K H' ps rows js qs
 | _,_,_,_,_,.nil=>.nil
 | _,_,hn,k1,k2,.cons ⟨ws,h1,h2⟩ t=>.cons ⟨ws,k1 _ yav _ h1,zc8 k2 h2⟩ (zh1 (fun z=>hn (yay _ z)) (fun q hq=>k1 q (yay _ hq)) k2 t)
theorem zhM {P : Program} {w : World} {K : Frag} {mg : Str→Option Value} {bs : Heap} {g ad pf mF c' : Addr} {q : Str} {pn : List Str} {tb : TE} {H4 : Hp} {qs : List Addr} {ps : List Nat} {rows : List (List Int)} {key : Int}
  (hV : FV P w K mg bs 2 g pn (zlb 2 tb [.ref ad,.ref pf,.int key] c' q)) (hC : zeK H4 c' q) (had : H4 ad = some (.lst [])) (hpf : H4 pf = some (.lst (qs.map V.ref))) (hF : zau K H4 ps rows (List.range (ps.length + 1)) qs) (n1 : ad≠pf) (n2 : ad∉qs) (ht : ∃ tab,H4 mF = some (.tbl tab))
  (htb : ∀ (kn i : Nat) (H : Hp) (Q : VK),zio K [.ref ad,.ref pf,.int key,.int kn,.int i] H Q E0→tb [some (.int kn),some (.int i),some (.ref ad),some (.ref pf),some (.int key)] H Q) :
  AskF P w K mg bs g [ad] mF (fun b=>b≠mF∧H4 b≠none) (fun L H'=>(∃ zs,H' ad = some (.lst zs)∧zs.length = L.length)∧∀ b o,b≠mF→b≠ad→H4 b = some o→H' b = some o) ps rows key:=by
 have nm : ∀ {x : Addr} {o : HO},H4 x = some o→(∀ tab,o≠.tbl tab)→x≠mF:=fun {x o} e n z=>by
  obtain ⟨tab,e2⟩:=ht
  rw [← z,e] at e2
  exact n _ (yaf e2)
 have nad:=nm had (fun _ z=>nomatch z)
 refine ⟨fun L Ha Hb ⟨⟨zs,h1,h2⟩,hk⟩ k=>⟨⟨zs,k _ _ ⟨nad,by rw [had]; exact fun z=>nomatch z⟩ h1,h2⟩,fun b o m1 m2 e=>k b o ⟨m1,by rw [e]; exact fun z=>nomatch z⟩ (hk b o m1 m2 e)⟩,fun L Ha b ⟨⟨zs,h1,_⟩,hk⟩ hb=>?_,fun L Ha ⟨⟨zs,h1,_⟩,_⟩ a ha=>⟨zs,by rw [yap.mp ha]; exact h1⟩,fun z=>z.1 rfl,pn,_,hV,fun kn i L Ha Q hkn hi hL ⟨⟨zs,h1,h2⟩,hk⟩ hQ=>?_⟩
 ·by_cases c : b = ad
  ·rw [c,h1]
   exact fun z=>nomatch z
  ·cases e : H4 b with
   | none=>exact absurd e hb.2
   | some o=>
    rw [hk b o hb.1 c e]
    exact fun z=>nomatch z
 have nc : c'≠ad:=fun z=>by
  have hC' : H4 c' = _:=hC
  rw [z,had] at hC'
  cases hC'
 refine ⟨rfl,hk _ _ (nm hC (fun _ z=>nomatch z)) nc hC,htb kn i Ha Q ?_⟩
 have hp':=hk _ _ (nm hpf (fun _ z=>nomatch z)) (Ne.symm n1) hpf
 have hF' : zau K Ha ps rows (List.range (ps.length + 1)) qs:=zh1 n2 (fun q hq ws e=>hk _ _ (nm e (fun _ z=>nomatch z)) (fun z=>n2 (z ▸ hq)) e) (fun b us e=>hk _ _ (nm e (fun _ z=>nomatch z)) (fun z=>by rw [z,had] at e; cases e) e) hF
 refine ⟨ad,pf,zs,qs,ps,rows,key,kn,i,rfl,h1,by omega,hp',hF',hkn,hi,n1,n2,fun t ht=>hQ _ ⟨⟨_,zac,by rw [yai,yai,h2]; rfl⟩,fun b o m1 m2 e=>?_⟩ fun b o m e=>?_⟩
 ·rw [zaf m2]
  exact zak ht _ _ _ (hk b o m1 m2 e)
 ·rw [zaf (fun z=>m (by rw [z]; exact yap.mpr rfl))]
  exact zak ht _ _ _ e
theorem zdR {H : Hp} {Pt : Addr} {pos : Pos} {q : Str} (x : zaK H Pt pos q) : ∃ tab,H Pt = some (.tbl tab):=by
 obtain ⟨tab,e,_⟩:=x.ex
 exact ⟨tab,e⟩
theorem zqv {H H' : Hp} {ad : Addr} {ps : List Nat} {rows : List (List Int)} {js : List Nat} {xs : List V} (hn : H ad = none) (k : Kp0 H H') (h : Paired (BrAt [] H ps rows) js xs) : Paired (BrAt [ad] H' ps rows) js xs:=by
 have na : ∀ {b : Addr} {o : HO},H b = some o→b∉[ad]:=fun {b o} e z=>by
  rw [yap.mp z,hn] at e
  cases e
 exact zay (fun j x ⟨b,o,j',ys,h1,_,_,h4,h5,h6,h7⟩=>⟨b,o,j',ys,h1,na h5,na h6,k.tup h4,k.lst h5,k.lst h6,zay (fun c y ⟨a,s,g1,_,g3,g4⟩=>⟨a,s,g1,na g4,k.tup g3,k.lst g4⟩) h7⟩) h
theorem zkY {H H' : Hp} {Pt mF ad : Addr} {pos : Pos} {q : Str} {zs : List V} (x : zaK H Pt pos q) (n : Pt≠mF) (ha : H ad = some (.lst zs)) (hm : ∃ tab,H mF = some (.tbl tab)) (k : KpA [ad] mF H H') : zaK H' Pt pos q:=by
 obtain ⟨tab,h1,h2,h3⟩:=x.ex
 have na : ∀ {b : Addr} {o : HO},H b = some o→(∀ zs,o≠.lst zs)→b∉[ad]:=fun {b o} e m z=>by
  rw [yap.mp z,ha] at e
  exact m _ (yaf e).symm
 refine ⟨tab,k _ _ (na h1 (fun _ z=>nomatch z)) n h1,h2,?_⟩
 rcases h3 with h3 | ⟨c,h3,h4⟩
 ·exact .inl h3
 ·refine .inr ⟨c,h3,k _ _ (na h4 (fun _ z=>nomatch z)) (fun z=>?_) h4⟩
  obtain ⟨t2,e2⟩:=hm
  rw [← z,show H c = _ from h4] at e2
  cases e2
def zjh (K : Frag) : Sp:=fun vs H Q _=>∃ (pf rs : Addr) (qs as : List Addr) (ps : List Nat) (rows : List (List Int)) (key : Int) (kn : Nat),vs = [.ref pf,.ref rs,.int kn,.int key]∧H pf = some (.lst (qs.map V.ref))∧zau K H ps rows (List.range (ps.length + 1)) qs∧H rs = some (.tup (as.map V.ref))∧zaQ H as rows∧rows.length = ps.length + 1∧kn < ps.length + 1∧(zah ps rows kn).length≤900∧(za9 rows kn).length≤900∧
 ∀ (D : Addr) (H' : Hp),H D = none→Same H H'→H' D = some (.tup [.int ((zaq (zah ps rows kn) key : Nat) : Int),.int ((ownB rows kn key : Nat) : Int)])→Q (.ref D) H'
theorem zlA (T : Txt K mg) (D_l_placed : DF K mg "_law_placed" zdo zcN) : FC P w K mg base 1 "_law_placed" zcN (zjh K):=by
 refine D_l_placed.ok sc_l_placed (fun vs H Q E h=>?_) (fun f cdv A outer s H vs Q E hr h=>?_)
 ·obtain ⟨pf,rs,qs,as,ps,rows,key,kn,rfl,_⟩:=h
  rfl
 obtain ⟨pf,rs,qs,as,ps,rows,key,kn,rfl,hpf,hF,hrs,hA,hlen,hkn,hz1,hz2,q⟩:=h
 refine ⟨_,(zae (zap (i:=4) sc_l_placed.nd rfl (Or.inl rfl) (zas zam rfl T.m_len boot_len (zaa (zbQ (N:=["_law_entry","_law_key_here"]) (own:=1) (cap:=[3]) rfl (zby (zaC zaw (pv 0) (pv 2) (fun _ _=>rfl))) ⟨rfl,rfl,rfl,rfl,rfl,rfl⟩ (fun _ _ _ _ _=>(zan (i:=0) (show List.Nodup (["_law_entry","_law_key_here"] : List Str) by decide +kernel) rfl (Or.inl rfl))) (fun _ _ _ _ _=>(zc1 (zaB zfM (zaC (ziI (K:=K)) (pv 0) zag (fun _ _=>rfl)) (pv 1) (zaN _)))) (fun _ _ _ _ _=>(pv 0))) zad)))
   (zai (zaz (zbz (zaa (pv 4) (zaa (zas zam rfl T.m_len boot_len (zaa (zbQ (N:=["_law_one","_law_key_here"]) (own:=1) (cap:=[3]) rfl (zc2 (zaC zbc (pv 1) (pv 2) (fun _ _=>rfl))) ⟨rfl,rfl,rfl,rfl,rfl,rfl⟩ (fun _ _ _ _ _=>(zan (i:=0) (show List.Nodup (["_law_one","_law_key_here"] : List Str) by decide +kernel) rfl (Or.inl rfl))) (fun _ _ _ _ _=>(zc1 (zaB zfM (pv 0) (pv 1) (zaN _)))) (fun _ _ _ _ _=>(pv 0))) zad)) zad)))))),?_⟩
 obtain ⟨qk,hqk,wk,hwk,hak⟩:=zbb hF hkn
 have hwl:=hak.length
 refine ⟨_,rfl,_,rfl,_,_,_,_,rfl,rfl,SqL.of hpf,zaV (v:=.ref qk) (by rw [yaj,hqk]; rfl),qk,rfl,⟨_,SqL.of hwk⟩,fun D hD=>?_⟩
 refine zbO (xs:=wk) (fun j σ H5=>∃ (x0 : Option V) (us : List V),σ = [x0,some (.int key)]∧H5 D = some (.lst us)∧us.length = (((zah ps rows kn).take j).filter fun e=>decide (e.1 < key)).length∧But D H H5) ?_ ?_ ?_ ?_
 ·exact ⟨_,[],rfl,zac,rfl,fun b o n e=>by rw [zaf n]; exact e⟩
 ·rintro j σ H5 _ ⟨x0,us,rfl,_,_,k5⟩
  exact k5.sq (SqL.of hwk) hD
 ·rintro j m x σ H5 hx hm ⟨x0,us,rfl,h5,hu,k5⟩
  have hj:=(yah.mp hx).1
  obtain ⟨e,he,bb,x1,x2,rfl,hb,e1,e2⟩ : ∃ e,(zah ps rows kn)[j]? = some e∧hasP K H e x:=zdV hak hx
  have e1' : x1 = .int e.1:=e1
  subst e1'
  have htk : (zah ps rows kn).take (j + 1) = (zah ps rows kn).take j ++ [e]:=by rw [yaH (by omega),(yah.mp he).2]
  have hsl : (((zah ps rows kn).take j).filter fun e=>decide (e.1 < key)).length≤j:=yao (ya9 _ _) (by rw [yas]; omega)
  have h5b:=k5 _ _ (zab hb hD) hb
  refine ⟨_,rfl,_,_,_,_,rfl,rfl,SqT.of h5b,rfl,_,rfl,_,_,rfl,rfl,_,rfl,?_⟩
  refine ite2 (fun c=>?_) (fun c=>?_)
  ·refine ⟨_,rfl,_,h5,zao (by omega),m - 1,by omega,by omega,_,_,rfl,zac,?_,fun b o n e=>by rw [zaf n]; exact k5 b o n e⟩
   rw [htk,yaP,yaO (p:=fun e : Int×Int=>decide (e.1 < key)) c,yai,yai,hu]
   rfl
  ·refine ⟨m - 1,by omega,by omega,_,_,rfl,h5,?_,k5⟩
   rw [htk,yaP,yaZ (p:=fun e : Int×Int=>decide (e.1 < key)) c,List.filter_nil,yaD]
   exact hu
 rintro σ H5 ⟨x0,us,rfl,h5,hu,k5⟩
 rw [← hwl,yar (yaa _)] at hu
 have s5 : Same H H5:=fun b o e=>k5 b o (zab e hD) e
 refine ⟨D,_,rfl,.inl (SqL.of h5),?_⟩
 obtain ⟨b,hb1,hb2⟩:=hA.get (k:=kn) (by omega)
 have hb5:=s5 _ _ hb2
 refine ⟨_,rfl,_,rfl,_,rfl,_,_,_,_,rfl,rfl,SqT.of (s5 _ _ hrs),zdQ hb1,b,rfl,⟨_,SqT.of hb5⟩,fun D2 hD2=>?_⟩
 refine zeG (xs:=(za9 rows kn).map V.int) (fun j σ H6=>∃ (x0 : Option V),σ = [x0,some (.int key)]∧H6 D2 = some (.lst ((((za9 rows kn).take j).filter fun x=>decide (x < key)).map V.int))∧But D2 H5 H6) ?_ ?_ ?_ ?_
 ·exact ⟨_,rfl,zac,fun b o n e=>by rw [zaf n]; exact e⟩
 ·rintro j σ H6 _ ⟨x0,rfl,_,k6⟩
  exact SqT.of (k6 _ _ (zab hb5 hD2) hb5)
 ·rintro j m x σ H6 hx hm ⟨x0,rfl,h6,k6⟩
  rw [yaj] at hx
  obtain ⟨y,hy,rfl⟩:=ya4.mp hx
  have hj:=(yah.mp hy).1
  rw [yab] at hm
  have htk : (za9 rows kn).take (j + 1) = (za9 rows kn).take j ++ [y]:=by rw [yaH hj,(yah.mp hy).2]
  have hsl : (((za9 rows kn).take j).filter fun x=>decide (x < key)).length≤j:=yao (ya9 _ _) (by rw [yas]; omega)
  refine ⟨_,rfl,_,rfl,_,_,rfl,rfl,_,rfl,?_⟩
  refine ite2 (fun c=>?_) (fun c=>?_)
  ·refine ⟨_,rfl,_,h6,zao (by rw [yab]; omega),m - 1,by omega,by rw [yab]; omega,_,rfl,?_,fun b o n e=>by rw [zaf n]; exact k6 b o n e⟩
   rw [zac,htk,yaP,yaO (p:=fun x : Int=>decide (x < key)) c,yaq]
   rfl
  ·refine ⟨m - 1,by omega,by rw [yab]; omega,_,rfl,?_,k6⟩
   rw [htk,yaP,yaZ (p:=fun x : Int=>decide (x < key)) c,List.filter_nil,yaD]
   exact h6
 rintro σ H6 ⟨y0,rfl,h6,k6⟩
 rw [yab,yar (yaa _)] at h6
 have s6 : Same H5 H6:=fun b o e=>k6 b o (zab e hD2) e
 refine ⟨D2,_,rfl,.inl (SqL.of h6),(by show 2≤sizeLine; decide),fun D3 hD3=>?_⟩
 have s7:=(s5.trans s6).trans (zak hD3 (.tup [.int (us.length : Nat),.int (((((za9 rows kn).filter fun x=>decide (x < key)).map V.int).length : Nat) : Int)]))
 refine q D3 _ ?_ s7 ?_
 ·cases e : H D3 with
  | none=>rfl
  | some o=>
   have:=(s5.trans s6) _ _ e
   rw [hD3] at this
   cases this
 ·rw [zac,hu,yab]
  rfl
abbrev znu : Str:=(envOfC ("_law_found" : Str) (zaj zb8) 0 0 .none).qual ++ "<lambda>"
abbrev zlY : Pos:=⟨255,59,255,173⟩
abbrev zlX : Pos:=⟨256,49,256,157⟩
structure TabB (mF mB : Addr) (H : Hp) : Prop where
 f : zaK H mF zfR zlW
 a : zaK H mB zlY znu
 b : zaK H mB zlX znu
 n : mF≠mB
theorem TabB.ext {mF mB : Addr} {H H' : Hp} (x : TabB mF mB H) (e : Ext H H') : TabB mF mB H':=⟨x.f.ext e,x.a.ext e,x.b.ext e,x.n⟩
theorem TabB.gB {mF mB : Addr} {H H' : Hp} (x : TabB mF mB H) (g : Gro mB H H') (a : zaK H' mB zlY znu) (b : zaK H' mB zlX znu) : TabB mF mB H'∧Kp0 H H':=by
 refine ⟨⟨x.f.gro g x.n (zdR x.a),a,b,x.n⟩,fun c o n e=>g _ _ (fun z=>?_) e⟩
 obtain ⟨tab,e2⟩:=zdR x.a
 rw [← z,e] at e2
 exact n _ (yaf e2)
theorem TabB.kpa {mF mB ad : Addr} {H H' : Hp} {zs : List V} (x : TabB mF mB H) (ha : H ad = some (.lst zs)) (k : KpA [ad] mF H H') (t : zaK H' mF zfR zlW) : TabB mF mB H':=⟨t,zkY x.a (Ne.symm x.n) ha (zdR x.f) k,zkY x.b (Ne.symm x.n) ha (zdR x.f) k,x.n⟩
theorem TabB.kp {mF mB ad : Addr} {H H' : Hp} (x : TabB mF mB H) (k : KpA [ad] mF H H') {b : Addr} {o : HO} (na : b≠ad) (n : ∀ tab,o≠.tbl tab) (e : H b = some o) : H' b = some o:=k _ _ (fun z=>na (yap.mp z)) (fun z=>by
 obtain ⟨tab,e2⟩:=zdR x.f
 rw [← z,e] at e2
 exact n _ (yaf e2)) e
theorem zna {X : Cx} {K : Frag} (h : X.K = K:=by rfl) : OpR X (binaryOp .Add) (zpI K):=by
 subst h
 exact zoJ
def zn2 (K : Frag) (mF mB : Addr) : Sp:=fun vs H Q _=>∃ (br t pf rs wa : Addr) (key : Int) (ps : List Nat) (rows : List (List Int)) (as qs : List Addr) (xs : List V) (wy : List Nat),vs = [.ref br,.ref t,.ref pf,.ref rs,.ref wa,.int key]∧H t = some (.tup (zcg ps))∧H rs = some (.tup (as.map V.ref))∧zaQ H as rows∧rows.length = ps.length + 1∧zax ps∧zaP rows∧ps.length≤40∧zbW rows≤400∧H br = some (.lst xs)∧Paired (BrAt [] H ps rows) (List.range (ps.length + 1)) xs∧H pf = some (.lst (qs.map V.ref))∧zau K H ps rows (List.range (ps.length + 1)) qs∧zmL H wa ps wy∧wy.getD 0 0 = 0∧TabB mF mB H∧
 ∀ H',Kp0 H H'→TabB mF mB H'→Q (.bl true) H'
set_option maxHeartbeats 1000000 in
theorem zoP (T : Txt K mg) {mc mp mF : Addr} (D_l_found : DFT K mg "_law_found" zb8 zdw mc mp) (hBM : BMAt mg base) (F_l_asked : FC P w K mg base 1 "_law_asked" zdy (zio K)) (F_l_figures : FC P w K mg base 1 "_law_figures" zco (zpC K)) (F_l_placed : FC P w K mg base 1 "_law_placed" zcN (zjh K)) (F_search : ∀ b,Sub K mg base b→FC P w K mg b 6 "search" zeo (zjg P w K mg b mF)) (F_search_beneath : ∀ b,Sub K mg base b→FC P w K mg b 6 "search_beneath" zbi (zld P w K mg b mF)) : FC P w K mg base 7 "_law_found" zdw (zn2 K mF mp):=by
 refine D_l_found.ok sc_l_found (fun vs H Q E h=>?_) (fun f A outer s H vs Q E hr h=>?_)
 ·obtain ⟨br,t,pf,rs,wa,key,ps,rows,as,qs,xs,wy,rfl,_⟩:=h
  rfl
 obtain ⟨br,t,pf,rs,wa,key,ps,rows,as,qs,xs,wy,rfl,htr,hrs,hA,hlen,hT,hR,hfew,hkeys,hbr,hB,hpf,hF,W,hw0,TT,q⟩:=h
 refine ⟨_,(zae (zap (i:=6) sc_l_found.nd rfl (Or.inr rfl) (zbF zad))
   (zae (zap (i:=7) sc_l_found.nd rfl (Or.inr rfl) (zbF zad))
   (zae (zap (i:=8) sc_l_found.nd rfl (Or.inl rfl) (zfL (kf:=1) F_search hr (pv 0) (zbA zdi rfl T.m_list boot_list (zaa (pv 4) zad)) (zlT (osc:=zaj zb8) (N:=["_law_bridged","_law_tree_here","_law_fulls_here","_law_rows_here","_law_way","_law_key_here","_law_asked_here","_law_more","_law_found_here","_law_whole"]) (ps:=["_law_knot","_law_number"]) (caps:=["_law_asked_here","_law_fulls_here","_law_key_here"]) (cap:=[6,2,5]) ⟨rfl,rfl,rfl,by decide +kernel,by decide +kernel,by decide +kernel,by decide +kernel⟩ (by decide +kernel) (by decide +kernel) rfl rfl rfl rfl (fun _ _ _ _ us hl=>match us,hl with | [_,_],_=>rfl) (fun _=>rfl)) rfl D_l_found.hd hBM (fun b _ _ _ _ _ _ _ S hr=>(zaI (F_l_asked.lift S) hr (zaa (pv 2) (zaa (pv 3) (zaa (pv 4) (zaa (pv 0) (zaa (pv 1) zad)))))))))
   (zae (zap (i:=9) sc_l_found.nd rfl (Or.inl rfl) (zfL (kf:=1) F_search_beneath hr (pv 0) zag (zlT (osc:=zaj zb8) (N:=["_law_bridged","_law_tree_here","_law_fulls_here","_law_rows_here","_law_way","_law_key_here","_law_asked_here","_law_more","_law_found_here","_law_whole"]) (ps:=["_law_knot","_law_number"]) (caps:=["_law_more","_law_fulls_here","_law_key_here"]) (cap:=[7,2,5]) ⟨rfl,rfl,rfl,by decide +kernel,by decide +kernel,by decide +kernel,by decide +kernel⟩ (by decide +kernel) (by decide +kernel) rfl rfl rfl rfl (fun _ _ _ _ us hl=>match us,hl with | [_,_],_=>rfl) (fun _=>rfl)) rfl D_l_found.hd hBM (fun b _ _ _ _ _ _ _ S hr=>(zaI (F_l_asked.lift S) hr (zaa (pv 2) (zaa (pv 3) (zaa (pv 4) (zaa (pv 0) (zaa (pv 1) zad)))))))))
   (zbp (zch (zaB (zpW (List (Int×Int)) (huD hr)) (pv 8) (zbQ (N:=["_law_knot","_law_fulls_here","_law_rows_here","_law_key_here"]) (own:=1) (cap:=[2,3,5]) rfl (zby (pv 4)) ⟨rfl,rfl,rfl,rfl,rfl,rfl⟩ (fun _ _ _ _ _=>(zan (i:=0) (show List.Nodup (["_law_knot","_law_fulls_here","_law_rows_here","_law_key_here"] : List Str) by decide +kernel) rfl (Or.inl rfl))) (fun _ _ _ _ _=>zbP) (fun _ _ _ _ _=>(zaI F_l_placed hr (zaa (pv 1) (zaa (pv 2) (zaa (pv 0) (zaa (pv 3) zad))))))) (zaN _)) (zai (zaz zfh)) za7)
   (zbp (zch (zaB zlv (zas zam rfl T.m_len boot_len (zaa (pv 6) zad)) (zar zaS (zaI F_l_figures hr (zaa (zas zam rfl T.m_len boot_len (zaa (zaC zaw (pv 2) zag (fun _ _=>rfl)) zad)) zad)) (zar zbB zag (zar zbu (zas zam rfl T.m_len boot_len (zaa (pv 4) zad)) zag))) (zaN _)) (zai (zaz zfh)) za7)
   (zbp (zch (zaB zlv (zas zam rfl T.m_len boot_len (zaa (pv 7) zad)) (zar zaS (zaI F_l_figures hr (zaa (zas zam rfl T.m_len boot_len (zaa (zaC zaw (pv 2) zag (fun _ _=>rfl)) zad)) zad)) (zar zbB zag (zar zbu (zas zam rfl T.m_len boot_len (zaa (pv 1) zad)) zag))) (zaN _)) (zai (zaz zfh)) za7)
   (zai (zaz (zls (zpZ (List (Tup Int)) (huD hr)) (pv 9) (zbQ (N:=["_law_knot","_law_fulls_here","_law_rows_here","_law_key_here"]) (own:=1) (cap:=[2,3,5]) rfl (zba rfl T.m_range (zaa (zas zam rfl T.m_len boot_len (zaa (pv 1) zad)) zad)) ⟨rfl,rfl,rfl,rfl,rfl,rfl⟩ (fun _ _ _ _ _=>(zan (i:=0) (show List.Nodup (["_law_knot","_law_fulls_here","_law_rows_here","_law_key_here"] : List Str) by decide +kernel) rfl (Or.inl rfl))) (fun _ _ _ _ _=>zbP) (fun _ _ _ _ _=>(zar (zna (K:=K)) (zbz (zaa (pv 0) zad)) (zaI F_l_placed hr (zaa (pv 1) (zaa (pv 2) (zaa (pv 0) (zaa (pv 3) zad)))))))) (zaN _))))))))))),?_⟩
 have hfl : ∀ k,k < ps.length + 1→(zah ps rows k).length≤400:=fun k hk=>by
  have:=zdY hT hlen (rows:=rows) hk
  omega
 have hwn:=W.len
 have hwp : 0 < wy.length:=List.length_pos_iff.mpr W.ne
 refine ⟨(by show 0≤sizeLine; decide),fun ad hd=>?_⟩
 have s1:=zak hd (.lst [])
 have h1a : upd H ad (.lst []) ad = some (.lst []):=zac
 generalize upd H ad (.lst []) = H1 at s1 h1a ⊢
 refine ⟨(by show 0≤sizeLine; decide),fun am hm=>?_⟩
 have s2:=zak hm (.lst [])
 have h2m : upd H1 am (.lst []) am = some (.lst []):=zac
 have h2a:=s2 _ _ h1a
 have s02:=s1.trans s2
 have nam : ad≠am:=zab h1a hm
 generalize upd H1 am (.lst []) = H2 at s2 h2m h2a s02 ⊢
 refine ⟨_,rfl,_,rfl,wa,_,rfl,.inl (SqL.of (s02 _ _ W.at_)),fun y hy=>?_⟩
 have s3:=zak hy (.lst (wy.map nV))
 have h3y : upd H2 y (.lst (wy.map nV)) y = some (.lst (wy.map nV)):=zac
 have s03:=s02.trans s3
 have h3a:=s3 _ _ h2a
 have h3m:=s3 _ _ h2m
 have T3:=TT.ext s03.ext
 have nya : y≠ad:=Ne.symm (zab h2a hy)
 have nym : y≠am:=Ne.symm (zab h2m hy)
 generalize upd H2 y (.lst (wy.map nV)) = H3 at s3 h3y s03 h3a h3m T3 ⊢
 have cap3 : ∀ (x : Addr) (n : Nat) (σ : L2.St),σ[n]? = some (some (.ref x))→σ[2]? = some (some (.ref pf))→σ[5]? = some (some (.int key))→∀ (j i : Nat) (v : V),([n,2,5] : List Nat)[j]? = some i→([.ref x,.ref pf,.int key] : List V)[j]? = some v→σ[i]? = some (some v):=fun x n σ a1 a2 a3 j i v e1 e2=>by
  rcases j with _ | _ | _ | j
  ·cases e1; cases e2; exact a1
  ·cases e1; cases e2; exact a2
  ·cases e1; cases e2; exact a3
  ·cases e1
 refine ⟨T3.a,[.ref ad,.ref pf,.int key],rfl,cap3 ad 6 _ rfl rfl rfl,fun bs g c' H4 hg hT4 hC hO SB hV=>?_⟩
 obtain ⟨T4,k34⟩:=T3.gB hg hT4 (hO _ _ rfl T3.b)
 have kp04 : Kp0 H H4:=Kp0.trans (.of s03) k34
 have h4a:=k34.lst h3a
 have h4m:=k34.lst h3m
 have n1 : ∀ {x : Addr},H x = none→x≠pf:=fun e z=>by
  rw [z,hpf] at e
  cases e
 have n2 : ∀ {x : Addr},H x = none→x∉qs:=fun e z=>by
  obtain ⟨ws,e2⟩:=hF.alloc _ z
  rw [e] at e2
  cases e2
 have n3 : ∀ {x : Addr} {o : HO},H x = none→H br = some o→br∉[x]:=fun e e2 z=>by
  rw [yap.mp z,e] at e2
  cases e2
 have hm0 : H am = none:=by
  cases e : H am with
  | none=>rfl
  | some o=>
   have:=s1 _ _ e
   rw [hm] at this
   cases this
 have AF:=zhM (mF:=mF) (ps:=ps) (rows:=rows) (qs:=qs) hV hC h4a (kp04.lst hpf) (zct kp04 hF) (n1 hd) (n2 hd) (zdR T4.f) fun _ _ _ _ h=>⟨_,rfl,_,rfl,_,rfl,_,rfl,_,rfl,h⟩
 have SE : za2 [ad] mF (fun L H'=>(∃ zs,H' ad = some (.lst zs)∧zs.length = L.length)∧∀ b o,b≠mF→b≠ad→H4 b = some o→H' b = some o) ps rows br xs [] H4:=⟨⟨⟨[],h4a,rfl⟩,fun _ _ _ _ e=>e⟩,fun a ha=>⟨[],by rw [yap.mp ha]; exact h4a⟩,kp04.lst hbr,n3 hd hbr,zqv hd kp04 hB,T4.f⟩
 refine ⟨br,y,g,xs,ps,rows,wy,key,[ad],_,_,[],rfl,AF,SE,hT,hR,hfew,⟨k34.lst h3y,W.len,W.ne,W.ch,W.kn⟩,(fun z=>nya (yap.mp z)),yaA _,(fun k hk=>yao (hfl k hk) (by decide)),fun D zs H5 L' S5 k5 hDn h5 hA5 hL=>?_⟩
 obtain ⟨⟨zs5,h5a,hz5⟩,_⟩:=S5.r
 rw [ycc] at hz5
 rw [hw0] at hL
 have T5:=T4.kpa h4a k5 S5.tb
 have h5m:=T4.kp k5 (Ne.symm nam) (fun _ z=>by cases z) h4m
 have kp05 : Kp0 H H5:=fun b o n e=>T4.kp k5 (fun z=>by rw [z,hd] at e; cases e) n (kp04 _ _ n e)
 have nDa : D≠ad:=fun z=>by
  rw [z,h4a] at hDn
  cases hDn
 have nDm : D≠am:=fun z=>by
  rw [z,h4m] at hDn
  cases hDn
 refine ⟨_,rfl,?_⟩
 refine ⟨T5.b,[.ref am,.ref pf,.int key],rfl,cap3 am 7 _ rfl rfl rfl,fun bs2 g2 c2 H6 hg2 hT6 hC2 hO2 SB2 hV2=>?_⟩
 obtain ⟨T6,k56⟩:=T5.gB hg2 (hO2 _ _ rfl T5.a) hT6
 have kp06:=kp05.trans k56
 have h6m:=k56.lst h5m
 have AF2:=zhM (mF:=mF) (ps:=ps) (rows:=rows) (qs:=qs) hV2 hC2 h6m (kp06.lst hpf) (zct kp06 hF) (n1 hm0) (n2 hm0) (zdR T6.f) fun _ _ _ _ h=>⟨_,rfl,_,rfl,_,rfl,_,rfl,_,rfl,h⟩
 have SE2 : za2 [am] mF (fun L H'=>(∃ zs,H' am = some (.lst zs)∧zs.length = L.length)∧∀ b o,b≠mF→b≠am→H6 b = some o→H' b = some o) ps rows br xs [] H6:=⟨⟨⟨[],h6m,rfl⟩,fun _ _ _ _ e=>e⟩,fun a ha=>⟨[],by rw [yap.mp ha]; exact h6m⟩,kp06.lst hbr,n3 hm0 hbr,zqv hm0 kp06 hB,T6.f⟩
 refine ⟨br,g2,xs,ps,rows,0,key,[am],_,_,[],rfl,AF2,SE2,hT,hR,hfew,by omega,yaA _,(fun k hk=>yao (hfl k hk) (by decide)),fun D2 zs2 H7 L2' S7 k7 hDn2 h7 hTr hL2=>?_⟩
 rw [zig hT] at hTr hL2
 rw [yaG] at hL2
 obtain ⟨⟨zs7,h7m,hz7⟩,_⟩:=S7.r
 rw [ycc] at hz7
 have T7:=T6.kpa h6m k7 S7.tb
 have kp57 : ∀ {b : Addr} {o : HO},b≠am→(∀ tab,o≠.tbl tab)→H5 b = some o→H7 b = some o:=fun nb n e=>T6.kp k7 nb n (k56 _ _ n e)
 have h7a:=kp57 nam (fun _ z=>by cases z) h5a
 have h7D:=kp57 nDm (fun _ z=>by cases z) h5
 have hA7 : zal K H7 (wy.map fun k=>(((zaq (zah ps rows k) key : Nat) : Int),((ownB rows k key : Nat) : Int))) zs:=zc8 (fun b us e=>kp57 (fun z=>by rw [z,h5m] at e; cases e) (fun _ z=>nomatch z) e) hA5
 have kp07 : Kp0 H H7:=fun b o n e=>kp57 (fun z=>by rw [z,hm0] at e; cases e) n (kp05 _ _ n e)
 have hzl:=hA7.length
 rw [yab] at hzl
 have h7t:=kp07.tup htr
 have h7r:=kp07.tup hrs
 have hA_7:=zgW kp07 hA
 have h7p:=kp07.lst hpf
 have hF7:=zct kp07 hF
 have W7:=znS kp07 W
 clear SE SE2 AF AF2 S5 S7 k5 k7 hV hV2 hC hC2 hO hO2 hg hg2 T3 T4 T5 T6 k34 k56 kp04 kp05 kp06 kp57 s1 s2 s3 s02 s03
 have pre : ∀ {H' : Hp},Same H7 H'→∀ k,k < ps.length + 1→H' pf = some (.lst (qs.map V.ref))∧zau K H' ps rows (List.range (ps.length + 1)) qs∧H' rs = some (.tup (as.map V.ref))∧zaQ H' as rows∧rows.length = ps.length + 1∧k < ps.length + 1∧(zah ps rows k).length≤900∧(za9 rows k).length≤900:=fun s k hk=>⟨s _ _ h7p,zct (.of s) hF7,s _ _ h7r,zgW (.of s) hA_7,hlen,hk,yao (hfl k hk) (by decide),yao (zm0 (zpE (by omega))) (by omega)⟩
 refine ⟨fun σ' H'=>σ' = [some (.ref br),some (.ref t),some (.ref pf),some (.ref rs),some (.ref wa),some (.int key),some (.ref ad),some (.ref am),some (.ref D),some (.ref D2)]∧Same H7 H',?_,?_⟩
 ·refine ⟨_,rfl,_,rfl,wa,rfl,⟨_,SqL.of W7.at_⟩,fun D3 hD3=>?_⟩
  refine zbO (xs:=wy.map nV) (fun m σ H8=>∃ (x0 : Option V) (us : List V),σ = [x0,some (.ref pf),some (.ref rs),some (.int key)]∧H8 D3 = some (.lst us)∧zal K H8 ((wy.take m).map fun k=>(((zaq (zah ps rows k) key : Nat) : Int),((ownB rows k key : Nat) : Int))) us∧But D3 H7 H8) ?_ ?_ ?_ ?_
  ·exact ⟨_,[],rfl,zac,.nil,fun b o n e=>by rw [zaf n]; exact e⟩
  ·rintro m σ H8 _ ⟨x0,us,rfl,_,_,k8⟩
   exact k8.sq (SqL.of W7.at_) hD3
  ·rintro m r x σ H8 hx hmm ⟨x0,us,rfl,h8,hA8,k8⟩
   have hmi:=(yah.mp hx).1
   rw [yab] at hmi hmm
   rw [zi7 hmi] at hx
   obtain rfl:=yaf hx
   have s78 : Same H7 H8:=fun b o e=>k8 b o (zab e hD3) e
   have hul:=hA8.length
   rw [yab,yas] at hul
   obtain ⟨g1,g2,g3,g4,g5,g6,g7,g8⟩:=pre s78 _ (W.kn _ (zi6 hmi))
   refine zcW ?_
   refine ⟨_,rfl,_,rfl,_,rfl,_,rfl,pf,rs,qs,as,ps,rows,key,wy.getD m 0,rfl,g1,g2,g3,g4,g5,g6,g7,g8,fun a1 H9 ha1 s9 h9=>?_⟩
   have h9D:=s9 _ _ h8
   have na1 : a1≠D3:=fun z=>by
    rw [z,h8] at ha1
    cases ha1
   refine ⟨_,h9D,zao (by omega),r - 1,by omega,by rw [yab]; omega,_,_,rfl,zac,?_,fun b o n e=>by rw [zaf n]; exact s9 _ _ (k8 b o n e)⟩
   rw [zim _ hmi]
   exact zal.append (zaO h9D (zal.mono s9.ext hA8)) (.cons ⟨a1,_,_,rfl,by rw [zaf na1]; exact h9,rfl,rfl⟩ .nil)
  rintro σ H8 ⟨x0,us,rfl,h8,hA8,k8⟩
  rw [yab,yar (yaa _)] at hA8
  have s78 : Same H7 H8:=fun b o e=>k8 b o (zab e hD3) e
  refine ⟨_,_,⟨_,_,rfl,SqL.of (s78 _ _ h7D),zal.mono s78.ext hA7⟩,⟨_,_,rfl,SqL.of h8,hA8⟩,_,rfl,?_⟩
  refine zqQ rfl ?_
  exact ⟨rfl,s78⟩
 rintro σ' H8 ⟨rfl,s8⟩
 obtain ⟨qk,hqk,wk,hwk,hak⟩:=zbb (zct (.of s8) hF7) (show 0 < ps.length + 1 by omega)
 have hwk2:=hak.length
 have h8p:=s8 _ _ h7p
 have h8t:=s8 _ _ h7t
 have e0 : atI (qs.map V.ref) 0 = some (V.ref qk):=zaV (j:=0) (v:=V.ref qk) (by rw [yaj,hqk]; rfl)
 refine ⟨fun σ' H'=>σ' = [some (.ref br),some (.ref t),some (.ref pf),some (.ref rs),some (.ref wa),some (.int key),some (.ref ad),some (.ref am),some (.ref D),some (.ref D2)]∧H8 = H',?_,?_⟩
 ·refine ⟨_,rfl,_,_,rfl,.inl (SqL.of (s8 _ _ h7a)),_,rfl,_,_,_,_,rfl,rfl,SqL.of h8p,e0,_,_,rfl,.inl (SqL.of hwk),wk.length,rfl,_,rfl,_,_,rfl,.inl (SqL.of (s8 _ _ W7.at_)),_,_,rfl,rfl,_,_,rfl,rfl,.inl ⟨by decide,by decide⟩,_,_,rfl,rfl,_,_,rfl,rfl,_,rfl,?_⟩
  refine zqj ?_ ⟨rfl,rfl⟩
  rw [← hwk2,yab]
  omega
 rintro σ' H' ⟨rfl,rfl⟩
 refine ⟨fun σ' H'=>σ' = [some (.ref br),some (.ref t),some (.ref pf),some (.ref rs),some (.ref wa),some (.int key),some (.ref ad),some (.ref am),some (.ref D),some (.ref D2)]∧H8 = H',?_,?_⟩
 ·refine ⟨_,rfl,_,_,rfl,.inl (SqL.of (s8 _ _ h7m)),_,rfl,_,_,_,_,rfl,rfl,SqL.of h8p,e0,_,_,rfl,.inl (SqL.of hwk),wk.length,rfl,_,rfl,_,_,rfl,.inr (SqT.of h8t),_,_,rfl,rfl,_,_,rfl,rfl,.inl ⟨by decide,by decide⟩,_,_,rfl,rfl,_,_,rfl,rfl,_,rfl,?_⟩
  refine zqj ?_ ⟨rfl,rfl⟩
  rw [← hwk2,zav]
  omega
 rintro σ' H' ⟨rfl,rfl⟩
 refine ⟨_,rfl,_,rfl,_,_,rfl,.inr (SqT.of h8t),_,rfl,by omega,by rw [zav]; omega,fun D3 hD3=>?_⟩
 have el : ((((zcg ps).length : Nat) : Int)).toNat = ps.length + 1:=by rw [zav,yaU]
 rw [el]
 refine zb2 (n:=ps.length + 1) (fun m σ H9=>∃ (x0 : Option V) (us : List V),σ = [x0,some (.ref pf),some (.ref rs),some (.int key)]∧H9 D3 = some (.lst us)∧Paired (zgd H9 ps rows key) (List.range m) us∧But D3 H8 H9) ?_ ?_ ?_
 ·exact ⟨_,[],rfl,zac,.nil,fun b o n e=>by rw [zaf n]; exact e⟩
 ·rintro m r σ H9 hmr hmi ⟨x0,us,rfl,h9,hP9,k9⟩
  rw [yba]
  have s89 : Same H8 H9:=fun b o e=>k9 b o (zab e hD3) e
  have hul:=Paired.length hP9
  rw [yaG] at hul
  refine zcW ?_
  refine ⟨_,rfl,(by show 1≤sizeLine; decide),fun tp htp=>?_⟩
  have st:=zak htp (.tup [.int (m : Int)])
  have h10t : upd H9 tp (.tup [.int (m : Int)]) tp = some (.tup [.int (m : Int)]):=zac
  generalize upd H9 tp (.tup [.int (m : Int)]) = H10 at st h10t ⊢
  obtain ⟨g1,g2,g3,g4,g5,g6,g7,g8⟩:=pre (s8.trans (s89.trans st)) m hmi
  refine ⟨_,rfl,_,rfl,_,rfl,_,rfl,pf,rs,qs,as,ps,rows,key,m,rfl,g1,g2,g3,g4,g5,g6,g7,g8,fun a1 H11 ha1 s11 h11=>?_⟩
  refine ⟨tp,a1,_,_,rfl,rfl,SqT.of (s11 _ _ h10t),SqT.of h11,(fun z=>nomatch z),(by show 3≤sizeLine; decide),(fun z=>nomatch z),fun _ p hp=>?_⟩
  have s12:=zak hp (.tup ([.int (m : Int)] ++ [.int ((zaq (zah ps rows m) key : Nat) : Int),.int ((ownB rows m key : Nat) : Int)]))
  have h12p : upd H11 p (.tup ([.int (m : Int)] ++ [.int ((zaq (zah ps rows m) key : Nat) : Int),.int ((ownB rows m key : Nat) : Int)])) p = some (.tup [.int (m : Int),.int ((zaq (zah ps rows m) key : Nat) : Int),.int ((ownB rows m key : Nat) : Int)]):=zac
  have s912:=(st.trans s11).trans s12
  generalize upd H11 p (.tup ([.int (m : Int)] ++ [.int ((zaq (zah ps rows m) key : Nat) : Int),.int ((ownB rows m key : Nat) : Int)])) = H12 at s12 h12p s912 ⊢
  have h12D:=s912 _ _ h9
  have nD : ∀ {x : Addr} {us : List V},H12 x = some (.tup us)→x≠D3:=fun {x us} h z=>by
   rw [z,h12D] at h
   cases h
  refine ⟨_,h12D,zao (by omega),r - 1,by omega,by omega,_,_,rfl,zac,?_,fun b o n e=>by rw [zaf n]; exact s912 _ _ (k9 b o n e)⟩
  rw [ybj]
  exact zcb (zay (fun _ _ ⟨t,e1,e2⟩=>⟨t,e1,by rw [zaf (nD (s912 _ _ e2))]; exact s912 _ _ e2⟩) hP9) ⟨p,rfl,by rw [zaf (nD h12p)]; exact h12p⟩
 rintro σ H9 ⟨x0,us,rfl,h9,hP9,k9⟩
 have s89 : Same H8 H9:=fun b o e=>k9 b o (zab e hD3) e
 have s79:=s8.trans s89
 have tr : ∀ {H' : Hp} {ks : List Nat} {vs : List V},Paired (zgd H' ps rows key) ks vs→zal K H' (ks.map fun k : Nat=>(⟨[(k : Int),((zaq (zah ps rows k) key : Nat) : Int),((ownB rows k key : Nat) : Int)]⟩ : Tup Int)) vs:=fun {H' ks vs} h=>by
  induction h with
  | nil=>exact .nil
  | cons h _ ih=>
   obtain ⟨t,rfl,e⟩:=h
   exact .cons ⟨t,_,rfl,SqT.of e,.cons rfl (.cons rfl (.cons rfl .nil))⟩ ih
 refine ⟨_,_,⟨D2,_,rfl,SqL.of (s79 _ _ h7),tr (zd7 (fun b us e=>s79 _ _ e) hTr)⟩,⟨D3,_,rfl,SqL.of h9,tr hP9⟩,?_⟩
 rw [yan rfl]
 exact q _ (kp07.trans (.of s79)) (T7.ext s79.ext)
theorem zkr {rows : List (List Int)} {i : Nat} (h : i < rows.length) : zbW (rows.take (i + 1)) = zbW (rows.take i) + rows[i].length:=by
 unfold zbW
 rw [yaH h,yaq,List.sum_append]
 simp
theorem zks {rows : List (List Int)} (i : Nat) : zbW (rows.take i)≤zbW rows:=by
 unfold zbW
 conv=>rhs; rw [← ybp i rows]
 rw [yaq,List.sum_append]
 omega
theorem zjY {K : Frag} {H : Hp} {p : Addr} {ps : List Nat} {rows : List (List Int)} : ∀ {n : Nat} {qs : List Addr} (m : Nat),qs.length = n→(∀ (j : Nat) (q : Addr),qs[j]? = some q→∃ ws,H q = some (.lst ws)∧zal K H (zah ps rows (m + j)) ws)→zau K H ps rows (List.range' m n) qs
 | _,[],_,rfl,_=>.nil
 | _,q :: qs,m,rfl,h=>by
  refine .cons (h 0 q rfl) (zjY (p:=p) (m + 1) rfl fun j q' hj=>?_)
  have:=h (j + 1) q' hj
  rwa [show m + (j + 1) = m + 1 + j by omega] at this
theorem FA.fulls {K : Frag} {H : Hp} {p : Addr} {ps : List Nat} {rows : List (List Int)} {n : Nat} {qs : List Addr} (h : FA K H p qs n (zah ps rows)) : zau K H ps rows (List.range n) qs:=by
 rw [List.range_eq_range']
 exact zjY (p:=p) 0 h.len fun j q hj=>by
  rw [ybM]
  exact h.get j q hj
def zhB (K : Frag) (mF mB : Addr) : Sp:=fun vs H Q _=>∃ (a : Addr) (ns : List Int),vs = [.ref a]∧SqL K H a (ns.map V.int)∧ns.length≤63∧mF≠mB∧H mF = some (.tbl #[])∧H mB = some (.tbl #[])∧∀ H',Q (.bl true) H'
set_option maxHeartbeats 1000000 in
theorem zp2 (T : Txt K mg) {mF mB : Addr} (D_law : DF K mg "law" zmZ zjv) (F_l_begin : FC P w K mg base 1 "_law_begin" zdx (zle K)) (F_l_stand : FC P w K mg base 6 "_law_stand" zds (zk8 K)) (F_l_fulls : FC P w K mg base 3 "_law_fulls" zdv (zjk K)) (F_bridges : FC P w K mg base 9 "bridges" zdA (spBr K)) (F_l_take : FC P w K mg base 2 "_law_take" zbN (zgp K)) (F_l_found : FC P w K mg base 7 "_law_found" zdw (zn2 K mF mB)) : FC P w K mg base 10 "law" zjv (zhB K mF mB):=by
 refine D_law.ok sc_law (fun vs H Q E h=>?_) (fun f cdv A outer s H vs Q E hr h=>?_)
 ·obtain ⟨a,ns,rfl,_⟩:=h
  rfl
 obtain ⟨a,ns,rfl,hS,_,hnd,hmF,hmB,q⟩:=h
 refine ⟨_,(zae (zap (i:=1) sc_law.nd rfl (Or.inl rfl) (zaI F_l_begin hr (zaa (pv 0) zad)))
   (zae (ze5 (zaI F_l_stand hr (zaa (pv 1) (zaa zag (zaa zag zad)))) (ze6 rfl (za1 (zan (i:=2) sc_law.nd rfl (Or.inl rfl)) (za1 (zan (i:=3) sc_law.nd rfl (Or.inl rfl)) zc5))))
   (zae (zap (i:=4) sc_law.nd rfl (Or.inl rfl) (zaI F_l_fulls hr (zaa (pv 2) (zaa (pv 3) zad))))
   (zae (zap (i:=5) sc_law.nd rfl (Or.inl rfl) (zaI F_bridges hr (zaa (zbz (zaa (pv 2) (zaa (pv 3) zad))) zad)))
   (zae (zap (i:=6) sc_law.nd rfl (Or.inl rfl) (zbF (zaa (zaI F_l_take hr (zaa (pv 1) (zaa (zas zam rfl T.m_len boot_len (zaa (pv 2) zad)) zad))) zad)))
   (zae (zem PassesOwn.never (zaB zqN (zaC zaw (pv 6) zag (fun _ _=>rfl)) zag (zaN _)) (zai (zbe (zc7 F.plainAttrs_list F.slot_list_insert F.type_list_insert zlK (pv 6) (zaa zag (zaa (zaC zbc (pv 2) (zaC zaw (pv 6) zag (fun _ _=>rfl)) (fun _ _=>rfl)) zad))))))
   (zae (zap (i:=7) sc_law.nd rfl (Or.inl rfl) (zbF (zaa zag zad)))
   (zae (zaT PassesOwn.never rfl (zc2 (pv 3)) (zan (i:=8) sc_law.nd rfl (Or.inl rfl)) (zai (zaT PassesOwn.never rfl (zc2 (pv 8)) (zan (i:=9) sc_law.nd rfl (Or.inl rfl)) (zai (zap (i:=7) sc_law.nd rfl (Or.inl rfl) (zar zlw (pv 7) (zbQ (N:=["_law_one"]) (own:=1) (cap:=[]) rfl (zc2 (zbz (zaa (zar zbu (pv 9) zag) (zaa (pv 9) (zaa (zar zaS (pv 9) zag) zad))))) ⟨rfl,rfl,rfl,rfl,rfl,rfl⟩ (fun _ _ _ _ _=>(zan (i:=0) (show List.Nodup (["_law_one"] : List Str) by decide +kernel) rfl (Or.inl rfl))) (fun _ _ _ _ _=>(zc1 (zaB zfM (zas zhm rfl T.m_abs boot_abs (zaa (pv 0) zad)) (zar zgv zag zag) (zaN _)))) (fun _ _ _ _ _=>(pv 0)))))))))
   (zae (zaT PassesOwn.never rfl (zby (zas (zib rfl) rfl T.m_sorted boot_sorted (zaa (zbA (zmA rfl) rfl T.m_set boot_set (zaa (pv 7) zad)) zad))) (zan (i:=9) sc_law.nd rfl (Or.inl rfl)) (zai (zch (zpL (zhF (zaI F_l_found hr (zaa (pv 5) (zaa (pv 2) (zaa (pv 4) (zaa (pv 3) (zaa (pv 6) (zaa (pv 9) zad))))))))) (zai (zaz zfh)) za7)))
   (zai (zaz zfh))))))))))),?_⟩
 have TT0 : TabB mF mB H:=⟨⟨#[],hmF,trivial,.inl rfl⟩,⟨#[],hmB,trivial,.inl rfl⟩,⟨#[],hmB,trivial,.inl rfl⟩,hnd⟩
 refine ⟨_,rfl,a,ns,rfl,hS,fun d H1 _ g1 s1=>?_⟩
 refine ⟨_,rfl,d,a,5,4,rfl,by decide,by decide,by decide,by decide,s1,fun st ps rows t rs as H2 _ S k2 s2=>?_⟩
 have TT2:=(TT0.ext g1.ext).ext (s1.ext k2)
 have hfew:=S.few
 have hkeys:=S.keys
 have hlen:=S.len
 refine ⟨st,_,rfl,SqT.of S.st,rfl,_,_,rfl,_,_,rfl,rfl,?_⟩
 refine ⟨_,rfl,_,rfl,t,rs,ps,rows,as,rfl,S.tr,S.rs,S.at_,hlen,S.T,S.R,hfew,by omega,fun pf qs H3 _ s3 hFA _=>?_⟩
 have S3:=S.same s3
 refine ⟨_,rfl,_,rfl,(by show 2≤sizeLine; decide),fun st2 hst2=>?_⟩
 have s4:=zak hst2 (.tup [.ref t,.ref rs])
 have h4 : upd H3 st2 (.tup [.ref t,.ref rs]) st2 = some (.tup [.ref t,.ref rs]):=zac
 generalize upd H3 st2 (.tup [.ref t,.ref rs]) = H4 at s4 h4 ⊢
 have S4:=S3.same s4
 refine ⟨st2,ps,rows,t,rs,as,rfl,⟨h4,S4.tr,S4.rs,S4.at_,S4.len,S4.T,S4.R,S4.few,S4.keys⟩,fun br xs H5 _ s5 h5 hB=>?_⟩
 have s25:=s3.trans (s4.trans s5)
 have hF5 : zau K H5 ps rows (List.range (ps.length + 1)) qs:=zct (.of (s4.trans s5)) hFA.fulls
 have h5p:=(s4.trans s5) _ _ hFA.at_
 have S5:=S.same s25
 have T5:=TT2.ext s25.ext
 have sl5:=s2.same s25
 clear s3 s4 s5 s25 S3 S4 hFA h4 hst2 TT2 TT0 k2 s2 S
 refine ⟨_,rfl,_,rfl,_,_,rfl,.inr (SqT.of S5.tr),d,a,_,rfl,by rw [zav]; omega,sl5,fun v H6 v0 v1 k6 s6=>?_⟩
 rw [zav] at v1
 obtain ⟨c0,rfl⟩:=zn7 v0
 have ndT : ∀ {a' : Addr} {o : HO},H5 a' = some o→(∀ kvs,o≠.dK kvs)→a'≠d:=fun {a' o} e n z=>by
  obtain ⟨_,_,_,e2,_⟩:=sl5.ex
  rw [← z,e] at e2
  exact n _ (yaf e2)
 have kp56 : Kp0 H5 H6∨True:=.inr trivial
 have k6n : ∀ {b : Addr} {o : HO},(∀ kvs,o≠.dK kvs)→H5 b = some o→H6 b = some o:=fun n e=>k6 _ _ (ndT e n) e
 have T6:=T5.ext (sl5.ext k6)
 have h6t : H6 t = some (.tup (zcg ps)):=k6n (fun _ z=>by cases z) S5.tr
 have h6r : H6 rs = some (.tup (as.map V.ref)):=k6n (fun _ z=>by cases z) S5.rs
 have h6A : zaQ H6 as rows:=zay (fun _ _ h=>k6n (fun _ z=>by cases z) h) S5.at_
 have h6p : H6 pf = some (.lst (qs.map V.ref)):=k6n (fun _ z=>by cases z) h5p
 have h6b : H6 br = some (.lst xs):=k6n (fun _ z=>by cases z) h5
 have hF6 : zau K H6 ps rows (List.range (ps.length + 1)) qs:=zay (fun j q ⟨ws,g1,g2⟩=>⟨ws,k6n (fun _ z=>by cases z) g1,zc8 (fun _ _ e=>k6n (fun _ z=>by cases z) e) g2⟩) hF5
 have hB6 : Paired (BrAt [] H6 ps rows) (List.range (ps.length + 1)) xs:=zay (fun j x ⟨b,o,j',ys,g1,g2,g3,g4,g5,g6,g7⟩=>⟨b,o,j',ys,g1,g2,g3,k6n (fun _ z=>by cases z) g4,k6n (fun _ z=>by cases z) g5,k6n (fun _ z=>by cases z) g6,zay (fun c y ⟨a,s,f1,f2,f3,f4⟩=>⟨a,s,f1,f2,k6n (fun _ z=>by cases z) f3,k6n (fun _ z=>by cases z) f4⟩) g7⟩) hB
 have hT:=S5.T
 have hR:=S5.R
 clear k6 k6n S5 hF5 hB h5p h5 T5 sl5 ndT s6 kp56
 refine ⟨(by show 1≤sizeLine; decide),fun p hp=>?_⟩
 have ntp : t≠p:=zab h6t hp
 refine zfE (fun σ H'=>∃ (c : Nat) (us : List Nat),σ = [some (.ref a),some (.ref d),some (.ref t),some (.ref rs),some (.ref pf),some (.ref br),some (.ref p),none,none,none]∧H' p = some (.lst ((c :: us).map nV))∧zpm ps (c :: us)∧(∀ x∈c :: us,x < ps.length + 1)∧us.length + c≤c0∧But p H6 H') (fun σ H'=>∃ us : List Nat,σ = [some (.ref a),some (.ref d),some (.ref t),some (.ref rs),some (.ref pf),some (.ref br),some (.ref p),none,none,none]∧H' p = some (.lst ((0 :: us).map nV))∧zpm ps (0 :: us)∧(∀ x∈0 :: us,x < ps.length + 1)∧us.length≤c0∧But p H6 H') (fun _ H'=>match H' p with | some (.lst (.int c :: _))=>c.toNat | _=>0) ?_ ?_ ?_ ?_
 ·refine ⟨c0,[],rfl,zac,fun t ht=>?_,fun x hx=>?_,by show 0 + c0≤c0; omega,fun b o n e=>by rw [zaf n]; exact e⟩
  ·rw [yaV] at ht
   omega
  ·rw [yap.mp hx]
   omega
 ·rintro σ H' ⟨c,us,rfl,h1,hch,hkn,hle,k1⟩
  have h1t:=k1 _ _ ntp h6t
  have a0 : atI ((c :: us).map nV) 0 = some (nV c):=zaV (j:=0) (v:=nV c) rfl
  have hc:=hkn c yav
  refine ⟨_,rfl,_,_,_,_,rfl,rfl,SqL.of h1,a0,rfl,_,rfl,?_⟩
  refine ite2 (fun z=>?_) (fun z=>?_)
  ·have cn : c≠0:=fun y=>by
    subst y
    exact absurd z (by decide)
   obtain ⟨pp,hpp⟩:=zfz (ps:=ps) (k:=c) (by omega) hc
   have hlt:=zaJ hT hpp
   refine ⟨_,rfl,.inl ⟨rfl,_,SqL.of h1⟩,_,rfl,_,rfl,_,_,_,_,rfl,rfl,SqL.of h1,a0,_,_,_,_,rfl,rfl,SqT.of h1t,(by rw [zhp hc,ziu.mpr hpp]),p,_,0,_,rfl,rfl,h1,by decide,by decide,zao (by rw [yab,yaW]; omega),?_⟩
   refine ⟨⟨pp,c :: us,rfl,zac,fun t ht=>?_,fun x hx=>?_,?_,fun b o n e=>by rw [zaf n]; exact k1 b o n e⟩,?_⟩
   ·cases t with
    | zero=>exact hpp
    | succ t=>exact hch t (by simpa using ht)
   ·rcases yal.mp hx with y | y
    ·rw [y]
     omega
    ·exact hkn x y
   ·rw [yaW]
    omega
   ·show (match upd H' p (.lst (nV pp :: (c :: us).map nV)) p with | some (.lst (.int c :: _))=>c.toNat | _=>0) < (match H' p with | some (.lst (.int c :: _))=>c.toNat | _=>0)
    rw [zac,h1]
    show (pp : Int).toNat < (c : Int).toNat
    omega
  ·have c0 : c = 0:=Classical.byContradiction fun y=>z (by
    have : ¬ (V.int (c : Int) = V.int 0):=fun w=>y (by have:=V.int.inj w; omega)
    rw [yam this]
    rfl)
   subst c0
   exact ⟨us,rfl,h1,hch,hkn,by omega,k1⟩
 ·intro σ H Q Q' m h
  obtain ⟨y1,e1,y2,y3,y4,y5,e2,e3,e4,e5,e6,b2,e7,q⟩:=h
  exact ⟨y1,e1,y2,y3,y4,y5,e2,e3,e4,e5,e6,b2,e7,m _ _ q⟩
 rintro σ H7 ⟨us,rfl,h7w,hch,hkn,hle,k7⟩
 have s7 : Same H6 H7:=fun b o e=>k7 b o (zab e hp) e
 have W7 : zmL H7 p ps (0 :: us):=⟨h7w,by rw [yaW]; omega,by simp,hch,hkn⟩
 have h7t:=s7 _ _ h6t
 have h7r:=s7 _ _ h6r
 have h7A:=h6A.ext s7
 have h7p:=s7 _ _ h6p
 have h7b:=s7 _ _ h6b
 have hF7:=zct (.of s7) hF6
 have hB7:=zqu (.of s7) hB6
 have T7:=T6.ext s7.ext
 clear h6t h6r h6A h6p h6b hF6 hB6 T6 s7 k7 h7w hch hkn
 refine ⟨(by show 1≤sizeLine; decide),fun ke0 hke0=>?_⟩
 have sk:=zak hke0 (.lst [.int 0])
 have hke : upd H7 ke0 (.lst [.int 0]) ke0 = some (.lst [.int 0]):=zac
 generalize upd H7 ke0 (.lst [.int 0]) = H8 at sk hke ⊢
 have hal:=h7A.length
 refine ⟨_,rfl,rs,rfl,⟨_,SqT.of (sk _ _ h7r)⟩,?_⟩
 refine zeZ (xs:=as.map V.ref) (fun i σ H9=>∃ (ke : Addr) (ns : List Int) (x8 x9 : Option V),σ = [some (.ref a),some (.ref d),some (.ref t),some (.ref rs),some (.ref pf),some (.ref br),some (.ref p),some (.ref ke),x8,x9]∧H9 ke = some (.lst (ns.map V.int))∧ns.length≤1 + 3 * zbW (rows.take i)∧Same H7 H9) ?_ ?_ ?_ ?_
 ·exact ⟨ke0,[0],_,_,rfl,hke,by show 1≤1 + _; omega,sk⟩
 ·rintro i σ H9 _ ⟨ke,ns,x8,x9,rfl,h9,hnl,s9⟩
  exact SqT.of (s9 _ _ h7r)
 ·rintro i x σ H9 hx ⟨ke,ns,x8,x9,rfl,h9,hnl,s9⟩
  rw [yaj] at hx
  obtain ⟨b,hb,rfl⟩:=ya4.mp hx
  have hi : i < rows.length:=by
   have:=(yah.mp hb).1
   omega
  obtain ⟨b',hb',hbr⟩:=h7A.get hi
  obtain rfl : b = b':=yaf (hb.symm.trans hb')
  have hbr9:=s9 _ _ hbr
  have hrl : rows[i].length = (za9 rows i).length:=by
   unfold za9
   rw [yad,yac hi]
   rfl
  have hkt:=zkr hi
  have hkp:=zks (rows:=rows) (i + 1)
  rw [hrl] at hkt
  refine ⟨_,rfl,b,rfl,⟨_,SqT.of hbr9⟩,?_⟩
  refine zeZ (xs:=(za9 rows i).map V.int) (fun j σ H10=>∃ (ke : Addr) (ns : List Int) (x9 : Option V),σ = [some (.ref a),some (.ref d),some (.ref t),some (.ref rs),some (.ref pf),some (.ref br),some (.ref p),some (.ref ke),some (.ref b),x9]∧H10 ke = some (.lst (ns.map V.int))∧ns.length≤1 + 3 * zbW (rows.take i) + 3 * j∧Same H7 H10) ?_ ?_ ?_ ?_
  ·exact ⟨ke,ns,_,rfl,h9,by omega,s9⟩
  ·rintro j σ H10 _ ⟨ke,ns,x9,rfl,h10,hnl,s10⟩
   exact SqT.of (s10 _ _ hbr)
  ·rintro j x σ H10 hx8 ⟨ke,ns,x9,rfl,h10,hnl,s10⟩
   have hj:=(yah.mp hx8).1
   rw [yab] at hj
   rw [yaj] at hx8
   obtain ⟨kk,_,rfl⟩:=ya4.mp hx8
   refine ⟨_,rfl,_,rfl,_,_,rfl,rfl,_,rfl,_,rfl,_,_,rfl,rfl,?_⟩
   refine ⟨(by show 3≤sizeLine; decide),fun tp htp=>?_⟩
   have st8:=zak htp (.tup [.int (kk - 1),.int kk,.int (kk + 1)])
   refine ⟨tp,rfl,⟨_,SqT.of zac⟩,fun D2 hD2=>?_⟩
   have h8t : upd H10 tp (.tup [.int (kk - 1),.int kk,.int (kk + 1)]) tp = some (.tup [.int (kk - 1),.int kk,.int (kk + 1)]):=zac
   generalize upd H10 tp (.tup [.int (kk - 1),.int kk,.int (kk + 1)]) = H11 at st8 hD2 h8t ⊢
   refine zeG (xs:=[.int (kk - 1),.int kk,.int (kk + 1)]) (fun i σ H12=>∃ (ms : List Int) (x0 : Option V),σ = [x0]∧H12 D2 = some (.lst (ms.map V.int))∧ms.length≤i∧But D2 H11 H12) ?_ ?_ ?_ ?_
   ·exact ⟨[],_,rfl,zac,yaa _,fun b o n e=>by rw [zaf n]; exact e⟩
   ·rintro i σ H12 _ ⟨ms,x0,rfl,_,_,kk9⟩
    exact SqT.of (kk9 _ _ (zab h8t hD2) h8t)
   ·rintro i m x σ H12 hx9 hm ⟨ms,x0,rfl,h12,hml,kk9⟩
    have hi9:=(yah.mp hx9).1
    obtain ⟨k,rfl⟩ : ∃ k : Int,x = .int k:=by
     have:=yaI hx9
     simp only [yal,yaY,or_false] at this
     rcases this with z | z | z <;> exact ⟨_,z⟩
    have h3 : [V.int (kk - 1),V.int kk,V.int (kk + 1)].length = 3:=rfl
    refine ⟨_,rfl,k,rfl,_,_,rfl,rfl,(by walk_at "side"),_,_,rfl,rfl,_,rfl,?_⟩
    refine ite2 (fun _=>?_) (fun _=>⟨m - 1,by omega,by omega,ms,_,rfl,h12,by omega,kk9⟩)
    refine ⟨_,rfl,_,h12,zao (by rw [yab]; omega),m - 1,by omega,by omega,ms ++ [k],_,rfl,?_,by rw [yai,yaV]; omega,fun b o n e=>by rw [zaf n]; exact kk9 b o n e⟩
    rw [zac,yaq]
    rfl
   rintro σ H12 ⟨ms,x0,rfl,h12,hml,kk9⟩
   have h3 : [V.int (kk - 1),V.int kk,V.int (kk + 1)].length = 3:=rfl
   have s12 : Same H10 H12:=fun b o eb=>kk9 b o (zab (st8 _ _ eb) hD2) (st8 _ _ eb)
   refine ⟨ke,D2,_,_,rfl,rfl,s12 _ _ h10,h12,(by rw [yab,yab,sizeLine_eq]; omega),fun c hc=>?_⟩
   refine ⟨c,ns ++ ms,_,rfl,?_,by rw [yai]; omega,(s10.trans s12).trans (zak hc _)⟩
   rw [zac,yaq]
  rintro σ H10 ⟨ke,ns,x9,rfl,h10,hnl,s10⟩
  rw [yab] at hnl
  exact ⟨ke,ns,_,_,rfl,h10,by omega,s10⟩
 rintro σ H9 ⟨ke,ns,x8,x9,rfl,h9,hnl,s9⟩
 rw [yab,yar (by omega)] at hnl
 have hmet : (metI ns).length < 64:=by
  have:=firstMet_length_le (fun i=>ns.getD i 0) ns.length
  unfold metI
  omega
 refine ⟨_,rfl,ke,ns,rfl,SqL.of h9,by omega,fun l o hl hWS=>?_⟩
 refine ⟨l,o,_,_,rfl,zac,hWS,hmet,fun so hso=>?_⟩
 have sl:=zak hl (.frz o (.set (fun k=>(metI ns).any (· == k)) (metI ns).length))
 have sso:=zak hso (.lst ((zbS (metI ns)).map V.int))
 have s10:=(s9.trans sl).trans sso
 have h10 : upd (upd H9 l (.frz o (.set (fun k=>(metI ns).any (· == k)) (metI ns).length))) so (.lst ((zbS (metI ns)).map V.int)) so = some (.lst ((zbS (metI ns)).map V.int)):=zac
 refine ⟨so,rfl,⟨_,SqL.of zac⟩,?_⟩
 generalize upd (upd H9 l (.frz o (.set (fun k=>(metI ns).any (· == k)) (metI ns).length))) so (.lst ((zbS (metI ns)).map V.int)) = H10 at s10 h10 ⊢
 generalize zbS (metI ns) = ks at h10 ⊢
 have T10:=T7.ext s10.ext
 refine zdI (xs:=ks.map V.int) (fun i σ H11=>∃ (y9 : Option V),σ = [some (.ref a),some (.ref d),some (.ref t),some (.ref rs),some (.ref pf),some (.ref br),some (.ref p),some (.ref ke),x8,y9]∧Kp0 H10 H11∧TabB mF mB H11) ?_ ?_ ?_ ?_
 ·exact ⟨_,rfl,fun b o _ e=>e,T10⟩
 ·rintro i σ H11 _ ⟨y9,rfl,k11,_⟩
  exact SqL.of (k11.lst h10)
 ·rintro i x σ H11 hx ⟨y9,rfl,k11,T11⟩
  rw [yaj] at hx
  obtain ⟨key,hk,rfl⟩:=ya4.mp hx
  have kp : Kp0 H7 H11:=Kp0.trans (.of s10) k11
  refine ⟨_,rfl,_,rfl,_,rfl,_,rfl,_,rfl,_,rfl,br,t,pf,rs,p,key,ps,rows,as,qs,xs,0 :: us,rfl,kp.tup h7t,kp.tup h7r,zgW kp h7A,hlen,hT,hR,hfew,by omega,kp.lst h7b,zqu kp hB7,kp.lst h7p,zct kp hF7,znS kp W7,rfl,T11,fun H12 k12 T12=>⟨_,rfl,?_⟩⟩
  exact iteF ⟨_,rfl,k11.trans k12,T12⟩
 rintro σ H11 ⟨y9,rfl,_⟩
 exact q _
abbrev lawRoom : Nat:=10
theorem all_ok (T : Txt K mg) {mc21 mp21 mc42 mp42 : Addr} (hBM : BMAt mg base) (D_code : DF K mg "code" zjq zg1) (D_how_many_below : DF K mg "how_many_below" zbo zbj) (D_joined_up : DF K mg "joined_up" zcI zcq) (D_lowest_unlike : DF K mg "lowest_unlike" zbv zbq) (D_turned : DF K mg "turned" zfl zen) (D_labels : DF K mg "labels" zfn zep) (D_neighbours : DF K mg "neighbours" zck zbx) (D_least_free : DF K mg "least_free" zcl zbU) (D_colours : DF K mg "colours" zei zdz) (D_marks : DF K mg "marks" zgS zfv) (D_handed : DF K mg "handed" zfs zet) (D_children : DF K mg "children" zdp zb9) (D_beneath : DF K mg "beneath" zek zdB) (D_own_entries : DF K mg "own_entries" zbT zbJ) (D_full_rows_beneath : DF K mg "full_rows_beneath" za5 za0) (D_full_rows : DF K mg "full_rows" zcJ zcr) (D_owns_of : DF K mg "owns_of" zeb zdr) (D_starts_of : DF K mg "starts_of" zcF zcn) (D_bridges_of : DF K mg "bridges_of" zcm zbV) (D_bridges : DF K mg "bridges" zej zdA) (D_first_place : DFT K mg "first_place" zbh zbl mc21 mp21) (D_start_in : DF K mg "start_in" zdm zcL) (D_next_place : DF K mg "next_place" zcj zbw) (D_search : DF K mg "search" zfm zeo) (D_search_beneath : DF K mg "search_beneath" zbn zbi) (D_l_begin : DF K mg "_law_begin" zeg zdx) (D_l_mixed : DF K mg "_law_mixed" zed zdt) (D_l_take : DF K mg "_law_take" zfp zbN) (D_l_key : DF K mg "_law_key" zgU zfx) (D_l_tree : DF K mg "_law_tree" zfo zeq) (D_l_row : DF K mg "_law_row" zgT zfw) (D_l_rows : DF K mg "_law_rows" zfq zer) (D_l_code : DF K mg "_law_code" zfr zes) (D_l_turned : DF K mg "_law_turned" zdn zcM) (D_l_colours : DF K mg "_law_colours" zcH zcp) (D_l_marks : DF K mg "_law_marks" zee zdu) (D_l_fulls : DF K mg "_law_fulls" zef zdv) (D_l_stand : DF K mg "_law_stand" zec zds) (D_l_asked : DF K mg "_law_asked" zeh zdy) (D_l_figures : DF K mg "_law_figures" zcG zco) (D_l_placed : DF K mg "_law_placed" zdo zcN) (D_l_found : DFT K mg "_law_found" zb8 zdw mc42 mp42) (D_law : DF K mg "law" zmZ zjv) : FC P w K mg base 10 "law" zjv (zhB K mp21 mp42):=
 have m:=znd (P:=P) (w:=w) (base:=base) T D_l_mixed
 have t:=zoK T D_l_take m
 have c:=zoN (P:=P) (w:=w) (base:=base) T D_code
 have nb:=zg6 (P:=P) (w:=w) (base:=base) T D_neighbours
 have mk:=zne T D_marks (zlF T D_labels c (zlx T D_turned (zp1 T D_lowest_unlike))) (zki T D_colours nb (zg7 T D_least_free)) nb
 have ch:=zix (P:=P) (w:=w) (base:=base) T D_children
 have fr:=zp5 T D_full_rows_beneath (zkk T D_beneath) ch (zlH T D_handed mk) (zp0 T D_own_entries) (zlG T D_joined_up)
 have fu:=zni T D_full_rows fr
 have br:=zkj T D_bridges fu (zoO T D_bridges_of ch (zly T D_starts_of) (zoL T D_owns_of))
 have ls:=zlC T D_l_stand (znf T D_l_tree t) (zng T D_l_rows t (zoM T D_l_row t (zp3 T D_l_key t)))
 have lf:=zlE T D_l_fulls (zlD T D_l_marks (znh (P:=P) (w:=w) (base:=base) T D_l_code) (zkh T D_l_turned) (ziw T D_l_colours))
 have fi:=fun (b : Heap) (S : Sub K mg base b)=>znj (P:=P) (w:=w) (base:=b) T D_first_place (hBM.lift S) (fun b' _=>zp4 (base:=b') T D_how_many_below)
 have se:=fun (b : Heap) (S : Sub K mg base b)=>zlz (P:=P) (w:=w) (base:=b) (mp:=mp21) T D_search (fi b S) (znb T D_start_in) (zlB T D_next_place)
 have be:=fun (b : Heap) (S : Sub K mg base b)=>znk (P:=P) (w:=w) (base:=b) (mp:=mp21) T D_search_beneath (fi b S) (zlB T D_next_place)
 have bo:=zoP T D_l_found hBM (znc (P:=P) (w:=w) (base:=base) T D_l_asked) (zp6 T D_l_figures) (zlA T D_l_placed) se be
 zp2 T D_law (znl T D_l_begin) ls lf br t bo
end
structure AD (K : Frag) (x : Str) (st : Stmt) : Prop where
 ex : ∃ (f : Addr) (oc : Value) (od : Option Addr) (kV dc pm : Value) (an : Option Addr) (cd ct : Value) (sl : Array (Option Value)),nsIn K mainGlobals x = some (some (.ref f))∧K.lookup f = some ⟨oc,od,.func (fnOf x x (zcy st) (zbG st) (zaj st) .none kV dc pm an cd ct),sl⟩∧codeIn K cd x = true∧keepIn K (.ref f) = true
theorem AD.of {K : Frag} {x : Str} {st : Stmt} {f : Addr} {oc : Value} {od : Option Addr} {kV dc pm : Value} {an : Option Addr} {cd ct : Value} {sl : Array (Option Value)} (a : nsIn K mainGlobals x = some (some (.ref f))) (l : K.lookup f = some ⟨oc,od,.func (fnOf x x (zcy st) (zbG st) (zaj st) .none kV dc pm an cd ct),sl⟩) (c : codeIn K cd x = true) (k : keepIn K (.ref f) = true) : AD K x st:=⟨f,oc,od,kV,dc,pm,an,cd,ct,sl,a,l,c,k⟩
theorem AD.df {K : Frag} {h : Heap} {mg : Str→Option Value} {x : Str} {st : Stmt} {ps : List Str} (a : AD K x st) (X : K.In h) (G : h.Ns mainGlobals mg)
  (hb : ∀ (kV doc pm : Value) (an : Option Addr) (cdv ct : Value) (us : List Value),us.length = ps.length→bindArgs (fnOf x x (zcy st) (zbG st) (zaj st) .none kV doc pm an cdv ct) ⟨us,[]⟩ = pure (ps.zip us):=by
   intro _ _ _ _ _ _ u h
   rcases u with _ | ⟨_,_ | ⟨_,_ | ⟨_,_ | ⟨_,_ | ⟨_,_ | ⟨_,_ | ⟨_,u⟩⟩⟩⟩⟩⟩⟩ <;> first | rfl | cases h) : DF K mg x st ps:=by
 obtain ⟨f,oc,od,kV,dc,pm,an,cd,ct,sl,a,l,c,k⟩:=a.ex
 exact ⟨_,_,zmk l c k,(zmk l c k).binds hb,mg_of X G a⟩
theorem AD.dft {K : Frag} {h : Heap} {mg : Str→Option Value} {x : Str} {st : Stmt} {ps : List Str} {mc mp : Addr} (a : AD K x st) (X : K.In h) (G : h.Ns mainGlobals mg) (t : tabIn K x = some (mc,mp)) (hh : codeHdIn K mc mp = true)
  (hb : ∀ (kV doc pm : Value) (an : Option Addr) (cdv ct : Value) (us : List Value),us.length = ps.length→bindArgs (fnOf x x (zcy st) (zbG st) (zaj st) .none kV doc pm an cdv ct) ⟨us,[]⟩ = pure (ps.zip us):=by
   intro _ _ _ _ _ _ u h
   rcases u with _ | ⟨_,_ | ⟨_,_ | ⟨_,_ | ⟨_,_ | ⟨_,_ | ⟨_,_ | ⟨_,u⟩⟩⟩⟩⟩⟩⟩ <;> first | rfl | cases h) : DFT K mg x st ps mc mp:=by
 obtain ⟨f,oc,od,kV,dc,pm,an,cd,ct,sl,a,l,c,k⟩:=a.ex
 have e : cd = .ref mc:=L2.zmV a l t
 subst e
 exact ⟨⟨_,_,_,_,_,_,_,_,_,l,c,k,mg_of X G a,(zmk l c k).binds hb⟩,hh⟩
theorem zqy {l : OpenLaw} {w : World} {K : Frag} {h : Heap} {mg : Str→Option Value} {fa mc21 mp21 mc42 mp42 : Addr} (X : K.In h) (G : h.Ns mainGlobals mg) (hfa : mg "law" = some (.ref fa)) {t_KNOT_NUMBERS : Tok} {t_TURNS : Tok} {t_MOST_BEHIND_START : Tok} (a1 : AD K "code" zjq) (a2 : AD K "how_many_below" zbo) (a3 : AD K "joined_up" zcI) (a4 : AD K "lowest_unlike" zbv) (a5 : AD K "turned" zfl) (a6 : AD K "labels" zfn) (a7 : AD K "neighbours" zck) (a8 : AD K "least_free" zcl) (a9 : AD K "colours" zei) (a10 : AD K "marks" zgS) (a11 : AD K "handed" zfs) (a12 : AD K "children" zdp) (a13 : AD K "beneath" zek) (a14 : AD K "own_entries" zbT) (a15 : AD K "full_rows_beneath" za5) (a16 : AD K "full_rows" zcJ) (a17 : AD K "owns_of" zeb) (a18 : AD K "starts_of" zcF) (a19 : AD K "bridges_of" zcm) (a20 : AD K "bridges" zej) (a21 : AD K "first_place" zbh) (a22 : AD K "start_in" zdm) (a23 : AD K "next_place" zcj) (a24 : AD K "search" zfm) (a25 : AD K "search_beneath" zbn) (a26 : AD K "_law_begin" zeg) (a27 : AD K "_law_mixed" zed) (a28 : AD K "_law_take" zfp) (a29 : AD K "_law_key" zgU) (a30 : AD K "_law_tree" zfo) (a31 : AD K "_law_row" zgT) (a32 : AD K "_law_rows" zfq) (a33 : AD K "_law_code" zfr) (a34 : AD K "_law_turned" zdn) (a35 : AD K "_law_colours" zcH) (a36 : AD K "_law_marks" zee) (a37 : AD K "_law_fulls" zef) (a38 : AD K "_law_stand" zec) (a39 : AD K "_law_asked" zeh) (a40 : AD K "_law_figures" zcG) (a41 : AD K "_law_placed" zdo) (a42 : AD K "_law_found" zb8) (a43 : AD K "law" zmZ) (t21 : tabIn K "first_place" = some (mc21,mp21)) (h21 : codeHdIn K mc21 mp21 = true) (t42 : tabIn K "_law_found" = some (mc42,mp42)) (h42 : codeHdIn K mc42 mp42 = true) (z_abs : nsIn K mainGlobals "abs" = some none) (z_dict : nsIn K mainGlobals "dict" = some none) (z_enumerate : nsIn K mainGlobals "enumerate" = some none) (z_len : nsIn K mainGlobals "len" = some none) (z_list : nsIn K mainGlobals "list" = some none) (z_max : nsIn K mainGlobals "max" = some none) (z_min : nsIn K mainGlobals "min" = some none) (z_range : nsIn K mainGlobals "range" = some none) (z_reversed : nsIn K mainGlobals "reversed" = some none) (z_set : nsIn K mainGlobals "set" = some none) (z_sorted : nsIn K mainGlobals "sorted" = some none) (z_tuple : nsIn K mainGlobals "tuple" = some none) (z_zip : nsIn K mainGlobals "zip" = some none) (y_KNOT_NUMBERS : nsIn K mainGlobals "KNOT_NUMBERS" = some (some (.int 64 t_KNOT_NUMBERS))) (y_TURNS : nsIn K mainGlobals "TURNS" = some (some (.int 5 t_TURNS))) (y_MOST_BEHIND_START : nsIn K mainGlobals "MOST_BEHIND_START" = some (some (.int 2 t_MOST_BEHIND_START))) :
  ∃ fd : FuncData,(∀ (s : Shared) (v : Value),BindsTo s fd ⟨[v],[]⟩ [("_law_script",v)])∧∀ base : Heap,K.In base→base.Ns mainGlobals mg→L2.BMAt mg base→FnOk l.prog w K mg base CX0 lawRoom fa fd ["_law_script"] (zhB K mp21 mp42):=by
 obtain ⟨f,oc,od,kV,dc,pm,an,cd,ct,sl,a,l,c,k⟩:=a43.ex
 have e:=hfa.symm.trans (mg_of X G a)
 cases e
 have T : Txt K mg:=⟨mg_none_of X G z_abs,mg_none_of X G z_dict,mg_none_of X G z_enumerate,mg_none_of X G z_len,mg_none_of X G z_list,mg_none_of X G z_max,mg_none_of X G z_min,mg_none_of X G z_range,mg_none_of X G z_reversed,mg_none_of X G z_set,mg_none_of X G z_sorted,mg_none_of X G z_tuple,mg_none_of X G z_zip,⟨_,mg_of X G y_KNOT_NUMBERS⟩,⟨_,mg_of X G y_TURNS⟩,⟨_,mg_of X G y_MOST_BEHIND_START⟩⟩
 exact ⟨_,fun s v=>.of_eq rfl,fun base _ _ hBM=>(all_ok (P:=_) (w:=w) (base:=base) T hBM (a1.df X G) (a2.df X G) (a3.df X G) (a4.df X G) (a5.df X G) (a6.df X G) (a7.df X G) (a8.df X G) (a9.df X G) (a10.df X G) (a11.df X G) (a12.df X G) (a13.df X G) (a14.df X G) (a15.df X G) (a16.df X G) (a17.df X G) (a18.df X G) (a19.df X G) (a20.df X G) (a21.dft X G t21 h21) (a22.df X G) (a23.df X G) (a24.df X G) (a25.df X G) (a26.df X G) (a27.df X G) (a28.df X G) (a29.df X G) (a30.df X G) (a31.df X G) (a32.df X G) (a33.df X G) (a34.df X G) (a35.df X G) (a36.df X G) (a37.df X G) (a38.df X G) (a39.df X G) (a40.df X G) (a41.df X G) (a42.dft X G t42 h42) (a43.df X G)).at (mg_of X G a) l⟩
theorem walk {l : OpenLaw} {q : Program} {loose : List Str} {XP : (Str→Option Value)→Heap→Prop} {YP : World→Heap→Prop} {d : DefRec} {K : Params→Frag} {mc21 mp21 mc42 mp42 : Addr} (hn : l.most = some 63) (hdf : d.params.defaults = [])
  (hY : ∀ (w : World) (h : Heap),YP w h→(K w.params).In h) (hYT21 : ∀ (w : World) (h : Heap),YP w h→h.get? mp21 = some (PySem.W.tabObj #[])) (hC21 : ∀ (w : World),codeHdIn (K w.params) mc21 mp21 = true) (hD21 : ∀ (w : World),(K w.params).lookup mp21 = none) (hYT42 : ∀ (w : World) (h : Heap),YP w h→h.get? mp42 = some (PySem.W.tabObj #[])) (hC42 : ∀ (w : World),codeHdIn (K w.params) mc42 mp42 = true) (hD42 : ∀ (w : World),(K w.params).lookup mp42 = none) (hNE : mp21≠mp42)
  (F : ∀ (w : World) (mg : Str→Option Value) (fa : Addr) (h : Heap),(K w.params).In h→h.Ns mainGlobals mg→mg d.name = some (.ref fa)→
   ∃ fd : FuncData,(∀ (s : Shared) (u : Value),BindsTo s fd ⟨[u],[]⟩ [("_law_script",u)])∧∀ base : Heap,(K w.params).In base→base.Ns mainGlobals mg→L2.BMAt mg base→FnOk l.prog w (K w.params) mg base CX0 lawRoom fa fd ["_law_script"] (zhB (K w.params) mp21 mp42)) :
  PySem.W.WalkO q loose XP YP l.row.toRowW d [] (fun f vs=>PySem.call f vs):=
 L2.zmP (n:=63) (k:=lawRoom) (x := "_law_script") (tabs:=[(mc21,mp21),(mc42,mp42)]) (sp:=fun w=>zhB (K w.params) mp21 mp42) hn (by decide) hdf ⟨rfl,by decide,by decide,rfl⟩ hY (fun w h Y q hq=>(yal.mp hq).elim (fun z=>z ▸ hYT21 w h Y) (fun hq=>(yal.mp hq).elim (fun z=>z ▸ hYT42 w h Y) (fun hq=>absurd hq yaY))) (fun w q hq=>(yal.mp hq).elim (fun z=>z ▸ ⟨hC21 w,hD21 w⟩) (fun hq=>(yal.mp hq).elim (fun z=>z ▸ ⟨hC42 w,hD42 w⟩) (fun hq=>absurd hq yaY))) F (fun _ _ a ns hl hT hS=>⟨a,ns,rfl,hS,hl,hNE,hT _ yav,hT _ (yay _ yav),fun _=>rfl⟩)
end My
open PySem PySem.W PyProof.Rows
def PySem.W.Fast.tw5677240917651898508 : Nat := 0
def PySem.W.Fast.tw6844694740249242063 : Nat := 0
def PySem.W.Fast.tw18119388707560192113 : Nat := 0
def PySem.W.Fast.tw13584695905458995083 : Nat := 0
def PySem.W.Fast.tw3208595097546439332 : Nat := 0
def PySem.W.Fast.tw17647118975075112895 : Nat := 0
def PySem.W.Fast.tw792077856353495894 : Nat := 0
def PySem.W.Fast.tw5293347556981334263 : Nat := 0
def PySem.W.Fast.tw13248943268407620019 : Nat := 0
def PySem.W.Fast.tw8915373192266778573 : Nat := 0
def PySem.W.Fast.tw7139884776866753229 : Nat := 0
def PySem.W.Fast.tw6057319504954469648 : Nat := 0
set_option maxRecDepth 100000 in
set_option maxHeartbeats 0 in
theorem PySem.Challenge.cw_bridgefind_k30_searches_for_each_key_holds : PySem.Challenge.rw_bridgefind_k30_searches_for_each_key.Holds := by
 w_on; o_law; k_head; (case hw=>w_witness2)
 k_fill
 refine My.walk (l:=PySem.Challenge.rw_bridgefind_k30_searches_for_each_key) (mc21:=142) (mp21:=138) (mc42:=279) (mp42:=277) rfl rfl (fun w h Y=>PySem.W.km_in_of Y) (fun w h Y=>PySem.W.km_tabs_of Y 138 (by decide)) (fun w=>by kernel_rfl) (fun w=>by kernel_rfl) (fun w h Y=>PySem.W.km_tabs_of Y 277 (by decide)) (fun w=>by kernel_rfl) (fun w=>by kernel_rfl) (by decide) ?F
 case F=>
  intro w mg fa h KX G hmg
  refine' My.zqy (mc21:=142) (mp21:=138) (mc42:=279) (mp42:=277) KX G hmg ?_ ?_ ?_ ?_ ?_ ?_ ?_ ?_ ?_ ?_ ?_ ?_ ?_ ?_ ?_ ?_ ?_ ?_ ?_ ?_ ?_ ?_ ?_ ?_ ?_ ?_ ?_ ?_ ?_ ?_ ?_ ?_ ?_ ?_ ?_ ?_ ?_ ?_ ?_ ?_ ?_ ?_ ?_ ?_ ?_ ?_ ?_ ?_ ?_ ?_ ?_ ?_ ?_ ?_ ?_ ?_ ?_ ?_ ?_ ?_ ?_ ?_ ?_
  any_goals k_is
  all_goals first | refine' My.AD.of ?_ ?_ ?_ ?_ | skip
  any_goals k_is
  all_goals kernel_rfl

