import PyProof.Rows.All
import Wide.All
import OpenK.AllK
import Wide.FinOn
import PyProof.EqAt
import PyProof.EqKinds
import PyProof.TupleCall
import PyProof.NeKinds
import Lean
import PySem.Challenge.RW_bridgefind_k34_papers_told
set_option Elab.async false
set_option linter.all false
set_option maxRecDepth 100000
local macro_rules | `(tactic| omega)=>`(tactic| lia)
open PySem.W (Frag nsIn codeIn keepIn tabIn codeHdIn mg_of mg_none_of fnOf OpenLaw kitOne mroIn findIn)
abbrev yaa:=@Nat.le_refl
abbrev yab:=@List.length_map
abbrev yac:=@List.getElem?_eq_getElem
abbrev yad:=@List.getD_eq_getElem?_getD
abbrev yae:=@Option.some.inj
abbrev yaf:=@PySem.Heap.lt_size
abbrev yag:=@List.getElem?_eq_some_iff
abbrev yah:=@List.length_append
abbrev yai:=@PySem.Heap.get?_push_of_some
abbrev yaj:=@List.getElem?_map
abbrev yak:=@List.length_take
abbrev yal:=@List.map_append
abbrev yam:=@decide_eq_true
abbrev yan:=@List.mem_append
abbrev yao:=@List.mem_singleton
abbrev yap:=@List.mem_cons
abbrev yaq:=@List.take_of_length_le
abbrev yar:=@Nat.ne_of_lt
abbrev yas:=@decide_eq_false
abbrev yat:=@Nat.le_trans
abbrev yau:=@Nat.lt_of_lt_of_le
abbrev yav:=@Array.length_toList
abbrev yaw:=@List.size_toArray
abbrev yax:=@List.mem_append_right
abbrev yay:=@List.map_cons
abbrev yaz:=@List.mem_cons_self
abbrev yaA:=@Bool.false_ne_true
abbrev yaB:=@List.getElem_mem
abbrev yaC:=@of_decide_eq_true
abbrev yaD:=@Nat.zero_le
abbrev yaE:=@List.append_nil
abbrev yaF:=@List.take_succ_eq_append_getElem
abbrev yaG:=@List.mem_cons_of_mem
abbrev yaH:=@PySem.Heap.get?_push_size
abbrev yaI:=@List.mem_map
abbrev yaJ:=@List.lookup_cons
abbrev yaK:=@List.mem_of_getElem?
abbrev yaL:=@List.length_singleton
abbrev yaM:=@List.pairwise_append
abbrev yaN:=@List.length_cons
abbrev yaO:=@List.pairwise_iff_getElem
abbrev yaP:=@List.append_assoc
abbrev yaQ:=@Array.toList_append
abbrev yaR:=@List.sum_cons
abbrev yaS:=@List.nodup_cons
abbrev yaT:=@List.length_drop
abbrev yaU:=@Bool.false_eq_true
abbrev yaV:=@List.getElem_of_mem
abbrev yaW:=@List.getElem?_eq_none
abbrev yaX:=@Nat.lt_irrefl
abbrev yaY:=@List.getElem?_append_right
abbrev yaZ:=@List.take_append_drop
abbrev ya0:=@List.drop_eq_nil_of_le
abbrev ya1:=@List.length_range
abbrev ya2:=@List.filter_append
abbrev ya3:=@List.mem_filter
abbrev ya4:=@List.mem_append_left
abbrev ya5:=@Nat.le_succ
abbrev ya6:=@List.not_mem_nil
abbrev ya7:=@List.all_eq_true
abbrev ya8:=@List.filter_cons_of_pos
abbrev ya9:=@List.mem_range
abbrev yba:=@Int.toNat_natCast
abbrev ybb:=@Array.getElem?_eq_getElem
abbrev ybc:=@Array.getElem?_toList
abbrev ybd:=@Int.zero_add
abbrev ybe:=@List.length_replicate
abbrev ybf:=@Bool.and_eq_true
abbrev ybg:=@Nat.lt_of_le_of_lt
abbrev ybh:=@List.getElem?_append_left
abbrev ybi:=@List.ext_getElem?
abbrev ybj:=@List.filter_cons_of_neg
abbrev ybk:=@Option.map_eq_some_iff
abbrev ybl:=@List.nodup_append
abbrev ybm:=@Nat.le_of_lt
abbrev ybn:=@List.any_cons
abbrev ybo:=@List.nodup_nil
abbrev ybp:=@Bool.not_eq_true'
abbrev ybq:=@Nat.add_zero
abbrev ybr:=@Nat.zero_add
abbrev ybs:=@List.getElem?_range
abbrev ybt:=@List.range_succ
abbrev ybu:=@List.length_filter_le
abbrev ybv:=@Int.natCast_nonneg
abbrev ybw:=@PySem.Heap.get?_update_other
abbrev ybx:=@List.length_nil
abbrev yby:=@Nat.le_of_not_lt
abbrev ybz:=@Nat.min_eq_left
abbrev ybA:=@List.take_zero
abbrev ybB:=@List.map_map
abbrev ybC:=@Nat.ne_of_gt
abbrev ybD:=@List.reverse_cons
abbrev ybE:=@List.length_reverse
abbrev ybF:=@List.find?_cons
abbrev ybG:=@List.map_nil
abbrev ybH:=@List.mem_of_mem_take
abbrev ybI:=@List.getElem?_take
abbrev ybJ:=@Nat.not_lt
abbrev ybK:=@Nat.add_le_add_right
abbrev ybL:=@List.map_take
abbrev ybM:=@Nat.testBit_succ
abbrev ybN:=@Nat.pow_succ
abbrev ybO:=@Nat.add_sub_cancel
abbrev ybP:=@Bool.eq_false_iff
abbrev ybQ:=@of_decide_eq_false
abbrev ybR:=@List.flatten_append
abbrev ybS:=@List.filterMap_cons
abbrev ybT:=@List.of_mem_zip
abbrev ybU:=@List.drop_eq_getElem_cons
abbrev ybV:=@Array.toList_push
abbrev ybW:=@List.nil_append
abbrev ybX:=@List.mem_of_mem_drop
abbrev ybY:=@Array.toList_reverse
abbrev ybZ:=@List.getElem?_drop
abbrev yb0:=@Bool.not_true
abbrev yb1:=@List.pairwise_map
abbrev yb2:=@Bool.or_eq_true
abbrev yb3:=@PySem.Heap.size_push
abbrev yb4:=@List.mem_reverse
abbrev yb5:=@List.getElem?_set
abbrev yb6:=@Nat.sub_self
abbrev yb7:=@List.map_set
abbrev yb8:=@Bool.eq_iff_iff
abbrev yb9:=@List.all_cons
abbrev yca:=@List.drop_drop
abbrev ycb:=@List.perm_append_comm
abbrev ycc:=@Array.toList_extract
abbrev ycd:=@List.extract_eq_take_drop
abbrev yce:=@List.drop_take
abbrev ycf:=@List.reverse_append
abbrev ycg:=@List.getElem?_cons_succ
abbrev ych:=@Int.emod_nonneg
abbrev yci:=@Int.emod_lt_of_pos
abbrev ycj:=@Nat.lt_succ_self
abbrev yck:=@List.eq_nil_of_length_eq_zero
abbrev ycl:=@List.length_zip
abbrev ycm:=@List.pairwise_lt_range
abbrev ycn:=@Nat.lt_of_not_le
abbrev yco:=@List.filter_eq_nil_iff
abbrev ycp:=@List.mem_flatten
abbrev ycq:=@List.any_append
abbrev ycr:=@List.filter_filter
abbrev ycs:=@List.length_pos_iff
abbrev yct:=@List.getElem?_replicate
abbrev ycu:=@Nat.add_le_add_left
abbrev ycv:=@Array.perm_iff_toList_perm
abbrev ycw:=@Bool.not_eq_false'
abbrev ycx:=@List.reverse_reverse
abbrev ycy:=@List.zip_cons_cons
abbrev ycz:=@List.getElem?_reverse
abbrev ycA:=@Nat.pos_of_ne_zero
abbrev ycB:=@List.filter_eq_self
abbrev ycC:=@List.map_congr_left
abbrev ycD:=@List.mem_or_eq_of_mem_set
namespace L2
open PySem PySem.Spec PyProof.Rows
abbrev Key:=Sum Int Str
def zi4 : Key→Value→Bool
  | .inl k,v=>Value.isInt k v
  | .inr x,v=>Value.isStrOf x v
def keyH (w : World) : Key→Int
  | .inl k=>hashInt k
  | .inr x=>hashStr w x
theorem zaY : ∀ {k : Key} {v : Value},zi4 k v = true→(∃ i t,k = Sum.inl i∧v = Value.int i t)∨(∃ x t,k = Sum.inr x∧v = Value.str x t)
  | .inl i,v,h=>by
    obtain ⟨t,e⟩:=Value.isInt_shape (k:=i) (v:=v) h
    exact .inl ⟨i,t,rfl,e⟩
  | .inr x,v,h=>by
    obtain ⟨t,e⟩:=Value.isStrOf_shape (x:=x) (v:=v) h
    exact .inr ⟨x,t,rfl,e⟩
theorem zmz (i : Int) (t : Tok) : zi4 (.inl i) (.int i t) = true:=by simp [zi4,Value.isInt]
theorem zmy (x : Str) (t : Tok) : zi4 (.inr x) (.str x t) = true:=by simp [zi4,Value.isStrOf]
theorem zqV (a b : Int) : decide ((Sum.inl a : Key) = Sum.inl b) = (a == b):=by
  by_cases e : a = b
  · subst e; simp
  · have h : ¬ (Sum.inl a : Key) = Sum.inl b:=fun q=>e (Sum.inl.inj q)
    rw [yas h]
    exact (beq_eq_false_iff_ne.mpr e).symm
theorem zqS (a b : Str) : decide ((Sum.inr a : Key) = Sum.inr b) = decide (a = b):=by
  by_cases e : a = b
  · subst e; simp
  · have h : ¬ (Sum.inr a : Key) = Sum.inr b:=fun q=>e (Sum.inr.inj q)
    rw [yas h,yas e]
theorem zqU (a : Int) (b : Str) : decide ((Sum.inl a : Key) = Sum.inr b) = false:=yas (fun q=>nomatch q)
theorem zqT (a : Str) (b : Int) : decide ((Sum.inr a : Key) = Sum.inl b) = false:=yas (fun q=>nomatch q)
def zaF (prog : Program) (w : World) : PySem.KeyKind prog w Key where
  is:=zi4
  hash:=keyH w
  inj:=fun v a b ha hb=>by
    rcases zaY ha with ⟨i,t,rfl,rfl⟩ | ⟨x,t,rfl,rfl⟩
    · rcases zaY hb with ⟨j,u,rfl,e⟩ | ⟨y,u,rfl,e⟩
      · injection e with e1 _; rw [e1]
      · exact nomatch e
    · rcases zaY hb with ⟨j,u,rfl,e⟩ | ⟨y,u,rfl,e⟩
      · exact nomatch e
      · injection e with e1 _; rw [e1]
  byValue:=fun k v h=>by
    rcases zaY h with ⟨i,t,rfl,rfl⟩ | ⟨x,t,rfl,rfl⟩ <;> rfl
  pyHash:=fun hv h=>by
    rcases zaY hv with ⟨i,t,rfl,rfl⟩ | ⟨x,t,rfl,rfl⟩
    · exact wpAny_pyHash_int h
    · exact wpAny_pyHash_str h
  eqBool:=fun hu hv h=>by
    rcases zaY hu with ⟨i,t,rfl,rfl⟩ | ⟨x,t,rfl,rfl⟩
    · rcases zaY hv with ⟨j,u,rfl,rfl⟩ | ⟨y,u,rfl,rfl⟩
      · rw [zqV] at h; exact wpAny_eqBool_int h
      · rw [zqU] at h; exact SeqAt.EqAt.int_str i t y u _ _ _ _ h
    · rcases zaY hv with ⟨j,u,rfl,rfl⟩ | ⟨y,u,rfl,rfl⟩
      · rw [zqT] at h; exact SeqAt.EqAt.str_int x t j u _ _ _ _ h
      · rw [zqS] at h; exact wpAny_eqBool_str h
  «strs»:=fun k x t v h=>by
    rcases zaY h with ⟨i,u,rfl,e⟩ | ⟨y,u,rfl,e⟩
    · exact nomatch e
    · injection e with e1 _
      subst e1
      cases v <;> rfl
theorem zkU (prog : Program) (w : World) (k : Key) (v : Value) : (zaF prog w).is k v = zi4 k v:=rfl
theorem ziZ (prog : Program) (w : World) (i : Int) (t : Tok) : (zaF prog w).is (.inl i) (.int i t) = true:=zmz i t
theorem ziY (prog : Program) (w : World) (x : Str) (t : Tok) : (zaF prog w).is (.inr x) (.str x t) = true:=zmy x t
end L2
namespace L2
open PySem PySem.Spec PyProof.Rows
inductive V where
  | non | bl (b : Bool) | int (i : Int) | str (x : Str) | byt (b : Array UInt8) | flt (b : UInt64) | ref (a : Addr) | ty (n : String)
  deriving DecidableEq
def RelV : V→Value→Prop
  | .non,u=>u = Value.none
  | .bl b,u=>u = Value.bool b
  | .int i,u=>∃ t,u = Value.int i t
  | .str x,u=>∃ t,u = Value.str x t
  | .byt b,u=>∃ t,u = Value.bytes b t
  | .flt b,u=>∃ t,u = Value.float b t
  | .ref a,u=>u = Value.ref a
  | .ty n,u=>u = Value.type n
abbrev Vals : List V→List Value→Prop:=Paired RelV
theorem Vals.length {xs : List V} {us : List Value} (r : Vals xs us) : xs.length = us.length:=Paired.length r
theorem Vals.get : ∀ {xs : List V} {us : List Value} {i : Nat} {x : V},Vals xs us→xs[i]? = some x→∃ u,us[i]? = some u∧RelV x u
  | _,_,_,_,.nil,e=>by simp at e
  | _,_,0,_,.cons r _,e=>by simp at e; subst e; exact ⟨_,rfl,r⟩
  | _,_,i + 1,x,.cons _ t,e=>by
    obtain ⟨u,h1,h2⟩:=Vals.get (i:=i) (x:=x) t (by simpa using e)
    exact ⟨u,by simpa using h1,h2⟩
theorem Vals.set {x : V} {u : Value} (r : RelV x u) : ∀ {xs : List V} {us : List Value} (i : Nat),Vals xs us→Vals (xs.set i x) (us.set i u)
  | _,_,_,.nil=>.nil
  | _,_,0,.cons _ t=>.cons r t
  | _,_,i + 1,.cons q t=>.cons q (Vals.set r i t)
theorem Vals.append : ∀ {xs ys : List V} {us ws : List Value},Vals xs us→Vals ys ws→Vals (xs ++ ys) (us ++ ws)
  | _,_,_,_,.nil,s=>s
  | _,_,_,_,.cons r t,s=>.cons r (Vals.append t s)
theorem Vals.take : ∀ {xs : List V} {us : List Value} (n : Nat),Vals xs us→Vals (xs.take n) (us.take n)
  | _,_,0,_=>.nil
  | _,_,_ + 1,.nil=>.nil
  | _,_,n + 1,.cons r t=>.cons r (Vals.take n t)
theorem Vals.drop : ∀ {xs : List V} {us : List Value} (n : Nat),Vals xs us→Vals (xs.drop n) (us.drop n)
  | _,_,0,r=>r
  | _,_,_ + 1,.nil=>.nil
  | _,_,n + 1,.cons _ t=>Vals.drop n t
def RelO : Option V→Option Value→Prop
  | some v,some u=>RelV v u
  | none,none=>True
  | _,_=>False
def KV {κ : Type} : List (κ×V)→List (κ×Value)→Prop:=Paired fun (p : κ×V) (q : κ×Value)=>p.1 = q.1∧RelV p.2 q.2
def kV : Key→V
  | .inl i=>.int i
  | .inr x=>.str x
inductive HO where
  | lst (xs : List V)
  | tup (xs : List V)
  | dK (kvs : List (Key×V)) | dT (kvs : List (List Key×V))
  | set (S : Int→Bool) (n : Nat)
  | ins (C dx : Addr) (fs : List (Str×V))
  | own (x : Addr)
  | xd (fs : List (Str×V))
  | met (f x : Addr)
  | rng (lo hi : Int)
  | frz (o : Obj) (u : HO)
  | tbl (ps : Array Value)
  | ext (φ : Heap→Prop)
abbrev Hp:=Addr→Option HO
def upd (H : Hp) (a : Addr) (o : HO) : Hp:=fun b=>if b = a then some o else H b
theorem zac {H : Hp} {a : Addr} {o : HO} : upd H a o a = some o:=by unfold upd; rw [if_pos rfl]
theorem zag {H : Hp} {a b : Addr} {o : HO} (h : b≠a) : upd H a o b = H b:=by unfold upd; rw [if_neg h]
theorem zoV {H : Hp} {a : Addr} {o u : HO} : upd (upd H a o) a u = upd H a u:=by
  funext b; unfold upd; split <;> rfl
theorem zqK {H : Hp} {a b : Addr} {o u : HO} (h : H a = some o) (h' : H b = some u) (d : o≠u) : a≠b:=by
  intro e; subst e; rw [h] at h'; exact d (yae h')
theorem zab {H : Hp} {a b : Addr} {o : HO} (h : H a = some o) (h' : H b = none) : a≠b:=by
  intro e; subst e; rw [h] at h'; cases h'
section
variable (P : Program) (w : World)
def zbs (H : Hp) (h : Heap) (a : Addr) : HO→Prop
  | .lst xs=>xs.length≤sizeLine∧∃ (its : List Value) (n : Nat),Vals xs its∧h.get? a = some { cls:=.type "list",data:=.seq its.toArray n }
  | .tup xs=>xs.length≤sizeLine∧∃ its : List Value,Vals xs its∧IsTup h a its.toArray
  | .dK kvs=>kvs.length≤sizeLine∧(a == sysModules) = false∧∃ vs,KV kvs vs∧h.DictOf (zaF P w) a vs
  | .dT kvs=>kvs.length≤sizeLine∧(a == sysModules) = false∧∃ xs : List (List Key×Addr×Value),
      Paired (fun (p : List Key×V) (q : List Key×Addr×Value)=>p.1 = q.1∧H q.2.1 = some (.tup (p.1.map kV))∧RelV p.2 q.2.2) kvs xs∧
      ∃ o es ep,h.get? a = some o∧o.ExactDict∧o.data = .dict es ep∧es.toList = xs.map (entryOfKey (tupleKind (zaF P w)))∧(xs.map (·.1)).Nodup
  | .set S n=>h.SetOf (intKind P w) a S n
  | .ins C dx fs=>H dx = some (.own a)∧fs.length≤1000∧dx≠a∧h.get? a = some (PySem.W.instObj C dx)∧
      ∃ mA,h.Ns1 dx mA∧(∀ f,RelO (fs.lookup f) (mA f))∧PySem.Within mA (fs.map (·.1))
  | .own _=>∃ o,h.get? a = some o
  | .xd fs=>∃ mA,h.Ns1 a mA∧∀ f,RelO (fs.lookup f) (mA f)
  | .rng lo hi=>∃ t u v,h.get? a = some { cls:=.type "range",data:=.fields #[.int lo t,.int hi u,.int 1 v] }
  | .frz o u=>h.get? a = some o∧zbs H h a u
  | .tbl ps=>h.get? a = some { cls:=.none,data:=.fields ps }
  | .met f x=>h.get? a = some (PySem.W.methodObj (.ref f) (.ref x))
  | .ext φ=>φ h∧(∃ o,h.get? a = some o)∧∀ h1 h2 : Heap,φ h1→(∀ o,h1.get? a = some o→h2.get? a = some o)→φ h2
def HOk (H : Hp) (h : Heap) : Prop:=∀ a o,H a = some o→zbs P w H h a o
end
section
variable {P : Program} {w : World} {H H' : Hp} {h h' : Heap} {a : Addr} {o : HO}
theorem zbs.lt (x : zbs P w H h a o) : a < h.objs.size:=by
  cases o with
  | lst xs=>obtain ⟨_,_,_,_,e⟩:=x; exact yaf e
  | tup xs=>obtain ⟨_,_,_,p⟩:=x; exact p.lt
  | dK kvs=>obtain ⟨_,_,_,_,o,_,_,e,_⟩:=x; exact yaf e
  | dT kvs=>obtain ⟨_,_,_,_,o,_,_,e,_⟩:=x; exact yaf e
  | set S n=>obtain ⟨o,_,_,_,e,_⟩:=x; exact yaf e
  | ins C dx fs=>obtain ⟨_,_,_,e,_⟩:=x; exact yaf e
  | own y=>obtain ⟨_,e⟩:=x; exact yaf e
  | xd fs=>obtain ⟨_,⟨_,_,_,e,_⟩,_⟩:=x; exact yaf e
  | rng lo hi=>obtain ⟨_,_,_,e⟩:=x; exact yaf e
  | frz ob u=>obtain ⟨e,_⟩:=x; exact yaf e
  | tbl ps=>exact yaf (show h.get? a = some _ from x)
  | met f y=>exact yaf (show h.get? a = some _ from x)
  | ext φ=>obtain ⟨_,⟨_,e⟩,_⟩:=x; exact yaf e
theorem Paired.mapP {α β : Type} {F G : α→β→Prop} : ∀ {l₁ : List α} {l₂ : List β},Paired F l₁ l₂→(∀ a b,F a b→G a b)→Paired G l₁ l₂
  | _,_,.nil,_=>.nil
  | _,_,.cons r t,f=>.cons (f _ _ r) (Paired.mapP t f)
theorem zbs.stay (x : zbs P w H h a o) (k : ∀ b u,(b = a∨H b = some (.own a))→h.get? b = some u→h'.get? b = some u)
    (ho : ∀ b,H b = some (.own a)→H' b = some (.own a)) (ht : ∀ b xs,H b = some (.tup xs)→H' b = some (.tup xs)) : zbs P w H' h' a o:=by
  induction o with
  | lst xs=>obtain ⟨z,its,n,r,e⟩:=x; exact ⟨z,its,n,r,k _ _ (.inl rfl) e⟩
  | tup xs=>obtain ⟨z,its,r,ob,e,c⟩:=x; exact ⟨z,its,r,ob,k _ _ (.inl rfl) e,c⟩
  | dK kvs=>obtain ⟨z,y,vs,r,ob,es,ep,e,c⟩:=x; exact ⟨z,y,vs,r,ob,es,ep,k _ _ (.inl rfl) e,c⟩
  | dT kvs=>
    obtain ⟨z,y,xs,r,ob,es,ep,e,c⟩:=x
    exact ⟨z,y,xs,Paired.mapP r fun p q z=>⟨z.1,ht _ _ z.2.1,z.2.2⟩,ob,es,ep,k _ _ (.inl rfl) e,c⟩
  | set S n=>obtain ⟨ob,es,ep,t,e,c⟩:=x; exact ⟨ob,es,ep,t,k _ _ (.inl rfl) e,c⟩
  | ins C dx fs=>
    obtain ⟨d,z,ne,e,mA,⟨od,es,ep,e2,c⟩,r⟩:=x
    exact ⟨ho _ d,z,ne,k _ _ (.inl rfl) e,mA,⟨od,es,ep,k _ _ (.inr d) e2,c⟩,r⟩
  | own y=>obtain ⟨ob,e⟩:=x; exact ⟨ob,k _ _ (.inl rfl) e⟩
  | xd fs=>obtain ⟨mA,⟨od,es,ep,e,c⟩,r⟩:=x; exact ⟨mA,⟨od,es,ep,k _ _ (.inl rfl) e,c⟩,r⟩
  | rng lo hi=>obtain ⟨t,u,v,e⟩:=x; exact ⟨t,u,v,k _ _ (.inl rfl) e⟩
  | frz ob u ih=>obtain ⟨e,q⟩:=x; exact ⟨k _ _ (.inl rfl) e,ih q⟩
  | tbl ps=>
    have e : h.get? a = some { cls:=.none,data:=.fields ps }:=x
    show h'.get? a = some { cls:=.none,data:=.fields ps }
    exact k a _ (.inl rfl) e
  | met f y=>
    have e : h.get? a = some (PySem.W.methodObj (.ref f) (.ref y)):=x
    show h'.get? a = some (PySem.W.methodObj (.ref f) (.ref y))
    exact k a _ (.inl rfl) e
  | ext φ=>obtain ⟨p,⟨o,e⟩,st⟩:=x; exact ⟨st _ _ p fun o q=>k _ _ (.inl rfl) q,⟨o,k _ _ (.inl rfl) e⟩,st⟩
theorem HOk.lt (x : HOk P w H h) (e : H a = some o) : a < h.objs.size:=(x a o e).lt
theorem HOk.fresh (x : HOk P w H h) (e : h.objs.size≤a) : H a = none:=by
  cases q : H a with
  | none=>rfl
  | some u=>exact absurd (yau (x.lt q) e) (yaX _)
theorem HOk.kept (x : HOk P w H h) (k : ∀ b u,h.get? b = some u→h'.get? b = some u) : HOk P w H h':=fun a o e=>
  (x a o e).stay (fun b u _ q=>k b u q) (fun _ q=>q) fun _ _ q=>q
theorem HOk.laid (x : HOk P w H h) (k : ∀ b u,h.get? b = some u→h'.get? b = some u) (hp : h.objs.size≤a) (new : zbs P w (upd H a o) h' a o) : HOk P w (upd H a o) h':=fun b u e=>by
  have hn:=x.fresh hp
  by_cases hb : b = a
  · subst hb; rw [zac] at e; cases e; exact new
  · rw [zag hb] at e
    exact (x b u e).stay (fun c v _ q=>k c v q) (fun c q=>by rw [zag (zab q hn)]; exact q) fun c xs q=>by rw [zag (zab q hn)]; exact q
end
def Rd (H : Hp) (a : Addr) (u : HO) : Prop:=H a = some u∨∃ o,H a = some (.frz o u)
theorem Rd.ok {P : Program} {w : World} {H : Hp} {h : Heap} {a : Addr} {u : HO} (r : Rd H a u) (x : HOk P w H h) : zbs P w H h a u:=by
  rcases r with r | ⟨o,r⟩
  · exact x a u r
  · obtain ⟨_,q⟩:=x a _ r
    exact q
def Mut : Option HO→Prop
  | some (.lst _)=>True
  | some (.dK _)=>True
  | some (.dT _)=>True
  | some (.set _ _)=>True
  | some (.ins _ _ _)=>True
  | some (.ext _)=>True
  | _=>False
section
variable {P : Program} {w : World} {H : Hp} {h h' : Heap} {x e : Addr} {o' : HO}
theorem HOk.write (ok : HOk P w H h) (mu : Mut (H x)) (he : e = x∨H e = some (.own x)) (k : ∀ b u,b≠e→h.get? b = some u→h'.get? b = some u) (heo : ∃ u,h'.get? e = some u)
    (new : zbs P w (upd H x o') h' x o') : HOk P w (upd H x o') h':=fun b u q=>by
  have nown : ∀ c y,H c = some (.own y)→c≠x:=fun c y r z=>by subst z; rw [r] at mu; exact mu
  have ntup : ∀ c xs,H c = some (.tup xs)→c≠x:=fun c xs r z=>by subst z; rw [r] at mu; exact mu
  by_cases hb : b = x
  · subst hb; rw [zac] at q; cases q; exact new
  · rw [zag hb] at q
    by_cases hbe : b = e
    · have q' : H b = some (.own x):=by
        rcases he with z | z
        · exact absurd (hbe.trans z) hb
        · rw [hbe]; exact z
      rw [q] at q'; cases q'
      obtain ⟨v,hv⟩:=heo
      exact ⟨v,by rw [hbe]; exact hv⟩
    · refine (ok b u q).stay (fun c v hc r=>k c v ?_ r) (fun c r=>by rw [zag (nown c b r)]; exact r) fun c xs r=>by rw [zag (ntup c xs r)]; exact r
      rcases hc with rfl | hc
      · exact hbe
      · rintro rfl
        rcases he with z | z
        · exact nown c b hc z
        · rw [hc] at z; cases z; exact hb rfl
end
structure Un (fs ex : List Addr) (H H' : Hp) (h h' : Heap) : Prop where
  keep : ∀ b o,h.get? b = some o→H b = none→b∉fs→b∉ex→h'.get? b = some o
  slot : ∀ b o,h.get? b = some o→H b = none→b∈fs→b∉ex→∃ sl,h'.get? b = some { o with slots:=sl }
  free : ∀ b o,h.get? b = some o→H b = none→b∉ex→H' b = none
  there : ∀ b o,h.get? b = some o→b∉ex→∃ o',h'.get? b = some o'
  tups : ∀ b xs,H b = some (.tup xs)→H' b = some (.tup xs)
  frzs : ∀ b o u,H b = some (.frz o u)→H' b = some (.frz o u)
  tbls : ∀ b ps,H b = some (.tbl ps)→∃ more,H' b = some (.tbl (ps ++ more))
section
variable {fs fs' ex ex' : List Addr} {H H1 H2 : Hp} {h h1 h2 h' : Heap} {a x e : Addr} {o : HO}
theorem Un.any (u : Un fs ex H H1 h h1) {b : Addr} {ob : Obj} (q : h.get? b = some ob) (n : H b = none) (hx : b∉ex) : ∃ sl,h1.get? b = some { ob with slots:=sl }:=by
  by_cases hb : b∈fs
  · exact u.slot b ob q n hb hx
  · exact ⟨ob.slots,u.keep b ob q n hb hx⟩
theorem Un.kept (k : ∀ b u,h.get? b = some u→h'.get? b = some u) : Un fs ex H H h h':=
  ⟨fun b ob q _ _ _=>k b ob q,fun b ob q _ _ _=>⟨ob.slots,k b ob q⟩,fun _ _ _ n _=>n,fun b ob q _=>⟨ob,k b ob q⟩,fun _ _ q=>q,fun _ _ _ q=>q,fun _ ps q=>⟨#[],by rw [q]; simp⟩⟩
theorem Un.refl : Un fs ex H H h h:=Un.kept fun _ _ q=>q
theorem Un.laid (k : ∀ b u,h.get? b = some u→h'.get? b = some u) (hp : h.objs.size≤a) (hn : H a = none) : Un fs ex H (upd H a o) h h' where
  keep:=fun b u q _ _ _=>k b u q
  slot:=fun b u q _ _ _=>⟨u.slots,k b u q⟩
  free:=fun b u q n _=>by rw [zag (yar (yau (yaf q) hp))]; exact n
  there:=fun b u q _=>⟨u,k b u q⟩
  tups:=fun b xs q=>by rw [zag (zab q hn)]; exact q
  frzs:=fun b u xs q=>by rw [zag (zab q hn)]; exact q
  tbls:=fun b ps q=>⟨#[],by rw [zag (zab q hn),q]; simp⟩
theorem Un.write (mu : Mut (H x)) (he : e = x∨H e = some (.own x)) (k : ∀ b u,b≠e→h.get? b = some u→h'.get? b = some u) (heo : ∃ u,h'.get? e = some u) : Un fs ex H (upd H x o) h h':=by
  have hx : ∀ b,H b = none→b≠x:=fun b n z=>by subst z; rw [n] at mu; exact mu
  have hb : ∀ b,H b = none→b≠e:=fun b n z=>by
    subst z
    rcases he with r | r
    · exact hx b n r
    · rw [n] at r; cases r
  have hm : ∀ b u,H b = some u→¬ Mut (some u)→b≠x:=fun b u q nm z=>by subst z; rw [q] at mu; exact nm mu
  refine ⟨fun b u q n _ _=>k b u (hb b n) q,fun b u q n _ _=>⟨u.slots,k b u (hb b n) q⟩,fun b u q n _=>by rw [zag (hx b n)]; exact n,fun b u q _=>?_,
    fun b xs q=>by rw [zag (hm b _ q fun z=>z)]; exact q,fun b u xs q=>by rw [zag (hm b _ q fun z=>z)]; exact q,fun b ps q=>⟨#[],by rw [zag (hm b _ q fun z=>z),q]; simp⟩⟩
  by_cases hbe : b = e
  · subst hbe; exact heo
  · exact ⟨u,k b u hbe q⟩
end
def trk (h : Heap) (H : Hp) : List Addr:=(List.range h.objs.size).filter fun a=>(H a).isSome
def hidT (h : Heap) (H : Hp) : Heap:=PySem.W.hideAll h (trk h H)
theorem zmG (h : Heap) (H : Hp) : (hidT h H).objs.size = h.objs.size:=PySem.W.hideAll_size _ _
theorem zn6 {h : Heap} {H : Hp} {b : Addr} {o : Obj} (e : h.get? b = some o) (n : H b = none) : (hidT h H).get? b = some o:=
  PySem.W.hideAll_get _ e fun hm=>by
    have q : (H b).isSome = true:=(ya3.mp hm).2
    rw [n] at q; simp at q
theorem zpv {h : Heap} {H : Hp} {b : Addr} {o : Obj} (e : (hidT h H).get? b = some o) : h.get? b = some o∧H b = none:=by
  have e' : h.get? b = some o:=PySem.W.of_hideAll (trk h H) e
  refine ⟨e',?_⟩
  cases q : H b with
  | none=>rfl
  | some x=>
    have hm : b∈trk h H:=ya3.mpr ⟨ya9.mpr (yaf e'),by simp [q]⟩
    have z : (hidT h H).get? b = none:=PySem.W.hideAll_none (trk h H) hm
    rw [z] at e; cases e
def zp0 (g h : Heap) (L : Addr) : List (Addr×Obj):=(List.range h.objs.size).filterMap fun a=>if a = L∨(g.get? a).isSome = true then none else (h.get? a).map fun o=>(a,o)
def rest (g h : Heap) (L d : Addr) : List (Addr×Obj):=(zp0 g h L).filter fun p=>decide (p.1≠d)
end L2
namespace L2
open PySem PySem.Spec PyProof.Rows
structure Mod (K : Frag) (mg : Str→Option Value) (base : Heap) : Prop where
  kin : K.In base
  glob : base.Ns mainGlobals mg
  blt : ∃ mb,base.Ns builtinsNs mb∧∀ x : Str,x ≠ "__name__"→mb x = bootBuiltins x
  nolimit : base.NoLimit
structure Cx where
  prog : Program
  w : World
  K : Frag
  mg : Str→Option Value
  base : Heap
  A : Around
  N : List Str
  s₀ : Shared
  H₀ : Hp
  env : Env
  outer : List Env
  stack : List Env
  ex : List Addr
  fn : Str→Bool
  calm : Bool
  pn : List (Addr×Obj)
  xe : Value→Shared→Prop
def frs (l : List Env) : List Addr:=l.filterMap (·.frame)
abbrev Cx.fs (X : Cx) : List Addr:=frs X.outer
def Vis (sc : Scope) (x : Str) : Prop:=sc.names.lookup x = some .local∨sc.names.lookup x = some .cell∨sc.names.lookup x = some .free
def Loc (sc : Scope) (x : Str) : Prop:=sc.names.lookup x = some .local∨sc.names.lookup x = some .cell
def Look (env : Env) (h : Heap) (m : Str→Option Value) (x : Str) (u : Value) : Prop:=
  (env.kindOf x = some .local∧m x = some u)∨((env.kindOf x = some .cell∨env.kindOf x = some .free)∧∃ c,env.cells.lookup x = some c∧h.IsCell c (some u))
structure Cx.Ok (X : Cx) : Prop where
  mod : Mod X.K X.mg X.base
  kind : X.env.scope.kind = .function
  glob : X.env.globals = mainGlobals
  blt : X.env.builtins = builtinsNs
  above : X.s₀.heap.objs.size≤X.env.locals
  inj : ∀ x y c,X.env.cells.lookup x = some c→X.env.cells.lookup y = some c→x = y
  has : ∀ x,(X.env.kindOf x = some .cell∨X.env.kindOf x = some .free)→∃ c,X.env.cells.lookup x = some c
  cab : ∀ x c,X.fn x = true→X.env.cells.lookup x = some c→X.s₀.heap.objs.size≤c
  hd : X.calm = true→X.A.handled = none
  frames : X.A.frames = some X.stack
  stk : X.stack = X.outer∨(X.stack = X.env :: X.outer∧X.env.frame = some X.env.locals)
  exf : ∀ b∈X.ex,b≠X.env.locals∧∀ x c,X.env.cells.lookup x = some c→c≠b
  bs : ∀ b o,X.base.get? b = some o→X.s₀.heap.get? b = some o∧X.H₀ b = none
  bsz : X.base.objs.size≤X.s₀.heap.objs.size
  noex : ∀ b o,X.base.get? b = some o→b∉X.ex
  exfs : ∀ b∈X.ex,b∉X.fs
  funs : X.s₀.heap.FunFrames X.base X.outer
  frf : ∀ b∈X.fs,X.H₀ b = none
structure Inv (X : Cx) (pins : List (Addr×Obj)) (σ : List (Option V)) (H : Hp) (s : Shared) : Prop where
  ok : X.Ok
  os : s.os = X.s₀.os
  bare : AllBare s.gens
  base : Un X.fs X.ex X.H₀ H X.s₀.heap s.heap
  loc : ∃ m,s.heap.Ns X.env.locals m∧∀ (i : Nat) (x : Str) (v : V),X.N[i]? = some x→σ[i]? = some (some v)→Vis X.env.scope x→∃ u,RelV v u∧Look X.env s.heap m x u
  cell : ∀ x c,X.env.cells.lookup x = some c→∃ v,s.heap.IsCell c v
  free : H X.env.locals = none
  freeC : ∀ x c,X.env.cells.lookup x = some c→H c = none
  pin : ∀ p∈X.pn ++ pins,s.heap.get? p.1 = some p.2∧H p.1 = none∧p.1≠X.env.locals∧p.1∉X.fs∧∀ v,p.2.data≠.cell v
  hok : HOk X.prog X.w H s.heap
  len : σ.length = X.N.length
section
variable {X : Cx} {pins : List (Addr×Obj)} {σ : List (Option V)} {H H' : Hp} {s : Shared} {h' : Heap}
theorem Cx.Ok.nofr (ok : X.Ok) {b : Addr} {o : Obj} (e : X.base.get? b = some o) : b∉X.fs:=fun hb=>by
  have:=(ok.funs.mem hb).1
  rw [e] at this; cases this
theorem Inv.bs (I : Inv X pins σ H s) : ∀ b o,X.base.get? b = some o→s.heap.get? b = some o∧H b = none:=fun b o e=>
  ⟨I.base.keep b o (I.ok.bs b o e).1 (I.ok.bs b o e).2 (I.ok.nofr e) (I.ok.noex b o e),I.base.free b o (I.ok.bs b o e).1 (I.ok.bs b o e).2 (I.ok.noex b o e)⟩
theorem Inv.bk (I : Inv X pins σ H s) : ∀ b o,X.base.get? b = some o→s.heap.get? b = some o:=fun b o e=>(I.bs b o e).1
theorem Inv.mod (I : Inv X pins σ H s) : Mod X.K X.mg X.base:=I.ok.mod
theorem Inv.kIn (I : Inv X pins σ H s) : X.K.In s.heap:=I.ok.mod.kin.keeps I.bk
theorem Inv.lt (I : Inv X pins σ H s) : X.env.locals < s.heap.objs.size:=let ⟨_,hn,_⟩:=I.loc; hn.lt
theorem Inv.sz (I : Inv X pins σ H s) : X.s₀.heap.objs.size≤s.heap.objs.size:=yat I.ok.above (ybm I.lt)
theorem Inv.nofs (I : Inv X pins σ H s) {a : Addr} (h : s.heap.objs.size≤a) : a∉X.fs:=fun hb=>by
  obtain ⟨_,o,ho,_⟩:=I.ok.funs.mem hb
  exact absurd (yau (yaf ho) (yat I.sz h)) (yaX _)
theorem Inv.cne (I : Inv X pins σ H s) : ∀ x c,X.env.cells.lookup x = some c→c≠X.env.locals:=fun x c e z=>by
  obtain ⟨v,o,ho,hd⟩:=I.cell x c e
  obtain ⟨m,⟨o',es,ep,ho',hd',_⟩,_⟩:=I.loc
  rw [z,ho'] at ho; cases ho; rw [hd'] at hd; cases hd
theorem Inv.funs (I : Inv X pins σ H s) : s.heap.FunFrames X.base X.outer:=by
  have all : ∀ (l : List Env),(∀ b∈frs l,b∈X.fs)→X.s₀.heap.FunFrames X.base l→s.heap.FunFrames X.base l:=by
    intro l
    induction l with
    | nil=>intro _ _; trivial
    | cons env r ih=>
      intro hs hl
      obtain ⟨hk,⟨L,o,hf,hn,ho,hd⟩,hr⟩:=hl
      have hL : L∈X.fs:=hs L (by unfold frs; rw [ybS,hf]; exact yaz)
      obtain ⟨sl,e⟩:=I.base.slot L o ho (I.ok.frf L hL) hL fun z=>I.ok.exfs L z hL
      exact ⟨hk,⟨L,_,hf,hn,e,hd⟩,ih (fun b hb=>hs b (by unfold frs; rw [ybS,hf]; exact yaG _ hb)) hr⟩
  exact all X.outer (fun _ hb=>hb) I.ok.funs
theorem Inv.stack (I : Inv X pins σ H s) : s.heap.FunFrames X.base X.stack:=by
  rcases I.ok.stk with e | ⟨e,hf⟩
  · rw [e]; exact I.funs
  · rw [e]
    obtain ⟨m,hn,_⟩:=I.loc
    refine .cons (by rw [I.ok.kind]; decide) hf hn ?_ I.funs
    exact Heap.get?_none_of_le (yat I.ok.bsz I.ok.above)
theorem Inv.stkSub (I : Inv X pins σ H s) : ∀ b∈frs X.stack,b∈X.env.locals :: X.fs:=fun b hb=>by
  rcases I.ok.stk with e | ⟨e,hf⟩
  · rw [e] at hb; exact yaG _ hb
  · rw [e] at hb
    unfold frs at hb
    rw [ybS,hf] at hb
    exact hb
theorem Inv.stkFree (I : Inv X pins σ H s) : ∀ b∈frs X.stack,H b = none:=fun b hb=>by
  rcases yap.mp (I.stkSub b hb) with e | hb
  · rw [e]; exact I.free
  · obtain ⟨_,o,ho,_⟩:=I.ok.funs.mem hb
    exact I.base.free b o ho (I.ok.frf b hb) fun z=>I.ok.exfs b z hb
theorem Inv.step {g' : Array GenState} {t' : Nat} {d' : Drawn} {ch : List Addr} (I : Inv X pins σ H s)
    (hch : ∀ b∈ch,(b∈X.ex∨X.s₀.heap.objs.size≤b)∧b≠X.env.locals∧(∀ x c,X.env.cells.lookup x = some c→c≠b)∧∀ p∈X.pn ++ pins,p.1≠b)
    (keep : ∀ b o,b≠X.env.locals→b∉X.fs→b∉ch→s.heap.get? b = some o→H b = none→h'.get? b = some o)
    (slot : ∀ b o,b≠X.env.locals→b∈X.fs→b∉ch→s.heap.get? b = some o→H b = none→∃ sl,h'.get? b = some { o with slots:=sl }) (free : ∀ b o,b∉ch→s.heap.get? b = some o→H b = none→H' b = none)
    (there : ∀ b o,b∉ch→s.heap.get? b = some o→∃ o',h'.get? b = some o')
    (tups : ∀ b xs,H b = some (.tup xs)→H' b = some (.tup xs)) (frzs : ∀ b o u,H b = some (.frz o u)→H' b = some (.frz o u)) (tbls : ∀ b ps,H b = some (.tbl ps)→∃ more,H' b = some (.tbl (ps ++ more)))
    (ns : ∀ m,s.heap.Ns X.env.locals m→h'.Ns X.env.locals m) (hok : HOk X.prog X.w H' h') (hg : AllBare g') :
    Inv X pins σ H' { s with heap:=h',gens:=g',drawn:=d',toks:=t' }:=by
  have neL : ∀ b o,X.s₀.heap.get? b = some o→b≠X.env.locals:=fun b o e=>yar (yau (yaf e) I.ok.above)
  have neC : ∀ b o,X.s₀.heap.get? b = some o→b∉X.ex→b∉ch:=fun b o e hx hb=>by
    rcases (hch b hb).1 with z | z
    · exact hx z
    · exact absurd (yau (yaf e) z) (yaX _)
  have cellK : ∀ x c,X.env.cells.lookup x = some c→∀ v,s.heap.IsCell c v→h'.IsCell c v:=fun x c e v ⟨o,ho,hd⟩=>by
    have nch : c∉ch:=fun z=>(hch c z).2.2.1 x c e rfl
    by_cases hc : c∈X.fs
    · obtain ⟨sl,q⟩:=slot c o (I.cne x c e) hc nch ho (I.freeC x c e)
      exact ⟨_,q,hd⟩
    · exact ⟨o,keep c o (I.cne x c e) hc nch ho (I.freeC x c e),hd⟩
  refine ⟨I.ok,I.os,hg,⟨fun b o e n hb hx=>?_,fun b o e n hb hx=>?_,fun b o e n hx=>?_,fun b o e hx=>?_,fun b xs e=>tups b xs (I.base.tups b xs e),fun b o xs e=>frzs b o xs (I.base.frzs b o xs e),fun b ps e=>?_⟩,?_,fun x c e=>?_,?_,fun x c e=>?_,fun p hp=>?_,hok,I.len⟩
  · exact keep b o (neL b o e) hb (neC b o e hx) (I.base.keep b o e n hb hx) (I.base.free b o e n hx)
  · obtain ⟨sl,e1⟩:=I.base.slot b o e n hb hx
    obtain ⟨sl',e2⟩:=slot b _ (neL b o e) hb (neC b o e hx) e1 (I.base.free b o e n hx)
    exact ⟨sl',e2⟩
  · obtain ⟨o',e1⟩:=I.base.there b o e hx
    exact free b o' (neC b o e hx) e1 (I.base.free b o e n hx)
  · obtain ⟨o',e1⟩:=I.base.there b o e hx
    exact there b o' (neC b o e hx) e1
  · obtain ⟨m1,e1⟩:=I.base.tbls b ps e
    obtain ⟨m2,e2⟩:=tbls b _ e1
    exact ⟨m1 ++ m2,by rw [e2,Array.append_assoc]⟩
  · obtain ⟨m,hn,hl⟩:=I.loc
    refine ⟨m,ns m hn,fun i x v e1 e2 e3=>?_⟩
    obtain ⟨u,r,l⟩:=hl i x v e1 e2 e3
    refine ⟨u,r,?_⟩
    rcases l with l | ⟨k,c,e,z⟩
    · exact .inl l
    · exact .inr ⟨k,c,e,cellK x c e _ z⟩
  · obtain ⟨v,z⟩:=I.cell x c e
    exact ⟨v,cellK x c e v z⟩
  · obtain ⟨m,⟨o,_,_,ho,_⟩,_⟩:=I.loc
    exact free _ o (fun z=>(hch _ z).2.1 rfl) ho I.free
  · obtain ⟨v,o,ho,hd⟩:=I.cell x c e
    exact free c o (fun z=>(hch c z).2.2.1 x c e rfl) ho (I.freeC x c e)
  · obtain ⟨e,n,ne,nf,d⟩:=I.pin p hp
    have nch : p.1∉ch:=fun z=>(hch p.1 z).2.2.2 p hp rfl
    exact ⟨keep p.1 p.2 ne nf nch e n,free p.1 p.2 nch e n,ne,nf,d⟩
theorem Inv.un {t' : Nat} (I : Inv X pins σ H s) (u : Un X.fs [] H H' s.heap h') (hok : HOk X.prog X.w H' h') : Inv X pins σ H' { s with heap:=h',toks:=t' }:=by
  obtain ⟨m,⟨o,es,ep,ho,r⟩,_⟩:=id I.loc
  obtain ⟨sl,hL⟩:=u.any ho I.free (by simp)
  exact I.step (g':=s.gens) (d':=s.drawn) (ch:=[]) (fun _ z=>nomatch z) (fun b o _ hb _ e n=>u.keep b o e n hb (by simp)) (fun b o _ hb _ e n=>u.slot b o e n hb (by simp)) (fun b o _ e n=>u.free b o e n (by simp)) (fun b o _ e=>u.there b o e (by simp)) u.tups u.frzs u.tbls (fun m' hm=>by
    obtain ⟨o',es',ep',ho',r'⟩:=hm
    rw [ho] at ho'; cases ho'
    exact ⟨_,es',ep',hL,r'⟩) hok I.bare
theorem Inv.call {g' : Array GenState} {t' : Nat} {d' : Drawn} {ch : List Addr} (I : Inv X pins σ H s) (u : Un (frs X.stack) ch H H' s.heap h') (hok : HOk X.prog X.w H' h') (hg : AllBare g')
    (hch : ∀ b∈ch,(b∈X.ex∨X.s₀.heap.objs.size≤b)∧b≠X.env.locals∧(∀ x c,X.env.cells.lookup x = some c→c≠b)∧∀ p∈X.pn ++ pins,p.1≠b) :
    Inv X pins σ H' { s with heap:=h',gens:=g',drawn:=d',toks:=t' }:=by
  obtain ⟨m,⟨o,es,ep,ho,r⟩,_⟩:=id I.loc
  obtain ⟨sl,hL⟩:=u.any ho I.free fun z=>(hch _ z).2.1 rfl
  exact I.step (ch:=ch) hch (fun b o hL hb hc e n=>u.keep b o e n (fun z=>(yap.mp (I.stkSub b z)).elim hL hb) hc) (fun b o _ _ hc e n=>u.any e n hc) (fun b o hc e n=>u.free b o e n hc) (fun b o hc e=>u.there b o e hc) u.tups u.frzs u.tbls (fun m' hm=>by
    obtain ⟨o',es',ep',ho',r'⟩:=hm
    rw [ho] at ho'; cases ho'
    exact ⟨_,es',ep',hL,r'⟩) hok hg
theorem Inv.turned {t' : Nat} {it : Addr} (I : Inv X pins σ H s) (k : ∀ b o,b≠it→s.heap.get? b = some o→h'.get? b = some o) (hn : H it = none) (hL : it≠X.env.locals)
    (h1 : it∈X.ex∨X.s₀.heap.objs.size≤it) (h2 : ∀ x c,X.env.cells.lookup x = some c→c≠it) (h3 : ∀ p∈X.pn ++ pins,p.1≠it) : Inv X pins σ H { s with heap:=h',toks:=t' }:=by
  have nit : ∀ b u,H b = some u→b≠it:=fun b u e z=>by rw [z,hn] at e; cases e
  refine I.step (g':=s.gens) (d':=s.drawn) (ch:=[it]) (fun b hb=>?_) (fun b o _ _ hc e _=>k b o (fun z=>hc (by simp [z])) e) (fun b o _ _ hc e _=>⟨o.slots,k b o (fun z=>hc (by simp [z])) e⟩) (fun _ _ _ _ n=>n)
    (fun b o hc e=>⟨o,k b o (fun z=>hc (by simp [z])) e⟩) (fun _ _ e=>e) (fun _ _ _ e=>e) (fun b ps e=>⟨#[],by rw [e]; simp⟩) (fun m hm=>?_) (fun b u e=>?_) I.bare
  · have e : b = it:=by simpa using hb
    subst e
    exact ⟨h1,hL,h2,h3⟩
  · obtain ⟨o,es,ep,ho,r⟩:=hm
    exact ⟨o,es,ep,k _ o (Ne.symm hL) ho,r⟩
  · refine (I.hok b u e).stay (fun c v hc q=>k c v ?_ q) (fun _ q=>q) fun _ _ q=>q
    rcases hc with z | z
    · rw [z]; exact nit b u e
    · exact nit c _ z
theorem Inv.tok (I : Inv X pins σ H s) (t : Nat) : Inv X pins σ H { s with toks:=t }:=I.un (h':=s.heap) (t':=t) Un.refl I.hok
theorem Inv.kept {t' : Nat} (I : Inv X pins σ H s) (k : ∀ b u,s.heap.get? b = some u→h'.get? b = some u) : Inv X pins σ H { s with heap:=h',toks:=t' }:=I.un (Un.kept k) (I.hok.kept k)
theorem Inv.laid {a : Addr} {o : HO} {t' : Nat} (I : Inv X pins σ H s) (k : ∀ b u,s.heap.get? b = some u→h'.get? b = some u) (hp : s.heap.objs.size≤a) (new : zbs X.prog X.w (upd H a o) h' a o) :
    Inv X pins σ (upd H a o) { s with heap:=h',toks:=t' }:=I.un (Un.laid k hp (I.hok.fresh hp)) (I.hok.laid k hp new)
theorem Inv.write {x e : Addr} {o : HO} {t' : Nat} (I : Inv X pins σ H s) (mu : Mut (H x)) (he : e = x∨H e = some (.own x)) (k : ∀ b u,b≠e→s.heap.get? b = some u→h'.get? b = some u) (heo : ∃ u,h'.get? e = some u)
    (new : zbs X.prog X.w (upd H x o) h' x o) : Inv X pins σ (upd H x o) { s with heap:=h',toks:=t' }:=I.un (Un.write mu he k heo) (I.hok.write mu he k heo new)
theorem Inv.pins_of {pins' : List (Addr×Obj)} (I : Inv X pins σ H s) (h : ∀ p∈pins',s.heap.get? p.1 = some p.2∧H p.1 = none∧p.1≠X.env.locals∧p.1∉X.fs∧∀ v,p.2.data≠.cell v) : Inv X pins' σ H s:=
  ⟨I.ok,I.os,I.bare,I.base,I.loc,I.cell,I.free,I.freeC,fun p hp=>(yan.mp hp).elim (fun z=>I.pin p (ya4 _ z)) (h p),I.hok,I.len⟩
theorem zj0 {N : List Str} (hN : N.Nodup) {i j : Nat} {x : Str} (a : N[i]? = some x) (b : N[j]? = some x) : i = j:=by
  obtain ⟨h1,e1⟩:=yag.mp a
  obtain ⟨h2,e2⟩:=yag.mp b
  exact (List.getElem_inj hN).mp (e1.trans e2.symm)
theorem zfY {M : Model} {A : Around} {E : Value→Shared→Prop} {i : Nat} {x : Str} {v : V} {u : Value} {Q : Unit→Shared→Prop} (I : Inv X pins σ H s) (hN : X.N.Nodup) (hi : X.N[i]? = some x) (hx : Loc X.env.scope x) (r : RelV v u)
    (h : ∀ s',Inv X pins (σ.set i (some v)) H s'→(∃ a,Heap.SameBut a s.heap s'.heap∧(a = X.env.locals∨X.env.cells.lookup x = some a))→Q () s') (hf : X.fn x = true∨X.env.scope.names.lookup x = some .local:=by first | exact .inl rfl | exact .inr rfl | assumption) : wpAny M A (storeName X.env x u) Q E s:=by
  obtain ⟨m,hn,hl⟩:=id I.loc
  have hcls : (X.env.scope.kind == .class || (X.env.scope.kind == .module && X.env.locals != X.env.globals)) = false:=by rw [I.ok.kind]; rfl
  have hiσ : i < σ.length:=by rw [I.len]; exact (yag.mp hi).1
  have cne:=I.cne
  have tracked : ∀ {a : Addr} {h' : Heap},(∃ o,s.heap.get? a = some o∧H a = none)→Heap.SameBut a s.heap h'→HOk X.prog X.w H h':=fun {a h'} ha hs b ob e=>by
    obtain ⟨_,_,hfree⟩:=ha
    refine (I.hok b ob e).stay (fun c w' hc q=>(hs.2 c ?_).trans q) (fun _ q=>q) fun _ _ q=>q
    rintro rfl
    rcases hc with rfl | hc
    · rw [hfree] at e; cases e
    · rw [hfree] at hc; cases hc
  rcases hx with hk | hk
  · refine wpAny_storeName_local hk hn (fun h' hn' hs=>?_) hcls
    obtain ⟨oL,_,_,hoL,_⟩:=id hn
    refine h _ ⟨I.ok,I.os,I.bare,⟨fun b o e n hb hx=>?_,fun b o e n hb hx=>?_,I.base.free,fun b o e hx=>?_,I.base.tups,I.base.frzs,I.base.tbls⟩,⟨_,hn',fun j y v' e1 e2 e3=>?_⟩,fun y c e=>?_,I.free,I.freeC,fun p hp=>?_,tracked ⟨oL,hoL,I.free⟩ hs,by simpa using I.len⟩ ⟨_,hs,.inl rfl⟩
    · exact (hs.2 b (yar (yau (yaf e) I.ok.above))).trans (I.base.keep b o e n hb hx)
    · obtain ⟨sl,e1⟩:=I.base.slot b o e n hb hx
      exact ⟨sl,(hs.2 b (yar (yau (yaf e) I.ok.above))).trans e1⟩
    · obtain ⟨o',e1⟩:=I.base.there b o e hx
      exact ⟨o',(hs.2 b (yar (yau (yaf e) I.ok.above))).trans e1⟩
    · by_cases hj : j = i
      · subst hj
        rw [hi] at e1; cases e1
        rw [List.getElem?_set_self hiσ] at e2
        cases e2
        exact ⟨u,r,.inl ⟨hk,by simp⟩⟩
      · rw [List.getElem?_set_ne (Ne.symm hj)] at e2
        obtain ⟨u',r',q⟩:=hl j y v' e1 e2 e3
        refine ⟨u',r',?_⟩
        rcases q with ⟨k,e⟩ | ⟨k,c,e,z⟩
        · refine .inl ⟨k,?_⟩
          have : y≠x:=fun e=>hj (zj0 hN e1 (e ▸ hi))
          simp [this,e]
        · exact .inr ⟨k,c,e,z.sameBut hs (cne y c e)⟩
    · obtain ⟨w',z⟩:=I.cell y c e
      exact ⟨w',z.sameBut hs (cne y c e)⟩
    · obtain ⟨e,n,ne,nf,d⟩:=I.pin p hp
      exact ⟨(hs.2 p.1 ne).trans e,n,ne,nf,d⟩
  · have hfn : X.fn x = true:=by
      rcases hf with z | z
      · exact z
      · rw [z] at hk; cases hk
    obtain ⟨c,hc⟩:=I.ok.has x (.inl hk)
    obtain ⟨w',z⟩:=I.cell x c hc
    refine wpAny_storeName_cell I.ok.kind hk hc z (fun h' hc' hs=>?_)
    obtain ⟨oc,hoc,hocd⟩:=id z
    refine h { s with heap:=h' } ⟨I.ok,I.os,I.bare,⟨fun b o e n hb hx=>?_,fun b o e n hb hx=>?_,I.base.free,fun b o e hx=>?_,I.base.tups,I.base.frzs,I.base.tbls⟩,⟨m,hn.sameBut hs (Ne.symm (cne x c hc)),fun j y v' e1 e2 e3=>?_⟩,fun y c' e=>?_,I.free,I.freeC,fun p hp=>?_,tracked ⟨oc,hoc,I.freeC x c hc⟩ hs,by simpa using I.len⟩ ⟨c,hs,.inr hc⟩
    · exact (hs.2 b (yar (yau (yaf e) (I.ok.cab x c hfn hc)))).trans (I.base.keep b o e n hb hx)
    · obtain ⟨sl,e1⟩:=I.base.slot b o e n hb hx
      exact ⟨sl,(hs.2 b (yar (yau (yaf e) (I.ok.cab x c hfn hc)))).trans e1⟩
    · obtain ⟨o',e1⟩:=I.base.there b o e hx
      exact ⟨o',(hs.2 b (yar (yau (yaf e) (I.ok.cab x c hfn hc)))).trans e1⟩
    · by_cases hj : j = i
      · subst hj
        rw [hi] at e1; cases e1
        rw [List.getElem?_set_self hiσ] at e2
        cases e2
        exact ⟨u,r,.inr ⟨.inl hk,c,hc,hc'⟩⟩
      · rw [List.getElem?_set_ne (Ne.symm hj)] at e2
        obtain ⟨u',r',q⟩:=hl j y v' e1 e2 e3
        refine ⟨u',r',?_⟩
        rcases q with q | ⟨k,c',e,z'⟩
        · exact .inl q
        · refine .inr ⟨k,c',e,z'.sameBut hs ?_⟩
          rintro rfl
          exact hj (zj0 hN e1 (I.ok.inj _ _ _ e hc ▸ hi))
    · by_cases hcc : c' = c
      · subst hcc; exact ⟨_,hc'⟩
      · obtain ⟨w2,z2⟩:=I.cell y c' e
        exact ⟨w2,z2.sameBut hs hcc⟩
    · obtain ⟨e,n,ne,nf,d⟩:=I.pin p hp
      refine ⟨(hs.2 p.1 ?_).trans e,n,ne,nf,d⟩
      intro q
      rw [q,hoc] at e
      have q' : oc = p.2:=yae e
      exact d w' (by rw [← q']; exact hocd)
theorem zjy {M : Model} {A : Around} {E : Value→Shared→Prop} {i : Nat} {x : Str} {v : V} {u : Value} {Q : Unit→Shared→Prop} (I : Inv X pins σ H s) (hN : X.N.Nodup) (hi : X.N[i]? = some x) (hx : Loc X.env.scope x) (r : RelV v u)
    (h : ∀ s',Inv X pins (σ.set i (some v)) H s'→Q () s') (hf : X.fn x = true∨X.env.scope.names.lookup x = some .local:=by first | exact .inl rfl | exact .inr rfl | assumption) : wpAny M A (storeName X.env x u) Q E s:=
  zfY I hN hi hx r (fun s' I' _=>h s' I') hf
theorem Inv.call' {s' : Shared} {ch : List Addr} (I : Inv X pins σ H s) (ho : s'.os = s.os) (u : Un (frs X.stack) ch H H' s.heap s'.heap) (hok : HOk X.prog X.w H' s'.heap) (hg : AllBare s'.gens)
    (hch : ∀ b∈ch,(b∈X.ex∨X.s₀.heap.objs.size≤b)∧b≠X.env.locals∧(∀ x c,X.env.cells.lookup x = some c→c≠b)∧∀ p∈X.pn ++ pins,p.1≠b) : Inv X pins σ H' s':=by
  obtain ⟨h',g',d',t',o'⟩:=s'
  have e : o' = s.os:=ho
  subst e
  exact I.call (g':=g') (t':=t') (d':=d') u hok hg hch
end
abbrev XK:=Value→Option Addr→Hp→Prop
abbrev St:=List (Option V)
abbrev VK:=V→Hp→Prop
abbrev TE:=St→Hp→VK→Prop
abbrev TT:=St→Hp→(Bool→Hp→Prop)→Prop
abbrev TA:=St→Hp→(List V→Hp→Prop)→Prop
structure Ends where
  nx : St→Hp→Prop
  rt : VK
  bk : St→Hp→Prop:=fun _ _=>False
  ct : St→Hp→Prop:=fun _ _=>False
abbrev TS:=Ends→St→Hp→Prop
def EP (X : Cx) (pins : List (Addr×Obj)) (σ : St) (Q : VK) (u : Value) (s' : Shared) : Prop:=∃ v H',Inv X pins σ H' s'∧RelV v u∧Q v H'
def TP (X : Cx) (pins : List (Addr×Obj)) (σ : St) (Q : Bool→Hp→Prop) (b : Bool) (s' : Shared) : Prop:=∃ H',Inv X pins σ H' s'∧Q b H'
def AP (X : Cx) (pins : List (Addr×Obj)) (σ : St) (Q : List V→Hp→Prop) (us : List Value) (s' : Shared) : Prop:=∃ vs H',Inv X pins σ H' s'∧Vals vs us∧Q vs H'
def SP (X : Cx) (pins : List (Addr×Obj)) (D : Ends) (f : Flow) (s' : Shared) : Prop:=
  match f with
  | .next=>∃ σ' H',Inv X pins σ' H' s'∧D.nx σ' H'
  | .brk=>∃ σ' H',Inv X pins σ' H' s'∧D.bk σ' H'
  | .cont=>∃ σ' H',Inv X pins σ' H' s'∧D.ct σ' H'
  | .ret u=>∃ v σ' H',Inv X pins σ' H' s'∧RelV v u∧D.rt v H'
def PE (X : Cx) (e : Expr) (t : TE) : Prop:=
  ∀ (pins : List (Addr×Obj)) (s : Shared) (σ : St) (H : Hp) (Q : VK),Inv X pins σ H s→t σ H Q→wpAny (model X.prog X.w) X.A (eval e X.env) (EP X pins σ Q) X.xe s
def PT (X : Cx) (e : Expr) (t : TT) : Prop:=
  ∀ (pins : List (Addr×Obj)) (s : Shared) (σ : St) (H : Hp) (Q : Bool→Hp→Prop),Inv X pins σ H s→t σ H Q→wpAny (model X.prog X.w) X.A (isTrue e X.env (eval e X.env)) (TP X pins σ Q) X.xe s
def PW (X : Cx) (e : Expr) (t : TT) : Prop:=
  ∀ (whole : Sem Value) (pins : List (Addr×Obj)) (s : Shared) (σ : St) (H : Hp) (Q : Bool→Hp→Prop),Inv X pins σ H s→t σ H Q→wpAny (model X.prog X.w) X.A (isTrue e X.env whole) (TP X pins σ Q) X.xe s
theorem PW.pt {X : Cx} {e : Expr} {t : TT} (h : PW X e t) : PT X e t:=h _
def PA (X : Cx) (es : List Expr) (t : TA) : Prop:=
  ∀ (pos : Pos) (pins : List (Addr×Obj)) (s : Shared) (σ : St) (H : Hp) (Q : List V→Hp→Prop),Inv X pins σ H s→t σ H Q→wpAny (model X.prog X.w) X.A (spliced (backTo pos (starEach es X.env))) (AP X pins σ Q) X.xe s
def PS (X : Cx) (st : Stmt) (t : TS) : Prop:=
  ∀ (pins : List (Addr×Obj)) (s : Shared) (σ : St) (H : Hp) (D : Ends),Inv X pins σ H s→t D σ H→wpAny (model X.prog X.w) X.A (exec st X.env) (SP X pins D) X.xe s
def PSs (X : Cx) (st : List Stmt) (t : TS) : Prop:=
  ∀ (pins : List (Addr×Obj)) (s : Shared) (σ : St) (H : Hp) (D : Ends),Inv X pins σ H s→t D σ H→wpAny (model X.prog X.w) X.A (execs st X.env) (SP X pins D) X.xe s
theorem thn {α : Type} {t : Sem α} {Q Q' : α→Shared→Prop} {M : Model} {A : Around} {E : Value→Shared→Prop} {s : Shared} (h : wpAny M A t Q E s) (hQ : ∀ a s,Q a s→Q' a s) : wpAny M A t Q' E s:=wpAny_mono h hQ fun _ _ x=>x
end L2
namespace L2
open PySem PySem.Spec PyProof.Rows
section
variable {X : Cx}
def tVar (i : Nat) : TE:=fun σ H Q=>∃ v,σ[i]? = some (some v)∧Q v H
def tC (v : V) : TE:=fun _ H Q=>Q v H
theorem zqw {i : Nat} {x : Str} {pos : Pos} (hN : X.N[i]? = some x) (hv : Vis X.env.scope x) (hd : (x == ("__debug__" : Str)) = false:=by decide) (hcd : (x == ("__classdict__" : Str)) = false:=by decide) : PE X (.Name x pos) (tVar i):=by
  intro pins s σ H Q I h
  obtain ⟨v,e,h⟩:=h
  obtain ⟨m,hn,hl⟩:=I.loc
  obtain ⟨u,r,l⟩:=hl i x v hN e hv
  have fin : EP X pins σ Q u s:=⟨v,H,I,r,h⟩
  rcases l with ⟨hk,hm⟩ | ⟨hk,c,hc,hcell⟩
  · exact wpAny_Name (wpAny_loadName_local I.ok.kind hk hn hm fin) hd
  · rcases hk with hk | hk
    · exact wpAny_Name (wpAny_loadName_cell I.ok.kind hk hc hcell fin) hd
    · exact wpAny_Name (wpAny_loadName_free I.ok.kind hk hc hcell fin hcd) hd
theorem zae {i j pos} : PE X (.Constant (.int i) j pos) (tC (.int i)):=fun _ _ _ H _ I h=>wpAny_Constant_int ⟨.int i,H,I.tok _,⟨_,rfl⟩,h⟩
theorem zea {b j pos} : PE X (.Constant (.bool b) j pos) (tC (.bl b)):=fun _ _ _ H _ I h=>Constant_bool ⟨.bl b,H,I,rfl,h⟩
theorem zqx {j pos} : PE X (.Constant .none j pos) (tC .non):=fun _ _ _ H _ I h=>Constant_none ⟨.non,H,I,rfl,h⟩
theorem zdm {x j pos} : PE X (.Constant (.str x) j pos) (tC (.str x)):=fun _ _ _ H _ I h=>Calls.Constant_str ⟨.str x,H,I.tok _,⟨_,rfl⟩,h⟩
def Gl (X : Cx) (x : Str) : Prop:=X.env.kindOf x = some .globalImplicit
theorem zhC {E : Value→Shared→Prop} {pins : List (Addr×Obj)} {s : Shared} {σ : St} {H : Hp} {x : Str} {u : Value} {pos : Pos} {Q : Value→Shared→Prop} (I : Inv X pins σ H s) (hg : Gl X x) (hm : X.mg x = some u) (h : Q u s)
    (hd : (x == ("__debug__" : Str)) = false:=by decide) : wpAny (model X.prog X.w) X.A (eval (.Name x pos) X.env) Q E s:=
  Calls.Name_function_global I.ok.kind hg (Calls.loadGlobal_global (by rw [I.ok.glob]; exact I.mod.glob.keeps I.bk) hm h) hd
theorem zeV {E : Value→Shared→Prop} {pins : List (Addr×Obj)} {s : Shared} {σ : St} {H : Hp} {x : Str} {u : Value} {pos : Pos} {Q : Value→Shared→Prop} (I : Inv X pins σ H s) (hg : Gl X x) (hm : X.mg x = none) (hv : bootBuiltins x = some u) (h : Q u s)
    (hn : x ≠ "__name__":=by decide) (hd : (x == ("__debug__" : Str)) = false:=by decide) : wpAny (model X.prog X.w) X.A (eval (.Name x pos) X.env) Q E s:=by
  obtain ⟨mb,h1,h2⟩:=I.mod.blt
  exact Calls.Name_function_global I.ok.kind hg (Calls.loadGlobal_builtin (by rw [I.ok.glob]; exact I.mod.glob.keeps I.bk) hm (by rw [I.ok.blt]; exact h1.keeps I.bk) ((h2 x hn).trans hv) h) hd
theorem zph {x : Str} {v : V} {u : Value} {pos : Pos} (hg : Gl X x) (hm : X.mg x = some u) (r : RelV v u) (hd : (x == ("__debug__" : Str)) = false:=by decide) : PE X (.Name x pos) (tC v):=
  fun _ _ _ H _ I h=>zhC I hg hm ⟨v,H,I,r,h⟩ hd
theorem zd9 {x : Str} {v : V} {u : Value} {pos : Pos} (hg : Gl X x) (hm : X.mg x = none) (hv : bootBuiltins x = some u) (r : RelV v u) (hn : x ≠ "__name__":=by decide) (hd : (x == ("__debug__" : Str)) = false:=by decide) : PE X (.Name x pos) (tC v):=
  fun _ _ _ H _ I h=>zeV I hg hm hv ⟨v,H,I,r,h⟩ hn hd
variable {a b : Expr} {ta tb : TE} {pos : Pos}
def tB (t : TE) : TT:=fun σ H Q=>t σ H fun x H1=>∃ c,x = .bl c∧Q c H1
theorem zdi {e : Expr} {t : TE} (h : PE X e t) (he : ∀ whole,isTrue e X.env whole = (do let v ← whole; standAt e.pos; holding [v] (truthy v)):=by intro _; rfl) : PT X e (tB t):=by
  intro pins s σ H Q I hw
  refine isTrue_plain (thn (h pins s σ H _ I hw) fun v s1 ⟨x,H1,I1,r1,q1⟩=>?_) (he _)
  obtain ⟨d,rfl,q⟩:=q1
  cases r1
  exact wpAny_truthy_bool ⟨H1,I1,q⟩
variable {tA tB' : TT} {rest : List Expr}
def tAnd (t u : TT) : TT:=fun σ H Q=>t σ H fun c H1=>if c = true then u σ H1 Q else Q false H1
def tOr (t u : TT) : TT:=fun σ H Q=>t σ H fun c H1=>if c = true then Q true H1 else u σ H1 Q
def tNot (t : TT) : TT:=fun σ H Q=>t σ H fun c H1=>Q (!c) H1
theorem zf0 (ha : PT X a tA) : PW X (.BoolOp .And [a] pos) tA:=by
  intro wh pins s σ H Q I h
  refine isTrue_and (thn (ha pins s σ H Q I h) fun c s1 e=>?_)
  cases c with
  | true=>exact isTrue_and_nil e
  | false=>exact e
theorem zh6 (ha : PT X a tA) : PW X (.BoolOp .Or [a] pos) tA:=by
  intro wh pins s σ H Q I h
  refine isTrue_or (thn (ha pins s σ H Q I h) fun c s1 e=>?_)
  cases c with
  | false=>exact isTrue_or_nil e
  | true=>exact e
theorem zh7 (ha : PT X a tA) (hb : PW X (.BoolOp .And (b :: rest) pos) tB') : PW X (.BoolOp .And (a :: b :: rest) pos) (tAnd tA tB'):=by
  intro wh pins s σ H Q I h
  refine isTrue_and (thn (ha pins s σ H _ I h) fun c s1 ⟨H1,I1,q1⟩=>?_)
  cases c with
  | true=>exact hb wh pins s1 σ H1 Q I1 q1
  | false=>exact ⟨H1,I1,q1⟩
theorem zkH (ha : PT X a tA) (hb : PW X (.BoolOp .Or (b :: rest) pos) tB') : PW X (.BoolOp .Or (a :: b :: rest) pos) (tOr tA tB'):=by
  intro wh pins s σ H Q I h
  refine isTrue_or (thn (ha pins s σ H _ I h) fun c s1 ⟨H1,I1,q1⟩=>?_)
  cases c with
  | true=>exact ⟨H1,I1,q1⟩
  | false=>exact hb wh pins s1 σ H1 Q I1 q1
theorem zf1 (ha : PT X a tA) : PT X (.UnaryOp .Not a pos) (tNot tA):=by
  intro pins s σ H Q I h
  exact isTrue_not (ha pins s σ H (fun c H1=>Q (!c) H1) I h)
def zri (ta tb : TE) : TE:=fun σ H Q=>ta σ H fun x H1=>∃ c,x = .bl c∧if c = true then tb σ H1 Q else Q (.bl false) H1
def zrd (ta : TE) : TE:=fun σ H Q=>ta σ H fun x H1=>∃ c,x = .bl c∧Q (.bl (!c)) H1
theorem zlX {op} {t : TE} (h : PE X a t) : PE X (.BoolOp op [a] pos) t:=fun pins s σ H Q I hw=>BoolOp_one (h pins s σ H Q I hw)
theorem zlZ (ha : PE X a ta) (hb : PE X (.BoolOp .And (b :: rest) pos) tb) : PE X (.BoolOp .And (a :: b :: rest) pos) (zri ta tb):=by
  intro pins s σ H Q I h
  refine BoolOp_and (thn (ha pins s σ H _ I h) fun v s1 ⟨x,H1,I1,r1,q1⟩=>?_)
  obtain ⟨c,rfl,q1⟩:=q1
  cases r1
  refine wpAny_truthy_bool ?_
  cases c with
  | true=>exact hb pins s1 σ H1 Q I1 q1
  | false=>exact ⟨.bl false,H1,I1,rfl,q1⟩
theorem zoC (ha : PE X a ta) : PE X (.UnaryOp .Not a pos) (zrd ta):=by
  intro pins s σ H Q I h
  refine UnaryOp_ (thn (ha pins s σ H _ I h) fun v s1 ⟨x,H1,I1,r1,q1⟩=>?_)
  obtain ⟨c,rfl,q1⟩:=q1
  cases r1
  exact not_of (wpAny_truthy_bool ⟨.bl (!c),H1,I1,rfl,q1⟩)
def tIf (t : TT) (ta tb : TE) : TE:=fun σ H Q=>t σ H fun c H1=>if c = true then ta σ H1 Q else tb σ H1 Q
theorem zjU {c : Expr} (hc : PT X c tA) (ha : PE X a ta) (hb : PE X b tb) : PE X (.IfExp c a b pos) (tIf tA ta tb):=by
  intro pins s σ H Q I h
  refine wpAny_IfExp (thn (hc pins s σ H _ I h) fun d s1 ⟨H1,I1,q1⟩=>?_)
  cases d with
  | true=>exact ha pins s1 σ H1 Q I1 q1
  | false=>exact hb pins s1 σ H1 Q I1 q1
end
end L2
namespace L2
open PySem PySem.Spec PyProof.Rows
def SqL (K : Frag) (H : Hp) (a : Addr) (xs : List V) : Prop:=
  Rd H a (.lst xs)∨
    ∃ (o : Obj) (its : Array Value) (n : Nat),K.lookup a = some o∧o.cls = .type "list"∧o.dict = none∧o.data = .seq its n∧its.size≤sizeLine∧Vals xs its.toList
def SqT (K : Frag) (H : Hp) (a : Addr) (xs : List V) : Prop:=
  Rd H a (.tup xs)∨
    ∃ (o : Obj) (its : Array Value) (n : Nat),K.lookup a = some o∧o.cls = .type "tuple"∧o.data = .seq its n∧its.size≤sizeLine∧Vals xs its.toList
def absV : Value→Option V
  | .none=>some .non
  | .bool b=>some (.bl b)
  | .int i _=>some (.int i)
  | .str x _=>some (.str x)
  | .bytes b _=>some (.byt b)
  | .float b _=>some (.flt b)
  | .ref a=>some (.ref a)
  | .type n=>some (.ty n)
  | _=>none
theorem RelV.abs {x : V} {u : Value} (r : RelV x u) : absV u = some x:=by
  cases x with
  | non=>cases r; rfl
  | bl _=>cases r; rfl
  | int _=>obtain ⟨t,rfl⟩:=r; rfl
  | str _=>obtain ⟨t,rfl⟩:=r; rfl
  | byt _=>obtain ⟨t,rfl⟩:=r; rfl
  | flt _=>obtain ⟨t,rfl⟩:=r; rfl
  | ref _=>cases r; rfl
  | ty _=>cases r; rfl
theorem RelV.inj {x y : V} {u : Value} (r : RelV x u) (q : RelV y u) : x = y:=yae (r.abs.symm.trans q.abs)
theorem Vals.inj : ∀ {xs ys : List V} {us : List Value},Vals xs us→Vals ys us→xs = ys
  | _,_,_,.nil,.nil=>rfl
  | _,_,_,.cons r t,.cons r' t'=>by rw [r.inj r',Vals.inj t t']
section
variable {X : Cx} {pins : List (Addr×Obj)} {σ : St} {H : Hp} {s : Shared} {a : Addr} {xs ys : List V}
theorem SqL.of {K : Frag} (h : H a = some (.lst xs)) : SqL K H a xs:=.inl (.inl h)
theorem SqT.of {K : Frag} (h : H a = some (.tup xs)) : SqT K H a xs:=.inl (.inl h)
theorem Inv.list (I : Inv X pins σ H s) (h : SqL X.K H a xs) : ∃ its : List Value,Vals xs its∧PlainL s.heap a its.toArray∧xs.length≤sizeLine:=by
  rcases h with h | ⟨o,its,n,hk,hc,hd,hs,hz,r⟩
  · obtain ⟨z,its,n,r,e⟩:=h.ok I.hok
    exact ⟨its,r,⟨_,n,e,rfl,rfl,rfl⟩,z⟩
  · refine ⟨its.toList,r,⟨o,n,I.kIn a o hk,hc,hd,by simpa using hs⟩,?_⟩
    have e:=r.length
    simp only [yav] at e
    omega
theorem Inv.tuple (I : Inv X pins σ H s) (h : SqT X.K H a xs) : ∃ its : List Value,Vals xs its∧IsTup s.heap a its.toArray∧xs.length≤sizeLine:=by
  rcases h with h | ⟨o,its,n,hk,hc,hs,hz,r⟩
  · obtain ⟨z,its,r,p⟩:=h.ok I.hok
    exact ⟨its,r,p,z⟩
  · refine ⟨its.toList,r,⟨o,I.kIn a o hk,hc,n,by simpa using hs⟩,?_⟩
    have e:=r.length
    simp only [yav] at e
    omega
theorem Inv.list_inj (I : Inv X pins σ H s) (h : SqL X.K H a xs) (h' : SqL X.K H a ys) : xs = ys:=by
  obtain ⟨its,r,⟨o,n,e,_,_,d⟩,_⟩:=I.list h
  obtain ⟨its',r',⟨o',n',e',_,_,d'⟩,_⟩:=I.list h'
  rw [e] at e'; cases e'
  rw [d] at d'
  injection d' with d1 _
  have : its = its':=by simpa using congrArg Array.toList d1
  subst this
  exact r.inj r'
theorem Inv.tuple_inj (I : Inv X pins σ H s) (h : SqT X.K H a xs) (h' : SqT X.K H a ys) : xs = ys:=by
  obtain ⟨its,r,⟨o,e,_,n,d⟩,_⟩:=I.tuple h
  obtain ⟨its',r',⟨o',e',_,n',d'⟩,_⟩:=I.tuple h'
  rw [e] at e'; cases e'
  rw [d] at d'
  injection d' with d1 _
  have : its = its':=by simpa using congrArg Array.toList d1
  subst this
  exact r.inj r'
end
abbrev Cx.wish (X : Cx) (E : Value→Shared→Prop) : Cx:={ X with xe:=E }
abbrev Cx.nox (X : Cx) : Cx:=X.wish fun _ _=>False
theorem Cx.Ok.wish {X : Cx} (ok : X.Ok) (E : Value→Shared→Prop) : (X.wish E).Ok:=
  ⟨ok.mod,ok.kind,ok.glob,ok.blt,ok.above,ok.inj,ok.has,ok.cab,ok.hd,ok.frames,ok.stk,ok.exf,ok.bs,ok.bsz,ok.noex,ok.exfs,ok.funs,ok.frf⟩
theorem Cx.Ok.unwish {X : Cx} {E : Value→Shared→Prop} (ok : (X.wish E).Ok) : X.Ok:=
  ⟨ok.mod,ok.kind,ok.glob,ok.blt,ok.above,ok.inj,ok.has,ok.cab,ok.hd,ok.frames,ok.stk,ok.exf,ok.bs,ok.bsz,ok.noex,ok.exfs,ok.funs,ok.frf⟩
section
variable {X : Cx} {pins : List (Addr×Obj)} {σ : St} {H : Hp} {s : Shared} {E : Value→Shared→Prop}
theorem Inv.wish (I : Inv X pins σ H s) (E : Value→Shared→Prop) : Inv (X.wish E) pins σ H s:=⟨I.ok.wish E,I.os,I.bare,I.base,I.loc,I.cell,I.free,I.freeC,I.pin,I.hok,I.len⟩
theorem Inv.unwish (I : Inv (X.wish E) pins σ H s) : Inv X pins σ H s:=⟨I.ok.unwish,I.os,I.bare,I.base,I.loc,I.cell,I.free,I.freeC,I.pin,I.hok,I.len⟩
theorem SP.unwish {D : Ends} {f : Flow} {s' : Shared} (h : SP (X.wish E) pins D f s') : SP X pins D f s':=by
  cases f with
  | next=>obtain ⟨σ',H',I,q⟩:=h; exact ⟨σ',H',I.unwish,q⟩
  | brk=>obtain ⟨σ',H',I,q⟩:=h; exact ⟨σ',H',I.unwish,q⟩
  | cont=>obtain ⟨σ',H',I,q⟩:=h; exact ⟨σ',H',I.unwish,q⟩
  | ret u=>obtain ⟨v,σ',H',I,r,q⟩:=h; exact ⟨v,σ',H',I.unwish,r,q⟩
theorem PSs.nox {st : List Stmt} {t : TS} (h : PSs X.nox st t) : PSs X st t:=fun pins s σ H D I hw=>
  wpAny_mono (h pins s σ H D (I.wish _) hw) (fun _ _ q=>q.unwish) fun _ _ z=>False.elim z
end
section
variable {X : Cx} {st : Stmt} {rest : List Stmt} {t u : TS} {e : Expr} {te : TE} {pos : Pos}
def zre : TS:=fun D σ H=>D.nx σ H
def tSeq (t u : TS) : TS:=fun D σ H=>t { D with nx:=u D } σ H
theorem zaO : PSs X [] zre:=fun _ _ σ H _ I h=>wpAny_execs_nil ⟨σ,H,I,h⟩
theorem zaf (h1 : PS X st t) (h2 : PSs X rest u) : PSs X (st :: rest) (tSeq t u):=by
  intro pins s σ H D I h
  refine wpAny_execs_cons (thn (h1 pins s σ H { D with nx:=u D } I h) fun f s1 q=>?_)
  cases f with
  | next=>
    obtain ⟨σ',H',I',q⟩:=q
    exact h2 pins s1 σ' H' D I' q
  | ret v=>exact q
  | brk=>exact q
  | cont=>exact q
theorem zah (h1 : PS X st t) : PSs X [st] t:=by
  intro pins s σ H D I h
  refine wpAny_execs_cons (thn (h1 pins s σ H D I h) fun f s1 q=>?_)
  cases f with
  | next=>exact wpAny_execs_nil q
  | ret v=>exact q
  | brk=>exact q
  | cont=>exact q
theorem Inv.quiet {pins : List (Addr×Obj)} {σ : St} {H : Hp} {s : Shared} (I : Inv X pins σ H s) : interactive X.env = false:=by simp [interactive,I.ok.kind]
def zrf (te : TE) : TS:=fun D σ H=>te σ H fun _ H1=>D.nx σ H1
theorem za7 (he : PE X e te) (hs : swapsWith e none pos.line X.env = pure false:=by rfl) : PS X (.Expr e pos) (zrf te):=by
  intro pins s σ H D I h
  exact wpAny_Expr_any (thn (he pins s σ H _ I h) fun v s1 ⟨x,H1,I1,r1,q1⟩=>⟨σ,H1,I1,q1⟩) I.quiet hs
def tRet (te : TE) : TS:=fun D σ H=>te σ H D.rt
theorem zau (he : PE X e te) : PS X (.Return (some e) pos) (tRet te):=by
  intro pins s σ H D I h
  exact wpAny_Return_some (thn (he pins s σ H _ I h) fun v s1 ⟨x,H1,I1,r1,q1⟩=>⟨x,σ,H1,I1,r1,q1⟩)
def tIfS (c : TT) (t u : TS) : TS:=fun D σ H=>c σ H fun b H1=>if b = true then t D σ H1 else u D σ H1
theorem zbS {c : Expr} {a b : List Stmt} {tc : TT} (hc : PT X c tc) (ha : PSs X a t) (hb : PSs X b u) : PS X (.If c a b pos) (tIfS tc t u):=by
  intro pins s σ H D I h
  refine wpAny_If (thn (hc pins s σ H _ I h) fun d s1 ⟨H1,I1,q1⟩=>?_)
  cases d with
  | true=>exact ha pins s1 σ H1 D I1 q1
  | false=>exact hb pins s1 σ H1 D I1 q1
def zp8 : TS:=fun _ _ _=>False
theorem znw : PS X st zp8:=fun _ _ _ _ _ _ h=>h.elim
end
abbrev TG:=V→St→Hp→(St→Hp→Prop)→Prop
abbrev TGs:=List V→St→Hp→(St→Hp→Prop)→Prop
def PG (X : Cx) (target : Expr) (t : TG) : Prop:=
  ∀ (pins : List (Addr×Obj)) (s : Shared) (σ : St) (H : Hp) (v : V) (u : Value) (Q : St→Hp→Prop),Inv X pins σ H s→RelV v u→t v σ H Q→
    wpAny (model X.prog X.w) X.A (assign target X.env u) (fun _ s'=>∃ σ' H',Inv X pins σ' H' s'∧Q σ' H') X.xe s
def PGs (X : Cx) (ts : List Expr) (t : TGs) : Prop:=
  ∀ (pins : List (Addr×Obj)) (s : Shared) (σ : St) (H : Hp) (vs : List V) (us : List Value) (Q : St→Hp→Prop),Inv X pins σ H s→Vals vs us→t vs σ H Q→
    wpAny (model X.prog X.w) X.A (assignInOrder ((assignEach ts X.env).map (·.2)) us) (fun _ s'=>∃ σ' H',Inv X pins σ' H' s'∧Q σ' H') X.xe s
abbrev TSet:=V→V→V→Hp→(Hp→Prop)→Prop
def PSet (X : Cx) (t : TSet) : Prop:=
  ∀ (pins : List (Addr×Obj)) (s : Shared) (σ : St) (H : Hp) (o i v : V) (ov iv u : Value) (Q : Hp→Prop),Inv X pins σ H s→RelV o ov→RelV i iv→RelV v u→t o i v H Q→
    wpAny (model X.prog X.w) X.A (setItem ov iv u) (fun _ s'=>∃ H',Inv X pins σ H' s'∧Q H') X.xe s
section
variable {X : Cx} {pos : Pos}
def ziu (i : Nat) : TG:=fun v σ H Q=>Q (σ.set i (some v)) H
theorem zal {i : Nat} {x : Str} (hN : X.N.Nodup) (hi : X.N[i]? = some x) (hx : Loc X.env.scope x) (hf : X.fn x = true∨X.env.scope.names.lookup x = some .local:=by first | exact .inl rfl | exact .inr rfl | assumption) : PG X (.Name x pos) (ziu i):=by
  intro pins s σ H v u Q I r h
  exact wpAny_assign_Name (zjy I hN hi hx r (fun s' I'=>⟨_,H,I',h⟩) hf)
def gNil : TGs:=fun vs σ H Q=>vs = []∧Q σ H
def zrx (t : TG) (u : TGs) : TGs:=fun vs σ H Q=>∃ v r,vs = v :: r∧t v σ H fun σ' H'=>u r σ' H' Q
theorem zcZ : PGs X [] gNil:=by
  intro pins s σ H vs us Q I r h
  obtain ⟨e,h⟩:=h
  subst e
  cases r
  exact assignInOrder_nil ⟨σ,H,I,h⟩
theorem zaP {e : Expr} {es : List Expr} {t : TG} {u : TGs} (h1 : PG X e t) (h2 : PGs X es u)
    (hs : (assignEach (e :: es) X.env).map (·.2) = assign e X.env :: (assignEach es X.env).map (·.2):=by rfl) : PGs X (e :: es) (zrx t u):=by
  intro pins s σ H vs us Q I r h
  obtain ⟨v,vr,e1,h⟩:=h
  subst e1
  cases r with
  | cons r rr=>
    rw [hs]
    refine assignInOrder_cons (thn (h1 pins s σ H _ _ _ I r h) fun _ s1 ⟨σ1,H1,I1,q1⟩=>?_)
    exact h2 pins s1 σ1 H1 _ _ Q I1 rr q1
def gTup (K : Frag) (n : Nat) (t : TGs) : TG:=fun v σ H Q=>∃ a xs,v = .ref a∧SqT K H a xs∧xs.length = n∧t xs σ H Q
theorem zfv {es : List Expr} {k : Nat} {t : TGs} {n : Nat} (hc : X.calm = true) (h : PGs X es t)
    (hn : (assignEach es X.env).length = n:=by rfl) (hst : (assignEach es X.env).findIdx? (·.1) = none:=by rfl) : PG X (.Tuple es k pos) (gTup X.K n t):=by
  intro pins s σ H v u Q I r hw
  obtain ⟨a,xs,e1,hq,hl,hw⟩:=hw
  subst e1
  cases r
  obtain ⟨its,rv,ht,hz⟩:=I.tuple hq
  refine assign_Tuple_tuple (I.ok.hd hc) ht (by simp [hn,← hl,rv.length]) hst fun h' hx=>?_
  have I1 : Inv X pins σ H { s with heap:=h' }:=I.kept (t':=s.toks) fun b o e=>hx b o (yar (yaf e)) e
  exact h pins _ σ H xs _ Q I1 (by simpa using rv) hw
def gSub (to ti : TE) (t : TSet) : TG:=fun v σ H Q=>to σ H fun o H1=>ti σ H1 fun i H2=>t o i v H2 fun H3=>Q σ H3
theorem zgF {o i : Expr} {to ti : TE} {t : TSet} (ho : PE X o to) (hi : PE X i ti) (hs : PSet X t)
    (ha : ∀ v,assign (.Subscript o i pos) X.env v = (do
      let ov ← holding [v] (eval o X.env)
      let iv ← holding [v,ov] (eval i X.env)
      standAt pos
      holding [v,ov,iv] (setItem ov iv v)
      release [v,ov,iv] []):=by intro _; rfl) : PG X (.Subscript o i pos) (gSub to ti t):=by
  intro pins s σ H v u Q I r h
  rw [ha]
  refine wpAny_bind (wpAny_holding (thn (ho pins s σ H _ I h) fun ov s1 ⟨x,H1,I1,r1,q1⟩=>?_))
  refine wpAny_bind (wpAny_holding (thn (hi pins s1 σ H1 _ I1 q1) fun iv s2 ⟨y,H2,I2,r2,q2⟩=>?_))
  refine wpAny_bind (wpAny_standAt (wpAny_bind (wpAny_holding (thn (hs pins s2 σ H2 x y v ov iv u _ I2 r1 r2 r q2) fun _ s3 ⟨H3,I3,q3⟩=>?_))))
  exact wpAny_release ⟨σ,H3,I3,q3⟩
def tAsg (te : TE) (g : TG) : TS:=fun D σ H=>te σ H fun x H1=>g x σ H1 D.nx
theorem zfu {tg e : Expr} {te : TE} {g : TG} (he : PE X e te) (hg : PG X tg g) (hs : swapsWithSole [tg] e pos.line X.env = pure false:=by rfl) (hw : swappedStores [tg] e X.env = pure none:=by rfl)
    (h1 : (assignEach [tg] X.env).map (·.2) = [assign tg X.env]:=by rfl) : PS X (.Assign [tg] e pos) (tAsg te g):=by
  intro pins s σ H D I h
  refine wpAny_Assign_stores (thn (he pins s σ H _ I h) fun v s1 ⟨x,H1,I1,r1,q1⟩=>?_) hs hw
  rw [h1]
  exact thn (hg pins s1 σ H1 x v _ I1 r1 q1) fun _ s2 q=>q
theorem zap {i : Nat} {x : Str} {e : Expr} {te : TE} {pos' : Pos} (hN : X.N.Nodup) (hi : X.N[i]? = some x) (hx : Loc X.env.scope x) (he : PE X e te) (hs : swapsWith e (some (.Name x pos')) pos.line X.env = pure false:=by rfl) (hf : X.fn x = true∨X.env.scope.names.lookup x = some .local:=by first | exact .inl rfl | exact .inr rfl | assumption) :
    PS X (.Assign [.Name x pos'] e pos) (tAsg te (ziu i)):=by
  intro pins s σ H D I h
  refine wpAny_Assign_Name (thn (he pins s σ H _ I h) fun v s1 ⟨y,H1,I1,r1,q1⟩=>?_) hs
  exact zjy I1 hN hi hx r1 (fun s2 I2=>⟨_,H1,I2,q1⟩) hf
end
section
variable {X : Cx} {pos : Pos}
def zlu (c : TT) (tb : TS) : TS:=fun D σ H=>∃ W : Nat→St→Hp→Prop,(∃ m,W m σ H)∧∀ m σ H,W m σ H→
  c σ H fun b H1=>if b = true then ∃ N : St→Hp→Prop,(∀ σ' H',N σ' H'→∃ m',m' < m∧W m' σ' H')∧tb { D with nx:=N,ct:=N,bk:=D.nx } σ H1 else D.nx σ H1
theorem zfQ {c : Expr} {body : List Stmt} {tc : TT} {tb : TS} (hp : PassesOwn (model X.prog X.w) X.A X.env X.xe) (hc : PT X c tc) (hb : PSs X body tb) : PS X (.While c body [] pos) (zlu tc tb):=by
  intro pins s σ H D I h
  obtain ⟨W,⟨m0,w0⟩,turn⟩:=h
  refine wpAny_While (codeAny_whileLoop (fun n s'=>∃ σ' H',Inv X pins σ' H' s'∧W n σ' H') ?_ m0 ⟨σ,H,I,w0⟩)
  rintro n s1 ⟨σ1,H1,I1,w1⟩
  refine wpAny_passesOwn hp (thn (hc pins s1 σ1 H1 _ I1 (turn n σ1 H1 w1)) fun b s2 ⟨H2,I2,q2⟩=>?_)
  cases b with
  | true=>
    obtain ⟨N,hN,q2⟩:=q2
    rw [if_pos rfl]
    refine wpAny_passesOwn hp (thn (hb pins s2 σ1 H2 _ I2 q2) fun f s3 q3=>?_)
    cases f with
    | next=>
      obtain ⟨σ3,H3,I3,n3⟩:=q3
      obtain ⟨m',hm,w3⟩:=hN σ3 H3 n3
      exact ⟨m',hm,σ3,H3,I3,w3⟩
    | cont=>
      obtain ⟨σ3,H3,I3,n3⟩:=q3
      obtain ⟨m',hm,w3⟩:=hN σ3 H3 n3
      exact ⟨m',hm,σ3,H3,I3,w3⟩
    | brk=>exact q3
    | ret v=>exact q3
  | false=>
    rw [if_neg yaA]
    exact wpAny_execs_nil ⟨σ1,H2,I2,q2⟩
end
structure It where
  go : Nat→Hp→Prop
  yld : Nat→Hp→V→Hp→Prop
  stop : Nat→Hp→Prop
def FpOk (X : Cx) (pins : List (Addr×Obj)) (H : Hp) (b : Addr) : Prop:=
  H b = none∧b≠X.env.locals∧b∉X.fs∧(b∈X.ex∨X.s₀.heap.objs.size≤b)∧(∀ x c,X.env.cells.lookup x = some c→c≠b)∧∀ p∈X.pn ++ pins,p.1≠b
theorem Inv.fpOk {X : Cx} {pins : List (Addr×Obj)} {σ : St} {H H' : Hp} {s : Shared} {b : Addr} (I : Inv X pins σ H s) (hb : s.heap.objs.size≤b) (hn : H' b = none) : FpOk X pins H' b:=by
  refine ⟨hn,ybC (yau I.lt hb),I.nofs hb,.inr (yat I.sz hb),fun x c e z=>?_,fun p hp z=>?_⟩
  · obtain ⟨v,q⟩:=I.cell x c e
    exact absurd (yau q.lt (by rw [z]; exact hb)) (yaX _)
  · exact absurd (yau (yaf (I.pin p hp).1) (by rw [z]; exact hb)) (yaX _)
structure Turn (P : Program) (w : World) (K : Frag) (tg : Expr) (J : It) (fp : List Addr) (it : Addr) (tn : Nat→Heap→Prop) : Prop where
  mem : it∈fp
  obj : ∀ i h,tn i h→∀ b∈fp,∃ o,h.get? b = some o∧∀ v,o.data≠.cell v
  keep : ∀ i h h',tn i h→(∀ b∈fp,∀ o,h.get? b = some o→h'.get? b = some o)→tn i h'
  item : ∀ (X : Cx),X.prog = P→X.w = w→X.K = K→X.calm = true→∀ (i : Nat) (pins : List (Addr×Obj)) (s : Shared) (σ : St) (H : Hp) (E : Value→Shared→Prop),Inv X pins σ H s→(∀ b∈fp,FpOk X pins H b)→tn i s.heap→J.go i H→
    wpAny (model P w) X.A (pyNext (.ref it)) (fun r s1=>∃ u,r = some u∧
      wpAny (model P w) X.A (letOwnedTupleGo tg (.ref it) u) (fun _ s2=>∃ x H',Inv X pins σ H' s2∧RelV x u∧J.yld i H x H'∧tn (i + 1) s2.heap∧∀ b∈fp,H' b = none) E s1) E s
  done : ∀ (X : Cx),X.prog = P→X.w = w→X.K = K→X.calm = true→∀ (i : Nat) (pins : List (Addr×Obj)) (s : Shared) (σ : St) (H : Hp) (E : Value→Shared→Prop),Inv X pins σ H s→(∀ b∈fp,FpOk X pins H b)→tn i s.heap→J.stop i H→
    wpAny (model P w) X.A (pyNext (.ref it)) (fun r s1=>r = none∧Inv X pins σ H s1) E s
  self : ∀ (A : Around) (i : Nat) (s : Shared) (Q : Value→Shared→Prop) (E : Value→Shared→Prop),tn i s.heap→Q (.ref it) s→wpAny (model P w) A (pyIter (.ref it)) Q E s
abbrev TI:=St→Hp→(It→Hp→Prop)→Prop
def PIE (X : Cx) (pins : List (Addr×Obj)) (σ : St) (tg : Expr) (R : It→Hp→Prop) (itv : Value) (s2 : Shared) : Prop:=
  ∃ (it : Addr) (fp : List Addr) (tn : Nat→Heap→Prop) (J : It) (H' : Hp),itv = .ref it∧Inv X pins σ H' s2∧Turn X.prog X.w X.K tg J fp it tn∧tn 0 s2.heap∧(∀ b∈fp,FpOk X pins H' b)∧R J H'
def PI (X : Cx) (tg iter : Expr) (wi : TI) : Prop:=
  ∀ (pins : List (Addr×Obj)) (s : Shared) (σ : St) (H : Hp) (R : It→Hp→Prop),Inv X pins σ H s→wi σ H R→
    wpAny (model X.prog X.w) X.A (eval iter X.env) (fun v s1=>wpAny (model X.prog X.w) X.A (pyIter v) (PIE X pins σ tg R) X.xe s1) X.xe s
theorem zmK {M : Model} {A : Around} {E : Value→Shared→Prop} {s : Shared} {tg : Expr} {it : Addr} {u : Value} {o : Obj} {n : String} {vs : Array Value} {Q : Unit→Shared→Prop} (ho : s.heap.get? it = some o) (hc : o.cls = .type n) (hd : o.data = .fields vs)
    (hn : ["enumerate","zip","dict_itemiterator","dict_reverseitemiterator","odict_iterator","itertools.zip_longest","itertools.pairwise"].contains n = false) (hQ : Q () s) : wpAny M A (letOwnedTupleGo tg (.ref it) u) Q E s:=by
  unfold letOwnedTupleGo
  cases tg <;> first
    | exact wpAny_pure hQ
    | (cases u <;> first
        | exact wpAny_pure hQ
        | (refine wpAny_bind (wpAny_load ho ?_)
           rw [hc,hd]
           show wpAny M A (if (["enumerate","zip","dict_itemiterator","dict_reverseitemiterator","odict_iterator","itertools.zip_longest","itertools.pairwise"].contains n && vs[0]? == some (rawInt _)) = true then _ else _) Q E s
           rw [if_neg (by intro h; rw [hn,Bool.false_and] at h; cases h)]
           exact wpAny_pure hQ))
def Itl (K : Frag) (a : Addr) : It:=
  ⟨fun i H=>∃ xs x,SqL K H a xs∧xs[i]? = some x,fun i H x H'=>H' = H∧∀ xs,SqL K H a xs→xs[i]? = some x,fun i H=>∃ xs,SqL K H a xs∧xs.length≤i⟩
def Itt (K : Frag) (a : Addr) : It:=
  ⟨fun i H=>∃ xs x,SqT K H a xs∧xs[i]? = some x,fun i H x H'=>H' = H∧∀ xs,SqT K H a xs→xs[i]? = some x,fun i H=>∃ xs,SqT K H a xs∧xs.length≤i⟩
def Itr (lo : Int) (n : Nat) : It:=⟨fun i _=>i < n,fun i H x H'=>H' = H∧x = .int (lo + i),fun i _=>n≤i⟩
theorem zhW {P : Program} {w : World} {K : Frag} {tg : Expr} (a it : Addr) : Turn P w K tg (Itl K a) [it] it (fun i h=>h.IsListIter it a i) where
  mem:=by simp
  obj:=fun i h st b hb=>by
    have e : b = it:=by simpa using hb
    subst e
    obtain ⟨o,e,c,d⟩:=st
    exact ⟨o,e,fun v z=>by rw [d] at z; cases z⟩
  keep:=fun i h h' st k=>st.at fun o e=>k it (by simp) o e
  item:=by
    intro X hP hw hK hc i pins s σ H E I hf st hg
    subst hP hw hK
    obtain ⟨xs,x,hq,hx⟩:=hg
    obtain ⟨its,rv,p,hz⟩:=I.list hq
    obtain ⟨u,hu,ru⟩:=rv.get hx
    obtain ⟨f0,f1,f2,f3,f4,f5⟩:=hf it (by simp)
    refine wpAny_pyNext_list_item st p.isList (x:=u) (by simpa using hu) fun h' st' sb=>?_
    have I1 : Inv X pins σ H { s with heap:=h' }:=I.turned (t':=s.toks) (fun b o hb e=>(sb.2 b hb).trans e) f0 f1 f3 f4 f5
    obtain ⟨o,e,c,d⟩:=id st'
    exact ⟨u,rfl,zmK (s:={ s with heap:=h' }) e c d (by decide) ⟨x,H,I1,ru,⟨rfl,fun ys hy=>by rw [I.list_inj hy hq]; exact hx⟩,st',fun b hb=>(hf b hb).1⟩⟩
  done:=by
    intro X hP hw hK hc i pins s σ H E I hf st hg
    subst hP hw hK
    obtain ⟨xs,hq,hx⟩:=hg
    obtain ⟨its,rv,p,hz⟩:=I.list hq
    obtain ⟨f0,f1,f2,f3,f4,f5⟩:=hf it (by simp)
    have hl:=rv.length
    exact wpAny_pyNext_list_end (I.ok.hd hc) st p.isList (by simp; omega) fun h' eb=>⟨rfl,I.turned (t':=s.toks) (fun b o hb e=>eb b o hb e) f0 f1 f3 f4 f5⟩
  self:=fun _ _ _ _ _ st h=>wpAny_pyIter_listiter st h
theorem zgx {P : Program} {w : World} {K : Frag} {tg : Expr} (a it : Addr) : Turn P w K tg (Itt K a) [it] it (fun i h=>h.IsTupleIter it a i) where
  mem:=by simp
  obj:=fun i h st b hb=>by
    have e : b = it:=by simpa using hb
    subst e
    obtain ⟨o,e,c,d⟩:=st
    exact ⟨o,e,fun v z=>by rw [d] at z; cases z⟩
  keep:=fun i h h' st k=>st.at fun o e=>k it (by simp) o e
  item:=by
    intro X hP hw hK hc i pins s σ H E I hf st hg
    subst hP hw hK
    obtain ⟨xs,x,hq,hx⟩:=hg
    obtain ⟨its,rv,p,hz⟩:=I.tuple hq
    obtain ⟨u,hu,ru⟩:=rv.get hx
    obtain ⟨f0,f1,f2,f3,f4,f5⟩:=hf it (by simp)
    refine wpAny_pyNext_tuple_item st (show s.heap.IsTuple a its.toArray from p) (x:=u) (by simpa using hu) fun h' st' sb=>?_
    have I1 : Inv X pins σ H { s with heap:=h' }:=I.turned (t':=s.toks) (fun b o hb e=>(sb.2 b hb).trans e) f0 f1 f3 f4 f5
    obtain ⟨o,e,c,d⟩:=id st'
    exact ⟨u,rfl,zmK (s:={ s with heap:=h' }) e c d (by decide) ⟨x,H,I1,ru,⟨rfl,fun ys hy=>by rw [I.tuple_inj hy hq]; exact hx⟩,st',fun b hb=>(hf b hb).1⟩⟩
  done:=by
    intro X hP hw hK hc i pins s σ H E I hf st hg
    subst hP hw hK
    obtain ⟨xs,hq,hx⟩:=hg
    obtain ⟨its,rv,p,hz⟩:=I.tuple hq
    obtain ⟨f0,f1,f2,f3,f4,f5⟩:=hf it (by simp)
    have hl:=rv.length
    exact wpAny_pyNext_tuple_end (I.ok.hd hc) st (show s.heap.IsTuple a its.toArray from p) (by simp; omega) fun h' eb=>⟨rfl,I.turned (t':=s.toks) (fun b o hb e=>eb b o hb e) f0 f1 f3 f4 f5⟩
  self:=fun _ _ _ _ _ st h=>wpAny_pyIter_tupleiter st h
theorem zkA {P : Program} {w : World} {K : Frag} {tg : Expr} (it : Addr) (lo : Int) (n : Nat) : Turn P w K tg (Itr lo n) [it] it (fun i h=>IsRangeIter h it (lo + (i : Nat) * 1) ((n : Int) - (i : Nat)) 1) where
  mem:=by simp
  obj:=fun i h st b hb=>by
    have e : b = it:=by simpa using hb
    subst e
    exact ⟨_,st,fun v z=>by
      have z' : Data.fields _ = Data.cell v:=z
      cases z'⟩
  keep:=fun i h h' st k=>k it (by simp) _ st
  item:=by
    intro X hP hw hK hc i pins s σ H E I hf st hg
    subst hP hw hK
    obtain ⟨f0,f1,f2,f3,f4,f5⟩:=hf it (by simp)
    have W:=Walks.range (prog:=X.prog) (w:=X.w) (I.ok.hd hc) it lo 1 n
    refine W.item i s _ _ hg st fun v h' tk hv st' kk=>?_
    obtain ⟨t,rfl⟩:=hv
    have I1 : Inv X pins σ H { s with heap:=h',toks:=tk }:=I.turned (fun b o hb e=>kk b o (by simpa using hb) e) f0 f1 f3 f4 f5
    refine ⟨_,rfl,zmK (s:={ s with heap:=h',toks:=tk }) (n := "range_iterator") st' rfl rfl (by decide) ⟨.int (lo + i),H,I1,⟨t,?_⟩,⟨rfl,rfl⟩,st',fun b hb=>(hf b hb).1⟩⟩
    rw [Int.mul_one]
  done:=by
    intro X hP hw hK hc i pins s σ H E I hf st hg
    subst hP hw hK
    obtain ⟨f0,f1,f2,f3,f4,f5⟩:=hf it (by simp)
    exact wpAny_pyNext_range_end (I.ok.hd hc) st (by have : n≤i:=hg; omega) fun h' eb=>⟨rfl,I.turned (t':=s.toks) (fun b o hb e=>eb b o hb e) f0 f1 f3 f4 f5⟩
  self:=fun _ _ _ _ _ st h=>wpAny_pyIter_rangeiter st h
end L2
namespace L2
open PySem PySem.Spec PyProof.Rows
section
variable {X : Cx} {tg : Expr}
def zrv (K : Frag) (tl : TE) : TI:=fun σ H R=>tl σ H fun x H1=>∃ a,x = .ref a∧(∃ xs,SqL K H1 a xs)∧R (Itl K a) H1
def iTup (K : Frag) (tl : TE) : TI:=fun σ H R=>tl σ H fun x H1=>∃ a,x = .ref a∧(∃ xs,SqT K H1 a xs)∧R (Itt K a) H1
theorem zbC {l : Expr} {tl : TE} (hl : PE X l tl) : PI X tg l (zrv X.K tl):=by
  intro pins s σ H R I h
  refine thn (hl pins s σ H _ I h) fun v s1 ⟨x,H1,I1,r1,q1⟩=>?_
  obtain ⟨a,e,⟨xs,hq⟩,q⟩:=q1
  subst e
  cases r1
  obtain ⟨its,rv,p,hz⟩:=I1.list hq
  refine wpAny_pyIter_list p.isList ?_
  refine ⟨s1.heap.objs.size,[s1.heap.objs.size],_,_,H1,rfl,I1.kept (t':=s1.toks) fun b o e=>yai _ e,zhW a _,⟨_,yaH _ rfl,rfl,rfl⟩,fun b hb=>?_,q⟩
  have e : b = s1.heap.objs.size:=by simpa using hb
  subst e
  exact I1.fpOk (yaa _) (I1.hok.fresh (yaa _))
theorem zdj {l : Expr} {tl : TE} (hl : PE X l tl) : PI X tg l (iTup X.K tl):=by
  intro pins s σ H R I h
  refine thn (hl pins s σ H _ I h) fun v s1 ⟨x,H1,I1,r1,q1⟩=>?_
  obtain ⟨a,e,⟨xs,hq⟩,q⟩:=q1
  subst e
  cases r1
  obtain ⟨its,rv,p,hz⟩:=I1.tuple hq
  refine wpAny_pyIter_tuple (show s1.heap.IsTuple a its.toArray from p) ?_
  refine ⟨s1.heap.objs.size,[s1.heap.objs.size],_,_,H1,rfl,I1.kept (t':=s1.toks) fun b o e=>yai _ e,zgx a _,⟨_,yaH _ rfl,rfl,rfl⟩,fun b hb=>?_,q⟩
  have e : b = s1.heap.objs.size:=by simpa using hb
  subst e
  exact I1.fpOk (yaa _) (I1.hok.fresh (yaa _))
theorem zjQ {pins : List (Addr×Obj)} {σ : St} {H : Hp} {s : Shared} {R : It→Hp→Prop} {E : Value→Shared→Prop} {lo hi : Int} {t u v : Tok} {tk : Nat} (I : Inv X pins σ H s) (h1 : -(2 ^ 62)≤lo) (h2 : lo < 2 ^ 62) (h3 : -(2 ^ 62)≤hi) (h4 : hi < 2 ^ 62)
    (q : R (Itr lo (hi - lo).toNat) H) : wpAny (model X.prog X.w) X.A (pyIter (.ref s.heap.objs.size)) (PIE X pins σ tg R) E { s with heap:=s.heap.push { cls:=.type "range",data:=.fields #[.int lo t,.int hi u,.int 1 v] },toks:=tk }:=by
  refine wpAny_pyIter_range (IsRange.new ..) (small_one h1 h2 h3 h4) ?_
  have I1 : Inv X pins σ H { s with heap:=s.heap.push { cls:=.type "range",data:=.fields #[.int lo t,.int hi u,.int 1 v] },toks:=tk }:=I.kept fun b o e=>yai _ e
  refine ⟨(s.heap.push { cls:=.type "range",data:=.fields #[.int lo t,.int hi u,.int 1 v] }).objs.size,[(s.heap.push { cls:=.type "range",data:=.fields #[.int lo t,.int hi u,.int 1 v] }).objs.size],_,_,H,rfl,
    I1.kept (t':=tk) fun b o e=>yai _ e,zkA _ lo (hi - lo).toNat,?_,fun b hb=>?_,q⟩
  · have e1 : lo + ((0 : Nat) : Int) * 1 = lo:=by simp
    have e2 : (((hi - lo).toNat : Nat) : Int) - ((0 : Nat) : Int) = Builtin.Range.rangeSize lo hi 1:=by rw [rangeSize_one]; split <;> omega
    show IsRangeIter _ _ (lo + ((0 : Nat) : Int) * 1) ((((hi - lo).toNat : Nat) : Int) - ((0 : Nat) : Int)) 1
    rw [e1,e2]
    exact yaH _ rfl
  · have e : b = (s.heap.push { cls:=.type "range",data:=.fields #[.int lo t,.int hi u,.int 1 v] }).objs.size:=by simpa using hb
    subst e
    exact I1.fpOk (yaa _) (I1.hok.fresh (yaa _))
def zru (ta : TA) : TI:=fun σ H R=>ta σ H fun vs H1=>∃ j : Int,vs = [.int j]∧-(2 ^ 62)≤j∧j < 2 ^ 62∧R (Itr 0 j.toNat) H1
def zrt (ta : TA) : TI:=fun σ H R=>ta σ H fun vs H1=>∃ i j : Int,vs = [.int i,.int j]∧(-(2 ^ 62)≤i∧i < 2 ^ 62∧-(2 ^ 62)≤j∧j < 2 ^ 62)∧R (Itr i (j - i).toNat) H1
theorem zaU {a : Expr} {ta : TA} {p pos : Pos} (hg : Gl X "range") (hm : X.mg "range" = none) (ha : PA X [a] ta) (hs : starEach [a] X.env = [(false,eval a X.env)]:=by rfl) : PI X tg (.Call (.Name "range" p) [a] [] pos) (zru ta):=by
  intro pins s σ H R I h
  refine Call_ (zeV I hg hm boot_range (PyProof.Rows.callWith_type1 (thn (ha pos pins s σ H _ I h) fun us s1 ⟨vs,H1,I1,r1,q1⟩=>?_) hs rfl))
  obtain ⟨j,e,q1,q2,q⟩:=q1
  subst e
  cases r1 with
  | cons r rr=>
    cases rr
    obtain ⟨t,rfl⟩:=r
    exact call_range_1 (zjQ I1 (by omega) (by omega) q1 q2 (by simpa using q))
theorem zdk {a b : Expr} {ta : TA} {p pos : Pos} (hg : Gl X "range") (hm : X.mg "range" = none) (ha : PA X [a,b] ta) (hs : starEach [a,b] X.env = [(false,eval a X.env),(false,eval b X.env)]:=by rfl) (hs2 : starEach [b] X.env = [(false,eval b X.env)]:=by rfl) :
    PI X tg (.Call (.Name "range" p) [a,b] [] pos) (zrt ta):=by
  intro pins s σ H R I h
  refine Call_ (zeV I hg hm boot_range (PyProof.Rows.callWith_type1 (thn (ha pos pins s σ H _ I h) fun us s1 ⟨vs,H1,I1,r1,q1⟩=>?_) (by rw [hs,hs2]) (by rw [hs2]; rfl)))
  obtain ⟨i,j,e,⟨q1,q2,q3,q4⟩,q⟩:=q1
  subst e
  cases r1 with
  | cons r rr=>
    cases rr with
    | cons r' rr=>
      cases rr
      obtain ⟨t,rfl⟩:=r
      obtain ⟨t',rfl⟩:=r'
      exact call_range_2 (zjQ I1 q1 q2 q3 q4 q)
def tFor (wi : TI) (g : TG) (tb : TS) : TS:=fun D σ H=>wi σ H fun J H1=>∃ W : Nat→Nat→St→Hp→Prop,(∃ m,W 0 m σ H1)∧∀ i m σ H,W i m σ H→
  (J.stop i H∧D.nx σ H)∨(J.go i H∧∃ N : St→Hp→Prop,(∀ σ' H',N σ' H'→∃ m',m' < m∧W (i + 1) m' σ' H')∧∀ x H',J.yld i H x H'→g x σ H' fun σ2 H2=>tb { D with nx:=N,ct:=N,bk:=D.nx } σ2 H2)
def zgE (fp : List Addr) (h : Heap) : List (Addr×Obj):=fp.filterMap fun b=>(h.get? b).map fun o=>(b,o)
theorem zca {fp : List Addr} {h : Heap} {b : Addr} {o : Obj} (hb : b∈fp) (e : h.get? b = some o) : (b,o)∈zgE fp h:=List.mem_filterMap.mpr ⟨b,hb,by rw [e]; rfl⟩
theorem zmg {fp : List Addr} {h : Heap} {p : Addr×Obj} (hp : p∈zgE fp h) : p.1∈fp∧h.get? p.1 = some p.2:=by
  obtain ⟨b,hb,e⟩:=List.mem_filterMap.mp hp
  cases q : h.get? b with
  | none=>rw [q] at e; cases e
  | some o=>
    rw [q] at e
    have e' : (b,o) = p:=yae e
    subst e'
    exact ⟨hb,q⟩
theorem Inv.pinned {pins : List (Addr×Obj)} {σ : St} {H : Hp} {s : Shared} {fp : List Addr} (I : Inv X pins σ H s) (hf : ∀ b∈fp,FpOk X pins H b) (ho : ∀ b∈fp,∃ o,s.heap.get? b = some o∧∀ v,o.data≠.cell v) : Inv X (pins ++ zgE fp s.heap) σ H s:=
  I.pins_of fun p hp=>(yan.mp hp).elim (fun z=>I.pin p (yax _ z)) fun z=>by
    obtain ⟨hb,e⟩:=zmg z
    obtain ⟨f0,f1,f2,_⟩:=hf p.1 hb
    obtain ⟨o,e',d⟩:=ho p.1 hb
    rw [e] at e'; cases e'
    exact ⟨e,f0,f1,f2,d⟩
theorem Inv.unpinned {pins pl : List (Addr×Obj)} {σ : St} {H : Hp} {s : Shared} (I : Inv X (pins ++ pl) σ H s) : Inv X pins σ H s:=I.pins_of fun p hp=>I.pin p (yax _ (ya4 _ hp))
theorem zaK {iter : Expr} {body : List Stmt} {wi : TI} {g : TG} {tb : TS} {pos : Pos} (hp : PassesOwn (model X.prog X.w) X.A X.env X.xe) (hc : X.calm = true) (hi : PI X tg iter wi) (hg : PG X tg g) (hb : PSs X body tb)
    (hs : ∀ x,foldedSetIterable iter X.env x = pure x:=by intro _; rfl) : PS X (.For tg iter body [] pos) (tFor wi g tb):=by
  intro pins s σ H D I h
  refine wpAny_For (thn (hi pins s σ H _ I h) fun v s1 h1=>thn h1 fun itv s2 h2=>?_) hs
  obtain ⟨it,fp,tn,J,H2,e,I2,T,st2,f2,W,⟨m0,w0⟩,turn⟩:=h2
  subst e
  have stat : ∀ {H' : Hp},(∀ b∈fp,H' b = none)→∀ b∈fp,FpOk X pins H' b:=fun hn b hb=>⟨hn b hb,(f2 b hb).2⟩
  refine codeAny_forLoop_any (fun n s'=>∃ i σ' H',Inv X pins σ' H' s'∧tn i s'.heap∧(∀ b∈fp,H' b = none)∧W i n σ' H') ?_ m0 ⟨0,σ,H2,I2,st2,fun b hb=>(f2 b hb).1,w0⟩
  rintro n s3 ⟨i,σ3,H3,I3,st3,fr3,w3⟩
  rcases turn i n σ3 H3 w3 with ⟨stop,qn⟩ | ⟨go,N,hN,step⟩
  · refine wpAny_passesOwn hp (thn (T.done X rfl rfl rfl hc i pins s3 σ3 H3 X.xe I3 (stat fr3) st3 stop) fun r s4 ⟨hr,I4⟩=>?_)
    subst hr
    exact wpAny_execs_nil ⟨σ3,H3,I4,qn⟩
  · refine wpAny_passesOwn hp (thn (T.item X rfl rfl rfl hc i pins s3 σ3 H3 X.xe I3 (stat fr3) st3 go) fun r s4 ⟨u,hr,h4⟩=>?_)
    subst hr
    refine wpAny_passesOwn hp (thn h4 fun _ s5 ⟨x,H5,I5,r5,y5,st5,fr5⟩=>?_)
    have I5':=I5.pinned (stat fr5) (T.obj _ _ st5)
    refine wpAny_passesOwn hp (thn (hg _ s5 σ3 H5 x u _ I5' r5 (step x H5 y5)) fun _ s6 ⟨σ6,H6,I6,q6⟩=>?_)
    refine wpAny_passesOwn hp (thn (hb _ s6 σ6 H6 _ I6 q6) fun f s7 q7=>?_)
    have again : ∀ {σ7 : St} {H7 : Hp},Inv X (pins ++ zgE fp s5.heap) σ7 H7 s7→N σ7 H7→∃ m,m < n∧∃ i σ' H',Inv X pins σ' H' s7∧tn i s7.heap∧(∀ b∈fp,H' b = none)∧W i m σ' H':=fun {σ7 H7} I7 n7=>by
      obtain ⟨m',hm,w7⟩:=hN σ7 H7 n7
      refine ⟨m',hm,i + 1,σ7,H7,I7.unpinned,T.keep _ _ _ st5 fun b hb o e=>(I7.pin (b,o) (yax _ (yax _ (zca hb e)))).1,fun b hb=>?_,w7⟩
      obtain ⟨o,e,d⟩:=T.obj _ _ st5 b hb
      exact (I7.pin (b,o) (yax _ (yax _ (zca hb e)))).2.1
    cases f with
    | next=>obtain ⟨σ7,H7,I7,n7⟩:=q7; exact again I7 n7
    | cont=>obtain ⟨σ7,H7,I7,n7⟩:=q7; exact again I7 n7
    | brk=>obtain ⟨σ7,H7,I7,q7⟩:=q7; exact ⟨σ7,H7,I7.unpinned,q7⟩
    | ret v=>obtain ⟨x7,σ7,H7,I7,r7,q7⟩:=q7; exact ⟨x7,σ7,H7,I7.unpinned,r7,q7⟩
end
theorem zc5 {K : Frag} {a : Addr} {xs : List V} {g : TG} {tb : TS} {D : Ends} {σ : St} {H : Hp} (Pv : Nat→St→Hp→Prop) (h0 : Pv 0 σ H) (hl : ∀ i σ H,i≤xs.length→Pv i σ H→SqL K H a xs)
    (hs : ∀ i x σ H,xs[i]? = some x→Pv i σ H→g x σ H fun σ2 H2=>tb { D with nx:=Pv (i + 1),ct:=Pv (i + 1),bk:=D.nx } σ2 H2) (hd : ∀ σ H,Pv xs.length σ H→D.nx σ H) :
    ∃ W : Nat→Nat→St→Hp→Prop,(∃ m,W 0 m σ H)∧∀ i m σ H,W i m σ H→
      ((Itl K a).stop i H∧D.nx σ H)∨((Itl K a).go i H∧∃ N : St→Hp→Prop,(∀ σ' H',N σ' H'→∃ m',m' < m∧W (i + 1) m' σ' H')∧∀ x H',(Itl K a).yld i H x H'→g x σ H' fun σ2 H2=>tb { D with nx:=N,ct:=N,bk:=D.nx } σ2 H2):=by
  refine ⟨fun i m σ H=>m = xs.length - i∧i≤xs.length∧Pv i σ H,⟨xs.length,by simp,yaD _,h0⟩,?_⟩
  rintro i m σ H ⟨rfl,hi,p⟩
  have q:=hl i σ H hi p
  by_cases hlt : i < xs.length
  · refine .inr ⟨⟨xs,xs[i],q,by simp [hlt]⟩,Pv (i + 1),fun σ' H' p'=>⟨xs.length - (i + 1),by omega,rfl,hlt,p'⟩,fun x H' y=>?_⟩
    obtain ⟨e,y⟩:=y
    subst e
    exact hs i x σ _ (y xs q) p
  · have e : i = xs.length:=by omega
    subst e
    exact .inl ⟨⟨xs,q,yaa _⟩,hd σ H p⟩
theorem zfl {K : Frag} {a : Addr} {xs : List V} {g : TG} {tb : TS} {D : Ends} {σ : St} {H : Hp} (Pv : Nat→St→Hp→Prop) (h0 : Pv 0 σ H) (hl : ∀ i σ H,i≤xs.length→Pv i σ H→SqT K H a xs)
    (hs : ∀ i x σ H,xs[i]? = some x→Pv i σ H→g x σ H fun σ2 H2=>tb { D with nx:=Pv (i + 1),ct:=Pv (i + 1),bk:=D.nx } σ2 H2) (hd : ∀ σ H,Pv xs.length σ H→D.nx σ H) :
    ∃ W : Nat→Nat→St→Hp→Prop,(∃ m,W 0 m σ H)∧∀ i m σ H,W i m σ H→
      ((Itt K a).stop i H∧D.nx σ H)∨((Itt K a).go i H∧∃ N : St→Hp→Prop,(∀ σ' H',N σ' H'→∃ m',m' < m∧W (i + 1) m' σ' H')∧∀ x H',(Itt K a).yld i H x H'→g x σ H' fun σ2 H2=>tb { D with nx:=N,ct:=N,bk:=D.nx } σ2 H2):=by
  refine ⟨fun i m σ H=>m = xs.length - i∧i≤xs.length∧Pv i σ H,⟨xs.length,by simp,yaD _,h0⟩,?_⟩
  rintro i m σ H ⟨rfl,hi,p⟩
  have q:=hl i σ H hi p
  by_cases hlt : i < xs.length
  · refine .inr ⟨⟨xs,xs[i],q,by simp [hlt]⟩,Pv (i + 1),fun σ' H' p'=>⟨xs.length - (i + 1),by omega,rfl,hlt,p'⟩,fun x H' y=>?_⟩
    obtain ⟨e,y⟩:=y
    subst e
    exact hs i x σ _ (y xs q) p
  · have e : i = xs.length:=by omega
    subst e
    exact .inl ⟨⟨xs,q,yaa _⟩,hd σ H p⟩
theorem za1 {lo : Int} {n : Nat} {g : TG} {tb : TS} {D : Ends} {σ : St} {H : Hp} (Pv : Nat→St→Hp→Prop) (h0 : Pv 0 σ H)
    (hs : ∀ i σ H,i < n→Pv i σ H→g (.int (lo + i)) σ H fun σ2 H2=>tb { D with nx:=Pv (i + 1),ct:=Pv (i + 1),bk:=D.nx } σ2 H2) (hd : ∀ σ H,Pv n σ H→D.nx σ H) :
    ∃ W : Nat→Nat→St→Hp→Prop,(∃ m,W 0 m σ H)∧∀ i m σ H,W i m σ H→
      ((Itr lo n).stop i H∧D.nx σ H)∨((Itr lo n).go i H∧∃ N : St→Hp→Prop,(∀ σ' H',N σ' H'→∃ m',m' < m∧W (i + 1) m' σ' H')∧∀ x H',(Itr lo n).yld i H x H'→g x σ H' fun σ2 H2=>tb { D with nx:=N,ct:=N,bk:=D.nx } σ2 H2):=by
  refine ⟨fun i m σ H=>m = n - i∧i≤n∧Pv i σ H,⟨n,by simp,yaD _,h0⟩,?_⟩
  rintro i m σ H ⟨rfl,hi,p⟩
  by_cases hlt : i < n
  · refine .inr ⟨hlt,Pv (i + 1),fun σ' H' p'=>⟨n - (i + 1),by omega,rfl,hlt,p'⟩,fun x H' y=>?_⟩
    obtain ⟨e,y⟩:=y
    subst e y
    exact hs i σ _ hlt p
  · have e : i = n:=by omega
    subst e
    exact .inl ⟨yaa _,hd σ H p⟩
theorem zjt {c : TT} {tb : TS} {D : Ends} {σ : St} {H : Hp} (Pv : St→Hp→Prop) (μ : St→Hp→Nat) (h0 : Pv σ H)
    (hs : ∀ σ H,Pv σ H→c σ H fun b H1=>if b = true then tb { D with nx:=fun σ' H'=>Pv σ' H'∧μ σ' H' < μ σ H,ct:=fun σ' H'=>Pv σ' H'∧μ σ' H' < μ σ H,bk:=D.nx } σ H1 else D.nx σ H1)
    (mono : ∀ σ H Q Q',(∀ b H1,Q b H1→Q' b H1)→c σ H Q→c σ H Q') : zlu c tb D σ H:=by
  refine ⟨fun m σ H=>m = μ σ H∧Pv σ H,⟨_,rfl,h0⟩,?_⟩
  rintro m σ H ⟨rfl,p⟩
  refine mono σ H _ _ (fun b H1 q=>?_) (hs σ H p)
  cases b with
  | true=>exact ⟨_,fun σ' H' ⟨p',l⟩=>⟨_,l,rfl,p'⟩,q⟩
  | false=>exact q
end L2
namespace L2
open PySem PySem.Spec PyProof.Rows
abbrev R2:=V→V→Hp→VK→Prop
def OpR (X : Cx) (f : Value→Value→Sem Value) (r : R2) : Prop:=
  ∀ (pins : List (Addr×Obj)) (s : Shared) (σ : St) (H : Hp) (x y : V) (v u : Value) (Q : VK),Inv X pins σ H s→RelV x v→RelV y u→r x y H Q→
    wpAny (model X.prog X.w) X.A (f v u) (EP X pins σ Q) X.xe s
def UnR (X : Cx) (f : Value→Sem Value) (r : V→Hp→VK→Prop) : Prop:=
  ∀ (pins : List (Addr×Obj)) (s : Shared) (σ : St) (H : Hp) (x : V) (v : Value) (Q : VK),Inv X pins σ H s→RelV x v→r x H Q→
    wpAny (model X.prog X.w) X.A (f v) (EP X pins σ Q) X.xe s
def ze8 (X : Cx) (f : Value) (r : List V→Hp→VK→Prop) : Prop:=
  ∀ (pins : List (Addr×Obj)) (s : Shared) (σ : St) (H : Hp) (xs : List V) (us : List Value) (Q : VK),Inv X pins σ H s→Vals xs us→r xs H Q→
    wpAny (model X.prog X.w) X.A (call f us) (EP X pins σ Q) X.xe s
def tOp (r : R2) (ta tb : TE) : TE:=fun σ H Q=>ta σ H fun x H1=>tb σ H1 fun y H2=>r x y H2 Q
def tUn (r : V→Hp→VK→Prop) (ta : TE) : TE:=fun σ H Q=>ta σ H fun x H1=>r x H1 Q
def rI (C : Int→Int→Prop) (g : Int→Int→V) : R2:=fun x y H Q=>∃ i j,x = .int i∧y = .int j∧C i j∧Q (g i j) H
def rI0 (g : Int→Int→V) : R2:=fun x y H Q=>∃ i j,x = .int i∧y = .int j∧Q (g i j) H
def rU (g : Int→V) : V→Hp→VK→Prop:=fun x H Q=>∃ i,x = .int i∧Q (g i) H
section
variable {X : Cx} {a b c : Expr} {ta tb tc : TE} {pos : Pos}
theorem binT (ha : PE X a ta) (hb : PE X b tb) {pins : List (Addr×Obj)} {s : Shared} {σ : St} {H : Hp} {R : V→V→Hp→Prop} (I : Inv X pins σ H s)
    (h : ta σ H fun x H1=>tb σ H1 fun y H2=>R x y H2) {Q : Value→Shared→Prop} {f : Value→Value→Sem Value}
    (hf : ∀ v u s2 x y H2,Inv X pins σ H2 s2→RelV x v→RelV y u→R x y H2→wpAny (model X.prog X.w) X.A (f v u) Q X.xe s2) :
    wpAny (model X.prog X.w) X.A (eval a X.env) (fun v s₁=>wpAny (model X.prog X.w) X.A (eval b X.env) (fun u s₂=>wpAny (model X.prog X.w) X.A (f v u) Q X.xe s₂) X.xe s₁) X.xe s:=by
  refine thn (ha pins s σ H _ I h) fun v s1 ⟨x,H1,I1,r1,q1⟩=>?_
  refine thn (hb pins s1 σ H1 _ I1 q1) fun u s2 ⟨y,H2,I2,r2,q2⟩=>?_
  exact hf v u s2 x y H2 I2 r1 r2 q2
theorem zas {op : Operator} {r : R2} (ho : OpR X (binaryOp op) r) (ha : PE X a ta) (hb : PE X b tb) : PE X (.BinOp a op b pos) (tOp r ta tb):=by
  intro pins s σ H Q I h
  exact wpAny_BinOp (binT ha hb I h fun v u s2 x y H2 I2 rx ry q=>ho pins s2 σ H2 x y v u Q I2 rx ry q)
theorem zgr {op : UnaryOp} {r : V→Hp→VK→Prop} (ho : UnR X (unaryOp op) r) (ha : PE X a ta) : PE X (.UnaryOp op a pos) (tUn r ta):=by
  intro pins s σ H Q I h
  exact UnaryOp_ (thn (ha pins s σ H _ I h) fun v s1 ⟨x,H1,I1,r1,q1⟩=>ho pins s1 σ H1 x v Q I1 r1 q1)
theorem opI {f : Value→Value→Sem Value} {C : Int→Int→Prop} {g : Int→Int→Int}
    (rule : ∀ (i j : Int) (t u : Tok) (s : Shared) (Q : Value→Shared→Prop) (E : Value→Shared→Prop),C i j→Q (.int (g i j) s.toks) { s with toks:=s.toks + 1 }→wpAny (model X.prog X.w) X.A (f (.int i t) (.int j u)) Q E s) :
    OpR X f (rI C fun i j=>.int (g i j)):=by
  intro pins s σ H x y v u Q I rx ry h
  obtain ⟨i,j,rfl,rfl,hc,q⟩:=h
  obtain ⟨t,rfl⟩:=rx
  obtain ⟨t',rfl⟩:=ry
  exact rule i j t t' s _ _ hc ⟨.int (g i j),H,I.tok _,⟨_,rfl⟩,q⟩
theorem opI0 {f : Value→Value→Sem Value} {g : Int→Int→Int}
    (rule : ∀ (i j : Int) (t u : Tok) (s : Shared) (Q : Value→Shared→Prop) (E : Value→Shared→Prop),Q (.int (g i j) s.toks) { s with toks:=s.toks + 1 }→wpAny (model X.prog X.w) X.A (f (.int i t) (.int j u)) Q E s) :
    OpR X f (rI0 fun i j=>.int (g i j)):=by
  intro pins s σ H x y v u Q I rx ry h
  obtain ⟨i,j,rfl,rfl,q⟩:=h
  obtain ⟨t,rfl⟩:=rx
  obtain ⟨t',rfl⟩:=ry
  exact rule i j t t' s _ _ ⟨.int (g i j),H,I.tok _,⟨_,rfl⟩,q⟩
theorem opB0 {f : Value→Value→Sem Value} {g : Int→Int→Bool}
    (rule : ∀ (i j : Int) (t u : Tok) (s : Shared) (Q : Value→Shared→Prop) (E : Value→Shared→Prop),Q (.bool (g i j)) s→wpAny (model X.prog X.w) X.A (f (.int i t) (.int j u)) Q E s) :
    OpR X f (rI0 fun i j=>.bl (g i j)):=by
  intro pins s σ H x y v u Q I rx ry h
  obtain ⟨i,j,rfl,rfl,q⟩:=h
  obtain ⟨t,rfl⟩:=rx
  obtain ⟨t',rfl⟩:=ry
  exact rule i j t t' s _ _ ⟨.bl (g i j),H,I,rfl,q⟩
def CDiv (i j : Int) : Prop:=0 < j∧j < 1073741824
def CPow (i j : Int) : Prop:=0≤j∧j≤1000000∧i.natAbs < 2 ^ 64
def CMul (i j : Int) : Prop:=(-(2 ^ 64) < i∧i < 2 ^ 64)∨(-(2 ^ 64) < j∧j < 2 ^ 64)
theorem CMul.ok {i j : Int} (h : CMul i j) : IntMulOk i j:=by
  rcases h with ⟨h1,h2⟩ | ⟨h1,h2⟩
  · exact .of_left (intBits_le_64 h1 h2)
  · exact .of_right (intBits_le_64 h1 h2)
theorem zkz (k : Nat) : (0 : Int)≤2 ^ k:=by
  rw [two_pow_cast]
  exact ybv _
theorem zaZ : OpR X (binaryOp .Add) (rI0 fun i j=>.int (i + j)):=opI0 fun _ _ _ _ _ _ _ q=>add_int q
theorem zbq : OpR X (binaryOp .Sub) (rI0 fun i j=>.int (i - j)):=opI0 fun _ _ _ _ _ _ _ q=>sub_int q
theorem zbT : OpR X (binaryOp .Mult) (rI CMul fun i j=>.int (i * j)):=opI fun _ _ _ _ _ _ _ hc q=>mul_int q hc.ok
theorem zf3 : OpR X (binaryOp .FloorDiv) (rI CDiv fun i j=>.int (i / j)):=opI fun i j _ _ _ _ _ hc q=>by
  have h1 : (0 : Int) < j:=hc.1
  have h2 : j < 1073741824:=hc.2
  exact floordiv_int (by omega) (by rw [Int.fdiv_eq_ediv_of_nonneg i (by omega)]; exact q) (.inl (PyProof.noPylong_small (by omega)))
theorem zdb : OpR X (binaryOp .Mod) (rI (fun _ j=>0 < j) fun i j=>.int (i % j)):=opI fun i j _ _ _ _ _ hc q=>by
  have h1 : (0 : Int) < j:=hc
  exact mod_int' (by omega) (by rw [Int.fmod_eq_emod_of_nonneg i (by omega)]; exact q)
theorem zf2 : OpR X (binaryOp .Pow) (rI CPow fun i j=>.int (i ^ j.toNat)):=opI fun _ _ _ _ _ _ _ hc q=>pow_int_small hc.1 hc.2.1 hc.2.2 q
theorem zqC : OpR X (binaryOp .RShift) (rI (fun _ j=>0≤j) fun i j=>.int (i / 2 ^ j.toNat)):=opI fun i j _ _ _ _ _ hc q=>
  rshift_int hc (by rw [Int.fdiv_eq_ediv_of_nonneg i (zkz _)]; exact q)
theorem zoF : OpR X (binaryOp .BitAnd) (rI0 fun i j=>.int (Builtin.bitAnd i j)):=opI0 fun _ _ _ _ _ _ _ q=>and_int q
theorem zqB : OpR X (binaryOp .BitXor) (rI0 fun i j=>.int (Builtin.bitXor i j)):=opI0 fun _ _ _ _ _ _ _ q=>xor_int q
theorem unI {f : Value→Sem Value} {g : Int→Int}
    (rule : ∀ (i : Int) (t : Tok) (s : Shared) (Q : Value→Shared→Prop) (E : Value→Shared→Prop),Q (.int (g i) s.toks) { s with toks:=s.toks + 1 }→wpAny (model X.prog X.w) X.A (f (.int i t)) Q E s) :
    UnR X f (rU fun i=>.int (g i)):=by
  intro pins s σ H x v Q I rx h
  obtain ⟨i,rfl,q⟩:=h
  obtain ⟨t,rfl⟩:=rx
  exact rule i t s _ _ ⟨.int (g i),H,I.tok _,⟨_,rfl⟩,q⟩
theorem zd2 : UnR X (unaryOp .USub) (rU fun i=>.int (-i)):=unI fun _ _ _ _ _ q=>neg_int q
end
def scal : V→V→Bool
  | .non,.non=>true | .non,.int _=>true | .int _,.non=>true | .non,.bl _=>true | .bl _,.non=>true | .non,.str _=>true | .str _,.non=>true
  | .int _,.int _=>true | .bl _,.bl _=>true | .str _,.str _=>true | .byt _,.byt _=>true
  | .int _,.str _=>true | .str _,.int _=>true | .bl _,.str _=>true | .str _,.bl _=>true
  | _,_=>false
def rEq : R2:=fun x y H Q=>scal x y = true∧Q (.bl (decide (x = y))) H
def rNe : R2:=fun x y H Q=>scal x y = true∧Q (.bl (!decide (x = y))) H
theorem zmT {i j : Int} : decide (V.int i = V.int j) = (i == j):=by
  rw [yb8]
  simp
theorem zoP {i j : Bool} : decide (V.bl i = V.bl j) = (i == j):=by
  rw [yb8]
  simp
theorem zmS {i j : Str} : decide (V.str i = V.str j) = (i == j):=by
  rw [yb8]
  simp
theorem zmU {i j : Array UInt8} : decide (V.byt i = V.byt j) = (i.toList == j.toList):=by
  rw [yb8]
  cases i
  cases j
  simp
section
variable {X : Cx} {a b c : Expr} {ta tb tc : TE} {pos : Pos}
theorem zaR {pins : List (Addr×Obj)} {σ : St} {H : Hp} {s : Shared} {Q : VK} {k k' : Bool} (I : Inv X pins σ H s) (q : Q (.bl k) H) (e : k = k') : EP X pins σ Q (.bool k') s:=by
  subst e
  exact ⟨.bl k,H,I,rfl,q⟩
theorem zdr : OpR X (compareOp .Eq) rEq:=by
  intro pins s σ H x y v u Q I rx ry h
  obtain ⟨hs,q⟩:=h
  cases x with
  | non=>
    cases rx
    cases y with
    | non=>cases ry; exact PySem.EqNone.eq_none_none (zaR I q (by simp))
    | bl j=>cases ry; exact PySem.EqNone.eq_none_bool (zaR I q (by simp))
    | int j=>obtain ⟨t',rfl⟩:=ry; exact PySem.EqNone.eq_none_int (zaR I q (by simp))
    | str j=>obtain ⟨t',rfl⟩:=ry; exact PySem.EqNone.eq_none_str (zaR I q (by simp))
    | _=>exact absurd (show false = true from hs) yaA
  | bl i=>
    cases rx
    cases y with
    | non=>cases ry; exact PySem.EqNone.eq_bool_none (zaR I q (by simp))
    | bl j=>cases ry; exact eq_bool (zaR I q zoP)
    | str j=>obtain ⟨t',rfl⟩:=ry; exact PySem.EqMixed.eq_bool_str (zaR I q (by simp))
    | _=>exact absurd (show false = true from hs) yaA
  | int i=>
    obtain ⟨t,rfl⟩:=rx
    cases y with
    | non=>cases ry; exact PySem.EqNone.eq_int_none (zaR I q (by simp))
    | int j=>obtain ⟨t',rfl⟩:=ry; exact eq_int (zaR I q zmT)
    | str j=>obtain ⟨t',rfl⟩:=ry; exact PySem.EqMixed.eq_int_str (zaR I q (by simp))
    | _=>exact absurd (show false = true from hs) yaA
  | str i=>
    obtain ⟨t,rfl⟩:=rx
    cases y with
    | non=>cases ry; exact PySem.EqNone.eq_str_none (zaR I q (by simp))
    | bl j=>cases ry; exact PySem.EqMixed.eq_str_bool (zaR I q (by simp))
    | int j=>obtain ⟨t',rfl⟩:=ry; exact PySem.EqMixed.eq_str_int (zaR I q (by simp))
    | str j=>obtain ⟨t',rfl⟩:=ry; exact eq_str (zaR I q zmS)
    | _=>exact absurd (show false = true from hs) yaA
  | byt i=>
    obtain ⟨t,rfl⟩:=rx
    cases y with
    | byt j=>obtain ⟨t',rfl⟩:=ry; exact PySem.W.eq_bytes (zaR I q zmU)
    | _=>exact absurd (show false = true from hs) yaA
  | _=>cases y <;> exact absurd (show false = true from hs) yaA
theorem zrm : OpR X (compareOp .NotEq) rNe:=by
  intro pins s σ H x y v u Q I rx ry h
  obtain ⟨hs,q⟩:=h
  cases x with
  | non=>
    cases rx
    cases y with
    | non=>cases ry; exact PySem.EqNone.ne_none_none (zaR I q (by simp))
    | bl j=>cases ry; exact PySem.EqNone.ne_none_bool (zaR I q (by simp))
    | int j=>obtain ⟨t',rfl⟩:=ry; exact PySem.EqNone.ne_none_int (zaR I q (by simp))
    | str j=>obtain ⟨t',rfl⟩:=ry; exact PySem.EqNone.ne_none_str (zaR I q (by simp))
    | _=>exact absurd (show false = true from hs) yaA
  | bl i=>
    cases rx
    cases y with
    | non=>cases ry; exact PySem.EqNone.ne_bool_none (zaR I q (by simp))
    | bl j=>cases ry; exact ne_bool (zaR I q (congrArg not zoP))
    | str j=>obtain ⟨t',rfl⟩:=ry; exact PySem.EqMixed.ne_bool_str (zaR I q (by simp))
    | _=>exact absurd (show false = true from hs) yaA
  | int i=>
    obtain ⟨t,rfl⟩:=rx
    cases y with
    | non=>cases ry; exact PySem.EqNone.ne_int_none (zaR I q (by simp))
    | int j=>obtain ⟨t',rfl⟩:=ry; exact ne_int (zaR I q (congrArg not zmT))
    | str j=>obtain ⟨t',rfl⟩:=ry; exact PySem.EqMixed.ne_int_str (zaR I q (by simp))
    | _=>exact absurd (show false = true from hs) yaA
  | str i=>
    obtain ⟨t,rfl⟩:=rx
    cases y with
    | non=>cases ry; exact PySem.EqNone.ne_str_none (zaR I q (by simp))
    | bl j=>cases ry; exact PySem.EqMixed.ne_str_bool (zaR I q (by simp))
    | int j=>obtain ⟨t',rfl⟩:=ry; exact PySem.EqMixed.ne_str_int (zaR I q (by simp))
    | str j=>obtain ⟨t',rfl⟩:=ry; exact ne_str (zaR I q (congrArg not zmS))
    | _=>exact absurd (show false = true from hs) yaA
  | byt i=>
    obtain ⟨t,rfl⟩:=rx
    cases y with
    | byt j=>obtain ⟨t',rfl⟩:=ry; exact PySem.W.ne_bytes (zaR I q (congrArg not zmU))
    | _=>exact absurd (show false = true from hs) yaA
  | _=>cases y <;> exact absurd (show false = true from hs) yaA
theorem zhs : OpR X (compareOp .Lt) (rI0 fun i j=>.bl (decide (i < j))):=opB0 fun _ _ _ _ _ _ _ q=>lt_int q
theorem zrn : OpR X (compareOp .LtE) (rI0 fun i j=>.bl (decide (i≤j))):=opB0 fun _ _ _ _ _ _ _ q=>le_int q
theorem zpk : OpR X (compareOp .Gt) (rI0 fun i j=>.bl (decide (j < i))):=opB0 fun _ _ _ _ _ _ _ q=>gt_int q
theorem zqD : OpR X (compareOp .GtE) (rI0 fun i j=>.bl (decide (j≤i))):=opB0 fun _ _ _ _ _ _ _ q=>ge_int q
theorem zaH (b : Expr) {op : CmpOp} (h : op≠.In:=by decide) (h2 : op≠.NotIn:=by decide) : behindInMarks op b = false:=by
  have e1 : (op == CmpOp.In) = false:=by cases op <;> first | rfl | exact absurd rfl h
  have e2 : (op == CmpOp.NotIn) = false:=by cases op <;> first | rfl | exact absurd rfl h2
  cases b <;> simp [behindInMarks,e1,e2]
theorem zlY {op : CmpOp} {r : R2} (ho : OpR X (compareOp op) r) (ha : PE X a ta) (hb : PE X b tb) (hm : behindInMarks op b = false) : PE X (.Compare a [op] [b] pos) (tOp r ta tb):=by
  intro pins s σ H Q I h
  exact wpAny_Compare1 (binT ha hb I h fun v u s2 x y H2 I2 rx ry q=>ho pins s2 σ H2 x y v u Q I2 rx ry q) hm
def zp7 (t : TE) : TT:=fun σ H Q=>t σ H fun x H'=>∃ k,x = .bl k∧Q k H'
theorem zaw {op : CmpOp} {r : R2} (ho : OpR X (compareOp op) r) (ha : PE X a ta) (hb : PE X b tb) (hm : behindInMarks op b = false) : PT X (.Compare a [op] [b] pos) (zp7 (tOp r ta tb)):=by
  intro pins s σ H Q I h
  refine wpAny_isTrue_Compare1 (thn (ha pins s σ H _ I h) fun v s1 ⟨x,H1,I1,r1,q1⟩=>thn (hb pins s1 σ H1 _ I1 q1) fun u s2 ⟨y,H2,I2,r2,q2⟩=>
    thn (ho pins s2 σ H2 x y v u _ I2 r1 r2 q2) fun c s3 ⟨z,H3,I3,r3,k,e,q3⟩=>?_) hm
  subst e
  cases r3
  exact wpAny_truthy_bool ⟨H3,I3,q3⟩
def zqc (r r' : R2) (ta tb tc : TE) : TE:=fun σ H Q=>ta σ H fun x H1=>tb σ H1 fun y H2=>r x y H2 fun z H3=>∃ k,z = .bl k∧
  (if k = true then tc σ H3 fun w' H4=>r' y w' H4 Q else Q (.bl false) H3)
theorem znA {op op' : CmpOp} {r r' : R2} (ho : OpR X (compareOp op) r) (ho' : OpR X (compareOp op') r') (ha : PE X a ta) (hb : PE X b tb) (hc : PE X c tc)
    (hm : lastMarks [op,op'] [b,c] = false:=by with_unfolding_all rfl) : PE X (.Compare a [op,op'] [b,c] pos) (zqc r r' ta tb tc):=by
  intro pins s σ H Q I h
  refine Compare_chain (thn (ha pins s σ H _ I h) fun v s1 ⟨x,H1,I1,r1,q1⟩=>chain_link (thn (hb pins s1 σ H1 _ I1 q1) fun u s2 ⟨y,H2,I2,r2,q2⟩=>
    thn (ho pins s2 σ H2 x y v u _ I2 r1 r2 q2) fun d s3 ⟨z,H3,I3,r3,k,e,q3⟩=>?_)) hm
  subst e
  cases r3
  refine wpAny_truthy_bool ?_
  cases k with
  | false=>exact ite_ff ⟨.bl false,H3,I3,rfl,q3⟩
  | true=>exact ite_tt (chain_last (thn (hc pins s3 σ H3 _ I3 q3) fun w' s4 ⟨z',H4,I4,r4,q4⟩=>ho' pins s4 σ H4 y z' u w' Q I4 r2 r4 q4))
theorem zj9 : (sizeLine : Nat) < 2 ^ 63:=by rw [sizeLine_eq]; decide
theorem zhV {x : V} {us : List Value} (r : Vals [x] us) : ∃ u,us = [u]∧RelV x u:=by
  cases r with
  | cons r1 r2=>cases r2; exact ⟨_,rfl,r1⟩
theorem zhU {x y : V} {us : List Value} (r : Vals [x,y] us) : ∃ u w',us = [u,w']∧RelV x u∧RelV y w':=by
  cases r with
  | cons r1 r2=>
    cases r2 with
    | cons r3 r4=>cases r4; exact ⟨_,_,rfl,r1,r3⟩
theorem zkt : ze8 X (.builtin "abs") (fun xs H Q=>∃ i,xs = [.int i]∧Q (.int (if i < 0 then -i else i)) H):=by
  intro pins s σ H xs us Q I r h
  obtain ⟨i,rfl,q⟩:=h
  obtain ⟨u,rfl,t,rfl⟩:=zhV r
  exact call_abs_int fun u tk=>⟨.int (if i < 0 then -i else i),H,I.tok _,⟨_,rfl⟩,q⟩
theorem ze5 (hc : X.calm = true) : ze8 X (.builtin "max") (fun xs H Q=>∃ i j,xs = [.int i,.int j]∧Q (.int (if j > i then j else i)) H):=by
  intro pins s σ H xs us Q I r h
  obtain ⟨i,j,rfl,q⟩:=h
  obtain ⟨u,w',rfl,⟨t,rfl⟩,⟨t',rfl⟩⟩:=zhU r
  refine max_two_ints (I.ok.hd hc) fun h' tk k=>⟨_,H,I.kept k,?_,q⟩
  by_cases hj : j > i
  · rw [if_pos hj,if_pos hj]; exact ⟨_,rfl⟩
  · rw [if_neg hj,if_neg hj]; exact ⟨_,rfl⟩
theorem ziD (hc : X.calm = true) : ze8 X (.builtin "min") (fun xs H Q=>∃ i j,xs = [.int i,.int j]∧Q (.int (if j < i then j else i)) H):=by
  intro pins s σ H xs us Q I r h
  obtain ⟨i,j,rfl,q⟩:=h
  obtain ⟨u,w',rfl,⟨t,rfl⟩,⟨t',rfl⟩⟩:=zhU r
  refine min_two_ints (I.ok.hd hc) fun h' tk k=>⟨_,H,I.kept k,?_,q⟩
  by_cases hj : j < i
  · rw [if_pos hj,if_pos hj]; exact ⟨_,rfl⟩
  · rw [if_neg hj,if_neg hj]; exact ⟨_,rfl⟩
end
end L2
namespace L2
open PySem PySem.Spec PyProof.Rows
structure ObjM (h : Heap) (x dx C : Addr) (mA : Str→Option Value) : Prop where
  obj : h.get? x = some (PySem.W.instObj C dx)
  ns : h.Ns1 dx mA
  ne : dx≠x
theorem zmo {h : Heap} {dx : Addr} {mA : Str→Option Value} (n : h.Ns1 dx mA) : ∃ od,h.get? dx = some od∧∀ name,PySem.W.lookIn name od = some (mA name):=by
  obtain ⟨o,es,ep,ho,hd,hk,_,hm⟩:=n
  refine ⟨o,ho,fun name=>?_⟩
  have e:=hm name
  unfold nsFind findBy at e
  rw [← Array.find?_toList] at e
  unfold PySem.W.lookIn
  rw [hd]
  dsimp only
  split
  · rename_i y q
    rw [q] at e
    exact congrArg some e
  · rename_i q
    rw [q] at e
    have a : es.toList.any (·.refKey) = false:=by
      rw [List.any_eq_false]
      intro y hy
      obtain ⟨z,t,hkey⟩:=hk y (Array.mem_toList_iff.mp hy)
      simp [DictEntry.refKey,hkey]
    have a' : ¬ es.toList.any (·.refKey) = true:=by rw [a]; exact yaA
    rw [if_neg a']
    exact congrArg some e
theorem ObjM.look {h : Heap} {x dx C : Addr} {mA : Str→Option Value} (I : ObjM h x dx C mA) : ∃ od,PySem.W.InstAt h x (PySem.W.instObj C dx) C (some od)∧∀ name,PySem.W.lookIn name od = some (mA name):=
  let ⟨od,ho,hl⟩:=zmo I.ns
  ⟨od,⟨I.obj,rfl,rfl,ho⟩,hl⟩
theorem RelO.some_of {v : V} {o : Option Value} (r : RelO (some v) o) : ∃ u,o = some u∧RelV v u:=by
  cases o with
  | none=>exact (show False from r).elim
  | some u=>exact ⟨u,rfl,r⟩
section
variable {P : Program} {w : World} {H H' : Hp} {h h' : Heap} {a C dx : Addr} {fs fs' : List (Str×V)}
theorem zpF (hok : HOk P w H h) (e : H a = some (.ins C dx fs)) : ∃ mA,ObjM h a dx C mA∧(∀ f,RelO (fs.lookup f) (mA f))∧PySem.Within mA (fs.map (·.1))∧fs.length≤1000∧H dx = some (.own a):=by
  obtain ⟨d,z,ne,ob,mA,n,r,q⟩:=(show zbs P w H h a (.ins C dx fs) from hok a _ e)
  exact ⟨mA,⟨ob,n,ne⟩,r,q,z,d⟩
end
structure Cls (K : Frag) (C : Addr) : Prop where
  pg : PySem.W.plainGet K C Str.empty = true
  hd : PySem.W.hasDictIn K C = true
  po : PySem.W.plainOver K C = true
  sa : findIn K (.ref C) "__setattr__" = some (some (.builtin "object.__setattr__"))
theorem Cls.get {K : Frag} {C : Addr} (c : Cls K C) (f : Str) : PySem.W.plainGet K C f = true:=c.pg
section
variable {X : Cx} {pins : List (Addr×Obj)} {σ : St} {H : Hp} {s : Shared} {A : Around} {E : Value→Shared→Prop} {Q : Value→Shared→Prop} {c : Value} {b : Bool}
inductive TyOf (K : Frag) (H : Hp) : V→Value→Prop where
  | non : TyOf K H .non (.type "NoneType")
  | bl (x : Bool) : TyOf K H (.bl x) (.type "bool")
  | int (i : Int) : TyOf K H (.int i) (.type "int")
  | str (x : Str) : TyOf K H (.str x) (.type "str")
  | flt (x : UInt64) : TyOf K H (.flt x) (.type "float")
  | lst {a : Addr} {xs : List V} (e : H a = some (.lst xs)) : TyOf K H (.ref a) (.type "list")
  | frz {a : Addr} {o : Obj} {xs : List V} (e : H a = some (.frz o (.lst xs))) : TyOf K H (.ref a) (.type "list")
  | tup {a : Addr} {xs : List V} (e : H a = some (.tup xs)) : TyOf K H (.ref a) (.type "tuple")
  | dK {a : Addr} {kvs : List (Key×V)} (e : H a = some (.dK kvs)) : TyOf K H (.ref a) (.type "dict")
  | dT {a : Addr} {kvs : List (List Key×V)} (e : H a = some (.dT kvs)) : TyOf K H (.ref a) (.type "dict")
  | ins {a C dx : Addr} {fs : List (Str×V)} (e : H a = some (.ins C dx fs)) (cl : Cls K C) (ha : findIn K (.ref C) "__class__" = some (some (.builtin "object.__class__")))
      (hn : PySem.W.specialIn K (.builtin "object.__class__") "__get__" = some (some (.builtin "getset_descriptor.__get__"))) (htk : PySem.W.takesIn K (.builtin "object.__class__") = some true)
      (hm : mroIn K C (.type "object") = some true) : TyOf K H (.ref a) (.ref C)
theorem zmB {x : V} {u t : Value} (I : Inv X pins σ H s) (rx : RelV x u) (ty : TyOf X.K H x t) (e : kitOne X.K t c = some b) (h : ∀ tk,Q (.bool b) { s with toks:=tk }) :
    wpAny (model X.prog X.w) A (call (.builtin "isinstance") [u,c]) Q E s:=by
  cases ty with
  | non=>cases (show u = Value.none from rx); exact PySem.W.kia_one PySem.W.kitx_none I.kIn True.intro e (fun z=>nomatch z) h
  | bl y=>cases (show u = Value.bool y from rx); exact PySem.W.kia_one PySem.W.kitx_bool I.kIn True.intro e (fun z=>nomatch z) h
  | int i=>obtain ⟨t,q⟩:=(show ∃ t,u = Value.int i t from rx); cases q; exact PySem.W.kia_one PySem.W.kitx_int I.kIn True.intro e (fun z=>nomatch z) h
  | str y=>obtain ⟨t,q⟩:=(show ∃ t,u = Value.str y t from rx); cases q; exact PySem.W.kia_one PySem.W.kitx_str I.kIn True.intro e (fun z=>nomatch z) h
  | flt y=>obtain ⟨t,q⟩:=(show ∃ t,u = Value.float y t from rx); cases q; exact PySem.W.kia_one PySem.W.kitx_float I.kIn True.intro e (fun z=>nomatch z) h
  | @lst a xs ea=>
    cases (show u = Value.ref a from rx)
    obtain ⟨_,_,n,_,h1⟩:=(show zbs X.prog X.w H s.heap a (.lst xs) from I.hok a _ ea)
    exact PySem.W.kia_one PySem.W.kitx_list I.kIn ⟨_,h1,rfl⟩ e (fun z=>nomatch z) h
  | @frz a ob xs ea=>
    cases (show u = Value.ref a from rx)
    obtain ⟨_,_,_,n,_,h1⟩:=(show zbs X.prog X.w H s.heap a (.frz ob (.lst xs)) from I.hok a _ ea)
    exact PySem.W.kia_one PySem.W.kitx_list I.kIn ⟨_,h1,rfl⟩ e (fun z=>nomatch z) h
  | @tup a xs ea=>
    cases (show u = Value.ref a from rx)
    obtain ⟨_,_,_,p⟩:=(show zbs X.prog X.w H s.heap a (.tup xs) from I.hok a _ ea)
    obtain ⟨o,h1,h2,_⟩:=p
    exact PySem.W.kia_one PySem.W.kitx_tuple I.kIn ⟨o,h1,h2⟩ e (fun z=>nomatch z) h
  | @dK a kvs ea=>
    cases (show u = Value.ref a from rx)
    obtain ⟨_,_,vs,_,p⟩:=(show zbs X.prog X.w H s.heap a (.dK kvs) from I.hok a _ ea)
    obtain ⟨o,es,ep,h1,h2,_⟩:=p
    exact PySem.W.kia_one PySem.W.kitx_dict I.kIn ⟨o,h1,h2.1⟩ e (fun z=>nomatch z) h
  | @dT a kvs ea=>
    cases (show u = Value.ref a from rx)
    obtain ⟨_,_,xs,_,o,es,ep,h1,h2,_⟩:=(show zbs X.prog X.w H s.heap a (.dT kvs) from I.hok a _ ea)
    exact PySem.W.kia_one PySem.W.kitx_dict I.kIn ⟨o,h1,h2.1⟩ e (fun z=>nomatch z) h
  | @ins a C dx fs ea cl ha hn htk hm=>
    cases (show u = Value.ref a from rx)
    obtain ⟨mA,O,_⟩:=zpF I.hok ea
    obtain ⟨od,J,_⟩:=O.look
    exact PySem.W.kia_one (PySem.W.kitx_own (cl.get _) cl.hd ha hn htk hm) I.kIn J e (fun z=>nomatch z) h
end
end L2
namespace L2
open PySem PySem.Spec PyProof.Rows
structure Room (k : Nat) (A : Around) : Prop where
  hd : A.handled = none
  dp : A.depth + 3 * k + 5 < recursionLimit
  un : A.units + 16 * k + 200 < cLine
  gd : A.guards = some []
theorem Room.mono {j k : Nat} {A : Around} (r : Room k A) (h : j≤k) : Room j A:=⟨r.hd,by have:=r.dp; omega,by have:=r.un; omega,r.gd⟩
theorem Room.deeper {k : Nat} {A : Around} (r : Room (k + 1) A) (env : Env) : Room k (A.deeper env):=
  ⟨r.hd,by have:=r.dp; show A.depth + 1 + 3 * k + 5 < _; omega,by have:=r.un; show A.units + 3 + 16 * k + 200 < _; omega,r.gd⟩
theorem Room.depth {k : Nat} {A : Around} (r : Room k A) : A.depth < recursionLimit:=by have:=r.dp; omega
theorem Room.units {k : Nat} {A : Around} (r : Room k A) : A.units + 64 < cLine:=by have:=r.un; omega
def tNil : TA:=fun _ H Q=>Q [] H
def zo3 (ta : TE) (tr : TA) : TA:=fun σ H Q=>ta σ H fun x H1=>tr σ H1 fun xs H2=>Q (x :: xs) H2
section
variable {X : Cx} {e : Expr} {es : List Expr} {te : TE} {t : TA} {pos : Pos}
theorem zad : PA X [] tNil:=fun _ _ _ _ H Q I h=>Calls.spliced_nil ⟨[],H,I,.nil,h⟩
theorem zaa (ha : PE X e te) (hr : PA X es t) (hs : starEach (e :: es) X.env = (false,eval e X.env) :: starEach es X.env:=by rfl) : PA X (e :: es) (zo3 te t):=by
  intro pos pins s σ H Q I h
  rw [hs]
  show wpAny _ _ (spliced ((false,eval e X.env) :: backTo pos (starEach es X.env))) _ _ s
  refine Calls.spliced_cons (thn (ha pins s σ H _ I h) fun u s1 ⟨x,H1,I1,r1,q1⟩=>?_)
  exact thn (hr pos pins s1 σ H1 _ I1 q1) fun us s2 ⟨xs,H2,I2,r2,q2⟩=>⟨x :: xs,H2,I2,.cons r1 r2,q2⟩
def tTup (t : TA) : TE:=fun σ H Q=>t σ H fun xs H1=>xs.length≤sizeLine∧∀ p,H1 p = none→Q (.ref p) (upd H1 p (.tup xs))
def tLst (t : TA) : TE:=fun σ H Q=>t σ H fun xs H1=>xs.length≤sizeLine∧∀ p,H1 p = none→Q (.ref p) (upd H1 p (.lst xs))
theorem zbe {x1} (h : PA X es t) : PE X (.Tuple es x1 pos) (tTup t):=by
  intro pins s σ H Q I hq
  refine wpAny_Tuple_spliced (thn (h pos pins s σ H _ I hq) fun us s1 ⟨xs,H1,I1,r,z,q⟩=>⟨by rw [← r.length]; exact z,?_⟩)
  have hf : H1 s1.heap.objs.size = none:=I1.hok.fresh (yaa _)
  refine ⟨.ref s1.heap.objs.size,upd H1 s1.heap.objs.size (.tup xs),I1.laid (t':=s1.toks) (fun b u e=>yai _ e) (yaa _) ?_,rfl,q _ hf⟩
  exact ⟨z,us,r,⟨_,yaH _ rfl,rfl,_,rfl⟩⟩
theorem zbp (h : PA X es t) : PE X (.List es pos) (tLst t):=by
  intro pins s σ H Q I hq
  refine wpAny_List_spliced (thn (h pos pins s σ H _ I hq) fun us s1 ⟨xs,H1,I1,r,z,q⟩=>⟨by rw [← r.length]; exact z,?_⟩)
  have hf : H1 s1.heap.objs.size = none:=I1.hok.fresh (yaa _)
  refine ⟨.ref s1.heap.objs.size,upd H1 s1.heap.objs.size (.lst xs),I1.laid (t':=s1.toks) (fun b u e=>yai _ e) (yaa _) ?_,rfl,q _ hf⟩
  exact ⟨z,us,0,r,yaH _ rfl⟩
end
abbrev Sp:=List V→Hp→VK→XK→Prop
abbrev CXT:=List Env→Hp→Shared→XK→Value→Shared→Prop
structure Env0 (P : Program) (w : World) (K : Frag) (mg : Str→Option Value) (base : Heap) (A : Around) (outer : List Env) (s : Shared) (H : Hp) : Prop where
  frames : A.frames = some outer
  mod : Mod K mg base
  bs : ∀ b o,base.get? b = some o→s.heap.get? b = some o∧H b = none
  bsz : base.objs.size≤s.heap.objs.size
  funs : s.heap.FunFrames base outer
  frf : ∀ b∈frs outer,H b = none
  hok : HOk P w H s.heap
  bare : AllBare s.gens
def CE (outer : List Env) (P : Program) (w : World) (H : Hp) (s : Shared) (Q : VK) (u : Value) (s' : Shared) : Prop:=
  ∃ v H',s'.os = s.os∧AllBare s'.gens∧Un (frs outer) [] H H' s.heap s'.heap∧HOk P w H' s'.heap∧RelV v u∧Q v H'
def CR (CX : CXT) (outer : List Env) (P : Program) (w : World) (H : Hp) (s : Shared) (Q : VK) (E : XK) (r : Result) (s' : Shared) : Prop:=
  match r with
  | .ok (.ret u)=>CE outer P w H s Q u s'
  | .ok _=>False
  | .error e=>CX outer H s E e s'
structure FnOk (P : Program) (w : World) (K : Frag) (mg : Str→Option Value) (base : Heap) (CX : CXT) (k : Nat) (f : Addr) (fd : FuncData) (ps : List Str) (sp : Sp) : Prop where
  len : ∀ vs H Q E,sp vs H Q E→vs.length = ps.length
  run : ∀ (A : Around) (outer : List Env) (s : Shared) (H : Hp) (args : Args) (us : List Value) (vs : List V) (Q : VK) (E : XK),Room k A→Env0 P w K mg base A outer s H→BindsTo s fd args (ps.zip us)→Vals vs us→sp vs H Q E→
    codeAny (model P w) A (.call (.ref f) args) (CR CX outer P w H s Q E) s
section
variable {X : Cx} {pins : List (Addr×Obj)} {σ : St} {H : Hp} {s s' : Shared}
theorem Inv.env0 (I : Inv X pins σ H s) : Env0 X.prog X.w X.K X.mg X.base X.A X.stack s H:=
  ⟨I.ok.frames,I.ok.mod,I.bs,yat I.ok.bsz I.sz,I.stack,I.stkFree,I.hok,I.bare⟩
theorem Inv.after {Q : VK} {u : Value} (I : Inv X pins σ H s) (h : CE X.stack X.prog X.w H s Q u s') : EP X pins σ Q u s':=by
  obtain ⟨v,H',os,bare,un,hok,r,q⟩:=h
  obtain ⟨hh,g,d,t,os'⟩:=s'
  obtain rfl : os' = s.os:=os
  exact ⟨v,H',I.call (h':=hh) (g':=g) (d':=d) (t':=t) (ch:=[]) un hok bare (fun b z=>absurd z (by simp)),r,q⟩
end
def zqf (sp : Sp) (dvs : List V) (E : XK) (t : TA) : TE:=fun σ H Q=>t σ H fun vs H1=>sp (vs ++ dvs) H1 Q E
def zhP (K : Frag) (fd : FuncData) (ps : List Str) (ds : List Value) : Prop:=
  ∀ (s : Shared) (us : List Value),K.In s.heap→(us ++ ds).length = ps.length→BindsTo s fd ⟨us,[]⟩ (ps.zip (us ++ ds))
theorem zhP.all {K : Frag} {fd : FuncData} {ps : List Str} (h : ∀ us : List Value,us.length = ps.length→bindArgs fd ⟨us,[]⟩ = pure (ps.zip us)) : zhP K fd ps []:=fun s us _ hl=>by
  rw [yaE] at hl ⊢
  exact .of_eq (h us hl)
def znc (CX : CXT) (X : Cx) (E : XK) : Prop:=∀ (pins : List (Addr×Obj)) (σ : St) (H : Hp) (s : Shared) (e : Value) (s' : Shared),Inv X pins σ H s→CX X.stack H s E e s'→X.xe e s'
section
variable {X : Cx} {CX : CXT} {k : Nat} {f C : Addr} {fd : FuncData} {ps : List Str} {sp : Sp} {dvs : List V} {ds : List Value} {E : XK} {x m : Str} {p pos apos : Pos} {e o : Expr} {es : List Expr} {ta : TE} {t : TA}
theorem zoA {pins : List (Addr×Obj)} {σ : St} {H : Hp} {s : Shared} {Q : VK} {us : List Value} {vs : List V} (F : FnOk X.prog X.w X.K X.mg X.base CX k f fd ps sp) (hr : Room k X.A) (hb : zhP X.K fd ps ds) (hd : Vals dvs ds) (hx : znc CX X E)
    (I : Inv X pins σ H s) (r : Vals vs us) (h : sp (vs ++ dvs) H Q E) : wpAny (model X.prog X.w) X.A (call (.ref f) us) (EP X pins σ Q) X.xe s:=by
  have r2 : Vals (vs ++ dvs) (us ++ ds):=r.append hd
  have hl : (us ++ ds).length = ps.length:=by rw [← r2.length]; exact F.len _ _ _ _ h
  refine wpAny_call (codeAny_mono (F.run X.A X.stack s H ⟨us,[]⟩ (us ++ ds) (vs ++ dvs) Q E hr I.env0 (hb s us I.kIn hl) r2 h) fun r s' hq=>?_)
  cases r with
  | error e=>exact hx pins σ H s e s' I hq
  | ok fl=>
    cases fl with
    | ret u=>exact I.after hq
    | next=>exact False.elim hq
    | brk=>exact False.elim hq
    | cont=>exact False.elim hq
theorem zpj (F : FnOk X.prog X.w X.K X.mg X.base CX k f fd ps sp) (hr : Room k X.A) (hg : Gl X x) (hm : X.mg x = some (.ref f)) (hk : keepIn X.K (.ref f) = true) (hb : zhP X.K fd ps ds) (hd : Vals dvs ds) (hx : znc CX X E)
    (ha : PA X (e :: es) t) (hdb : (x == ("__debug__" : Str)) = false:=by decide) (he : starEach (e :: es) X.env = (false,eval e X.env) :: starEach es X.env:=by rfl) (hpl : (backTo pos (starEach es X.env)).any (·.1) = false:=by rfl) :
    PE X (.Call (.Name x p) (e :: es) [] pos) (zqf sp dvs E t):=by
  intro pins s σ H Q I h
  refine wpAny_Call_Name_kw (zhC I hg hm ?_ hdb)
  refine PySem.W.callWith_K (h₀:=X.base) I.ok.mod.kin hk (thn (ha pos pins s σ H _ I h) fun us s1 ⟨vs,H1,I1,r,q⟩=>⟨I1.kIn,?_⟩) he hpl
  exact zoA F hr hb hd hx I1 r q
end
structure zao (N P : List Str) (sc : Scope) : Prop where
  kind : sc.kind = .function
  co : sc.isCoroutine = false
  gen : sc.isGenerator = false
  nd : N.Nodup
  pre : N.take P.length = P
  par : ∀ x∈P,sc.names.lookup x = some .local∨sc.names.lookup x = some .cell
  nofree : ∀ y∈sc.names,y.2≠.free
theorem ziE {kindOf : Str→Option NameKind} {x : Str} : ∀ {binds : List (Str×Value)} {m : Str→Option Value},(∀ v,(x,v)∉binds)→bindL kindOf binds m x = m x
  | [],_,_=>rfl
  | (n,v) :: r,m,h=>by
    unfold bindL
    rw [ziE fun w hw=>h w (yaG _ hw)]
    split
    · have : x≠n:=by rintro rfl; exact h v yaz
      simp [this]
    · rfl
theorem ziG {kindOf : Str→Option NameKind} {x : Str} : ∀ {binds : List (Str×Value)} {m : Str→Option Value},(∀ v,(x,v)∉binds)→bindC kindOf binds m x = m x
  | [],_,_=>rfl
  | (n,v) :: r,m,h=>by
    unfold bindC
    rw [ziG fun w hw=>h w (yaG _ hw)]
    split
    · rfl
    · have : x≠n:=by rintro rfl; exact h v yaz
      simp [this]
theorem ziF {kindOf : Str→Option NameKind} {x : Str} {v : Value} : ∀ {P : List Str} {vs : List Value} {i : Nat} {m : Str→Option Value},P.Nodup→P[i]? = some x→vs[i]? = some v→kindOf x = some .local→
    bindL kindOf (P.zip vs) m x = some v
  | [],_,_,_,_,h,_,_=>by simp at h
  | _ :: _,[],_,_,_,_,h,_=>by simp at h
  | p :: P,w :: vs,0,m,nd,h1,h2,hk=>by
    simp at h1 h2; subst h1; subst h2
    show bindL kindOf ((p,w) :: P.zip vs) m p = _
    unfold bindL
    rw [ziE fun v hv=>(yaS.mp nd).1 (ybT hv).1,if_pos hk]
    simp
  | p :: P,w :: vs,i + 1,m,nd,h1,h2,hk=>by
    show bindL kindOf ((p,w) :: P.zip vs) m x = _
    unfold bindL
    exact ziF (i:=i) (yaS.mp nd).2 (by simpa using h1) (by simpa using h2) hk
theorem ziH {kindOf : Str→Option NameKind} {x : Str} {v : Value} : ∀ {P : List Str} {vs : List Value} {i : Nat} {m : Str→Option Value},P.Nodup→P[i]? = some x→vs[i]? = some v→kindOf x≠some .local→
    bindC kindOf (P.zip vs) m x = some v
  | [],_,_,_,_,h,_,_=>by simp at h
  | _ :: _,[],_,_,_,_,h,_=>by simp at h
  | p :: P,w :: vs,0,m,nd,h1,h2,hk=>by
    simp at h1 h2; subst h1; subst h2
    show bindC kindOf ((p,w) :: P.zip vs) m p = _
    unfold bindC
    rw [ziG fun v hv=>(yaS.mp nd).1 (ybT hv).1,if_neg hk]
    simp
  | p :: P,w :: vs,i + 1,m,nd,h1,h2,hk=>by
    show bindC kindOf ((p,w) :: P.zip vs) m x = _
    unfold bindC
    exact ziH (i:=i) (yaS.mp nd).2 (by simpa using h1) (by simpa using h2) hk
def zcP (N : List Str) (vs : List V) : St:=vs.map some ++ List.replicate (N.length - vs.length) none
def cxOf (CX : CXT) (P : Program) (w : World) (K : Frag) (mg : Str→Option Value) (base : Heap) (N : List Str) (qual : Str) (scope : Scope) (f : Addr) (cd : Value) (A : Around) (outer : List Env) (s : Shared) (H : Hp) (E : XK) : Cx where
  prog:=P
  w:=w
  K:=K
  mg:=mg
  base:=base
  A:=A.deeper (envOfC qual scope s.heap.objs.size f cd)
  N:=N
  s₀:=s
  H₀:=H
  env:=envOfC qual scope s.heap.objs.size f cd
  outer:=outer
  stack:=envOfC qual scope s.heap.objs.size f cd :: outer
  ex:=[]
  calm:=true
  fn:=fun _=>true
  pn:=[]
  xe:=fun e s'=>wpAny (model P w) (A.deeper (envOfC qual scope s.heap.objs.size f cd)) (leaving (envOfC qual scope s.heap.objs.size f cd) e) (fun _ s''=>CX outer H s E e s'') (fun e' s''=>CX outer H s E e' s'') s'
theorem zks {sc : Scope} {n : Nat} {x : Str} (h : sc.names.lookup x = some .cell) : ∃ c,(cellsFrom n sc.names []).lookup x = some c:=by
  have q:=PySem.W.cellsFrom_some sc.names n [] (.inl h)
  exact Option.isSome_iff_exists.mp q
theorem zmC {CX : CXT} {P : Program} {w : World} {K : Frag} {mg : Str→Option Value} {base : Heap} {N ps : List Str} {qual : Str} {scope : Scope} {f : Addr} {cd : Value} {A : Around} {outer : List Env} {s s1 : Shared} {H : Hp} {E : XK} {us : List Value} {vs : List V}
    (S : zao N ps scope) (hd : A.handled = none) (e0 : Env0 P w K mg base A outer s H) (hl : vs.length = ps.length) (r : Vals vs us)
    (x : InCallC s s.heap.objs.size (bindL (envOfC qual scope s.heap.objs.size f cd).kindOf (ps.zip us) fun _=>none) (cellsFrom (s.heap.objs.size + 1) scope.names []) (bindC (envOfC qual scope s.heap.objs.size f cd).kindOf (ps.zip us) fun _=>none) s1) :
    Inv (cxOf CX P w K mg base N qual scope f cd A outer s H E) [] (zcP N vs) H s1:=by
  have hpl : ps.length≤N.length:=by have:=congrArg List.length S.pre; rw [yak] at this; omega
  obtain ⟨h1,tk,rfl,hk⟩:=x.done
  have noA : ∀ b : Addr,b∉(cxOf CX P w K mg base N qual scope f cd A outer s H E).ex:=fun b z=>absurd (show b∈([] : List Addr) from z) (by simp)
  refine ⟨⟨e0.mod,S.kind,rfl,rfl,yaa _,fun y z c h1 h2=>?_,fun y hy=>?_,fun y c _ h=>?_,fun _=>hd,Around.frames_deeper e0.frames,.inr ⟨rfl,rfl⟩,fun b z=>absurd z (noA b),e0.bs,e0.bsz,fun b _ _=>noA b,fun b z=>absurd z (noA b),e0.funs,e0.frf⟩,
    rfl,e0.bare,Un.kept hk,⟨_,x.toInCall.ns,fun i y v h1 h2 h3=>?_⟩,fun y c h=>⟨_,x.cell y c h⟩,e0.hok.fresh (yaa _),fun y c h=>?_,fun p hp=>absurd (show p∈([] : List (Addr×Obj)) from hp) (by simp),e0.hok.kept hk,?_⟩
  · exact name_of_addr x.apart (PySem.mem_of_lookup h1) (PySem.mem_of_lookup h2)
  · have hy : scope.names.lookup y = some .cell∨scope.names.lookup y = some .free:=hy
    rcases hy with hy | hy
    · exact zks hy
    · exact absurd rfl (S.nofree _ (PySem.mem_of_lookup hy))
  · exact ybm (x.above y c (PySem.mem_of_lookup h))
  · have hi : i < vs.length:=by
      unfold zcP at h2
      by_cases hi : i < vs.length
      · exact hi
      · rw [yaY (by simpa using hi)] at h2
        rw [yct] at h2
        split at h2 <;> cases h2
    have ha : vs[i]? = some v:=by
      unfold zcP at h2
      rw [ybh (by simpa using hi),yaj] at h2
      cases e : vs[i]? with
      | none=>rw [e] at h2; cases h2
      | some a=>rw [e] at h2; cases h2; rfl
    obtain ⟨u,hu,rv⟩:=r.get ha
    have hp : ps[i]? = some y:=by
      rw [← S.pre,List.getElem?_take_of_lt (by omega)]; exact h1
    have ndP : ps.Nodup:=by rw [← S.pre]; exact S.nd.sublist (List.take_sublist _ _)
    refine ⟨u,rv,?_⟩
    rcases S.par y (yaK hp) with k | k
    · exact .inl ⟨k,ziF ndP hp hu k⟩
    · obtain ⟨c,e⟩:=zks (n:=s.heap.objs.size + 1) k
      refine .inr ⟨.inl k,c,e,?_⟩
      have q:=x.cell y c e
      rw [ziH ndP hp hu (by show scope.names.lookup y≠_; rw [k]; decide)] at q
      exact q
  · exact e0.hok.fresh (ybm (x.above y c (PySem.mem_of_lookup h)))
  · unfold zcP
    show _ = N.length
    rw [yah,yab,ybe]
    omega
theorem zq1 {CX : CXT} {P : Program} {w : World} {K : Frag} {mg : Str→Option Value} {base : Heap} {k : Nat} {f : Addr} {name qual : Str} {params : Arguments} {body : List Stmt} {scope : Scope} {dV kV doc pm cdv ct oc : Value} {an od : Option Addr}
    {osl : Array (Option Value)} {N ps : List Str} {sp : Sp} (lk : K.lookup f = some ⟨oc,od,.func (fnOf name qual params body scope dV kV doc pm an cdv ct),osl⟩) (hcd : codeIn K cdv qual = true) (S : zao N ps scope)
    (len : ∀ vs H Q E,sp vs H Q E→vs.length = ps.length)
    (hbody : ∀ (A : Around) (outer : List Env) (s : Shared) (H : Hp) (vs : List V) (Q : VK) (E : XK),Room k (A.deeper (envOfC qual scope s.heap.objs.size f cdv))→sp vs H Q E→
      ∃ t,PSs (cxOf CX P w K mg base N qual scope f cdv A outer s H E) body t∧t { nx:=fun _ H'=>Q .non H',rt:=Q } (zcP N vs) H) :
    FnOk P w K mg base CX (k + 1) f (fnOf name qual params body scope dV kV doc pm an cdv ct) ps sp:=by
  refine ⟨len,fun A outer s H args us vs Q E hr e0 hb r hsp=>?_⟩
  have hl:=len _ _ _ _ hsp
  have KX : K.In s.heap:=e0.mod.kin.keeps fun b o e=>(e0.bs b o e).1
  have lim : s.heap.NoLimit:=e0.mod.nolimit.keeps fun b o e=>(e0.bs b o e).1
  have hkind : ∀ y∈ps.zip us,scope.names.lookup y.1 = some .local∨(scope.names.lookup y.1 = some .cell∧((cellsFrom (s.heap.objs.size + 1) scope.names []).lookup y.1).isSome = true):=fun ⟨n,v⟩ hy=>by
    rcases S.par n (ybT hy).1 with q | q
    · exact .inl q
    · exact .inr ⟨q,PySem.W.cellsFrom_some _ _ _ (.inl q)⟩
  refine codeAny_call_function hr.depth (KX _ _ lk) rfl S.co S.gen rfl (PySem.W.codeRec_of KX hcd) (hb _ _ _ _ ?_)
  refine wpAny_newFunctionEnv_cells S.kind hkind fun env he s1 x=>?_
  subst he
  refine ⟨lim.keeps x.toInCall.keep,codeAny_func ?_⟩
  obtain ⟨t,ht,hq⟩:=hbody A outer s H vs Q E (hr.deeper _) hsp
  have I : Inv (cxOf CX P w K mg base N qual scope f cdv A outer s H E) [] (zcP N vs) H s1:=zmC S hr.hd e0 hl r x
  refine wpAny_mono (ht [] s1 (zcP N vs) H _ I hq) (fun fl s' hs=>?_) fun e s' hs=>hs
  have fin : ∀ {σ' : St} {H' : Hp} {v : V} {u : Value},Inv (cxOf CX P w K mg base N qual scope f cdv A outer s H E) [] σ' H' s'→RelV v u→Q v H'→CE outer P w H s Q u s':=
    fun {σ' H' v u} J rv q=>⟨v,H',J.os,J.bare,J.base,J.hok,rv,q⟩
  cases fl with
  | ret u=>
    obtain ⟨v,σ',H',J,rv,q⟩:=hs
    exact fin J rv q
  | next=>
    obtain ⟨σ',H',J,q⟩:=hs
    exact fin (v:=V.non) (u:=Value.none) J rfl q
  | brk=>
    obtain ⟨_,_,_,q⟩:=hs
    exact False.elim q
  | cont=>
    obtain ⟨_,_,_,q⟩:=hs
    exact False.elim q
end L2
namespace L2
open PySem PySem.Spec PyProof.Rows
section
variable {X : Cx} {x : Str} {p pos : Pos} {e : Expr} {es : List Expr} {t : TA} {id T : String} {r : List V→Hp→VK→Prop}
def tCB (r : List V→Hp→VK→Prop) (t : TA) : TE:=fun σ H Q=>t σ H fun vs H1=>r vs H1 Q
theorem zaq (hc : ze8 X (.builtin id) r) (hg : Gl X x) (hm : X.mg x = none) (hv : bootBuiltins x = some (.builtin id)) (ha : PA X (e :: es) t) (hn : x ≠ "__name__":=by decide) (hdb : (x == ("__debug__" : Str)) = false:=by decide)
    (he : starEach (e :: es) X.env = (false,eval e X.env) :: starEach es X.env:=by rfl) (hpl : (backTo pos (starEach es X.env)).any (·.1) = false:=by rfl) : PE X (.Call (.Name x p) (e :: es) [] pos) (tCB r t):=by
  intro pins s σ H Q I h
  refine wpAny_Call_Name_kw (zeV I hg hm hv ?_ hn hdb)
  exact PyProof.Rows.callWith_builtin1 (thn (ha pos pins s σ H _ I h) fun us s1 ⟨vs,H1,I1,r1,q1⟩=>hc pins s1 σ H1 vs us Q I1 r1 q1) he hpl
theorem zbf (hc : ze8 X (.type T) r) (hg : Gl X x) (hm : X.mg x = none) (hv : bootBuiltins x = some (.type T)) (ha : PA X (e :: es) t) (hn : x ≠ "__name__":=by decide) (hdb : (x == ("__debug__" : Str)) = false:=by decide)
    (he : starEach (e :: es) X.env = (false,eval e X.env) :: starEach es X.env:=by rfl) (hpl : (backTo pos (starEach es X.env)).any (·.1) = false:=by rfl) : PE X (.Call (.Name x p) (e :: es) [] pos) (tCB r t):=by
  intro pins s σ H Q I h
  refine wpAny_Call_Name_kw (zeV I hg hm hv ?_ hn hdb)
  exact PyProof.Rows.callWith_type1 (thn (ha pos pins s σ H _ I h) fun us s1 ⟨vs,H1,I1,r1,q1⟩=>hc pins s1 σ H1 vs us Q I1 r1 q1) he hpl
end
end L2
namespace HT
open PySem PyProof.Rows
section
variable {prog : Program} {w : World} {A : Around} {E : Value→Shared→Prop} {s : Shared}
theorem cat_tup {t b : Addr} {vs ws : List Value} {Q : Value→Shared→Prop} (ht : IsTup s.heap t vs.toArray) (hb : IsTup s.heap b ws.toArray) (hv : vs≠[])
    (h1 : ws = []→Q (.ref t) s) (h2 : ws≠[]→Q (.ref s.heap.objs.size) { s with heap:=s.heap.push { cls:=.type "tuple",data:=.seq (vs ++ ws).toArray } })
    (hsz : vs.length + ws.length≤sizeLine) : wpAny (model prog w) A (binaryOp .Add (.ref t) (.ref b)) Q E s:=by
  obtain ⟨⟨cls,dd,data,sl⟩,ho,hc,n,hd⟩:=id ht
  obtain ⟨⟨cls2,dd2,data2,sl2⟩,ho2,hc2,n2,hd2⟩:=id hb
  simp only at hc hd hc2 hd2
  subst hc hd hc2 hd2
  have e : vs.toArray ++ ws.toArray = (vs ++ ws).toArray:=by simp
  by_cases hw : ws = []
  · exact concat_meets ⟨_,ho,rfl⟩ ⟨_,ho2,rfl⟩ noFill_tuple_add seq_tuple_add PySem.F.slot_tuple_add PySem.F.entry_tuple_add (PySem.F.args_tuple_add_2 _ _)
      (tuple_addW1 t b vs.toArray ws.toArray n n2 dd dd2 sl sl2 (by simpa using hv) (by simp [hw])) ⟨ho,ho2,h1 hw⟩
  · refine concat_meets ⟨_,ho,rfl⟩ ⟨_,ho2,rfl⟩ noFill_tuple_add seq_tuple_add PySem.F.slot_tuple_add PySem.F.entry_tuple_add (PySem.F.args_tuple_add_2 _ _)
      (tuple_addW2 t b vs.toArray ws.toArray n n2 dd dd2 sl sl2 (by simpa using hv) (by simpa using hw) (by rw [yaw,yaw]; exact hsz)) ⟨ho,ho2,?_⟩
    rw [e]
    exact h2 hw
def sIx (n d : Nat) : Option Int→Nat
  | none=>d
  | some v=>if v < 0 then (v + (n : Int)).toNat else min v.toNat n
theorem zhf (n d k : Nat) : sIx n d (some (k : Int)) = min k n:=by
  show (if (k : Int) < 0 then ((k : Int) + (n : Int)).toNat else min (k : Int).toNat n) = min k n
  rw [if_neg (by omega),yba]
theorem zqo (n d : Nat) (hd : d≤n) (o : Option Int) : sIx n d o≤n:=by
  cases o with
  | none=>exact hd
  | some v=>
    show (if v < 0 then (v + (n : Int)).toNat else min v.toNat n)≤n
    by_cases hv : v < 0
    · rw [if_pos hv]; omega
    · rw [if_neg hv]; exact Nat.min_le_right _ _
theorem zm1 (v : Int) (n d : Nat) : (if v < 0 then max (v + (n : Int)) 0 else min v (n : Int)) = ((sIx n d (some v) : Nat) : Int):=by
  show (if v < 0 then max (v + (n : Int)) 0 else min v (n : Int)) = (((if v < 0 then (v + (n : Int)).toNat else min v.toNat n) : Nat) : Int)
  by_cases hv : v < 0
  · simp only [if_pos hv]; omega
  · simp only [if_neg hv]; omega
theorem zlb (lo hi : Option Int) (n : Nat) : Builtin.Slice.sliceAdjust lo hi 1 (n : Int) = (((sIx n 0 lo : Nat) : Int),((sIx n n hi : Nat) : Int)):=by
  have h1 : ¬ ((1 : Int) < 0):=by omega
  unfold Builtin.Slice.sliceAdjust
  simp only [h1,if_false]
  refine Prod.ext ?_ ?_
  · cases lo with
    | none=>rfl
    | some v=>exact zm1 v n 0
  · cases hi with
    | none=>rfl
    | some v=>exact zm1 v n n
theorem zkI (i j : Nat) : Builtin.Slice.slicePlaces (i : Int) (j : Int) 1 = j - i:=by
  unfold Builtin.Slice.slicePlaces
  have h1 : (1 : Int) > 0:=by omega
  simp only [h1,if_true,Int.ediv_one]
  split <;> omega
theorem zgB {v : Value} {o : Option Int} {Q : Option Int→Shared→Prop} (p : IsPart v o) (h : Q o s) : wpAny (model prog w) A (Builtin.Slice.slicePartIndex v) Q E s:=by
  cases p with
  | none=>exact slicePart_none h
  | int i t=>exact slicePart_int h
theorem zda {sl : Addr} {vl vu : Value} {lo hi : Option Int} {n : Nat} {Q : Int×Int×Nat→Shared→Prop} (hs : s.heap.IsSliceOf sl vl vu .none) (pl : IsPart vl lo) (pu : IsPart vu hi)
    (h : Q (((sIx n 0 lo : Nat) : Int),1,sIx n n hi - sIx n 0 lo) s) : wpAny (model prog w) A (Builtin.Slice.sliceApplied (.ref sl) (pure (n : Int))) Q E s:=by
  obtain ⟨os,hos,hcs,hds⟩:=id hs
  unfold Builtin.Slice.sliceApplied Builtin.Slice.sliceFields
  refine wpAny_bind (wpAny_bind (wpAny_field hos hds (x:=vl) rfl (wpAny_bind (wpAny_field hos hds (x:=vu) rfl (wpAny_bind (wpAny_field hos hds (x:=.none) rfl (wpAny_pure ?_)))))))
  refine wpAny_bind (slicePart_none ?_)
  show wpAny _ _ (if ((1 : Int) == 0) = true then _ else _) _ _ s
  rw [if_neg (by decide)]
  refine wpAny_bind (zgB pl (wpAny_bind (zgB pu (wpAny_bind (wpAny_pure ?_)))))
  show wpAny _ _ (match Builtin.Slice.sliceAdjust lo hi 1 (n : Int) with | (lo,hi)=>pure (lo,(1 : Int),Builtin.Slice.slicePlaces lo hi 1)) _ _ s
  rw [zlb lo hi n]
  show wpAny _ _ (pure (((sIx n 0 lo : Nat) : Int),(1 : Int),Builtin.Slice.slicePlaces ((sIx n 0 lo : Nat) : Int) ((sIx n n hi : Nat) : Int) 1)) _ _ s
  rw [zkI]
  exact wpAny_pure h
theorem znx (xs : Array Value) (i k : Nat) : ((List.range k).filterMap fun (m : Nat)=>xs[((i : Int) + (m : Int) * 1).toNat]?).toArray = ((xs.toList.drop i).take k).toArray:=by
  have e : (fun (m : Nat)=>xs[((i : Int) + (m : Int) * 1).toNat]?) = fun m=>xs[i + m]?:=by
    funext m
    have : ((i : Int) + (m : Int) * 1).toNat = i + m:=by omega
    rw [this]
  rw [e]
  have:=pick_run xs i k
  rw [List.filterMap_map] at this
  have e2 : ((fun x=>xs[x]?) ∘ fun x=>i + x) = fun m=>xs[i + m]?:=rfl
  rw [e2] at this
  rw [this]
theorem getItem_tuple_cut {t sl : Addr} {items : Array Value} {vl vu : Value} {lo hi : Option Int} {Q : Value→Shared→Prop} (ht : IsTup s.heap t items) (hs : s.heap.IsSliceOf sl vl vu .none) (pl : IsPart vl lo) (pu : IsPart vu hi)
    (hw : ¬ (sIx items.size 0 lo = 0∧sIx items.size items.size hi = items.size))
    (h : Q (.ref s.heap.objs.size) { s with heap:=s.heap.push { cls:=.type "tuple",data:=.seq ((items.toList.drop (sIx items.size 0 lo)).take (sIx items.size items.size hi - sIx items.size 0 lo)).toArray } })
    (hsz : items.size≤sizeLine) : wpAny (model prog w) A (getItem (.ref t) (.ref sl)) Q E s:=by
  have htake : sizeOk (.seq ((items.toList.drop (sIx items.size 0 lo)).take (sIx items.size items.size hi - sIx items.size 0 lo)).toArray):=by
    show ((items.toList.drop (sIx items.size 0 lo)).take (sIx items.size items.size hi - sIx items.size 0 lo)).toArray.size≤sizeLine
    rw [yaw,yak,yaT,yav]
    omega
  have hj : sIx items.size items.size hi≤items.size:=zqo _ _ (yaa _) hi
  obtain ⟨os,hos,hcs,hds⟩:=id hs
  have hTs : s.TypeIs (.ref sl) "slice":=⟨os,hos,hcs⟩
  unfold getItem
  try with_reducible refine wpAny_holding ?_
  first | refine wpAny_bind (wpAny_pure ?_) | skip
  refine wpAny_bind (wpAny_sequenceKey ht.typeIs (by decide) ?_)
  refine wpAny_bind (wpAny_callSpecial?_slot (name:=Str.ofString "__getitem__") ht.typeIs PyProof.Rows.slot_tuple_getitem
    (wpAny_call_entry PyProof.Rows.slot_tuple_getitem ht.typeIs entry_tuple_getitem ?_ (args_tuple_getitem _ _)))
  show wpAny _ _ (Builtin.Tuple.tupleItemsOf (.ref t) >>= _) _ _ s
  refine wpAny_bind (tupleItemsOf_ ht ?_)
  refine wpAny_bind (wpAny_typeOf hTs ?_)
  rw [if_pos (by decide)]
  refine wpAny_bind (zda hs pl pu ?_)
  have hno : ¬ ((((sIx items.size 0 lo : Nat) : Int) == 0 && (1 : Int) == 1 && (sIx items.size items.size hi - sIx items.size 0 lo) == items.size) = true):=by
    intro q
    rw [ybf,ybf] at q
    have q1 : ((sIx items.size 0 lo : Nat) : Int) = 0:=eq_of_beq q.1.1
    have q2 : sIx items.size items.size hi - sIx items.size 0 lo = items.size:=eq_of_beq q.2
    exact hw ⟨by omega,by omega⟩
  show wpAny _ _ (if (((sIx items.size 0 lo : Nat) : Int) == 0 && (1 : Int) == 1 && (sIx items.size items.size hi - sIx items.size 0 lo) == items.size) = true then _ else _) _ _ s
  rw [if_neg hno,znx]
  first
    | exact wpAny_bind (m:=Builtin.Tuple.tupleExact _) (wpAny_newObj_type (wpAny_pure ⟨_,rfl,wpAny_pure h⟩) htake)
    | exact wpAny_bind (m:=Builtin.Tuple.tupleExact _) (wpAny_newObj_type (wpAny_bind (wpAny_pure (wpAny_pure ⟨_,rfl,wpAny_pure h⟩))) htake)
    | exact wpAny_bind (wpAny_bind (m:=Builtin.Tuple.tupleExact _) (wpAny_newObj_type (wpAny_pure (wpAny_pure ⟨_,rfl,wpAny_pure h⟩)) htake))
    | exact wpAny_bind (wpAny_bind (m:=Builtin.Tuple.tupleExact _) (wpAny_newObj_type (wpAny_pure ⟨_,rfl,wpAny_pure h⟩) htake))
end
end HT
namespace L2
open PySem PySem.Spec PyProof.Rows
abbrev TO:=St→Hp→(Option Int→Hp→Prop)→Prop
def PO (X : Cx) (e : Option Expr) (t : TO) : Prop:=
  ∀ (pins : List (Addr×Obj)) (s : Shared) (σ : St) (H : Hp) (Q : Option Int→Hp→Prop),Inv X pins σ H s→t σ H Q→
    wpAny (model X.prog X.w) X.A (evalPart e X.env) (fun u s'=>∃ o H',Inv X pins σ H' s'∧IsPart u o∧Q o H') X.xe s
def zo2 : TO:=fun _ H Q=>Q none H
def zlv (t : TE) : TO:=fun σ H Q=>t σ H fun x H1=>∃ i,x = .int i∧Q (some i) H1
section
variable {X : Cx} {e : Expr} {te : TE} {lo hi : Option Expr} {tl th : TO} {pos p2 : Pos}
theorem ziR : PO X none zo2:=by
  intro pins s σ H Q I h
  rw [evalPart_none]
  exact wpAny_pure ⟨none,H,I,.none,h⟩
theorem zbI (h : PE X e te) : PO X (some e) (zlv te):=by
  intro pins s σ H Q I hw
  rw [evalPart_some]
  refine thn (h pins s σ H _ I hw) fun u s1 ⟨x,H1,I1,r1,q1⟩=>?_
  obtain ⟨i,rfl,q⟩:=q1
  obtain ⟨t,rfl⟩:=r1
  exact ⟨some i,H1,I1,.int i t,q⟩
def SlR (X : Cx) (r : V→Option Int→Option Int→Hp→VK→Prop) : Prop:=
  ∀ (pins : List (Addr×Obj)) (s : Shared) (σ : St) (H : Hp) (x : V) (v vl vu : Value) (lo hi : Option Int) (sl : Addr) (Q : VK),Inv X pins σ H s→RelV x v→s.heap.IsSliceOf sl vl vu .none→IsPart vl lo→IsPart vu hi→r x lo hi H Q→
    ∃ T id,typeLookup (.type T) "__getitem__" = pure (some (.builtin id))∧s.TypeIs v T∧wpAny (model X.prog X.w) X.A (getItem v (.ref sl)) (EP X pins σ Q) X.xe s
def tSl (r : V→Option Int→Option Int→Hp→VK→Prop) (te : TE) (tl th : TO) : TE:=fun σ H Q=>te σ H fun x H1=>tl σ H1 fun l H2=>th σ H2 fun u H3=>r x l u H3 Q
theorem zcz {r : V→Option Int→Option Int→Hp→VK→Prop} (hr : SlR X r) (he : PE X e te) (hl : PO X lo tl) (hu : PO X hi th) : PE X (.Subscript e (.Slice lo hi none p2) pos) (tSl r te tl th):=by
  intro pins s σ H Q I h
  refine Subscript_ (thn (he pins s σ H _ I h) fun v s1 ⟨x,H1,I1,r1,q1⟩=>?_)
  refine wpAny_Slice (thn (hl pins s1 σ H1 _ I1 q1) fun vl s2 ⟨l,H2,I2,pl,q2⟩=>thn (hu pins s2 σ H2 _ I2 q2) fun vu s3 ⟨u,H3,I3,pu,q3⟩=>?_)
  rw [evalPart_none]
  refine wpAny_pure ?_
  have I4 : Inv X pins σ H3 { s3 with heap:=s3.heap.push { cls:=.type "slice",data:=.fields #[vl,vu,.none] } }:=I3.kept (t':=s3.toks) fun b ob q=>yai _ q
  obtain ⟨T,id,hT,ht,hg⟩:=hr pins { s3 with heap:=s3.heap.push { cls:=.type "slice",data:=.fields #[vl,vu,.none] } } σ H3 x v vl vu l u s3.heap.objs.size Q I4 r1 (Heap.IsSliceOf.new ..) pl pu q3
  show wpAny (model X.prog X.w) X.A (subscriptTail e (.Slice lo hi none p2) v (.ref s3.heap.objs.size)) (EP X pins σ Q) X.xe { s3 with heap:=s3.heap.push { cls:=.type "slice",data:=.fields #[vl,vu,.none] } }
  exact tail_any (ops:=[.ref s3.heap.objs.size,v]) ht hT hg (by with_unfolding_all rfl)
def cutV (xs : List V) (lo hi : Option Int) : List V:=(xs.drop (HT.sIx xs.length 0 lo)).take (HT.sIx xs.length xs.length hi - HT.sIx xs.length 0 lo)
theorem zgd (xs : List V) (lo hi : Option Int) : (cutV xs lo hi).length≤xs.length:=by
  unfold cutV
  rw [yak,yaT]
  omega
def rSlT (K : Frag) : V→Option Int→Option Int→Hp→VK→Prop:=fun x lo hi H Q=>∃ a xs,x = .ref a∧SqT K H a xs∧
  ¬ (HT.sIx xs.length 0 lo = 0∧HT.sIx xs.length xs.length hi = xs.length)∧∀ p,H p = none→Q (.ref p) (upd H p (.tup (cutV xs lo hi)))
theorem zqn : SlR X (rSlT X.K):=by
  intro pins s σ H x v vl vu lo hi sl Q I rx hs pl pu h
  obtain ⟨a,xs,rfl,hx,hw,q⟩:=h
  cases rx
  obtain ⟨its,r,ht,hz⟩:=I.tuple hx
  have hlen : its.toArray.size = xs.length:=by rw [yaw]; exact r.length.symm
  refine ⟨"tuple",_,PyProof.Rows.slot_tuple_getitem.lookup,ht.typeIs,?_⟩
  refine HT.getItem_tuple_cut ht hs pl pu (by rw [hlen]; exact hw) ?_ (by rw [hlen]; exact hz)
  rw [hlen]
  refine ⟨.ref s.heap.objs.size,_,I.laid (t':=s.toks) (o:=.tup (cutV xs lo hi)) (fun b ob q=>yai _ q) (yaa _) ?_,rfl,q _ (I.hok.fresh (yaa _))⟩
  exact ⟨yat (zgd xs lo hi) hz,_,(r.drop (HT.sIx xs.length 0 lo)).take (HT.sIx xs.length xs.length hi - HT.sIx xs.length 0 lo),IsTup.new _ _⟩
def zrl (K : Frag) : R2:=fun x y H Q=>∃ a b xs ys,x = .ref a∧y = .ref b∧SqT K H a xs∧SqT K H b ys∧xs≠[]∧xs.length + ys.length≤sizeLine∧
  (ys = []→Q (.ref a) H)∧(ys≠[]→∀ p,H p = none→Q (.ref p) (upd H p (.tup (xs ++ ys))))
theorem Vals.nil_iff {xs : List V} {us : List Value} (r : Vals xs us) : us = []↔xs = []:=by
  cases r with
  | nil=>simp
  | cons _ _=>simp
theorem zpm : OpR X (binaryOp .Add) (zrl X.K):=by
  intro pins s σ H x y v u Q I rx ry h
  obtain ⟨a,b,xs,ys,rfl,rfl,ha,hb,hx,hz,q1,q2⟩:=h
  cases rx
  cases ry
  obtain ⟨its,r1,p1,_⟩:=I.tuple ha
  obtain ⟨its2,r2,p2,_⟩:=I.tuple hb
  refine HT.cat_tup p1 p2 (fun z=>hx (r1.nil_iff.mp z)) (fun z=>⟨.ref a,H,I,rfl,q1 (r2.nil_iff.mp z)⟩) (fun z=>?_) (by rw [← r1.length,← r2.length]; exact hz)
  refine ⟨.ref s.heap.objs.size,_,I.laid (t':=s.toks) (o:=.tup (xs ++ ys)) (fun b ob q=>yai _ q) (yaa _) ?_,rfl,q2 (fun w=>z (r2.nil_iff.mpr w)) _ (I.hok.fresh (yaa _))⟩
  exact ⟨by rw [yah]; exact hz,_,r1.append r2,IsTup.new _ _⟩
end
end L2
namespace L2
open PySem PySem.Spec PyProof.Rows
def ixN (n : Nat) (i : Int) : Option Nat:=if 0≤i then (if i < n then some i.toNat else none) else if -(n : Int)≤i then some (i + n).toNat else none
def atI {α : Type} (xs : List α) (i : Int) : Option α:=(ixN xs.length i).bind fun j=>xs[j]?
theorem zmA {n : Nat} {i : Int} {j : Nat} (h : ixN n i = some j) : seqIndex? i n = some j∧j < n∧-(n : Int)≤i∧i < n:=by
  unfold ixN at h
  by_cases h0 : 0≤i
  · rw [if_pos h0] at h
    by_cases h1 : i < n
    · rw [if_pos h1] at h
      have e : i.toNat = j:=yae h
      exact ⟨by rw [seqIndex_of h0 h1,e],by omega,by omega,h1⟩
    · rw [if_neg h1] at h; cases h
  · rw [if_neg h0] at h
    by_cases h1 : -(n : Int)≤i
    · rw [if_pos h1] at h
      have e : (i + n).toNat = j:=yae h
      exact ⟨by rw [seqIndex_neg (by omega) h1,e],by omega,h1,by omega⟩
    · rw [if_neg h1] at h; cases h
theorem znb {α : Type} {xs : List α} {i : Int} {v : α} (h : atI xs i = some v) : ∃ j,seqIndex? i xs.length = some j∧xs[j]? = some v∧j < xs.length∧-(xs.length : Int)≤i∧i < xs.length:=by
  unfold atI at h
  cases e : ixN xs.length i with
  | none=>rw [e] at h; cases h
  | some j=>
    rw [e] at h
    obtain ⟨h1,h2,h3,h4⟩:=zmA e
    exact ⟨j,h1,h,h2,h3,h4⟩
theorem zbh {α : Type} {xs : List α} {j : Nat} {v : α} (h : xs[j]? = some v) : atI xs (j : Int) = some v:=by
  have hj : j < xs.length:=(yag.mp h).1
  have e : ixN xs.length (j : Int) = some j:=by
    unfold ixN
    rw [if_pos (by omega),if_pos (by omega)]; simp
  unfold atI; rw [e]; exact h
def zp2 (b : Expr) : Prop:=∀ o i,subscripted b false o i = operate [o,i] (getItem o i)
def IxR (X : Cx) (r : R2) : Prop:=
  ∀ (value slice : Expr) (pins : List (Addr×Obj)) (s : Shared) (σ : St) (H : Hp) (x y : V) (v u : Value) (Q : VK),Inv X pins σ H s→RelV x v→RelV y u→r x y H Q→
    subscripted slice false v u = operate [v,u] (getItem v u)→wpAny (model X.prog X.w) X.A (subscriptTail value slice v u) (EP X pins σ Q) X.xe s
def MtR (X : Cx) (id : String) (r : V→List V→Hp→VK→Prop) : Prop:=
  ∀ (pins : List (Addr×Obj)) (s : Shared) (σ : St) (H : Hp) (x : V) (xs : List V) (v : Value) (us : List Value) (Q : VK),Inv X pins σ H s→RelV x v→Vals xs us→r x xs H Q→
    wpAny (model X.prog X.w) X.A (call (.builtin id) (v :: us)) (EP X pins σ Q) X.xe s
section
variable {X : Cx} {a b : Expr} {ta tb : TE} {pos : Pos}
theorem zaz {r : R2} (hr : IxR X r) (ha : PE X a ta) (hb : PE X b tb) (hs : zp2 b) : PE X (.Subscript a b pos) (tOp r ta tb):=by
  intro pins s σ H Q I h
  exact Subscript_ (binT ha hb I h fun v u s2 x y H2 I2 rx ry q=>hr a b pins s2 σ H2 x y v u Q I2 rx ry q (hs _ _))
def rIxL (K : Frag) : R2:=fun x y H Q=>∃ p xs i v,x = .ref p∧y = .int i∧SqL K H p xs∧atI xs i = some v∧Q v H
def rIxT (K : Frag) : R2:=fun x y H Q=>∃ p xs i v,x = .ref p∧y = .int i∧SqT K H p xs∧atI xs i = some v∧Q v H
theorem zax : IxR X (rIxL X.K):=by
  intro value slice pins s σ H x y v u Q I rx ry h hs
  obtain ⟨p,xs,i,z,rfl,rfl,hq,he,q⟩:=h
  cases rx
  obtain ⟨t,rfl⟩:=ry
  obtain ⟨its,r,pl,hz⟩:=I.list hq
  obtain ⟨j,h1,h2,h3,h4,h5⟩:=znb he
  obtain ⟨w,ew,rw'⟩:=r.get h2
  have hl:=r.length
  have hn:=zj9
  have fin : EP X pins σ Q w s:=⟨z,H,I,rw',q⟩
  by_cases h0 : 0≤i
  · have hj : i.toNat = j:=by
      rw [seqIndex_of h0 h5] at h1
      exact yae h1
    exact item_listR pl.isList h0 (by omega) (by rw [hj]; simpa using ew) fin hs
  · have hj : (i + (its.toArray.size : Int)).toNat = j:=by
      rw [seqIndex_neg (by omega) h4] at h1
      rw [yaw,← hl]
      exact yae h1
    exact subscriptTail_builtinR (x:=w) pl.isList.typeIs slot_list_getitem.lookup
      (wpAny_getItem_list_neg (Q:=fun r s'=>r = w∧EP X pins σ Q r s') pl.isList (by omega) (by rw [yaw] <;> omega) (by omega) (by rw [hj]; simpa using ew) ⟨rfl,fin⟩) hs
theorem zaW : IxR X (rIxT X.K):=by
  intro value slice pins s σ H x y v u Q I rx ry h hs
  obtain ⟨p,xs,i,z,rfl,rfl,hq,he,q⟩:=h
  cases rx
  obtain ⟨t,rfl⟩:=ry
  obtain ⟨its,r,pl,hz⟩:=I.tuple hq
  obtain ⟨j,h1,h2,h3,h4,h5⟩:=znb he
  obtain ⟨w,ew,rw'⟩:=r.get h2
  have hl:=r.length
  have hn:=zj9
  have fin : EP X pins σ Q w s:=⟨z,H,I,rw',q⟩
  exact subscriptTail_builtinR (x:=w) pl.typeIs slot_tuple_getitem.lookup
    (getItem_tuple (j:=j) (Q:=fun r s'=>r = w∧EP X pins σ Q r s') pl (by omega) (by omega) (by rw [yaw,← hl]; exact h1) (by simpa using ew) ⟨rfl,fin⟩) hs
theorem zkY (its : List Value) (n j : Nat) (u : Value) : Obj.mapSeq (·.setIfInBounds j u) { cls:=.type "list",data:=.seq its.toArray n } = { cls:=.type "list",data:=.seq (its.set j u).toArray n }:=by
  simp [Obj.mapSeq]
theorem Inv.lst {pins : List (Addr×Obj)} {σ : St} {H : Hp} {s : Shared} {p : Addr} {xs : List V} (I : Inv X pins σ H s) (h : H p = some (.lst xs)) :
    ∃ (its : List Value) (n : Nat),Vals xs its∧s.heap.get? p = some { cls:=.type "list",data:=.seq its.toArray n }∧xs.length≤sizeLine:=by
  obtain ⟨z,its,n,r,e⟩:=I.hok p _ h
  exact ⟨its,n,r,e,z⟩
theorem Inv.lstUpd {pins : List (Addr×Obj)} {σ : St} {H : Hp} {s : Shared} {p : Addr} {xs ys : List V} {its its' : List Value} {n n' : Nat} {f : Obj→Obj} (I : Inv X pins σ H s) (h : H p = some (.lst xs))
    (ho : s.heap.get? p = some { cls:=.type "list",data:=.seq its.toArray n }) (hf : f { cls:=.type "list",data:=.seq its.toArray n } = { cls:=.type "list",data:=.seq its'.toArray n' }) (r : Vals ys its') (hz : ys.length≤sizeLine) (t : Nat) :
    Inv X pins σ (upd H p (.lst ys)) { s with heap:=s.heap.update p f,toks:=t }:=by
  have e : (s.heap.update p f).get? p = some { cls:=.type "list",data:=.seq its'.toArray n' }:=by
    rw [Heap.get?_update_self f ho (by rw [hf] <;> rfl),hf]
  refine I.write (x:=p) (e:=p) (by rw [h]; trivial) (.inl rfl) (fun b u hb q=>(ybw _ _ (Ne.symm hb)).trans q) ⟨_,e⟩ ?_
  exact ⟨hz,its',n',r,e⟩
def zrk : V→V→V→Hp→(Hp→Prop)→Prop:=fun o i v H Q=>∃ p xs k j,o = .ref p∧i = .int k∧H p = some (.lst xs)∧ixN xs.length k = some j∧Q (upd H p (.lst (xs.set j v)))
theorem zdB : PSet X zrk:=by
  intro pins s σ H o i v ov iv u Q I ro ri rv h
  obtain ⟨p,xs,k,j,rfl,rfl,hp,hj,q⟩:=h
  cases ro
  obtain ⟨t,rfl⟩:=ri
  obtain ⟨its,n,r,ho,hz⟩:=I.lst hp
  obtain ⟨h1,h2,h3,h4⟩:=zmA hj
  have hl:=r.length
  have hn:=zj9
  have I' : Inv X pins σ (upd H p (.lst (xs.set j v))) { s with heap:=s.heap.update p (Obj.mapSeq (·.setIfInBounds j u)) }:=
    I.lstUpd hp ho (zkY its n j u) (r.set rv j) (by rw [List.length_set]; exact hz) s.toks
  by_cases h0 : 0≤k
  · have hk : k.toNat = j:=by
      rw [seqIndex_of h0 h4] at h1
      exact yae h1
    exact PySem.W.ki_setAt ho h0 (by omega) (by rw [yaw,← hl]; exact h4) (by rw [hk]; exact ⟨_,I',q⟩)
  · have hk : (k + (its.toArray.size : Int)).toNat = j:=by
      rw [seqIndex_neg (by omega) h3] at h1
      rw [yaw,← hl]
      exact yae h1
    exact PySem.W.ki_setBack ho (by omega) (by rw [yaw,← hl]; exact h3) (by omega) (by rw [hk]; exact ⟨_,I',q⟩)
theorem zh2 (lo hi : Option Int) (n : Nat) : (sliceBounds lo hi none n).1 = ((HT.sIx n 0 lo : Nat) : Int)∧(sliceBounds lo hi none n).2.1 = ((HT.sIx n n hi : Nat) : Int)∧(sliceBounds lo hi none n).2.2 = 1:=by
  refine ⟨?_,?_,rfl⟩
  · cases lo with
    | none=>simp [sliceBounds,HT.sIx]
    | some i=>
      simp only [sliceBounds,HT.sIx,Option.getD_none,show (1 : Int) > 0 by decide,if_true]
      by_cases h : i < 0
      · simp only [h,if_true] <;> omega
      · simp only [h,if_false] <;> omega
  · cases hi with
    | none=>simp [sliceBounds,HT.sIx]
    | some i=>
      simp only [sliceBounds,HT.sIx,Option.getD_none,show (1 : Int) > 0 by decide,if_true]
      by_cases h : i < 0
      · simp only [h,if_true] <;> omega
      · simp only [h,if_false] <;> omega
theorem zg7 (its : List Value) (lo hi : Option Int) : slicePick its.toArray lo hi none = ((its.drop (HT.sIx its.length 0 lo)).take (HT.sIx its.length its.length hi - HT.sIx its.length 0 lo)).toArray:=by
  obtain ⟨h1,h2,h3⟩:=zh2 lo hi its.toArray.size
  unfold slicePick
  rw [h1,h2,h3]
  simp only [sliceRange_one,pick_run,yaw] <;> rfl
def rSlL (K : Frag) : V→Option Int→Option Int→Hp→VK→Prop:=fun x lo hi H Q=>∃ a xs,x = .ref a∧SqL K H a xs∧∀ p,H p = none→Q (.ref p) (upd H p (.lst (cutV xs lo hi)))
theorem zfe : SlR X (rSlL X.K):=by
  intro pins s σ H x v vl vu lo hi sl Q I rx hs pl pu h
  obtain ⟨a,xs,rfl,hx,q⟩:=h
  cases rx
  obtain ⟨its,r,ht,hz⟩:=I.list hx
  have hlen:=r.length
  refine ⟨"list",_,slot_list_getitem.lookup,ht.isList.typeIs,?_⟩
  refine wpAny_getItem_list_slice ht.isList hs pl pu .none (by simp) ?_ (by rw [yaw] <;> omega)
  rw [zg7,← hlen]
  refine ⟨.ref s.heap.objs.size,_,I.laid (t':=s.toks) (o:=.lst (cutV xs lo hi)) (fun b ob q=>yai _ q) (yaa _) ?_,rfl,q _ (I.hok.fresh (yaa _))⟩
  exact ⟨yat (zgd xs lo hi) hz,_,0,(r.drop (HT.sIx xs.length 0 lo)).take (HT.sIx xs.length xs.length hi - HT.sIx xs.length 0 lo),yaH _ rfl⟩
def zgs : V→Bool
  | .non=>true
  | .bl _=>true
  | .int _=>true
  | .str _=>true
  | _=>false
def eqV : V→V→Bool
  | .non,.non=>true
  | .bl a,.bl b=>a == b
  | .bl a,.int b=>(if a then 1 else 0) == b
  | .int a,.bl b=>a == (if b then 1 else 0)
  | .int a,.int b=>a == b
  | .str a,.str b=>a == b
  | _,_=>false
theorem zq5 {A : Around} {s : Shared} {y x : V} {u v : Value} (ry : RelV y u) (rx : RelV x v) (fy : zgs y = true) (fx : zgs x = true) : SeqAt.EqAt A s u v (eqV y x):=by
  cases y with
  | non=>
    cases ry
    cases x with
    | non=>cases rx; exact SeqAt.EqAt.same _
    | bl b=>cases rx; exact SeqAt.EqAt.none_bool b
    | int b=>obtain ⟨t,rfl⟩:=rx; exact SeqAt.EqAt.none_int b t
    | str b=>obtain ⟨t,rfl⟩:=rx; exact SeqAt.EqAt.none_str b t
    | _=>exact absurd (show false = true from fx) yaA
  | bl a=>
    cases ry
    cases x with
    | non=>cases rx; exact SeqAt.EqAt.bool_none a
    | bl b=>cases rx; exact SeqAt.EqAt.bool_bool a b
    | int b=>obtain ⟨t,rfl⟩:=rx; exact SeqAt.EqAt.bool_int a b t
    | str b=>obtain ⟨t,rfl⟩:=rx; exact SeqAt.EqAt.bool_str a b t
    | _=>exact absurd (show false = true from fx) yaA
  | int a=>
    obtain ⟨t',rfl⟩:=ry
    cases x with
    | non=>cases rx; exact SeqAt.EqAt.int_none a t'
    | bl b=>cases rx; exact SeqAt.EqAt.int_bool a t' b
    | int b=>obtain ⟨t,rfl⟩:=rx; exact SeqAt.EqAt.int_int a t' b t
    | str b=>obtain ⟨t,rfl⟩:=rx; exact SeqAt.EqAt.int_str a t' b t
    | _=>exact absurd (show false = true from fx) yaA
  | str a=>
    obtain ⟨t',rfl⟩:=ry
    cases x with
    | non=>cases rx; exact SeqAt.EqAt.str_none a t'
    | bl b=>cases rx; exact SeqAt.EqAt.str_bool a t' b
    | int b=>obtain ⟨t,rfl⟩:=rx; exact SeqAt.EqAt.str_int a t' b t
    | str b=>obtain ⟨t,rfl⟩:=rx; exact SeqAt.EqAt.str_str a t' b t
    | _=>exact absurd (show false = true from fx) yaA
  | _=>exact absurd (show false = true from fy) yaA
def eqU (x : V) (u : Value) : Bool:=match u with
  | .none=>eqV .non x
  | .bool b=>eqV (.bl b) x
  | .int i _=>eqV (.int i) x
  | .str z _=>eqV (.str z) x
  | _=>false
theorem zoN {x y : V} {u : Value} (r : RelV y u) (f : zgs y = true) : eqU x u = eqV y x:=by
  cases y with
  | non=>cases r; rfl
  | bl b=>cases r; rfl
  | int i=>obtain ⟨t,rfl⟩:=r; rfl
  | str z=>obtain ⟨t,rfl⟩:=r; rfl
  | _=>exact absurd (show false = true from f) yaA
theorem zgn {x : V} : ∀ {xs : List V} {us : List Value},Vals xs us→xs.all zgs = true→us.any (eqU x) = xs.any fun y=>eqV y x
  | _,_,.nil,_=>rfl
  | y :: xs,u :: us,.cons r t,f=>by
    rw [yb9,ybf] at f
    rw [ybn,ybn,zoN r f.1,zgn t f.2]
theorem zeR {A : Around} {s : Shared} {x : V} {v : Value} (rx : RelV x v) (fx : zgs x = true) : ∀ {xs : List V} {us : List Value},Vals xs us→xs.all zgs = true→∀ u∈us,SeqAt.EqAt A s u v (eqU x u)
  | _,_,.nil,_=>fun u hu=>by cases hu
  | y :: xs,u :: us,.cons r t,f=>fun u' hu=>by
    rw [yb9,ybf] at f
    rcases yap.mp hu with rfl | hu
    · rw [zoN r f.1]; exact zq5 r rx f.1 fx
    · exact zeR rx fx t f.2 u' hu
def inV (x : V) (xs : List V) : Bool:=xs.any fun y=>eqV y x
def rIn (K : Frag) (neg : Bool) : R2:=fun x y H Q=>∃ p xs,y = .ref p∧(SqL K H p xs∨SqT K H p xs)∧zgs x = true∧xs.all zgs = true∧Q (.bl (if neg then !inV x xs else inV x xs)) H
theorem zl1 : OpR X (compareOp .In) (rIn X.K false):=by
  intro pins s σ H x y v u Q I rx ry h
  obtain ⟨p,xs,rfl,hq,fx,fs,q⟩:=h
  cases ry
  rcases hq with hq | hq
  · obtain ⟨its,r,pl,hz⟩:=I.list hq
    refine SeqAt.in_listAt (eqU x) pl.isList (fun w hw=>zeR rx fx r fs w (by simpa using hw)) ⟨.bl _,H,I,rfl,?_⟩
    rw [show its.toArray.any (eqU x) = its.any (eqU x) by simp,zgn r fs]
    exact q
  · obtain ⟨its,r,pl,hz⟩:=I.tuple hq
    refine SeqAt.in_tupleAt (eqU x) pl (fun w hw=>zeR rx fx r fs w (by simpa using hw)) ⟨.bl _,H,I,rfl,?_⟩
    rw [show its.toArray.any (eqU x) = its.any (eqU x) by simp,zgn r fs]
    exact q
theorem zdq : OpR X (compareOp .NotIn) (rIn X.K true):=by
  intro pins s σ H x y v u Q I rx ry h
  obtain ⟨p,xs,rfl,hq,fx,fs,q⟩:=h
  cases ry
  rcases hq with hq | hq
  · obtain ⟨its,r,pl,hz⟩:=I.list hq
    refine SeqAt.notIn_listAt (eqU x) pl.isList (fun w hw=>zeR rx fx r fs w (by simpa using hw)) ⟨.bl _,H,I,rfl,?_⟩
    rw [show its.toArray.any (eqU x) = its.any (eqU x) by simp,zgn r fs]
    exact q
  · obtain ⟨its,r,pl,hz⟩:=I.tuple hq
    refine SeqAt.notIn_tupleAt (eqU x) pl (fun w hw=>zeR rx fx r fs w (by simpa using hw)) ⟨.bl _,H,I,rfl,?_⟩
    rw [show its.toArray.any (eqU x) = its.any (eqU x) by simp,zgn r fs]
    exact q
theorem zar : ze8 X (.builtin "len") (fun xs H Q=>∃ p ys,xs = [.ref p]∧(SqL X.K H p ys∨SqT X.K H p ys)∧Q (.int ys.length) H):=by
  intro pins s σ H xs us Q I r h
  obtain ⟨p,ys,rfl,hq,q⟩:=h
  obtain ⟨u,rfl,rx⟩:=zhV r
  cases rx
  have hn:=zj9
  rcases hq with hq | hq
  · obtain ⟨its,r',pl,hz⟩:=I.list hq
    have hlen:=r'.length
    exact Calls.call_len_list pl.isList (by simp only [yaw] <;> omega) ⟨.int ys.length,H,I.tok _,⟨s.toks + 1,by rw [yaw,hlen]⟩,q⟩
  · obtain ⟨its,r',pl,hz⟩:=I.tuple hq
    have hlen:=r'.length
    exact len_tuple pl (by simp only [yaw] <;> omega) ⟨.int ys.length,H,I.tok _,⟨s.toks + 1,by rw [yaw,hlen]⟩,q⟩
theorem zcB : ze8 X (.type "list") (fun xs H Q=>∃ p ys,xs = [.ref p]∧(SqL X.K H p ys∨SqT X.K H p ys)∧∀ l,H l = none→Q (.ref l) (upd H l (.lst ys))):=by
  intro pins s σ H xs us Q I r h
  obtain ⟨p,ys,rfl,hq,q⟩:=h
  obtain ⟨u,rfl,rx⟩:=zhV r
  cases rx
  have fin : ∀ (its : List Value),Vals ys its→ys.length≤sizeLine→∀ (h' : Heap) (c' : Nat),(∀ b o',s.heap.get? b = some o'→h'.get? b = some o')→
      h'.get? s.heap.objs.size = some { cls:=.type "list",dict:=none,data:=.seq its.toArray c',slots:=#[] }→EP X pins σ Q (.ref s.heap.objs.size) { s with heap:=h' }:=fun its r' hz h' c' kp e=>
    ⟨.ref s.heap.objs.size,_,I.laid (t':=s.toks) kp (yaa _) (show zbs X.prog X.w _ h' _ (.lst ys) from ⟨hz,its,c',r',e⟩),rfl,q _ (I.hok.fresh (yaa _))⟩
  rcases hq with hq | hq
  · obtain ⟨its,r',pl,hz⟩:=I.list hq
    have hlen:=r'.length
    obtain ⟨o,ho,hc,n,hd⟩:=pl.isList
    exact call_list_seq p (.inl rfl) ho hc hd (fun h' c' kp e=>fin its r' hz h' c' kp e) (by simp only [yaw] <;> omega)
  · obtain ⟨its,r',pl,hz⟩:=I.tuple hq
    have hlen:=r'.length
    obtain ⟨o,ho,hc,n,hd⟩:=pl
    exact call_list_seq p (.inr rfl) ho hc hd (fun h' c' kp e=>fin its r' hz h' c' kp e) (by simp only [yaw] <;> omega)
theorem zbF : ze8 X (.type "tuple") (fun xs H Q=>∃ p ys,xs = [.ref p]∧((SqL X.K H p ys∧∀ l,H l = none→Q (.ref l) (upd H l (.tup ys)))∨(SqT X.K H p ys∧Q (.ref p) H))):=by
  intro pins s σ H xs us Q I r h
  obtain ⟨p,ys,rfl,h⟩:=h
  obtain ⟨u,rfl,rx⟩:=zhV r
  cases rx
  rcases h with ⟨hq,q⟩ | ⟨hq,q⟩
  · obtain ⟨its,r',pl,hz⟩:=I.list hq
    have hlen:=r'.length
    refine call_tuple_list pl.isList (fun h' kp=>?_) (by simp only [yaw] <;> omega)
    have I1 : Inv X pins σ H { s with heap:=h' }:=I.kept (t':=s.toks) kp
    have I2 : Inv X pins σ (upd H h'.objs.size (.tup ys)) { s with heap:=h'.push { cls:=.type "tuple",data:=.seq its.toArray } }:=
      I1.laid (t':=s.toks) (fun b o e=>yai _ e) (yaa _) (show zbs X.prog X.w _ _ _ (.tup ys) from ⟨hz,its,r',IsTup.new _ _⟩)
    exact ⟨.ref h'.objs.size,_,I2,rfl,q _ (I1.hok.fresh (yaa _))⟩
  · obtain ⟨its,r',pl,hz⟩:=I.tuple hq
    exact call_tuple_same pl ⟨.ref p,H,I,rfl,q⟩
def tyV (K : Frag) (T : String) (x : V) (H : Hp) : Prop:=match x with
  | .str _=>T = "str"
  | .int _=>T = "int"
  | .ref p=>(T = "list"∧∃ xs,SqL K H p xs)∨(T = "tuple"∧∃ o,K.lookup p = some o∧o.cls = .type "tuple"∧o.dict = none)∨
      (T = "dict"∧((∃ kvs,H p = some (.dK kvs))∨∃ kvs,H p = some (.dT kvs)))∨(T = "set"∧∃ S n,H p = some (.set S n))
  | _=>False
theorem zon {pins : List (Addr×Obj)} {σ : St} {H : Hp} {s : Shared} {T : String} {x : V} {v : Value} (I : Inv X pins σ H s) (r : RelV x v) (ty : tyV X.K T x H) :
    s.TypeIs v T∧∀ a,v = .ref a→∃ ob,s.heap.get? a = some ob∧ob.dict = none:=by
  cases x with
  | str z=>
    obtain ⟨t,rfl⟩:=r
    cases (show T = "str" from ty)
    exact ⟨typeIs_str s z t,fun _ e=>nomatch e⟩
  | int i=>
    obtain ⟨t,rfl⟩:=r
    cases (show T = "int" from ty)
    exact ⟨typeIs_int s i t,fun _ e=>nomatch e⟩
  | ref p=>
    cases r
    rcases ty with ⟨rfl,xs,hq⟩ | ⟨rfl,o,hk,hc,hd⟩ | ⟨rfl,hk⟩ | ⟨rfl,S,n,hk⟩
    · obtain ⟨its,_,pl,_⟩:=I.list hq
      refine ⟨pl.isList.typeIs,fun a e=>?_⟩
      cases e
      obtain ⟨o,n,e,c,hd,_⟩:=pl
      exact ⟨o,e,hd⟩
    · refine ⟨⟨o,I.kIn p o hk,hc⟩,fun a e=>?_⟩
      cases e
      exact ⟨o,I.kIn _ o hk,hd⟩
    · have z : ∃ o,s.heap.get? p = some o∧o.ExactDict:=by
        rcases hk with ⟨kvs,hk⟩ | ⟨kvs,hk⟩
        · obtain ⟨_,_,_,_,o,_,_,e,ex,_⟩:=I.hok p _ hk
          exact ⟨o,e,ex⟩
        · obtain ⟨_,_,_,_,o,_,_,e,ex,_⟩:=I.hok p _ hk
          exact ⟨o,e,ex⟩
      obtain ⟨o,e,ex⟩:=z
      refine ⟨⟨o,e,ex.1⟩,fun a e2=>?_⟩
      cases e2
      exact ⟨o,e,ex.2.1⟩
    · obtain ⟨o,_,_,_,e,ex,_⟩:=I.hok p _ hk
      refine ⟨⟨o,e,ex.1⟩,fun a e2=>?_⟩
      cases e2
      exact ⟨o,e,ex.2.1⟩
  | _=>exact False.elim ty
def tBM0 (K : Frag) (T : String) (r : V→List V→Hp→VK→Prop) (to : TE) : TE:=fun σ H Q=>to σ H fun x H1=>tyV K T x H1∧r x [] H1 Q
def tBM (K : Frag) (T : String) (r : V→List V→Hp→VK→Prop) (to : TE) (t : TA) : TE:=fun σ H Q=>to σ H fun x H1=>tyV K T x H1∧t σ H1 fun xs H2=>r x xs H2 Q
variable {o e : Expr} {es : List Expr} {to : TE} {t : TA} {name : Str} {apos cpos : Pos} {T id : String} {r : V→List V→Hp→VK→Prop}
theorem zoD (pa : PlainAttrs T) (slot : Slot T name id) (hty : typeOf (.builtin id) = pure (.type "method_descriptor")) (hm : MtR X id r) (ho : PE X o to)
    (hbase : attributeBase o name X.env (eval o X.env) = eval o X.env:=by rfl) (hline : (apos.endLine == cpos.line) = true:=by rfl) : PE X (.Call (.Attribute o name apos) [] [] cpos) (tBM0 X.K T r to):=by
  intro pins s σ H Q I h
  refine wpAny_Call_method0_late hbase hline (thn (ho pins s σ H _ I h) fun v s1 ⟨x,H1,I1,r1,ty,q1⟩=>?_)
  obtain ⟨h1,h2⟩:=zon I1 r1 ty
  exact ⟨T,id,pa,slot,hty,h1,h2,Calls.callWith_builtin rfl (PySem.evalArgs_none (hm pins s1 σ H1 x [] v [] Q I1 r1 .nil q1))⟩
theorem zdo (pa : PlainAttrs T) (slot : Slot T name id) (hty : typeOf (.builtin id) = pure (.type "method_descriptor")) (hm : MtR X id r) (ho : PE X o to) (ha : PA X (e :: es) t)
    (hbase : attributeBase o name X.env (eval o X.env) = eval o X.env:=by rfl)
    (hfew : ((backTo cpos (starEach (e :: es) X.env)).all (fun x=>!x.1) && (backToKw cpos (keywordEach [] X.env)).all (fun x=>x.1.isSome)
      && decide ((e :: es).length + ([] : List Keyword).length + (if ([] : List Keyword).isEmpty then 0 else 1) < 30)) = true:=by rfl)
    (hline : (apos.endLine == cpos.line) = true:=by rfl) (hs : starEach (e :: es) X.env = (false,eval e X.env) :: starEach es X.env:=by rfl) (hplain : (backTo cpos (starEach es X.env)).any (·.1) = false:=by rfl) :
    PE X (.Call (.Attribute o name apos) (e :: es) [] cpos) (tBM X.K T r to t):=by
  intro pins s σ H Q I h
  refine wpAny_Call_method_late hbase hfew hline rfl (thn (ho pins s σ H _ I h) fun v s1 ⟨x,H1,I1,r1,ty,q1⟩=>?_)
  obtain ⟨h1,h2⟩:=zon I1 r1 ty
  refine ⟨T,id,pa,slot,hty,h1,h2,?_⟩
  have hA:=ha cpos pins s1 σ H1 _ I1 q1
  rw [hs] at hA ⊢
  refine Calls.callWith_builtin (by show (false || (backTo cpos (starEach es X.env)).any (·.1)) = false; rw [hplain] <;> rfl) (Calls.evalArgs_plain ?_)
  exact thn hA fun us s2 ⟨vs,H2,I2,r2,q2⟩=>hm pins s2 σ H2 x vs v us Q I2 r1 r2 q2
end
end L2
namespace L2
open PySem PySem.Spec PyProof.Rows
def MtM (X : Cx) (id : String) (r : V→List V→Hp→VK→Prop) : Prop:=
  ∀ (pins : List (Addr×Obj)) (s : Shared) (σ : St) (H : Hp) (x : V) (xs : List V) (v : Value) (us : List Value) (Q : VK),Inv X pins σ H s→RelV x v→Vals xs us→r x xs H Q→
    wpAny (model X.prog X.w) X.A (call (.builtin id) (v :: us)) (EP X pins σ Q) X.xe s
theorem Vals.one : ∀ {x : V} {us : List Value},Vals [x] us→∃ u,us = [u]∧RelV x u
  | _,_,.cons r .nil=>⟨_,rfl,r⟩
theorem Vals.zero : ∀ {us : List Value},Vals [] us→us = []
  | _,.nil=>rfl
theorem Vals.reverse {xs : List V} {us : List Value} (h : Vals xs us) : Vals xs.reverse us.reverse:=by
  induction h with
  | nil=>exact .nil
  | cons r t ih=>rw [ybD,ybD]; exact Vals.append ih (.cons r .nil)
section
variable {X : Cx} {pins : List (Addr×Obj)} {σ : St} {H : Hp} {s : Shared} {l b : Addr} {xs ys zs : List V}
theorem Inv.lset {its its' : List Value} {n : Nat} {f : Array Value→Array Value} {t' : Nat} (I : Inv X pins σ H s) (hH : H l = some (.lst xs))
    (e : s.heap.get? l = some { cls:=.type "list",data:=.seq its.toArray n }) (hf : f its.toArray = its'.toArray) (hv : Vals ys its') (hz : ys.length≤sizeLine) :
    Inv X pins σ (upd H l (.lst ys)) { s with heap:=s.heap.update l (Obj.mapSeq f),toks:=t' }:=by
  have q:=PySem.IsL.update e f
  rw [hf] at q
  refine I.write (x:=l) (e:=l) (by rw [hH]; exact trivial) (.inl rfl) (fun b' u hb hu=>(ybw s.heap (Obj.mapSeq f) (Ne.symm hb)).trans hu) ⟨_,q⟩ ?_
  exact ⟨hz,its',_,hv,q⟩
theorem Inv.lnew {its : List Value} {t' : Nat} (I : Inv X pins σ H s) (hv : Vals ys its) (hz : ys.length≤sizeLine) :
    Inv X pins σ (upd H s.heap.objs.size (.lst ys)) { s with heap:=s.heap.push { cls:=.type "list",data:=.seq its.toArray },toks:=t' }:=
  I.laid (fun _ _ q=>yai _ q) (yaa _) ⟨hz,its,0,hv,yaH _ rfl⟩
theorem Inv.fresh (I : Inv X pins σ H s) : H s.heap.objs.size = none:=I.hok.fresh (yaa _)
theorem Inv.lstM (I : Inv X pins σ H s) (hH : H l = some (.lst xs)) : xs.length≤sizeLine∧∃ (its : List Value) (n : Nat),Vals xs its∧xs.length = its.length∧s.heap.get? l = some { cls:=.type "list",data:=.seq its.toArray n }:=by
  obtain ⟨z,its,n,r,e⟩:=I.hok l _ hH
  exact ⟨z,its,n,r,r.length,e⟩
theorem znT {n : Nat} (h : n≤sizeLine) : Builtin.List.listTooLong n = false:=by
  unfold Builtin.List.listTooLong
  exact yas (by omega)
end
section
variable {X : Cx}
def zpd : V→List V→Hp→VK→Prop:=fun x vs H Q=>∃ l xs y,x = .ref l∧vs = [y]∧H l = some (.lst xs)∧xs.length < sizeLine∧Q .non (upd H l (.lst (xs ++ [y])))
theorem zaI : MtM X "list.append" zpd:=by
  intro pins s σ H x vs v us Q I rx rv h
  obtain ⟨l,xs,y,rfl,rfl,hH,hz,q⟩:=h
  cases rx
  obtain ⟨u,rfl,ru⟩:=rv.one
  obtain ⟨z,its,n,r,hl,e⟩:=I.lstM hH
  refine call_meets F.slot_list_append ⟨_,e,rfl⟩ F.entry_list_append (F.args_list_append_2 _ _) (PySem.list_append l its.toArray n u (by rw [yaw]; omega)) ⟨e,?_⟩
  refine ⟨.non,_,I.lset (its':=its ++ [u]) hH e (by simp) (r.append (.cons ru .nil)) ?_,rfl,q⟩
  rw [yah,yaL]
  omega
def zpb : V→List V→Hp→VK→Prop:=fun x vs H Q=>∃ l b xs zs,x = .ref l∧vs = [.ref b]∧H l = some (.lst xs)∧H b = some (.lst zs)∧xs.length + zs.length≤sizeLine∧Q .non (upd H l (.lst (xs ++ zs)))
theorem zmh : MtM X "list.extend" zpb:=by
  intro pins s σ H x vs v us Q I rx rv h
  obtain ⟨l,b,xs,zs,rfl,rfl,hH,hB,hz,q⟩:=h
  cases rx
  obtain ⟨u,rfl,ru⟩:=rv.one
  cases ru
  obtain ⟨z,its,n,r,hl,e⟩:=I.lstM hH
  obtain ⟨z2,its2,n2,r2,hl2,e2⟩:=I.lstM hB
  have hsz : its.toArray.size + its2.toArray.size≤sizeLine:=by rw [yaw,yaw]; omega
  have hlong : ¬ (!its.toArray.isEmpty && Builtin.List.listTooLong (its.toArray.size + its2.toArray.size)) = true:=by
    rw [znT hsz,Bool.and_false]
    exact yaA
  refine call_meets F.slot_list_extend ⟨_,e,rfl⟩ F.entry_list_extend (F.args_list_extend_2 _ _)
    (AutoSeq1.list_extend_list_list_0 l its.toArray n b its2.toArray n2 hlong (by rw [yaw]; omega) (by omega)) ⟨e,e2,?_⟩
  refine ⟨.non,_,I.lset (its':=its ++ its2) hH e (by simp) (r.append r2) ?_,rfl,q⟩
  rw [yah]
  omega
def znu : V→List V→Hp→VK→Prop:=fun x vs H Q=>∃ l xs,x = .ref l∧vs = []∧H l = some (.lst xs)∧Q .non (upd H l (.lst xs.reverse))
theorem zkS : MtM X "list.reverse" znu:=by
  intro pins s σ H x vs v us Q I rx rv h
  obtain ⟨l,xs,rfl,rfl,hH,q⟩:=h
  cases rx
  have hus:=rv.zero
  subst hus
  obtain ⟨z,its,n,r,hl,e⟩:=I.lstM hH
  refine call_meets F.slot_list_reverse ⟨_,e,rfl⟩ F.entry_list_reverse (F.args_list_reverse_1 _) (AutoSeq1.list_reverse_list_0 l its.toArray n (by rw [yaw]; omega)) ⟨e,?_⟩
  refine ⟨.non,_,I.lset (its':=its.reverse) hH e (by simp) r.reverse ?_,rfl,q⟩
  rw [ybE]
  omega
def rCat : R2:=fun x y H Q=>∃ l b xs zs,x = .ref l∧y = .ref b∧H l = some (.lst xs)∧H b = some (.lst zs)∧xs.length + zs.length≤sizeLine∧∀ p,H p = none→Q (.ref p) (upd H p (.lst (xs ++ zs)))
theorem zl2 : OpR X (binaryOp .Add) rCat:=by
  intro pins s σ H x y v u Q I rx ry h
  obtain ⟨l,b,xs,zs,rfl,rfl,hH,hB,hz,q⟩:=h
  cases rx
  cases ry
  obtain ⟨z,its,n,r,hl,e⟩:=I.lstM hH
  obtain ⟨z2,its2,n2,r2,hl2,e2⟩:=I.lstM hB
  refine PySem.P.add_list e e2 ?_ (by rw [yaw,yaw]; omega)
  have ea : its.toArray ++ its2.toArray = (its ++ its2).toArray:=by simp
  rw [ea]
  exact ⟨.ref _,_,I.lnew (t':=s.toks) (r.append r2) (by rw [yah]; omega),rfl,q _ I.fresh⟩
end
end L2
namespace L2
open PySem PySem.Spec PyProof.Rows
section
variable {κ : Type} [DecidableEq κ]
def valV (kvs : List (κ×V)) (k : κ) : Option V:=(kvs.find? fun kv=>decide (kv.1 = k)).map (·.2)
def putK (kvs : List (κ×V)) (k : κ) (v : V) : List (κ×V):=
  if (kvs.any fun kv=>decide (kv.1 = k)) = true then kvs.map (fun kv=>if kv.1 = k then (kv.1,v) else kv) else kvs ++ [(k,v)]
theorem zco {p : κ×V} {r : List (κ×V)} {k : κ} (e : p.1 = k) : valV (p :: r) k = some p.2:=by simp [valV,ybF,e]
theorem zbt {p : κ×V} {r : List (κ×V)} {k : κ} (e : ¬ p.1 = k) : valV (p :: r) k = valV r k:=by simp [valV,ybF,e]
theorem zg2 (k : κ) : ∀ kvs : List (κ×V),(kvs.any fun kv=>decide (kv.1 = k)) = (valV kvs k).isSome
  | []=>rfl
  | p :: r=>by
    rw [ybn]
    by_cases e : p.1 = k
    · simp only [zco e,yam e,Bool.true_or,Option.isSome_some]
    · rw [zbt e,yas e,Bool.false_or]; exact zg2 k r
theorem zc1 (kvs : List (κ×V)) (k : κ) (v : V) : (putK kvs k v).length≤kvs.length + 1:=by
  unfold putK
  split
  · rw [yab]; omega
  · rw [yah,yaN,ybx]; omega
theorem zeF {kvs : List (κ×V)} {k : κ} (v : V) (h : valV kvs k = none) : putK kvs k v = kvs ++ [(k,v)]:=by
  unfold putK
  rw [zg2,h]
  exact if_neg (by decide)
theorem RelO.isSome_eq {o : Option V} {u : Option Value} (r : RelO o u) : o.isSome = u.isSome:=by
  cases o with
  | none=>cases u with
    | none=>rfl
    | some _=>exact (show False from r).elim
  | some _=>cases u with
    | none=>exact (show False from r).elim
    | some _=>rfl
theorem RelO.getD {o : Option V} {u : Option Value} {d : V} {d' : Value} (r : RelO o u) (rd : RelV d d') : RelV (o.getD d) (u.getD d'):=by
  cases o with
  | none=>cases u with
    | none=>exact rd
    | some _=>exact (show False from r).elim
  | some _=>cases u with
    | none=>exact (show False from r).elim
    | some _=>exact r
theorem KV.val {kvs : List (κ×V)} {vs : List (κ×Value)} (r : KV kvs vs) (k : κ) : RelO (valV kvs k) (valueAt vs k):=by
  unfold KV at r
  induction r with
  | nil=>exact True.intro
  | @cons p q ps qs h t ih=>
    obtain ⟨h1,h2⟩:=h
    by_cases e : p.1 = k
    · have e' : q.1 = k:=h1.symm.trans e
      have b : valueAt (q :: qs) k = some q.2:=by simp [valueAt,ybF,e']
      rw [zco e,b]; exact h2
    · have e' : ¬ q.1 = k:=fun z=>e (h1.trans z)
      have b : valueAt (q :: qs) k = valueAt qs k:=by simp [valueAt,ybF,e']
      rw [zbt e,b]; exact ih
theorem KV.any {kvs : List (κ×V)} {vs : List (κ×Value)} (r : KV kvs vs) (k : κ) : (kvs.any fun kv=>decide (kv.1 = k)) = vs.any fun kv=>decide (kv.1 = k):=by
  unfold KV at r
  induction r with
  | nil=>rfl
  | cons h t ih=>rw [ybn,ybn,ih,h.1]
theorem KV.repl {kvs : List (κ×V)} {vs : List (κ×Value)} (r : KV kvs vs) (k : κ) {y : V} {u : Value} (ry : RelV y u) :
    KV (kvs.map fun kv=>if kv.1 = k then (kv.1,y) else kv) (vs.map fun kv=>if kv.1 = k then (kv.1,u) else kv):=by
  unfold KV at r ⊢
  induction r with
  | nil=>exact .nil
  | @cons p q ps qs h t ih=>
    rw [yay,yay]
    refine .cons ?_ ih
    obtain ⟨h1,h2⟩:=h
    by_cases e : p.1 = k
    · rw [if_pos e,if_pos (h1.symm.trans e)]; exact ⟨h1,ry⟩
    · rw [if_neg e,if_neg (fun z=>e (h1.trans z))]; exact ⟨h1,h2⟩
theorem KV.put {kvs : List (κ×V)} {vs : List (κ×Value)} (r : KV kvs vs) (k : κ) {y : V} {u : Value} (ry : RelV y u) : KV (putK kvs k y) (stored vs k u):=by
  unfold putK stored
  rw [r.any k]
  by_cases e : (vs.any fun kv=>decide (kv.1 = k)) = true
  · rw [if_pos e,if_pos e]; exact r.repl k ry
  · rw [if_neg e,if_neg e]; exact Paired.snoc r ⟨rfl,ry⟩
theorem KV.length {kvs : List (κ×V)} {vs : List (κ×Value)} (r : KV kvs vs) : kvs.length = vs.length:=Paired.length r
end
theorem zk0 {P : Program} {w : World} {k : Key} {u : Value} (r : RelV (kV k) u) : (zaF P w).is k u = true:=by
  cases k with
  | inl i=>obtain ⟨t,e⟩:=(show ∃ t,u = Value.int i t from r); subst e; exact ziZ P w i t
  | inr x=>obtain ⟨t,e⟩:=(show ∃ t,u = Value.str x t from r); subst e; exact ziY P w x t
theorem zis {P : Program} {w : World} : ∀ {ks : List Key} {us : List Value},Vals (ks.map kV) us→ItemsAre (zaF P w) ks us
  | [],_,r=>by rw [ybG] at r; cases r; exact .nil
  | k :: ks,_,r=>by
    rw [yay] at r
    cases r with
    | cons h t=>exact .cons (zk0 h) (zis t)
abbrev KT (H : Hp) : List (List Key×V)→List (List Key×Addr×Value)→Prop:=Paired fun p q=>p.1 = q.1∧H q.2.1 = some (.tup (p.1.map kV))∧RelV p.2 q.2.2
theorem KT.val {H : Hp} {kvs : List (List Key×V)} {xs : List (List Key×Addr×Value)} (r : KT H kvs xs) (k : List Key) : RelO (valV kvs k) ((atKey xs k).map (·.2)):=by
  induction r with
  | nil=>exact True.intro
  | @cons p q ps qs h t ih=>
    obtain ⟨h1,_,h2⟩:=h
    by_cases e : p.1 = k
    · have e' : q.1 = k:=h1.symm.trans e
      have b : atKey (q :: qs) k = some q.2:=by simp [atKey,ybF,e']
      rw [zco e,b]; exact h2
    · have e' : ¬ q.1 = k:=fun z=>e (h1.trans z)
      have b : atKey (q :: qs) k = atKey qs k:=by simp [atKey,ybF,e']
      rw [zbt e,b]; exact ih
theorem KT.repl {H : Hp} {kvs : List (List Key×V)} {xs : List (List Key×Addr×Value)} (r : KT H kvs xs) (k : List Key) {y : V} {u : Value} (ry : RelV y u) :
    KT H (kvs.map fun kv=>if kv.1 = k then (kv.1,y) else kv) (xs.map (putAt k u)):=by
  induction r with
  | nil=>exact .nil
  | @cons p q ps qs h t ih=>
    rw [yay,yay]
    refine .cons ?_ ih
    obtain ⟨h1,h2,h3⟩:=h
    unfold putAt
    by_cases e : p.1 = k
    · rw [if_pos e,if_pos (h1.symm.trans e)]; exact ⟨h1,h2,ry⟩
    · rw [if_neg e,if_neg (fun z=>e (h1.trans z))]; exact ⟨h1,h2,h3⟩
theorem KT.put {H : Hp} {kvs : List (List Key×V)} {xs : List (List Key×Addr×Value)} (r : KT H kvs xs) (k : List Key) {b : Addr} {y : V} {u : Value} (hb : H b = some (.tup (k.map kV))) (ry : RelV y u) :
    KT H (putK kvs k y) (storedH xs k b u):=by
  have e : (kvs.any fun kv=>decide (kv.1 = k)) = (atKey xs k).isSome:=by
    rw [zg2,(r.val k).isSome_eq,Option.isSome_map]
  unfold putK storedH
  rw [e]
  by_cases q : (atKey xs k).isSome = true
  · rw [if_pos q,if_pos q]; exact r.repl k ry
  · rw [if_neg q,if_neg q]; exact Paired.snoc r ⟨rfl,hb,ry⟩
theorem KT.keeps {H H' : Hp} {kvs : List (List Key×V)} {xs : List (List Key×Addr×Value)} (r : KT H kvs xs) (ht : ∀ b ys,H b = some (.tup ys)→H' b = some (.tup ys)) : KT H' kvs xs:=
  Paired.mapP r fun _ _ z=>⟨z.1,ht _ _ z.2.1,z.2.2⟩
section
variable {P : Program} {w : World} {H : Hp} {h : Heap} {a : Addr}
theorem zqq {u : HO} (ok : HOk P w H h) (e : Rd H a u) : zbs P w H h a u:=e.ok ok
theorem zmQ {kvs : List (Key×V)} (ok : HOk P w H h) (e : Rd H a (.dK kvs)) : kvs.length≤sizeLine∧(a == sysModules) = false∧∃ vs,KV kvs vs∧h.DictOf (zaF P w) a vs:=
  show zbs P w H h a (.dK kvs) from zqq ok e
theorem zpS {kvs : List (Key×V)} (ok : HOk P w H h) (e : H a = some (.dK kvs)) : kvs.length≤sizeLine∧(a == sysModules) = false∧∃ vs,KV kvs vs∧h.DictOf (zaF P w) a vs:=zmQ ok (.inl e)
theorem zkf {ks : List Key} (ok : HOk P w H h) (e : H a = some (.tup (ks.map kV))) : (tupleKind (zaF P w)).is h ks a:=by
  obtain ⟨_,its,r,o,h1,h2,n,h3⟩:=(show zbs P w H h a (.tup (ks.map kV)) from ok a _ e)
  exact ⟨o,its.toArray,n,h1,h2,h3,by simpa using zis r⟩
theorem zmP {kvs : List (List Key×V)} (ok : HOk P w H h) (e : Rd H a (.dT kvs)) : kvs.length≤sizeLine∧(a == sysModules) = false∧
    ∃ xs,KT H kvs xs∧h.DictOfH (tupleKind (zaF P w)) a xs:=by
  obtain ⟨z,y,xs,r,o,es,ep,h1,h2,h3,h4,h5⟩:=(show zbs P w H h a (.dT kvs) from zqq ok e)
  refine ⟨z,y,xs,r,o,es,ep,h1,h2,h3,h4,fun x hx=>?_,h5⟩
  have all : ∀ {l : List (List Key×V)} {m : List (List Key×Addr×Value)},KT H l m→∀ x∈m,(tupleKind (zaF P w)).is h x.1 x.2.1:=by
    intro l m q
    induction q with
    | nil=>intro x hx; exact nomatch hx
    | @cons p q ps qs hq t ih=>
      intro x hx
      rcases yap.mp hx with e | hx
      · subst e
        exact zkf ok (by rw [← hq.1]; exact hq.2.1)
      · exact ih x hx
  exact all r x hx
theorem zry {kvs : List (List Key×V)} (ok : HOk P w H h) (e : H a = some (.dT kvs)) : kvs.length≤sizeLine∧(a == sysModules) = false∧
    ∃ xs,KT H kvs xs∧h.DictOfH (tupleKind (zaF P w)) a xs:=zmP ok (.inl e)
end
def DGet (H : Hp) (a : Addr) (y : V) (r : Option V) : Prop:=
  (∃ kvs k,Rd H a (.dK kvs)∧y = kV k∧r = valV kvs k)∨∃ kvs k b,Rd H a (.dT kvs)∧y = .ref b∧H b = some (.tup (k.map kV))∧r = valV kvs k
def DPut (H : Hp) (a : Addr) (y v : V) (H' : Hp) : Prop:=
  (∃ kvs k,H a = some (.dK kvs)∧y = kV k∧kvs.length < sizeLine∧H' = upd H a (.dK (putK kvs k v)))∨
  ∃ kvs k b,H a = some (.dT kvs)∧y = .ref b∧H b = some (.tup (k.map kV))∧kvs.length < sizeLine∧H' = upd H a (.dT (putK kvs k v))
theorem DGet.k {H : Hp} {a : Addr} {kvs : List (Key×V)} {k : Key} (e : H a = some (.dK kvs)) : DGet H a (kV k) (valV kvs k):=.inl ⟨kvs,k,.inl e,rfl,rfl⟩
theorem DGet.t {H : Hp} {a b : Addr} {kvs : List (List Key×V)} {k : List Key} (e : H a = some (.dT kvs)) (eb : H b = some (.tup (k.map kV))) : DGet H a (.ref b) (valV kvs k):=.inr ⟨kvs,k,b,.inl e,rfl,eb,rfl⟩
theorem DPut.k {H : Hp} {a : Addr} {kvs : List (Key×V)} {k : Key} {v : V} (e : H a = some (.dK kvs)) (hl : kvs.length < sizeLine) : DPut H a (kV k) v (upd H a (.dK (putK kvs k v))):=.inl ⟨kvs,k,e,rfl,hl,rfl⟩
theorem DPut.t {H : Hp} {a b : Addr} {kvs : List (List Key×V)} {k : List Key} {v : V} (e : H a = some (.dT kvs)) (eb : H b = some (.tup (k.map kV))) (hl : kvs.length < sizeLine) :
    DPut H a (.ref b) v (upd H a (.dT (putK kvs k v))):=.inr ⟨kvs,k,b,e,rfl,eb,hl,rfl⟩
section
variable {X : Cx} {pins : List (Addr×Obj)} {σ : St} {H : Hp} {s : Shared} {a : Addr} {y v : V} {u r : Value} {o : Option V} {A : Around} {E : Value→Shared→Prop}
theorem Inv.big (I : Inv X pins σ H s) : sysModules < s.heap.objs.size:=by
  have h : mainGlobals < s.heap.objs.size:=(I.mod.glob.keeps I.bk).lt
  exact Nat.lt_trans (by decide) h
theorem zmW {Q : Value→Shared→Prop} (hu : A.units + 1 < cLine) (I : Inv X pins σ H s) (g : DGet H a y (some v)) (ry : RelV y u) (h : ∀ w' s',Inv X pins σ H s'→RelV v w'→Q w' s') :
    wpAny (model X.prog X.w) A (getItem (.ref a) u) Q E s:=by
  rcases g with ⟨kvs,k,e,ey,l⟩ | ⟨kvs,k,b,e,ey,eb,l⟩
  · subst ey
    obtain ⟨z,hd,vs,rel,dd⟩:=zmQ I.hok e
    obtain ⟨w',hw,rw'⟩:=RelO.some_of (v:=v) (o:=valueAt vs k) (by rw [l]; exact rel.val k)
    exact wpAny_getItem_of (zk0 ry) dd.mapOf hw (h w' _ (I.tok _) rw')
  · subst ey
    cases (show u = Value.ref b from ry)
    obtain ⟨z,hd,xs,rel,dd⟩:=zmP I.hok e
    obtain ⟨w',hw,rw'⟩:=RelO.some_of (v:=v) (o:=(atKey xs k).map (·.2)) (by rw [l]; exact rel.val k)
    obtain ⟨p,hp,hp2⟩:=ybk.mp hw
    refine wpAny_getItem_heap (tupleKind_room_in1 hu) (zkf I.hok eb) dd hp ?_
    rw [hp2]
    exact h w' _ (I.tok _) rw'
theorem zje {h' : Heap} {t' : Nat} {ob : HO} (I : Inv X pins σ H s) (mu : Mut (H a)) (hs : Heap.SameBut a s.heap h') (he : ∃ q,h'.get? a = some q) (new : zbs X.prog X.w (upd H a ob) h' a ob) :
    Inv X pins σ (upd H a ob) { s with heap:=h',toks:=t' }:=
  I.write (x:=a) (e:=a) mu (.inl rfl) (fun b q hb z=>(hs.2 b hb).trans z) he new
theorem zoO {P : Program} {w : World} {H' : Hp} {h' : Heap} {kvs : List (Key×V)} {vs : List (Key×Value)} (z : kvs.length≤sizeLine) (hd : (a == sysModules) = false) (rel : KV kvs vs) (dd : h'.DictOf (zaF P w) a vs) :
    zbs P w H' h' a (.dK kvs):=⟨z,hd,vs,rel,dd⟩
theorem zmV {H' : Hp} {Q : Unit→Shared→Prop} (hu : A.units + 1 < cLine) (I : Inv X pins σ H s) (g : DPut H a y v H') (ry : RelV y u) (rv : RelV v r) (h : ∀ s',Inv X pins σ H' s'→Q () s') :
    wpAny (model X.prog X.w) A (setItem (.ref a) u r) Q E s:=by
  rcases g with ⟨kvs,k,e,ey,l,eH⟩ | ⟨kvs,k,b,e,ey,eb,l,eH⟩
  · subst ey eH
    obtain ⟨z,hd,vs,rel,dd⟩:=zpS I.hok e
    have hz : vs.length≤sizeLine:=by rw [← rel.length]; exact z
    have hl : (putK kvs k v).length≤sizeLine:=by have:=zc1 kvs k v; omega
    refine wpAny_setItem_pairs (hsz:=hz) (zk0 ry) dd fun h' dd' hs=>h _ ?_
    have he : ∃ q,h'.get? a = some q:=let ⟨q,_,_,hq,_⟩:=dd'; ⟨q,hq⟩
    exact zje I (by rw [e]; exact True.intro) hs he (zoO hl hd (rel.put k rv) dd')
  · subst ey eH
    cases (show u = Value.ref b from ry)
    obtain ⟨z,hd,xs,rel,dd⟩:=zry I.hok e
    have hz : xs.length≤sizeLine:=by rw [← Paired.length rel]; exact z
    have hl : (putK kvs k v).length≤sizeLine:=by have:=zc1 kvs k v; omega
    refine wpAny_setItem_heap (hsz:=hz) (tupleKind_room_in1 hu) (zkf I.hok eb) dd fun h' dd' hs=>h _ ?_
    obtain ⟨q,es,ep,hq,h2,h3,h4,_,h5⟩:=dd'
    refine zje I (by rw [e]; exact True.intro) hs ⟨q,hq⟩ ⟨hl,hd,_,(rel.put k eb rv).keeps fun c ys ec=>?_,q,es,ep,hq,h2,h3,h4,h5⟩
    rw [zag (zqK ec e (fun z=>nomatch z))]
    exact ec
end
def NoSl (i : Expr) : Prop:=∀ ov iv,subscripted i false ov iv = operate [ov,iv] (getItem ov iv)
theorem zo6 {prog : Program} {w : World} {A : Around} {E : Value→Shared→Prop} {s : Shared} {env : Env} {value slice : Expr} {pos : Pos} {T id : String} {Q : Value→Shared→Prop}
    (hl : typeLookup (.type T) "__getitem__" = pure (some (.builtin id))) (hs : NoSl slice)
    (h : wpAny (model prog w) A (eval value env) (fun o s₁=>wpAny (model prog w) A (eval slice env) (fun i s₂=>s₂.TypeIs o T∧wpAny (model prog w) A (getItem o i) Q E s₂) E s₁) E s) :
    wpAny (model prog w) A (eval (.Subscript value slice pos) env) Q E s:=by
  refine Subscript_ (wpAny_mono h (fun o s₁ h₁=>wpAny_mono h₁ (fun i s₂ h₂=>?_) fun _ _ x=>x) fun _ _ x=>x)
  obtain ⟨hT,h₂⟩:=h₂
  unfold subscriptTail
  refine wpAny_bind ?_
  rw [getitemInPython_of_ne hT.not_modules]
  refine wpAny_bind (wpAny_specialOf hT hl ?_)
  have fin : wpAny (model prog w) A (subscripted slice false o i) (fun r s₃=>wpAny (model prog w) A (letTemporaryGo value o r >>= fun _=>pure r) Q E s₃) E s₂:=by
    rw [hs o i]
    exact wpAny_operating (wpAny_mono h₂ (fun r s₃ h₃=>wpAny_bind (wpAny_letTemporaryGo (wpAny_pure h₃))) fun _ _ x=>x)
  first
    | exact wpAny_pure (wpAny_bind fin)
    | exact wpAny_bind (wpAny_pure (wpAny_bind fin))
    | exact wpAny_bind fin
theorem zjd {X : Cx} {pins : List (Addr×Obj)} {σ : St} {H : Hp} {s : Shared} {a : Addr} {y : V} {o : Option V} (I : Inv X pins σ H s) (g : DGet H a y o) : s.TypeIs (.ref a) "dict":=by
  rcases g with ⟨kvs,k,e,_,_⟩ | ⟨kvs,k,b,e,_,_,_⟩
  · obtain ⟨_,_,vs,_,dd⟩:=zmQ I.hok e
    exact dd.typeIs
  · obtain ⟨_,_,xs,_,dd⟩:=zmP I.hok e
    exact dd.typeIs
def zrh (td ty : TE) : TE:=fun σ H Q=>td σ H fun x H1=>ty σ H1 fun y H2=>∃ a v,x = .ref a∧DGet H2 a y (some v)∧Q v H2
def zrj (td ty tv : TE) : TS:=fun D σ H=>tv σ H fun v H1=>td σ H1 fun x H2=>ty σ H2 fun y H3=>∃ a H4,x = .ref a∧DPut H3 a y v H4∧D.nx σ H4
section
variable {X : Cx} {o i e value : Expr} {pos pos' tpos : Pos} {td ty tv : TE}
theorem zdn (hu : X.A.units + 1 < cLine) (ho : PE X o td) (hi : PE X i ty) (hs : NoSl i) : PE X (.Subscript o i pos) (zrh td ty):=by
  intro pins s σ H Q I h
  refine zo6 PySem.F.slot_dict_getitem.lookup hs (thn (ho pins s σ H _ I h) fun u s1 ⟨x,H1,I1,rx,q1⟩=>thn (hi pins s1 σ H1 _ I1 q1) fun iv s2 ⟨y,H2,I2,ry,a,v,ex,g,q2⟩=>?_)
  subst ex
  obtain rfl : u = Value.ref a:=rx
  exact ⟨zjd I2 g,zmW hu I2 g ry fun w' s3 I3 rw'=>⟨v,H2,I3,rw',q2⟩⟩
theorem zfg (hu : X.A.units + 1 < cLine) (ho : PE X o td) (hi : PE X i ty) (hv : PE X value tv) (hs : swapsWith value (some (.Subscript o i pos')) pos.line X.env = pure false) :
    PS X (.Assign [.Subscript o i pos'] value pos) (zrj td ty tv):=by
  intro pins s σ H D I h
  refine wpAny_Assign_Subscript (thn (hv pins s σ H _ I h) fun r s1 ⟨v,H1,I1,rv,q1⟩=>thn (ho pins s1 σ H1 _ I1 q1) fun u s2 ⟨x,H2,I2,rx,q2⟩=>thn (hi pins s2 σ H2 _ I2 q2) fun iv s3 ⟨y,H3,I3,ry,a,H4,ex,g,q3⟩=>?_) hs
  subst ex
  obtain rfl : u = Value.ref a:=rx
  exact zmV hu I3 g ry rv fun s4 I4=>⟨σ,H4,I4,q3⟩
end
theorem zkp {P : Program} {w : World} {H : Hp} (h : Heap) (hb : sysModules < h.objs.size) : zbs P w H (h.push { cls:=.type "dict",data:=.dict #[] }) h.objs.size (.dK []):=
  ⟨yaD _,beq_eq_false_iff_ne.mpr (Ne.symm (yar hb)),[],.nil,Heap.DictOf.new h⟩
theorem zoc {P : Program} {w : World} {H : Hp} (h : Heap) (hb : sysModules < h.objs.size) : zbs P w H (h.push { cls:=.type "dict",data:=.dict #[] }) h.objs.size (.dT []):=
  ⟨yaD _,beq_eq_false_iff_ne.mpr (Ne.symm (yar hb)),[],.nil,_,#[],0,yaH _ rfl,⟨rfl,rfl,rfl⟩,rfl,rfl,ybo⟩
def zqa : TE:=fun _ H Q=>∀ p,H p = none→Q (.ref p) (upd H p (.dK []))
def zp9 : TE:=fun _ H Q=>∀ p,H p = none→Q (.ref p) (upd H p (.dT []))
section
variable {X : Cx} {pos : Pos}
theorem zjV : PE X (.Dict [] [] pos) zqa:=fun pins s σ H Q I h=>
  wpAny_Dict_empty ⟨.ref s.heap.objs.size,_,I.laid (a:=s.heap.objs.size) (o:=.dK []) (t':=s.toks) (fun _ _ q=>yai _ q) (yaa _) (zkp s.heap I.big),rfl,h _ (I.hok.fresh (yaa _))⟩
theorem zny : PE X (.Dict [] [] pos) zp9:=fun pins s σ H Q I h=>
  wpAny_Dict_empty ⟨.ref s.heap.objs.size,_,I.laid (a:=s.heap.objs.size) (o:=.dT []) (t':=s.toks) (fun _ _ q=>yai _ q) (yaa _) (zoc s.heap I.big),rfl,h _ (I.hok.fresh (yaa _))⟩
end
def zlw : List (TE×TE)→St→Hp→(List (V×V)→Hp→Prop)→Prop
  | [],_,H,Q=>Q [] H
  | (tk,tv) :: r,σ,H,Q=>tk σ H fun x H1=>tv σ H1 fun y H2=>zlw r σ H2 fun ps H3=>Q ((x,y) :: ps) H3
abbrev VV : List (V×V)→List (Value×Value)→Prop:=Paired fun p q=>RelV p.1 q.1∧RelV p.2 q.2
def PPs (X : Cx) (pos : Pos) (keys : List (Option Expr)) (values : List Expr) (trs : List (TE×TE)) : Prop:=
  ∀ (pins : List (Addr×Obj)) (s : Shared) (σ : St) (H : Hp) (Q : List (V×V)→Hp→Prop),Inv X pins σ H s→zlw trs σ H Q→
    wpAny (model X.prog X.w) X.A (evalPairs (pairTrees keys values X.env pos)) (fun vs s'=>∃ ps H',Inv X pins σ H' s'∧VV ps vs∧Q ps H') X.xe s
theorem zpf {X : Cx} {pos : Pos} : PPs X pos [] [] []:=fun pins s σ H Q I h=>pairTrees_nil_walk ⟨[],H,I,.nil,h⟩
theorem zhl {X : Cx} {pos : Pos} {k v : Expr} {ks : List (Option Expr)} {vs : List Expr} {tk tv : TE} {trs : List (TE×TE)} (hk : PE X k tk) (hv : PE X v tv) (hr : PPs X pos ks vs trs) :
    PPs X pos (some k :: ks) (v :: vs) ((tk,tv) :: trs):=fun pins s σ H Q I h=>
  pairTrees_cons_walk (thn (hk pins s σ H _ I h) fun u s1 ⟨x,H1,I1,rx,q1⟩=>thn (hv pins s1 σ H1 _ I1 q1) fun w2 s2 ⟨y,H2,I2,ry,q2⟩=>
    thn (hr pins s2 σ H2 _ I2 q2) fun ws s3 ⟨ps,H3,I3,rel,q3⟩=>⟨(x,y) :: ps,H3,I3,.cons ⟨rx,ry⟩ rel,q3⟩)
def zfx (kvs more : List (Key×V)) : List (Key×V):=more.foldl (fun acc kv=>putK acc kv.1 kv.2) kvs
theorem KV.merge : ∀ {more : List (Key×V)} {rs : List (Key×Value)} {kvs : List (Key×V)} {vs : List (Key×Value)},KV more rs→KV kvs vs→KV (zfx kvs more) (merged vs rs):=by
  intro more rs kvs vs r
  unfold KV at r
  induction r generalizing kvs vs with
  | nil=>intro q; exact q
  | @cons p q ps qs h t ih=>
    intro r0
    have e : KV (putK kvs p.1 p.2) (stored vs q.1 q.2):=by
      have:=r0.put p.1 h.2
      rw [← h.1]; exact this
    exact ih e
theorem zeU : ∀ (more kvs : List (Key×V)),(zfx kvs more).length≤kvs.length + more.length
  | [],kvs=>by show kvs.length≤kvs.length + 0; omega
  | p :: r,kvs=>by
    have h1:=zeU r (putK kvs p.1 p.2)
    have h2:=zc1 kvs p.1 p.2
    show (zfx (putK kvs p.1 p.2) r).length≤_
    rw [yaN]; omega
theorem zgW {P : Program} {w : World} : ∀ {kvs : List (Key×V)} {ws : List (Value×Value)},VV (kvs.map fun kv=>(kV kv.1,kv.2)) ws→∃ rs,Carries (zaF P w) ws rs∧KV kvs rs
  | [],_,r=>by rw [ybG] at r; cases r; exact ⟨[],True.intro,.nil⟩
  | p :: kvs,_,r=>by
    rw [yay] at r
    cases r with
    | @cons a b as bs h t=>
      obtain ⟨rs,c,q⟩:=zgW (P:=P) (w:=w) t
      obtain ⟨b1,b2⟩:=b
      exact ⟨(p.1,b2) :: rs,⟨zk0 h.1,rfl,c⟩,.cons ⟨rfl,h.2⟩ q⟩
def zrg (trs : List (TE×TE)) : TE:=fun σ H Q=>∀ p,H p = none→zlw trs σ (upd H p (.dK [])) fun ps H2=>H2 p = some (.dK [])∧∃ kvs : List (Key×V),ps = kvs.map (fun kv=>(kV kv.1,kv.2))∧kvs.length≤15∧Q (.ref p) (upd H2 p (.dK (zfx [] kvs)))
theorem zpi {X : Cx} {pos : Pos} {keys : List (Option Expr)} {values : List Expr} {trs : List (TE×TE)} (h : PPs X pos keys values trs) (hall : keys.all (·.isSome) = true) (hl : keys.length = values.length) (h0 : keys≠[])
    (h15 : keys.length≤15) : PE X (.Dict keys values pos) (zrg trs):=by
  intro pins s σ H Q I q
  have hn:=I.hok.fresh (yaa s.heap.objs.size)
  have I1:=I.laid (a:=s.heap.objs.size) (o:=.dK []) (h':=s.heap.push { cls:=.type "dict",data:=.dict #[] }) (t':=s.toks) (fun _ _ q=>yai _ q) (yaa _) (zkp s.heap I.big)
  refine wpAny_Dict_walk (knd:=zaF X.prog X.w) hall hl h0 h15 (thn (h pins _ σ _ _ I1 (q _ hn)) fun ws s2 ⟨ps,H2,I2,rel,e,kvs,ep,lk,q2⟩=>?_)
  subst ep
  obtain ⟨rs,c,rk⟩:=zgW (P:=X.prog) (w:=X.w) rel
  obtain ⟨z,hd,vs0,r0,dd⟩:=zpS I2.hok e
  cases r0
  refine ⟨rs,c,dd,fun h' dd' hs=>⟨.ref s.heap.objs.size,_,?_,rfl,q2⟩⟩
  have hz : (zfx [] kvs).length≤sizeLine:=by
    have h1:=zeU kvs []
    rw [ybx] at h1
    rw [sizeLine_eq]; omega
  have he : ∃ q,h'.get? s.heap.objs.size = some q:=let ⟨q,_,_,hq,_⟩:=dd'; ⟨q,hq⟩
  exact zje I2 (by rw [e]; exact True.intro) hs he (zoO hz hd (rk.merge .nil) dd')
structure M2 (X : Cx) (o : Expr) (m : Str) (apos : Pos) (e f : Expr) (cpos : Pos) : Prop where
  base : attributeBase o m X.env (eval o X.env) = eval o X.env
  few : ((backTo cpos (starEach [e,f] X.env)).all (fun x=>!x.1) && (backToKw cpos (keywordEach [] X.env)).all (fun x=>x.1.isSome)
    && decide (([e,f] : List Expr).length + ([] : List Keyword).length + (if ([] : List Keyword).isEmpty then 0 else 1) < 30)) = true
  line : (apos.endLine == cpos.line) = true
  trees : backTo cpos (starEach [e,f] X.env) = [(false,eval e X.env),(false,eval f X.env)]
def IsD (H : Hp) (a : Addr) : Prop:=(∃ kvs,Rd H a (.dK kvs))∨∃ kvs,Rd H a (.dT kvs)
theorem zqX {X : Cx} {pins : List (Addr×Obj)} {σ : St} {H : Hp} {s : Shared} {a : Addr} (I : Inv X pins σ H s) (d : IsD H a) :
    s.TypeIs (.ref a) "dict"∧(∀ b,Value.ref a = .ref b→∃ ob,s.heap.get? b = some ob∧ob.dict = none)∧(a == sysModules) = false:=by
  rcases d with ⟨kvs,e⟩ | ⟨kvs,e⟩
  · obtain ⟨_,hd,vs,_,dd⟩:=zmQ I.hok e
    refine ⟨dd.typeIs,fun b q=>?_,hd⟩
    cases q
    obtain ⟨ob,_,_,h1,h2,_⟩:=dd
    exact ⟨ob,h1,h2.2.1⟩
  · obtain ⟨_,hd,xs,_,dd⟩:=zmP I.hok e
    refine ⟨dd.typeIs,fun b q=>?_,hd⟩
    cases q
    obtain ⟨ob,_,_,h1,h2,_⟩:=dd
    exact ⟨ob,h1,h2.2.1⟩
section
variable {X : Cx} {pins : List (Addr×Obj)} {σ : St} {H : Hp} {s : Shared} {a : Addr} {y d : V} {u r : Value} {o : Option V} {A : Around} {E : Value→Shared→Prop}
theorem zq6 {Q : Value→Shared→Prop} (hu : A.units + 1 < cLine) (I : Inv X pins σ H s) (g : DGet H a y o) (ry : RelV y u) (rd : RelV d r) (h : ∀ w' s',Inv X pins σ H s'→RelV (o.getD d) w'→Q w' s') :
    wpAny (model X.prog X.w) A (call (.builtin "dict.get") [.ref a,u,r]) Q E s:=by
  rcases g with ⟨kvs,k,e,ey,l⟩ | ⟨kvs,k,b,e,ey,eb,l⟩
  · subst ey
    obtain ⟨z,hd,vs,rel,dd⟩:=zmQ I.hok e
    refine call_meetsIn PySem.F.slot_dict_get dd.typeIs PySem.F.entry_dict_get (PySem.F.args_dict_get_3 _ _ _) (meets_dict_get_default (zaF X.prog X.w) a (zk0 ry) hd r) ⟨_,dd.mapOf,h _ _ (I.tok _) ?_⟩
    rw [l]
    exact (rel.val k).getD rd
  · subst ey
    cases (show u = Value.ref b from ry)
    obtain ⟨z,hd,xs,rel,dd⟩:=zmP I.hok e
    refine call_meetsIn PySem.F.slot_dict_get dd.typeIs PySem.F.entry_dict_get (PySem.F.args_dict_get_3 _ _ _) (meetsH_dict_get_default (tupleKind (zaF X.prog X.w)) a b hd r) ⟨tupleKind_room_in1 hu,k,xs,zkf I.hok eb,dd,h _ _ (I.tok _) ?_⟩
    rw [l]
    exact (rel.val k).getD rd
end
def zqb (td ty tx : TE) : TE:=fun σ H Q=>td σ H fun x H1=>∃ a,x = .ref a∧IsD H1 a∧ty σ H1 fun y H2=>tx σ H2 fun z H3=>∃ o,DGet H3 a y o∧Q (o.getD z) H3
section
variable {X : Cx} {o e f : Expr} {apos cpos : Pos} {td ty tx : TE}
theorem znz (hu : X.A.units + 1 < cLine) (ho : PE X o td) (he : PE X e ty) (hf : PE X f tx) (m : M2 X o "get" apos e f cpos) : PE X (.Call (.Attribute o "get" apos) [e,f] [] cpos) (zqb td ty tx):=by
  intro pins s σ H Q I h
  refine wpAny_Call_method m.base m.few m.line PySem.F.plainAttrs_dict PySem.F.slot_dict_get PySem.F.type_dict_get (thn (ho pins s σ H _ I h) fun u s1 ⟨x,H1,I1,rx,a,ex,d,q1⟩=>?_)
  subst ex
  obtain rfl : u = Value.ref a:=rx
  obtain ⟨t1,t2,_⟩:=zqX I1 d
  refine ⟨t1,t2,?_⟩
  rw [m.trees]
  refine Calls.callWith_builtin rfl (Calls.evalArgs_plain (Calls.spliced_cons (thn (he pins s1 σ H1 _ I1 q1) fun iv s2 ⟨y,H2,I2,ry,q2⟩=>
    Calls.spliced_cons (thn (hf pins s2 σ H2 _ I2 q2) fun fv s3 ⟨z,H3,I3,rz,ov,g,q3⟩=>Calls.spliced_nil ?_))))
  exact zq6 hu I3 g ry rz fun w' s4 I4 rw'=>⟨_,H3,I4,rw',q3⟩
end
end L2
namespace Att
open PySem PySem.W PySem.Calls PyProof.Rows
theorem zf9 {P : Params} {h : Heap} : ∀ (ns : List Int) (vs : List Value),WellAll P h vs (ns.map WData.int)→IntsAre vs ns:=by
  intro ns
  induction ns with
  | nil=>
    intro vs w
    rw [ybG] at w
    cases w
    exact .nil
  | cons n ns ih=>
    intro vs w
    rw [yay] at w
    cases w with
    | cons a b=>
      cases a
      exact .cons _ _ (ih _ b)
theorem zlP {l : OpenLaw} {n : Nat} (hn : l.most = some n) {P : Params} {h : Heap} {args : List WData} {vals : List Value}
    (hpre : l.row.toRowW.claim.pre args = true) (hwl : WellAll P h vals args) :
    ∃ a vs ns,vals = [Value.ref a]∧args = [WData.list (ns.map WData.int)]∧h.get? a = some { cls:=.type "list",data:=.seq vs.toArray }∧IntsAre vs ns∧ns.length≤n:=by
  have hsh : WShape.hasAll [] args [.list .int] = true:=(pre_splitW hpre).1
  have hc : l.pre.holds [] { args:=args } = true:=(pre_splitW hpre).2
  obtain ⟨d,r,rfl,h1,h2⟩:=hasAllW_cons hsh
  obtain rfl:=hasAllW_nil h2
  obtain ⟨xs,rfl,h3⟩:=hasW_list h1
  obtain ⟨ns,rfl⟩:=items_int h3
  have hlen : ns.length≤n:=by
    unfold OpenLaw.pre at hc
    have h4 : (WTm.not (.lt (.lit (.int (n : Int))) (.len (.arg 0)))).holds [] { args:=[.list (ns.map .int)] } = true:=by
      have h4:=(holds_andW hc).1
      rw [hn] at h4
      exact h4
    have h5:=condW_of h4 (w_not (w_lt w_lit (w_len_list (w_arg rfl))))
    rw [yab] at h5
    refine yby fun q=>?_
    have q' : (n : Int) < ((ns.length : Nat) : Int):=by omega
    first
      | (rw [yam q'] at h5; exact absurd h5 (by decide))
      | (simp at h5; omega)
  cases hwl with
  | cons w1 w2=>
    cases w2
    cases w1 with
    | list ho hall=>exact ⟨_,_,ns,rfl,rfl,ho,zf9 ns _ hall,hlen⟩
theorem zlU (l : OpenLaw) (args : List WData) : l.row.toRowW.claim.post args (.bool true) args = true:=
  postW_of (r:=l.row.toRowW) (X:=(true == true))
    (show WShape.has [] (.bool true) .bool = true by first | rfl | decide | simp [WShape.has,WShape.arms,WShape.armsAll])
    (show (WTm.eq .res (.lit (.bool true))).value [] { args:=args,res:=some (.bool true),after:=args } = some (.bool (true == true)) from w_eq_bool (w_res rfl) w_lit) rfl
theorem attach_call {l : OpenLaw} {n : Nat} {q : Program} {loose : List Str} {XP : (Str→Option Value)→Heap→Prop} {YP : World→Heap→Prop} {d : DefRec}
    (hn : l.most = some n) (hdf : d.params.defaults = [])
    (call : ∀ (w : World) (s₀ s₁ : Shared) (mg mb : Str→Option Value) (fa : Addr) (o : Obj) (pm cd doc : Value) (a : Addr) (vs : List Value) (ns : List Int),
      Ground q loose [] XP w s₀ mg mb s₁.heap→YP w s₁.heap→
      s₁.heap.get? fa = some o→o.data = .func (docDef d.name d.params d.body d.scope pm cd doc)→s₁.heap.CodeRec cd d.name→mg d.name = some (.ref fa)→
      s₁.heap.get? a = some { cls:=.type "list",data:=.seq vs.toArray }→IntsAre vs ns→ns.length≤n→s₁.gens = #[]→
      codeAny (model l.prog w) callerA (.call (.ref fa) ⟨[.ref a],[]⟩) (fun r s'=>r = .ok (.ret (.bool true))∧OldK s₁.heap s'.heap∧s'.os = s₁.os∧AllBare s'.gens) s₁) :
    WalkO q loose XP YP l.row.toRowW d [] (fun f vs=>PySem.call f vs):=by
  intro w s₀ s₁ mg mb G Y fa o pm cd doc dV kV ho hd hcd hD hmg hg args vals as hpre hlay hrd hwl hlo
  obtain rfl : dV = .none:=Dflts.none hD hdf
  obtain rfl : kV = .none:=Dflts.noKw hD
  obtain ⟨a,vs,ns,rfl,rfl,hobj,hints,hlen⟩:=zlP hn hpre hwl
  refine enter_call (codeAny_mono (call w s₀ s₁ mg mb fa o pm cd doc a vs ns G Y ho (fd_plain hd) hcd hmg hobj hints hlen hg) fun r s' hq=>?_)
  obtain ⟨rfl,h2,h3,h4⟩:=hq
  exact ⟨.inl ⟨.bool true,.bool true,[],rfl,fun _=>rfl,.bool true,zlU l _,fun _=>⟨List.Pairwise.nil,fun _ hm=>(nomatch hm)⟩⟩,h2,h3,h4⟩
end Att
namespace L2
open PySem PySem.Spec PyProof.Rows
theorem zhT : ∀ {vs : List Value} {ns : List Int},IntsAre vs ns→Vals (ns.map V.int) vs
  | _,_,.nil=>.nil
  | _,_,.cons n t h=>.cons ⟨t,rfl⟩ (zhT h)
end L2
namespace L2
open PySem PySem.Spec PyProof.Rows
def zcD (s : Stmt) : Arguments:=match s with
  | .FunctionDef _ a _ _ _ _ _ _ _ _=>a
  | _=>{ posonlyargs:=[],args:=[],vararg:=none,kwonlyargs:=[],kw_defaults:=[],kwarg:=none,defaults:=[] }
def zbK (s : Stmt) : List Stmt:=match s with
  | .FunctionDef _ _ b _ _ _ _ _ _ _=>b
  | _=>[]
def zak (s : Stmt) : Scope:=match s with
  | .FunctionDef _ _ _ _ _ _ sc _ _ _=>sc
  | _=>{ kind:=.function,names:=[],isGenerator:=false,isCoroutine:=false }
abbrev CX0 : CXT:=fun _ _ _ _ _ _=>False
abbrev E0 : XK:=fun _ _ _=>False
theorem zqy {X : Cx} : znc CX0 X E0:=fun _ _ _ _ _ _ _ h=>h.elim
structure Fun (K : Frag) (x qual : Str) (st : Stmt) (f : Addr) (fd : FuncData) : Prop where
  ex : ∃ (oc : Value) (od : Option Addr) (kV doc pm : Value) (an : Option Addr) (cdv ct : Value) (osl : Array (Option Value)),
    fd = fnOf x qual (zcD st) (zbK st) (zak st) .none kV doc pm an cdv ct∧K.lookup f = some ⟨oc,od,.func fd,osl⟩∧codeIn K cdv qual = true
  kp : keepIn K (.ref f) = true
section
variable {P : Program} {w : World} {K : Frag} {mg : Str→Option Value} {base : Heap}
theorem Fun.ok {x qual : Str} {st : Stmt} {f : Addr} {fd : FuncData} {N ps : List Str} {k : Nat} {sp : Sp} (F : Fun K x qual st f fd) (S : zao N ps (zak st)) (len : ∀ vs H Q E,sp vs H Q E→vs.length = ps.length)
    (hbody : ∀ (cdv : Value) (A : Around) (outer : List Env) (s : Shared) (H : Hp) (vs : List V) (Q : VK) (E : XK),Room k (A.deeper (envOfC qual (zak st) s.heap.objs.size f cdv))→sp vs H Q E→
      ∃ t,PSs (cxOf CX0 P w K mg base N qual (zak st) f cdv A outer s H E).nox (zbK st) t∧t { nx:=fun _ H'=>Q .non H',rt:=Q } (zcP N vs) H) : FnOk P w K mg base CX0 (k + 1) f fd ps sp:=by
  obtain ⟨oc,od,kV,doc,pm,an,cdv,ct,osl,rfl,lk,hcd⟩:=F.ex
  refine zq1 lk hcd S len fun A outer s H vs Q E hr hsp=>?_
  obtain ⟨t,h,q⟩:=hbody cdv A outer s H vs Q E hr hsp
  exact ⟨t,h.nox,q⟩
theorem Fun.binds {x qual : Str} {st : Stmt} {f : Addr} {fd : FuncData} {ps : List Str} (F : Fun K x qual st f fd)
    (h : ∀ (kV doc pm : Value) (an : Option Addr) (cdv ct : Value) (us : List Value),us.length = ps.length→bindArgs (fnOf x qual (zcD st) (zbK st) (zak st) .none kV doc pm an cdv ct) ⟨us,[]⟩ = pure (ps.zip us)) : zhP K fd ps []:=by
  obtain ⟨oc,od,kV,doc,pm,an,cdv,ct,osl,rfl,lk,hcd⟩:=F.ex
  exact .all (h kV doc pm an cdv ct)
theorem zmL {x qual : Str} {st : Stmt} {f : Addr} {oc : Value} {od an : Option Addr} {osl : Array (Option Value)} {kV doc pm cdv ct : Value} (l : K.lookup f = some ⟨oc,od,.func (fnOf x qual (zcD st) (zbK st) (zak st) .none kV doc pm an cdv ct),osl⟩)
    (c : codeIn K cdv qual = true) (k : keepIn K (.ref f) = true) : Fun K x qual st f (fnOf x qual (zcD st) (zbK st) (zak st) .none kV doc pm an cdv ct):=⟨⟨oc,od,kV,doc,pm,an,cdv,ct,osl,rfl,l,c⟩,k⟩
end
theorem zef {A : Around} {k : Nat} (hr : Room k A) : A.units + 1 < cLine:=ybg (ycu (by decide : 1≤64) _) hr.units
theorem zan {n : Nat} (h : n≤1000) : n < sizeLine:=ybg h (by decide)
section
variable {X : Cx}
theorem pv (i : Nat) {x : Str} {pos : Pos} (hN : X.N[i]? = some x:=by rfl) (hv : Vis X.env.scope x:=by first | exact Or.inl rfl | exact Or.inr (Or.inl rfl) | exact Or.inr (Or.inr rfl)) (hd : (x == ("__debug__" : Str)) = false:=by decide)
    (hcd : (x == ("__classdict__" : Str)) = false:=by decide) : PE X (.Name x pos) (tVar i):=zqw hN hv hd hcd
end
theorem iteF {A B : Prop} (h : B) : if false = true then A else B:=by
  rw [if_neg yaA]
  exact h
theorem iteT {A B : Prop} (h : A) : if true = true then A else B:=by
  rw [if_pos rfl]
  exact h
theorem ite2 {c A B : Prop} [Decidable c] (h1 : c→A) (h2 : ¬ c→B) : if c then A else B:=by
  by_cases h : c
  · rw [if_pos h]
    exact h1 h
  · rw [if_neg h]
    exact h2 h
theorem zn2 {c A B : Prop} [Decidable c] (hc : c) (h : B) : if (!decide c) = true then A else B:=by
  rw [yam hc]
  exact iteF h
def Same (H H' : Hp) : Prop:=∀ b o,H b = some o→H' b = some o
theorem Same.trans {H H1 H2 : Hp} (a : Same H H1) (b : Same H1 H2) : Same H H2:=fun c o h=>b c o (a c o h)
theorem Same.free {H H' : Hp} (e : Same H H') {l : Addr} (h : H' l = Option.none) : H l = Option.none:=by
  cases q : H l with
  | none=>rfl
  | some o=>
    rw [e l o q] at h
    cases h
theorem Same.seq {K : Frag} {H H' : Hp} {a : Addr} {xs : List V} (e : Same H H') (h : SqL K H a xs) : SqL K H' a xs:=by
  rcases h with (h | ⟨o,h⟩) | h
  · exact .inl (.inl (e _ _ h))
  · exact .inl (.inr ⟨o,e _ _ h⟩)
  · exact .inr h
end L2
namespace Tim
open PySem PyProof.Rows
set_option autoImplicit false
section
variable {prog : Program} {w : World} {A : Around} {E : Value→Shared→Prop} {s : Shared} {κ : KeyKind} {kd : SortKind} {a₀ : Array Keyed}
def LtG (prog : Program) (w : World) (A : Around) (s : Shared) (κ : KeyKind) (kd : SortKind) : Prop:=
 ∀ (E : Value→Shared→Prop) (x y : Value) (a b : κ.α) (Q : Bool→Shared→Prop),κ.keyOf x = some a→κ.keyOf y = some b→Q (κ.blt a b) s→wpAny (model prog w) A (keyLt' kd x y) Q E s
def ky (κ : KeyKind) (p : Keyed) : κ.α:=(κ.keyOf p.1).getD κ.dflt
def Keyd (κ : KeyKind) (p : Keyed) : Prop:=∃ a,κ.keyOf p.1 = some a
theorem Keyd.eq {p : Keyed} (h : Keyd κ p) : κ.keyOf p.1 = some (ky κ p):=by
 obtain ⟨a,e⟩:=h
 unfold ky
 rw [e]
 rfl
theorem lt_G {x y : Keyed} {st : SortSt} {Q : Option Bool→SortSt→Prop} (hO : LtG prog w A s κ kd) (hk : kindOf st = kd) (hx : Keyd κ x) (hy : Keyd κ y) (h : Q (some (κ.blt (ky κ x) (ky κ y))) st) : wpS (model prog w) A E s (lt' x y) Q st:=by
 rw [lt'_eq]
 refine wpS_bind (wpS_get ?_)
 rw [hk]
 refine wpS_bind (wpS_lift (wpAny_attempt (hO _ x.1 y.1 _ _ _ hx.eq hy.eq ⟨rfl,?_⟩)))
 exact wpS_pure h
theorem za9 {xs : Array Keyed} {i : Nat} {st : SortSt} {Q : Keyed→SortSt→Prop} (hi : i < xs.size) (h : Q xs[i] st) : wpS (model prog w) A E s (elem' xs i) Q st:=by
 rw [elem'_eq,ybb hi]
 exact wpS_pure h
structure TB (κ : KeyKind) (kd : SortKind) (n : Nat) (st : SortSt) : Prop where
 kind : kindOf st = kd
 keys : ∀ p∈(arrOf st).toList,Keyd κ p
 failed : failedOf st = none
 size : (arrOf st).size = n
def kAt (κ : KeyKind) (xs : Array Keyed) (i : Nat) : κ.α:=match xs[i]? with
 | some p=>ky κ p
 | none=>κ.dflt
theorem zba {xs : Array Keyed} {i : Nat} (h : i < xs.size) : kAt κ xs i = ky κ xs[i]:=by
 unfold kAt
 rw [ybb h]
theorem zbr {xs ys : Array Keyed} {i j : Nat} (h : xs[i]? = ys[j]?) : kAt κ xs i = kAt κ ys j:=by
 unfold kAt
 rw [h]
theorem zim {i j n : Nat} {st : SortSt} {Q : Option Bool→SortSt→Prop} (hO : LtG prog w A s κ kd) (hB : TB κ kd n st) (hi : i < n) (hj : j < n) (h : Q (some (κ.blt (kAt κ (arrOf st) i) (kAt κ (arrOf st) j))) st) : wpS (model prog w) A E s (ltAt' i j) Q st:=by
 have hi' : i < (arrOf st).size:=by rw [hB.size]; exact hi
 have hj' : j < (arrOf st).size:=by rw [hB.size]; exact hj
 rw [ltAt'_eq]
 refine wpS_bind (wpS_get ?_)
 refine wpS_bind (za9 hi' (wpS_bind (za9 hj' ?_)))
 refine lt_G hO hB.kind (hB.keys _ (by simp)) (hB.keys _ (by simp)) ?_
 rw [zba hi',zba hj'] at h
 exact h
def Up (κ : KeyKind) (xs : Array Keyed) (lo hi : Nat) : Prop:=∀ i j,lo≤i→i≤j→j < hi→κ.kle (kAt κ xs i) (kAt κ xs j)
def Dn (κ : KeyKind) (xs : Array Keyed) (lo hi : Nat) : Prop:=∀ i j,lo≤i→i≤j→j < hi→κ.kle (kAt κ xs j) (kAt κ xs i)
structure Off (xs ys : Array Keyed) (lo hi : Nat) : Prop where
 perm : ys.Perm xs
 out : ∀ k,k < lo∨hi≤k→ys[k]? = xs[k]?
theorem Off.refl (xs : Array Keyed) (lo hi : Nat) : Off xs xs lo hi:=⟨Array.Perm.refl _,fun _ _=>rfl⟩
theorem Off.trans {xs ys zs : Array Keyed} {lo hi : Nat} (a : Off xs ys lo hi) (b : Off ys zs lo hi) : Off xs zs lo hi:=⟨b.perm.trans a.perm,fun k h=>(b.out k h).trans (a.out k h)⟩
theorem Off.wide {xs ys : Array Keyed} {lo hi lo' hi' : Nat} (a : Off xs ys lo hi) (h1 : lo'≤lo) (h2 : hi≤hi') : Off xs ys lo' hi':=⟨a.perm,fun k h=>a.out k (by omega)⟩
theorem Off.size {xs ys : Array Keyed} {lo hi : Nat} (a : Off xs ys lo hi) : ys.size = xs.size:=a.perm.size_eq
theorem TB.off {n lo hi : Nat} {st : SortSt} {ys : Array Keyed} (hB : TB κ kd n st) (h : Off (arrOf st) ys lo hi) : TB κ kd n (setArr st ys):=
 ⟨hB.kind,fun p hp=>hB.keys p ((ycv.mp h.perm).mem_iff.mp hp),hB.failed,h.size.trans hB.size⟩
theorem zcJ {xs : Array Keyed} {i j : Nat} (hj : j≤xs.size) : Off xs (mirror xs i j ((j - i) / 2)) i j:=⟨mirror_perm _ _ _ _,fun k hk=>by rw [getElem?_mirror_all hj,if_neg (by omega)]⟩
theorem zfi {xs : Array Keyed} {i j k : Nat} (hj : j≤xs.size) (hk : i≤k∧k < j) : kAt κ (mirror xs i j ((j - i) / 2)) k = kAt κ xs (i + j - 1 - k):=by
 apply zbr
 rw [getElem?_mirror_all hj,if_pos hk]
theorem zi6 {xs ys : Array Keyed} {lo hi k : Nat} (h : Off xs ys lo hi) (hk : k < lo∨hi≤k) : kAt κ ys k = kAt κ xs k:=zbr (h.out k hk)
theorem zhD {xs : Array Keyed} {i j : Nat} (hj : j≤xs.size) (he : ∀ k,i≤k→k < j→kAt κ xs k = kAt κ xs (j - 1)) (k : Nat) : kAt κ (mirror xs i j ((j - i) / 2)) k = kAt κ xs k:=by
 by_cases hk : i≤k∧k < j
 ·rw [zfi hj hk,he _ (by omega) (by omega),he k hk.1 hk.2]
 ·exact zi6 (zcJ hj) (by omega)
theorem zg1 {i j : Nat} {st : SortSt} {Q : Unit→SortSt→Prop} (h : Q () (setArr st (mirror (arrOf st) i j ((j - i) / 2)))) : wpS (model prog w) A E s (reverseSlice' i j) Q st:=by
 rw [reverseSlice'_eq]
 exact wpS_modify h
theorem zcO {σ : Type} {n : String} {Q : Unit→σ→Prop} {st : σ} (h : Q () st) : wpS (model prog w) A E s (liftM (rule n) : StateT σ Sem Unit) Q st:=wpS_lift (wpAny_rule ⟨rfl,h⟩)
end
end Tim
namespace Tim
open PySem PyProof.Rows
set_option autoImplicit false
section
variable {prog : Program} {w : World} {A : Around} {E : Value→Shared→Prop} {s : Shared} {κ : KeyKind} {kd : SortKind}
def zjn (κ : KeyKind) (st : SortSt) (lo least nrem : Nat) (r : Option Nat) (st' : SortSt) : Prop:=
 ∃ n ys,r = some n∧least≤n∧n≤nrem∧st' = setArr st ys∧Off (arrOf st) ys lo (lo + n)∧Up κ ys lo (lo + n)
theorem zp6 {xs : Array Keyed} {lo : Nat} : Up κ xs lo (lo + 1):=fun i j h1 h2 h3=>by
 have : i = j:=by omega
 subst this
 exact KeyOrd.kle_refl _
theorem Up.more {xs : Array Keyed} {lo hi : Nat} (h : Up κ xs lo hi) (hlo : lo < hi) (hn : κ.kle (kAt κ xs (hi - 1)) (kAt κ xs hi)) : Up κ xs lo (hi + 1):=fun i j h1 h2 h3=>by
 by_cases hj : j < hi
 ·exact h i j h1 h2 hj
 ·have e : j = hi:=by omega
  subst e
  by_cases hi' : i = j
  ·subst hi'; exact KeyOrd.kle_refl _
  ·exact KeyOrd.kle_trans (h i (j - 1) h1 (by omega) (by omega)) hn
theorem Dn.more {xs : Array Keyed} {lo hi : Nat} (h : Dn κ xs lo hi) (hlo : lo < hi) (hn : κ.kle (kAt κ xs hi) (kAt κ xs (hi - 1))) : Dn κ xs lo (hi + 1):=fun i j h1 h2 h3=>by
 by_cases hj : j < hi
 ·exact h i j h1 h2 hj
 ·have e : j = hi:=by omega
  subst e
  by_cases hi' : i = j
  ·subst hi'; exact KeyOrd.kle_refl _
  ·exact KeyOrd.kle_trans hn (h i (j - 1) h1 (by omega) (by omega))
theorem zom {st : SortSt} {N lo n nrem : Nat} {Q : Option (Option Nat)×Nat→SortSt→Prop} (hO : LtG prog w A s κ kd) (hB : TB κ kd N st) (hlo : lo + nrem≤N) (h1 : 1≤n) (hn : n≤nrem) (hU : Up κ (arrOf st) lo (lo + n))
  (h : ∀ m,n≤m→m≤nrem→Up κ (arrOf st) lo (lo + m)→(m < nrem→κ.klt (kAt κ (arrOf st) (lo + m)) (kAt κ (arrOf st) (lo + m - 1)))→Q (none,m) st) :
  wpS (model prog w) A E s (forIn [n:nrem] ((none,n) : Option (Option Nat)×Nat) fun _ __s=>do
   let __x ← ltAt' (lo + __s.snd) (lo + __s.snd - 1)
   match __x with
   | some smaller=>if smaller = true then pure (ForInStep.done (none,__s.snd)) else pure (ForInStep.yield (none,__s.snd + 1))
   | _=>pure (ForInStep.done (some none,__s.snd))) Q st:=by
 refine wpS_forRange (I:=fun i c st'=>st' = st∧c = (none,i)∧n≤i∧i≤nrem∧Up κ (arrOf st) lo (lo + i)) ?_ ?_ ⟨rfl,rfl,yaa _,hn,hU⟩
 ·rintro i c st' hi1 hi2 ⟨rfl,rfl,h3,h4,hU'⟩
  refine wpS_bind (zim hO hB (by omega) (by omega) ?_)
  dsimp only
  cases e : κ.blt (kAt κ (arrOf st') (lo + i)) (kAt κ (arrOf st') (lo + i - 1)) with
  | true=>exact wpS_pure (h i h3 h4 hU' fun _=>e)
  | false=>exact wpS_pure ⟨rfl,rfl,by omega,by omega,hU'.more (by omega) e⟩
 ·rintro c st' ⟨rfl,rfl,h3,h4,hU'⟩
  exact h _ h3 h4 hU' fun z=>absurd z (by omega)
theorem zlf {st : SortSt} {N lo n nrem : Nat} {Q : Option Nat→SortSt→Prop} {k : Option (Option Nat)×Nat→StateT SortSt Sem (Option Nat)} (hk : ∀ m,k (none,m) = pure (some m)) (hO : LtG prog w A s κ kd) (hB : TB κ kd N st) (hlo : lo + nrem≤N) (h1 : 1≤n) (hn : n≤nrem) (hD : Dn κ (arrOf st) lo (lo + n))
  (h : ∀ r st',zjn κ st lo n nrem r st'→Q r st') :
  wpS (model prog w) A E s (do
   reverseSlice' lo (lo + n)
   let c ← forIn [n:nrem] ((none,n) : Option (Option Nat)×Nat) fun _ __s=>do
    let __x ← ltAt' (lo + __s.snd) (lo + __s.snd - 1)
    match __x with
    | some smaller=>if smaller = true then pure (ForInStep.done (none,__s.snd)) else pure (ForInStep.yield (none,__s.snd + 1))
    | _=>pure (ForInStep.done (some none,__s.snd))
   k c) Q st:=by
 have hz : lo + n≤(arrOf st).size:=by rw [hB.size]; omega
 have hoff:=zcJ (xs:=arrOf st) (i:=lo) (j:=lo + n) hz
 refine wpS_bind (zg1 ?_)
 refine wpS_bind (zom hO (hB.off hoff) hlo h1 hn (fun i j q1 q2 q3=>?_) fun m m1 m2 hU _=>?_)
 ·rw [zfi hz (by omega),zfi hz (by omega)]
  exact hD _ _ (by omega) (by omega) (by omega)
 ·rw [hk]
  exact wpS_pure (h _ _ ⟨m,_,rfl,m1,m2,rfl,hoff.wide (yaa _) (by omega),hU⟩)
theorem zlg {st : SortSt} {N lo n nrem : Nat} {Q : Option (Option Nat)×Nat×Nat→SortSt→Prop} (hO : LtG prog w A s κ kd) (hB : TB κ kd N st) (hlo : lo + nrem≤N) (h1 : 1≤n) (hn : n≤nrem) (hD : Dn κ (arrOf st) lo (lo + n))
  (h : ∀ m neq ys,n≤m→m≤nrem→neq < m→Off (arrOf st) ys lo (lo + m)→Dn κ ys lo (lo + m)→(∀ k,lo + m - (neq + 1)≤k→k < lo + m→kAt κ ys k = kAt κ ys (lo + m - 1))→Q (none,m,neq) (setArr st ys)) :
  wpS (model prog w) A E s (forIn [n:nrem] ((none,n,0) : Option (Option Nat)×Nat×Nat) fun _ __s=>do
   let __x ← ltAt' (lo + __s.snd.fst) (lo + __s.snd.fst - 1)
   match __x with
   | some smaller=>
    if smaller = true then
     if __s.snd.snd > 0 then do
      let _ ← reverseSlice' (lo + __s.snd.fst - (__s.snd.snd + 1)) (lo + __s.snd.fst)
      pure (ForInStep.yield (none,__s.snd.fst + 1,0))
     else pure (ForInStep.yield (none,__s.snd.fst + 1,0))
    else do
     let __x ← ltAt' (lo + __s.snd.fst - 1) (lo + __s.snd.fst)
     match __x with
     | some larger=>
      if larger = true then pure (ForInStep.done (none,__s.snd.fst,__s.snd.snd))
      else pure (ForInStep.yield (none,__s.snd.fst + 1,__s.snd.snd + 1))
     | _=>pure (ForInStep.done (some none,__s.snd.fst,__s.snd.snd))
   | _=>pure (ForInStep.done (some none,__s.snd.fst,__s.snd.snd))) Q st:=by
 refine wpS_forRange (I:=fun i c st'=>∃ neq ys,st' = setArr st ys∧c = (none,i,neq)∧n≤i∧i≤nrem∧neq < i∧Off (arrOf st) ys lo (lo + i)∧Dn κ ys lo (lo + i)∧∀ k,lo + i - (neq + 1)≤k→k < lo + i→kAt κ ys k = kAt κ ys (lo + i - 1)) ?_ ?_ ⟨0,arrOf st,rfl,rfl,yaa _,hn,h1,Off.refl _ _ _,hD,fun k q1 q2=>by rw [show k = lo + n - 1 by omega]⟩
 ·rintro i c st' hi1 hi2 ⟨neq,ys,rfl,rfl,h3,h4,h5,ho,hD',he⟩
  have hB' : TB κ kd N (setArr st ys):=hB.off ho
  have hz : lo + i≤ys.size:=by rw [ho.size,hB.size]; omega
  dsimp only
  refine wpS_bind (zim hO hB' (by omega) (by omega) ?_)
  dsimp only
  cases e : κ.blt (kAt κ ys (lo + i)) (kAt κ ys (lo + i - 1)) with
  | true=>
   simp only [if_true]
   by_cases hq : neq > 0
   ·rw [if_pos hq]
    have hoff:=zcJ (xs:=ys) (i:=lo + i - (neq + 1)) (j:=lo + i) hz
    have hk:=zhD (κ:=κ) hz he
    refine wpS_bind (zg1 (wpS_pure ⟨0,_,rfl,rfl,by omega,by omega,by omega,ho.wide (yaa _) (by omega) |>.trans (hoff.wide (by omega) (by omega)),?_,fun k q1 q2=>by rw [show k = lo + (i + 1) - 1 by omega]⟩))
    have : Dn κ (mirror ys (lo + i - (neq + 1)) (lo + i) ((lo + i - (lo + i - (neq + 1))) / 2)) lo (lo + i):=fun a b q1 q2 q3=>by rw [hk,hk]; exact hD' a b q1 q2 q3
    exact this.more (by omega) (by rw [hk,hk]; exact KeyOrd.kle_of_klt e)
   ·rw [if_neg hq]
    exact wpS_pure ⟨0,ys,rfl,rfl,by omega,by omega,by omega,ho.wide (yaa _) (by omega),hD'.more (by omega) (KeyOrd.kle_of_klt e),fun k q1 q2=>by rw [show k = lo + (i + 1) - 1 by omega]⟩
  | false=>
   simp only [yaU,if_false]
   refine wpS_bind (zim hO hB' (by omega) (by omega) ?_)
   dsimp only
   cases e2 : κ.blt (kAt κ ys (lo + i - 1)) (kAt κ ys (lo + i)) with
   | true=>exact wpS_pure (h i neq ys h3 h4 h5 ho hD' he)
   | false=>
    have eq : kAt κ ys (lo + i) = kAt κ ys (lo + i - 1):=κ.total _ _ e e2
    refine wpS_pure ⟨neq + 1,ys,rfl,rfl,by omega,by omega,by omega,ho.wide (yaa _) (by omega),hD'.more (by omega) (by rw [eq]; exact KeyOrd.kle_refl _),fun k q1 q2=>?_⟩
    rw [show lo + (i + 1) - 1 = lo + i by omega,eq]
    by_cases hk : k = lo + i
    ·rw [hk]; exact eq
    ·exact he k (by omega) (by omega)
 ·rintro c st' ⟨neq,ys,rfl,rfl,h3,h4,h5,ho,hD',he⟩
  exact h _ neq ys h3 h4 h5 ho hD' he
theorem zjs {st : SortSt} {N lo n nrem m neq : Nat} {ys : Array Keyed} {Q : Option Nat→SortSt→Prop} {t : StateT SortSt Sem (Option Nat)} (hB : TB κ kd N st) (hlo : lo + nrem≤N) (m1 : n + 1≤m) (m2 : m≤nrem) (m3 : neq < m)
  (ho : Off (arrOf st) ys lo (lo + m)) (hD : Dn κ ys lo (lo + m)) (he : ∀ k,lo + m - (neq + 1)≤k→k < lo + m→kAt κ ys k = kAt κ ys (lo + m - 1)) (h : ∀ r st',zjn κ st lo (n + 1) nrem r st'→Q r st')
  (ht : ∀ st',TB κ kd N st'→Dn κ (arrOf st') lo (lo + m)→(∀ r st'',zjn κ st' lo m nrem r st''→Q r st'')→wpS (model prog w) A E s t Q st') :
  wpS (model prog w) A E s (if neq > 0 then do
   let _ ← reverseSlice' (lo + m - (neq + 1)) (lo + m)
   t else t) Q (setArr st ys):=by
 have hz : lo + m≤ys.size:=by rw [ho.size,hB.size]; omega
 have back : ∀ zs,Off (arrOf st) zs lo (lo + m)→∀ r st',zjn κ (setArr st zs) lo m nrem r st'→Q r st':=fun zs hz r st' hr=>by
  obtain ⟨q,vs,e1,e2,e3,e4,e5,e6⟩:=hr
  exact h r st' ⟨q,vs,e1,by omega,e3,e4,(hz.wide (yaa _) (by omega)).trans e5,e6⟩
 by_cases hq : neq > 0
 ·rw [if_pos hq]
  have hoff:=zcJ (xs:=ys) (i:=lo + m - (neq + 1)) (j:=lo + m) hz
  have hk:=zhD (κ:=κ) hz he
  have ho2:=ho.trans (hoff.wide (by omega) (yaa _))
  refine wpS_bind (zg1 ?_)
  refine ht _ (hB.off ho2) (fun a b q1 q2 q3=>?_) (back _ ho2)
  show κ.kle (kAt κ (mirror ys (lo + m - (neq + 1)) (lo + m) ((lo + m - (lo + m - (neq + 1))) / 2)) b) (kAt κ (mirror ys (lo + m - (neq + 1)) (lo + m) ((lo + m - (lo + m - (neq + 1))) / 2)) a)
  rw [hk,hk]
  exact hD a b q1 q2 q3
 ·rw [if_neg hq]
  exact ht _ (hB.off ho) hD (back _ ho)
theorem ziP {st : SortSt} {N lo nrem : Nat} {Q : Option Nat→SortSt→Prop} (hO : LtG prog w A s κ kd) (hB : TB κ kd N st) (hlo : lo + nrem≤N) (h1 : 1≤nrem) (h : ∀ r st',zjn κ st lo 1 nrem r st'→Q r st') :
  wpS (model prog w) A E s (countRun' lo nrem) Q st:=by
 rw [countRun'_eq]
 refine wpS_bind (zom hO hB hlo (yaa 1) h1 zp6 fun m m1 m2 hU hnext=>?_)
 dsimp only
 by_cases hm : m = nrem
 ·rw [if_pos (by simpa using hm)]
  exact wpS_pure (h _ _ ⟨m,arrOf st,rfl,m1,m2,rfl,Off.refl _ _ _,hU⟩)
 ·rw [if_neg (by simpa using hm)]
  have hnx:=hnext (by omega)
  by_cases hm1 : m > 1
  ·rw [if_pos hm1]
   refine wpS_bind (zim hO hB (by omega) (by omega) ?_)
   cases e : κ.blt (kAt κ (arrOf st) lo) (kAt κ (arrOf st) (lo + m - 1)) with
   | true=>
    simp only [if_true]
    exact wpS_pure (h _ _ ⟨m,arrOf st,rfl,m1,m2,rfl,Off.refl _ _ _,hU⟩)
   | false=>
    simp only [yaU,if_false]
    have hz : lo + m≤(arrOf st).size:=by rw [hB.size]; omega
    have hoff:=zcJ (xs:=arrOf st) (i:=lo) (j:=lo + m) hz
    have all : ∀ k,lo≤k→k < lo + m→kAt κ (arrOf st) k = kAt κ (arrOf st) (lo + m - 1):=fun k q1 q2=>
     KeyOrd.kle_antisymm (hU k (lo + m - 1) q1 (by omega) (by omega)) (KeyOrd.kle_trans (show κ.kle (kAt κ (arrOf st) (lo + m - 1)) (kAt κ (arrOf st) lo) from e) (hU lo k (yaa _) q1 q2))
    have hk:=zhD (κ:=κ) hz all
    refine wpS_bind (zg1 ?_)
    have fin : ∀ r st',zjn κ (setArr st (mirror (arrOf st) lo (lo + m) ((lo + m - lo) / 2))) lo (m + 1) nrem r st'→Q r st':=fun r st' hr=>by
     obtain ⟨q,vs,e1,e2,e3,e4,e5,e6⟩:=hr
     exact h r st' ⟨q,vs,e1,by omega,e3,e4,(hoff.wide (yaa _) (by omega)).trans e5,e6⟩
    refine wpS_bind (zcO (wpS_bind (zlg hO (hB.off hoff) hlo (by omega) (by omega) ?_ fun m' neq ys p1 p2 p3 ho hD' he=>?_)))
    rotate_left
    ·dsimp only
     exact zjs (n:=m) (hB.off hoff) hlo p1 p2 p3 ho hD' he fin fun st' hB' hDD hh=>zlf (fun _=>rfl) hO hB' hlo (by omega) p2 hDD hh
    ·have d0 : Dn κ (arrOf st) lo (lo + m):=fun a b q1 q2 q3=>by rw [all a q1 (by omega),all b (by omega) q3]; exact KeyOrd.kle_refl _
     have d1:=d0.more (by omega) (KeyOrd.kle_of_klt hnx)
     intro a b q1 q2 q3
     show κ.kle (kAt κ (mirror (arrOf st) lo (lo + m) ((lo + m - lo) / 2)) b) (kAt κ (mirror (arrOf st) lo (lo + m) ((lo + m - lo) / 2)) a)
     rw [hk,hk]
     exact d1 a b q1 q2 (by omega)
  ·rw [if_neg hm1]
   have e1 : m = 1:=by omega
   subst e1
   have fin : ∀ r st',zjn κ st lo (1 + 1) nrem r st'→Q r st':=fun r st' hr=>by
    obtain ⟨q,vs,e1,e2,e3,e4,e5,e6⟩:=hr
    exact h r st' ⟨q,vs,e1,by omega,e3,e4,e5,e6⟩
   refine wpS_bind (zcO (wpS_bind (zlg hO hB hlo (by omega) (by omega) ?_ fun m' neq ys p1 p2 p3 ho hD' he=>?_)))
   rotate_left
   ·dsimp only
    exact zjs (n:=1) hB hlo p1 p2 p3 ho hD' he fin fun st' hB' hDD hh=>zlf (fun _=>rfl) hO hB' hlo (by omega) p2 hDD hh
   ·intro a b q1 q2 q3
    by_cases hab : a = b
    ·subst hab; exact KeyOrd.kle_refl _
    ·have ea : a = lo + 1 - 1:=by omega
     have eb : b = lo + 1:=by omega
     rw [ea,eb]
     exact KeyOrd.kle_of_klt hnx
end
end Tim
namespace Tim
open PySem PyProof.Rows
set_option autoImplicit false
section
variable {prog : Program} {w : World} {A : Around} {E : Value→Shared→Prop} {s : Shared} {κ : KeyKind} {kd : SortKind}
theorem zkR {xs : Array Keyed} {src dst hi : Nat} (hs : src < xs.size) (hd : dst≤src) (hh : src < hi) : Off xs (bubble xs src (src - dst)) dst hi:=
 ⟨bubble_perm _ _ _,fun k hk=>by
  rw [getElem?_bubble hs _ (by omega)]
  rw [if_neg (by omega),if_neg (by omega)]⟩
theorem zgK {xs : Array Keyed} {src dst : Nat} (hs : src < xs.size) (hd : dst≤src) (k : Nat) : kAt κ (bubble xs src (src - dst)) k = if k = dst then kAt κ xs src else if dst < k∧k≤src then kAt κ xs (k - 1) else kAt κ xs k:=by
 have e:=getElem?_bubble hs (src - dst) (by omega) k
 rw [show src - (src - dst) = dst by omega] at e
 by_cases h1 : k = dst
 ·rw [if_pos h1] at e ⊢; exact zbr e
 ·rw [if_neg h1] at e ⊢
  by_cases h2 : dst < k∧k≤src
  ·rw [if_pos h2] at e ⊢; exact zbr e
  ·rw [if_neg h2] at e ⊢; exact zbr e
theorem zg0 {st : SortSt} {N lo n ok : Nat} {Q : Bool→SortSt→Prop} (hO : LtG prog w A s κ kd) (hB : TB κ kd N st) (hlo : lo + n≤N) (hok : ok≤n) (hU : Up κ (arrOf st) lo (lo + ok))
  (h : ∀ ys,Off (arrOf st) ys lo (lo + n)→Up κ ys lo (lo + n)→Q true (setArr st ys)) : wpS (model prog w) A E s (binarySort' lo n ok) Q st:=by
 rw [binarySort'_eq]
 refine wpS_bind (wpS_mono (wpS_forRange (I:=fun k c st'=>c = (none,())∧∃ ys,st' = setArr st ys∧Off (arrOf st) ys lo (lo + n)∧Up κ ys lo (lo + min k n))
  (Q:=fun c st'=>c = (none,())∧∃ ys,st' = setArr st ys∧Off (arrOf st) ys lo (lo + n)∧Up κ ys lo (lo + n)) ?step ?fin ?init) ?post)
 case post=>
  rintro c st' ⟨rfl,ys,rfl,ho,hu⟩
  exact wpS_pure (h ys ho hu)
 case init=>
  refine ⟨rfl,arrOf st,rfl,Off.refl _ _ _,fun i j h1 h2 h3=>?_⟩
  by_cases hz : j < lo + ok
  ·exact hU i j h1 h2 hz
  ·have : i = j:=by omega
   subst this
   exact KeyOrd.kle_refl _
 case fin=>
  rintro c st' ⟨rfl,ys,rfl,ho,hu⟩
  refine ⟨rfl,ys,rfl,ho,?_⟩
  rwa [show min (max (max ok 1) n) n = n by omega] at hu
 case step=>
  rintro k c st' hk1 hk2 ⟨rfl,ys,rfl,ho,hu⟩
  rw [show min k n = k by omega] at hu
  have hB' : TB κ kd N (setArr st ys):=hB.off ho
  have hz : ys.size = N:=by rw [ho.size,hB.size]
  refine wpS_bind (wpS_mono (wpS_forRange (I:=fun x c st''=>st'' = setArr st ys∧∃ l r,c = (none,l,r)∧l≤r∧r≤k∧r - l≤k - x∧
    (∀ i,i < l→κ.kle (kAt κ ys (lo + i)) (kAt κ ys (lo + k)))∧(∀ i,r≤i→i < k→κ.klt (kAt κ ys (lo + k)) (kAt κ ys (lo + i))))
   (Q:=fun c st''=>st'' = setArr st ys∧∃ l r,c = (none,l,r)∧l≤k∧
    (∀ i,i < l→κ.kle (kAt κ ys (lo + i)) (kAt κ ys (lo + k)))∧(∀ i,l≤i→i < k→κ.klt (kAt κ ys (lo + k)) (kAt κ ys (lo + i)))) ?istep ?ifin ?iinit) ?ipost)
  case iinit=>exact ⟨rfl,0,k,rfl,by omega,by omega,by omega,fun i hi=>by omega,fun i h1 h2=>by omega⟩
  case ifin=>
   rintro c st'' ⟨rfl,l,r,rfl,hlr,hrk,hm,a1,a2⟩
   have : l = r:=by omega
   subst this
   exact ⟨rfl,l,l,rfl,hrk,a1,a2⟩
  case istep=>
   rintro x c st'' _ hxk ⟨rfl,l,r,rfl,hlr,hrk,hm,a1,a2⟩
   dsimp only
   by_cases hge : l ≥ r
   ·rw [if_pos hge]
    have : l = r:=by omega
    subst this
    exact wpS_pure ⟨rfl,l,l,rfl,hrk,a1,a2⟩
   ·rw [if_neg hge]
    refine wpS_bind (zim hO hB' (by omega) (by omega) ?_)
    dsimp only
    cases e : κ.blt (kAt κ ys (lo + k)) (kAt κ ys (lo + (l + r) / 2)) with
    | true=>
     refine wpS_pure ⟨rfl,l,(l + r) / 2,rfl,by omega,by omega,by omega,a1,fun i h1 h2=>?_⟩
     exact KeyOrd.klt_of_klt_of_kle e (hu _ _ (by omega) (by omega) (by omega))
    | false=>
     refine wpS_pure ⟨rfl,(l + r) / 2 + 1,r,rfl,by omega,by omega,by omega,fun i h1=>?_,a2⟩
     exact KeyOrd.kle_trans (hu (lo + i) (lo + (l + r) / 2) (by omega) (by omega) (by omega)) (show κ.kle (kAt κ ys (lo + (l + r) / 2)) (kAt κ ys (lo + k)) from e)
  case ipost=>
   rintro c st'' ⟨rfl,l,r,rfl,hlk,a1,a2⟩
   dsimp only
   rw [moveDown'_eq]
   refine wpS_bind (wpS_modify (wpS_pure ⟨rfl,_,rfl,ho.trans ((zkR (hi:=lo + n) (by rw [hz]; omega) (by omega) (by omega)).wide (by omega) (yaa _)),?_⟩))
   rw [show min (k + 1) n = k + 1 by omega]
   intro i j h1 h2 h3
   show κ.kle (kAt κ (bubble ys (lo + k) (lo + k - (lo + l))) i) (kAt κ (bubble ys (lo + k) (lo + k - (lo + l))) j)
   rw [zgK (by rw [hz]; omega) (by omega),zgK (by rw [hz]; omega) (by omega)]
   have lowS : ∀ i,lo≤i→i < lo + l→κ.kle (kAt κ ys i) (kAt κ ys (lo + k)):=fun i q1 q2=>by
    have:=a1 (i - lo) (by omega)
    rw [show lo + (i - lo) = i by omega] at this
    exact this
   have highS : ∀ i,lo + l≤i→i < lo + k→κ.kle (kAt κ ys (lo + k)) (kAt κ ys i):=fun i q1 q2=>by
    have:=a2 (i - lo) (by omega) (by omega)
    rw [show lo + (i - lo) = i by omega] at this
    exact KeyOrd.kle_of_klt this
   by_cases i1 : i = lo + l
   ·rw [if_pos i1]
    by_cases j1 : j = lo + l
    ·rw [if_pos j1]; exact KeyOrd.kle_refl _
    ·rw [if_neg j1,if_pos (by omega)]
     exact highS _ (by omega) (by omega)
   ·rw [if_neg i1]
    by_cases i2 : lo + l < i∧i≤lo + k
    ·rw [if_pos i2,if_neg (by omega),if_pos (by omega)]
     exact hu _ _ (by omega) (by omega) (by omega)
    ·rw [if_neg i2]
     by_cases j1 : j = lo + l
     ·rw [if_pos j1]
      exact lowS i h1 (by omega)
     ·rw [if_neg j1]
      by_cases j2 : lo + l < j∧j≤lo + k
      ·rw [if_pos j2]
       exact hu _ _ h1 (by omega) (by omega)
      ·rw [if_neg j2]
       exact hu _ _ h1 h2 (by omega)
end
end Tim
namespace Tim
open PySem PyProof.Rows
set_option autoImplicit false
section
variable {M : Model} {A : Around} {E : Value→Shared→Prop} {s : Shared} {st : SortSt} {n hint : Nat} {p : Nat→Bool}
abbrev C2:=Option (Option Nat)×Nat×Nat
theorem znf {Q : C2→SortSt→Prop} {f : Nat→C2→StateT SortSt Sem (ForInStep C2)} (hn : hint < n) (hp : p hint = true)
  (f1 : ∀ x l o,o ≥ n - hint→f x (none,l,o) = pure (.done (none,l,o)))
  (f2 : ∀ x l o (R : ForInStep C2→SortSt→Prop),o < n - hint→(p (hint + o) = true→R (.yield (none,o,2 * o + 1)) st)→(p (hint + o) = false→R (.done (none,l,o)) st)→wpS M A E s (f x (none,l,o)) R st)
  (h : ∀ l o,l < o→hint + l < n→p (hint + l) = true→(o < n - hint→p (hint + o) = false)→Q (none,l,o) st) : wpS M A E s (forIn [:n] ((none,0,1) : C2) f) Q st:=by
 refine wpS_forRange (I:=fun i c st'=>st' = st∧∃ l o,c = (none,l,o)∧l < o∧i + 1≤o∧hint + l < n∧p (hint + l) = true) ?_ ?_ ⟨rfl,0,1,rfl,by omega,by omega,by omega,hp⟩
 ·rintro i c st' _ hi ⟨rfl,l,o,rfl,h1,h2,h3,h4⟩
  by_cases ho : o ≥ n - hint
  ·rw [f1 i l o ho]
   exact wpS_pure (h l o h1 h3 h4 fun z=>absurd z (by omega))
  ·refine f2 i l o _ (by omega) (fun e=>?_) fun e=>?_
   ·exact ⟨rfl,o,2 * o + 1,rfl,by omega,by omega,by omega,e⟩
   ·exact h l o h1 h3 h4 fun _=>e
 ·rintro c st' ⟨rfl,l,o,rfl,h1,h2,h3,h4⟩
  exact h l o h1 h3 h4 fun z=>absurd z (by omega)
theorem zoT {Q : C2→SortSt→Prop} {f : Nat→C2→StateT SortSt Sem (ForInStep C2)} (hn : hint < n) (hp : p hint = false)
  (f1 : ∀ x l o,o ≥ hint + 1→f x (none,l,o) = pure (.done (none,l,o)))
  (f2 : ∀ x l o (R : ForInStep C2→SortSt→Prop),o < hint + 1→(p (hint - o) = false→R (.yield (none,o,2 * o + 1)) st)→(p (hint - o) = true→R (.done (none,l,o)) st)→wpS M A E s (f x (none,l,o)) R st)
  (h : ∀ l o,l < o→l≤hint→p (hint - l) = false→(o < hint + 1→p (hint - o) = true)→Q (none,l,o) st) : wpS M A E s (forIn [:n] ((none,0,1) : C2) f) Q st:=by
 refine wpS_forRange (I:=fun i c st'=>st' = st∧∃ l o,c = (none,l,o)∧l < o∧i + 1≤o∧l≤hint∧p (hint - l) = false) ?_ ?_ ⟨rfl,0,1,rfl,by omega,by omega,by omega,hp⟩
 ·rintro i c st' _ hi ⟨rfl,l,o,rfl,h1,h2,h3,h4⟩
  by_cases ho : o ≥ hint + 1
  ·rw [f1 i l o ho]
   exact wpS_pure (h l o h1 h3 h4 fun z=>absurd z (by omega))
  ·refine f2 i l o _ (by omega) (fun e=>?_) fun e=>?_
   ·exact ⟨rfl,o,2 * o + 1,rfl,by omega,by omega,by omega,e⟩
   ·exact h l o h1 h3 h4 fun _=>e
 ·rintro c st' ⟨rfl,l,o,rfl,h1,h2,h3,h4⟩
  exact h l o h1 h3 h4 fun z=>absurd z (by omega)
theorem zjr {Q : Option Nat→SortSt→Prop} {lo hi : Nat} {f : Nat→C2→StateT SortSt Sem (ForInStep C2)} {k : C2→StateT SortSt Sem (Option Nat)}
  (anti : ∀ i j,i≤j→j < n→p j = true→p i = true) (h1 : lo≤hi) (h2 : hi≤n) (hl : ∀ i,i < lo→p i = true) (hh : ∀ i,hi≤i→i < n→p i = false)
  (f1 : ∀ x l r,l ≥ r→f x (none,l,r) = pure (.done (none,l,r)))
  (f2 : ∀ x l r (R : ForInStep C2→SortSt→Prop),l < r→r≤n→(p (l + (r - l) / 2) = true→R (.yield (none,l + (r - l) / 2 + 1,r)) st)→(p (l + (r - l) / 2) = false→R (.yield (none,l,l + (r - l) / 2)) st)→wpS M A E s (f x (none,l,r)) R st)
  (hk : ∀ l r,k (none,l,r) = pure (some r))
  (h : ∀ m,m≤n→(∀ i,i < m→p i = true)→(∀ i,m≤i→i < n→p i = false)→Q (some m) st) : wpS M A E s (do let c ← forIn [:n] ((none,lo,hi) : C2) f; k c) Q st:=by
 refine wpS_bind (wpS_mono (wpS_forRange (I:=fun x c st'=>st' = st∧∃ l r,c = (none,l,r)∧l≤r∧r≤n∧r - l≤n - x∧(∀ i,i < l→p i = true)∧∀ i,r≤i→i < n→p i = false)
  (Q:=fun c st'=>st' = st∧∃ m,c = (none,m,m)∧m≤n∧(∀ i,i < m→p i = true)∧∀ i,m≤i→i < n→p i = false) ?_ ?_ ⟨rfl,lo,hi,rfl,h1,h2,by omega,hl,hh⟩) ?_)
 ·rintro x c st' _ hx ⟨rfl,l,r,rfl,a1,a2,a3,a4,a5⟩
  by_cases hge : l ≥ r
  ·rw [f1 x l r hge]
   have : l = r:=by omega
   subst this
   exact wpS_pure ⟨rfl,l,rfl,a2,a4,a5⟩
  ·refine f2 x l r _ (by omega) a2 (fun e=>?_) fun e=>?_
   ·exact ⟨rfl,_,r,rfl,by omega,a2,by omega,fun i hi=>anti i _ (by omega) (by omega) e,a5⟩
   ·refine ⟨rfl,l,_,rfl,by omega,by omega,by omega,a4,fun i q1 q2=>?_⟩
    cases z : p i with
    | false=>rfl
    | true=>rw [anti _ i q1 q2 z] at e; cases e
 ·rintro c st' ⟨rfl,l,r,rfl,a1,a2,a3,a4,a5⟩
  have : l = r:=by omega
  subst this
  exact ⟨rfl,l,rfl,a2,a4,a5⟩
 ·rintro c st' ⟨rfl,m,rfl,a2,a4,a5⟩
  rw [hk]
  exact wpS_pure (h m a2 a4 a5)
end
def zi7 : Bool→Keyed→Array Keyed→Nat→Nat→Nat→StateT SortSt Sem (Option Nat):=sortPriv% PySem.Builtin.gallop
section
variable {prog : Program} {w : World} {A : Around} {E : Value→Shared→Prop} {s : Shared} {κ : KeyKind} {kd : SortKind}
def bey (κ : KeyKind) (left : Bool) (key : Keyed) (arr : Array Keyed) (base i : Nat) : Bool:=if left = true then κ.blt (kAt κ arr (base + i)) (ky κ key) else !κ.blt (ky κ key) (kAt κ arr (base + i))
theorem zcE {st : SortSt} {left : Bool} {key : Keyed} {arr : Array Keyed} {base n hint : Nat} {Q : Option Nat→SortSt→Prop} (hO : LtG prog w A s κ kd) (hkd : kindOf st = kd) (hkey : Keyd κ key) (hks : ∀ q∈arr.toList,Keyd κ q)
  (hz : base + n≤arr.size) (hn : hint < n) (hU : Up κ arr base (base + n))
  (h : ∀ m,m≤n→(∀ i,i < m→bey κ left key arr base i = true)→(∀ i,m≤i→i < n→bey κ left key arr base i = false)→Q (some m) st) : wpS (model prog w) A E s (zi7 left key arr base n hint) Q st:=by
 have anti : ∀ i j,i≤j→j < n→bey κ left key arr base j = true→bey κ left key arr base i = true:=by
  intro i j hij hj
  have hle:=hU (base + i) (base + j) (by omega) (by omega) (by omega)
  unfold bey
  cases left with
  | true=>
   simp only [if_true]
   intro e
   exact KeyOrd.klt_of_kle_of_klt hle e
  | false=>
   simp only [yaU,if_false]
   intro e
   cases z : κ.blt (ky κ key) (kAt κ arr (base + i)) with
   | false=>rfl
   | true=>
    have : κ.blt (ky κ key) (kAt κ arr (base + j)) = true:=KeyOrd.klt_of_klt_of_kle z hle
    rw [this] at e
    cases e
 have hb : ∀ i (R : Option Bool→SortSt→Prop),i < n→R (some (bey κ left key arr base i)) st→wpS (model prog w) A E s (do
   let x ← elem' arr (base + i)
   if left = true then lt' x key else do
    let r ← lt' key x
    pure (Option.map (fun b=>!b) r)) R st:=fun i R hi hR=>by
  have hi' : base + i < arr.size:=by omega
  refine wpS_bind (za9 hi' ?_)
  have hkx : Keyd κ arr[base + i]:=hks _ (by simp)
  unfold bey at hR
  rw [zba hi'] at hR
  cases left with
  | true=>
   rw [if_pos rfl] at hR ⊢
   exact lt_G hO hkd hkx hkey hR
  | false=>
   rw [if_neg (by decide)] at hR ⊢
   exact wpS_bind (lt_G hO hkd hkey hkx (wpS_pure hR))
 refine wpS_bind (hb hint _ hn ?_)
 dsimp only
 generalize bey κ left key arr base = p at *
 cases e0 : p hint with
 | true=>
  simp only [if_true]
  refine wpS_bind (znf (p:=p) hn e0 (fun x l o ho=>?_) (fun x l o R ho r1 r2=>?_) fun l o a1 a2 a3 a4=>?_)
  ·dsimp only
   rw [if_pos ho]
  ·dsimp only
   rw [if_neg (by omega)]
   refine wpS_bind (hb (hint + o) _ (by omega) ?_)
   dsimp only
   cases e : p (hint + o) with
   | true=>exact wpS_pure (r1 e)
   | false=>exact wpS_pure (r2 e)
  ·dsimp only
   refine zjr (p:=p) anti (by omega) (by omega) (fun i hi=>anti i (hint + l) (by omega) a2 a3) (fun i q1 q2=>?_) (fun x l r hge=>?_) (fun x l r R q1 q2 r1 r2=>?_) (fun _ _=>rfl) h
   ·by_cases ho : o < n - hint
    ·cases z : p i with
     | false=>rfl
     | true=>
      have:=anti (hint + o) i (by omega) q2 z
      rw [a4 ho] at this
      cases this
    ·exact absurd q2 (by omega)
   ·dsimp only
    rw [if_pos hge]
   ·dsimp only
    rw [if_neg (by omega)]
    refine wpS_bind (hb _ _ (by omega) ?_)
    dsimp only
    cases e : p (l + (r - l) / 2) with
    | true=>exact wpS_pure (r1 e)
    | false=>exact wpS_pure (r2 e)
 | false=>
  simp only [yaU,if_false]
  refine wpS_bind (zoT (p:=p) hn e0 (fun x l o ho=>?_) (fun x l o R ho r1 r2=>?_) fun l o a1 a2 a3 a4=>?_)
  ·dsimp only
   rw [if_pos ho]
  ·dsimp only
   rw [if_neg (by omega)]
   refine wpS_bind (hb (hint - o) _ (by omega) ?_)
   dsimp only
   cases e : p (hint - o) with
   | true=>exact wpS_pure (r2 e)
   | false=>exact wpS_pure (r1 e)
  ·dsimp only
   refine zjr (p:=p) anti (by omega) (by omega) (fun i hi=>?_) (fun i q1 q2=>?_) (fun x l r hge=>?_) (fun x l r R q1 q2 r1 r2=>?_) (fun _ _=>rfl) h
   ·by_cases ho : o < hint + 1
    ·exact anti i (hint - o) (by omega) (by omega) (a4 ho)
    ·exact absurd hi (by omega)
   ·cases z : p i with
    | false=>rfl
    | true=>
     have:=anti (hint - l) i (by omega) q2 z
     rw [a3] at this
     cases this
   ·dsimp only
    rw [if_pos hge]
   ·dsimp only
    rw [if_neg (by omega)]
    refine wpS_bind (hb _ _ (by omega) ?_)
    dsimp only
    cases e : p (l + (r - l) / 2) with
    | true=>exact wpS_pure (r1 e)
    | false=>exact wpS_pure (r2 e)
end
end Tim
namespace Tim
open PySem PyProof.Rows
set_option autoImplicit false
section
variable {κ : KeyKind}
def le (κ : KeyKind) (x y : Keyed) : Prop:=κ.kle (ky κ x) (ky κ y)
theorem le_refl (x : Keyed) : le κ x x:=KeyOrd.kle_refl _
theorem le_trans {x y z : Keyed} (h1 : le κ x y) (h2 : le κ y z) : le κ x z:=KeyOrd.kle_trans h1 h2
abbrev SL (κ : KeyKind) (l : List Keyed) : Prop:=l.Pairwise (le κ)
theorem SL.drop {l : List Keyed} (h : SL κ l) (n : Nat) : SL κ (l.drop n):=h.sublist (List.drop_sublist n l)
theorem SL.take {l : List Keyed} (h : SL κ l) (n : Nat) : SL κ (l.take n):=h.sublist (List.take_sublist n l)
theorem ze1 {xs : Array Keyed} {i : Nat} (h : i < xs.size) : xs.toList.drop i = xs[i] :: xs.toList.drop (i + 1):=by
 have h' : i < xs.toList.length:=by simpa using h
 rw [ybU h']
 simp
theorem zdw {xs : Array Keyed} {i : Nat} (hs : SL κ xs.toList) (h : i < xs.size) : ∀ y∈xs.toList.drop i,le κ xs[i] y:=by
 intro y hy
 have q:=hs.drop i
 rw [ze1 h] at q hy
 rcases yap.mp hy with rfl | hy
 ·exact le_refl _
 ·exact (List.pairwise_cons.mp q).1 y hy
theorem zeo {xs : Array Keyed} {i k : Nat} {x : Keyed} (h : x∈(xs.toList.drop i).take k) : ∃ j,j < k∧i + j < xs.size∧xs[i + j]? = some x:=by
 obtain ⟨j,hj,e⟩:=List.mem_iff_getElem.mp h
 have hj':=hj
 rw [yak,yaT,yav] at hj'
 refine ⟨j,by omega,by omega,?_⟩
 rw [List.getElem_take,List.getElem_drop] at e
 rw [ybb (by omega)]
 simpa using e
theorem zc3 {xs : Array Keyed} {i : Nat} {x : Keyed} (h : xs[i]? = some x) : kAt κ xs i = ky κ x:=by
 unfold kAt
 rw [h]
theorem zg3 {xs : Array Keyed} (hs : SL κ xs.toList) (lo hi : Nat) (hh : hi≤xs.size) : Up κ xs lo hi:=by
 intro i j h1 h2 h3
 have hj : j < xs.size:=by omega
 have hi : i < xs.size:=by omega
 rw [zba hi,zba hj]
 refine zdw hs hi _ ?_
 rw [List.mem_iff_getElem]
 refine ⟨j - i,by rw [yaT,yav]; omega,?_⟩
 rw [List.getElem_drop]
 simp [show i + (j - i) = j by omega]
theorem zpB {xs : Array Keyed} (h : Up κ xs 0 xs.size) : SL κ xs.toList:=by
 rw [SL,yaO]
 intro i j hi hj hij
 have hi' : i < xs.size:=by simpa using hi
 have hj' : j < xs.size:=by simpa using hj
 have:=h i j (yaD _) (by omega) hj'
 rw [zba hi',zba hj'] at this
 simpa [le] using this
structure MI (κ : KeyKind) (a b : Array Keyed) (out : Array Keyed) (ia ib : Nat) : Prop where
 perm : (out.toList ++ (a.toList.drop ia ++ b.toList.drop ib)).Perm (a.toList ++ b.toList)
 srt : SL κ out.toList
 low : ∀ x∈out.toList,∀ y∈a.toList.drop ia ++ b.toList.drop ib,le κ x y
variable {a b out : Array Keyed} {ia ib : Nat}
theorem MI.goA {out' : Array Keyed} {k : Nat} (h : MI κ a b out ia ib) (sa : SL κ a.toList) (ho : out'.toList = out.toList ++ (a.toList.drop ia).take k) (hle : ∀ x∈(a.toList.drop ia).take k,∀ y∈b.toList.drop ib,le κ x y) : MI κ a b out' (ia + k) ib:=by
 have e : a.toList.drop ia = (a.toList.drop ia).take k ++ a.toList.drop (ia + k):=by
  rw [← yca,yaZ]
 have s1:=sa.drop ia
 rw [e] at s1
 obtain ⟨p1,p2,p3⟩:=yaM.mp s1
 refine ⟨?_,?_,?_⟩
 ·have q:=h.perm
  rw [e] at q
  rw [ho]
  simpa [yaP] using q
 ·rw [ho]
  exact yaM.mpr ⟨h.srt,p1,fun x hx y hy=>h.low x hx y (ya4 _ (ybH hy))⟩
 ·intro x hx y hy
  rw [ho] at hx
  rcases yan.mp hx with hx | hx
  ·refine h.low x hx y ?_
   rcases yan.mp hy with hy | hy
   ·refine ya4 _ ?_
    rw [e]
    exact yax _ hy
   ·exact yax _ hy
  ·rcases yan.mp hy with hy | hy
   ·exact p3 x hx y hy
   ·exact hle x hx y hy
theorem MI.goB {out' : Array Keyed} {k : Nat} (h : MI κ a b out ia ib) (sb : SL κ b.toList) (ho : out'.toList = out.toList ++ (b.toList.drop ib).take k) (hle : ∀ x∈(b.toList.drop ib).take k,∀ y∈a.toList.drop ia,le κ x y) : MI κ a b out' ia (ib + k):=by
 have e : b.toList.drop ib = (b.toList.drop ib).take k ++ b.toList.drop (ib + k):=by
  rw [← yca,yaZ]
 have s1:=sb.drop ib
 rw [e] at s1
 obtain ⟨p1,p2,p3⟩:=yaM.mp s1
 refine ⟨?_,?_,?_⟩
 ·have q:=h.perm
  rw [e] at q
  rw [ho]
  refine List.Perm.trans ?_ q
  rw [yaP]
  refine List.Perm.append_left _ ?_
  rw [← yaP,← yaP]
  exact List.Perm.append_right _ ycb
 ·rw [ho]
  exact yaM.mpr ⟨h.srt,p1,fun x hx y hy=>h.low x hx y (yax _ (ybH hy))⟩
 ·intro x hx y hy
  rw [ho] at hx
  rcases yan.mp hx with hx | hx
  ·refine h.low x hx y ?_
   rcases yan.mp hy with hy | hy
   ·exact ya4 _ hy
   ·refine yax _ ?_
    rw [e]
    exact yax _ hy
  ·rcases yan.mp hy with hy | hy
   ·exact hle x hx y hy
   ·exact p3 x hx y hy
theorem zen {xs : Array Keyed} {i : Nat} (h : i < xs.size) : (xs.toList.drop i).take 1 = [xs[i]]:=by
 rw [ze1 h]
 rfl
theorem MI.pa (h : MI κ a b out ia ib) (sa : SL κ a.toList) (hia : ia < a.size) (hle : ∀ y∈b.toList.drop ib,le κ a[ia] y) : MI κ a b (out.push a[ia]) (ia + 1) ib:=
 h.goA (k:=1) sa (by rw [zen hia,ybV]) (by
  rw [zen hia]
  intro x hx
  rw [yao.mp hx]
  exact hle)
theorem MI.pb (h : MI κ a b out ia ib) (sb : SL κ b.toList) (hib : ib < b.size) (hle : ∀ y∈a.toList.drop ia,le κ b[ib] y) : MI κ a b (out.push b[ib]) ia (ib + 1):=
 h.goB (k:=1) sb (by rw [zen hib,ybV]) (by
  rw [zen hib]
  intro x hx
  rw [yao.mp hx]
  exact hle)
structure zbX (κ : KeyKind) (a b m : Array Keyed) : Prop where
 perm : m.toList.Perm (a.toList ++ b.toList)
 srt : SL κ m.toList
theorem zfm {xs : Array Keyed} {i k : Nat} : (xs.extract i (i + k)).toList = (xs.toList.drop i).take k:=by
 rw [ycc,ycd,Nat.add_sub_cancel_left]
theorem zfn {xs : Array Keyed} {i : Nat} : (xs.extract i xs.size).toList = xs.toList.drop i:=by
 rw [ycc,ycd]
 exact yaq (by rw [yaT,yav]; exact yaa _)
theorem MI.done (h : MI κ a b out ia ib) (sa : SL κ a.toList) (hib : b.size≤ib) : zbX κ a b (out ++ a.extract ia a.size ++ b.extract ib b.size):=by
 have e : b.toList.drop ib = []:=ya0 (by rw [yav]; exact hib)
 have e2 : (out ++ a.extract ia a.size ++ b.extract ib b.size).toList = out.toList ++ (a.toList.drop ia ++ b.toList.drop ib):=by
  rw [yaQ,yaQ,zfn,zfn,yaP]
 refine ⟨by rw [e2]; exact h.perm,?_⟩
 rw [e2,e,yaE]
 refine yaM.mpr ⟨h.srt,sa.drop ia,fun x hx y hy=>h.low x hx y (ya4 _ hy)⟩
theorem MI.doneA (h : MI κ a b out ia ib) (sb : SL κ b.toList) (hia : a.size≤ia) : zbX κ a b (out ++ a.extract ia a.size ++ b.extract ib b.size):=by
 have e : a.toList.drop ia = []:=ya0 (by rw [yav]; exact hia)
 have e2 : (out ++ a.extract ia a.size ++ b.extract ib b.size).toList = out.toList ++ (a.toList.drop ia ++ b.toList.drop ib):=by
  rw [yaQ,yaQ,zfn,zfn,yaP]
 refine ⟨by rw [e2]; exact h.perm,?_⟩
 rw [e2,e,ybW]
 refine yaM.mpr ⟨h.srt,sb.drop ib,fun x hx y hy=>h.low x hx y (yax _ hy)⟩
theorem MI.last (h : MI κ a b out ia ib) (sa : SL κ a.toList) (sb : SL κ b.toList) (hl : ∀ y∈b.toList,∀ x∈a.toList.drop ia,le κ y x) : zbX κ a b (out ++ b.extract ib b.size ++ a.extract ia a.size):=by
 have e2 : (out ++ b.extract ib b.size ++ a.extract ia a.size).toList = out.toList ++ (b.toList.drop ib ++ a.toList.drop ia):=by
  rw [yaQ,yaQ,zfn,zfn,yaP]
 refine ⟨?_,?_⟩
 ·rw [e2]
  exact (List.Perm.append_left _ ycb).trans h.perm
 ·rw [e2]
  refine yaM.mpr ⟨h.srt,yaM.mpr ⟨sb.drop ib,sa.drop ia,fun x hx y hy=>hl x (ybX hx) y hy⟩,fun x hx y hy=>h.low x hx y ?_⟩
  rcases yan.mp hy with q | q
  ·exact yax _ q
  ·exact ya4 _ q
end
end Tim
namespace Tim
open PySem PyProof.Rows
set_option autoImplicit false
def zj6 : Array Keyed→Array Keyed→StateT SortSt Sem (Array Keyed):=sortPriv% PySem.Builtin.mergeLo
def zkF : Nat→StateT SortSt Sem Unit:=sortPriv% PySem.Builtin.setMinGallop
structure SG (st st' : SortSt) : Prop where
 kind : kindOf st' = kindOf st
 arr : arrOf st' = arrOf st
 pend : pendingOf st' = pendingOf st
 failed : failedOf st' = failedOf st
theorem SG.refl (st : SortSt) : SG st st:=⟨rfl,rfl,rfl,rfl⟩
theorem SG.trans {s1 s2 s3 : SortSt} (h : SG s1 s2) (g : SG s2 s3) : SG s1 s3:=⟨g.kind.trans h.kind,g.arr.trans h.arr,g.pend.trans h.pend,g.failed.trans h.failed⟩
section
variable {prog : Program} {w : World} {A : Around} {E : Value→Shared→Prop} {s : Shared} {κ : KeyKind} {kd : SortKind}
theorem zcn {g : Nat} {st st0 : SortSt} {Q : Unit→SortSt→Prop} (hg : SG st0 st) (h : ∀ st',SG st0 st'→Q () st') : wpS (model prog w) A E s (zkF g) Q st:=by
 refine wpS_modify (h _ (hg.trans ⟨rfl,rfl,rfl,rfl⟩))
theorem mp2 {P g : Prop} (k : P) (m : P→g) : g:=m k
set_option maxHeartbeats 4000000 in
theorem zkw {st : SortSt} {a b : Array Keyed} {Q : Array Keyed→SortSt→Prop} (hO : LtG prog w A s κ kd) (hkd : kindOf st = kd) (ka : ∀ q∈a.toList,Keyd κ q) (kb : ∀ q∈b.toList,Keyd κ q) (sa : SL κ a.toList) (sb : SL κ b.toList)
  (ha : 0 < a.size) (hb : 0 < b.size) (h0 : ∀ y∈a.toList,le κ b[0] y) (hl : ∀ y∈b.toList,∀ i,i + 1 = a.size→∀ x∈a.toList.drop i,le κ y x)
  (h : ∀ m st',zbX κ a b m→SG st st'→Q m st') : wpS (model prog w) A E s (zj6 a b) Q st:=by
 have m0 : MI κ a b #[b[0]] 0 1:=by
  have z : MI κ a b #[] 0 0:=⟨by simp,by simp,by simp⟩
  have:=z.pb sb hb (by simpa using h0)
  simpa using this
 refine wpS_bind (zcO ?_)
 dsimp only
 refine wpS_bind (za9 hb ?_)
 by_cases e1 : 1 = b.size
 ·rw [if_pos (by simpa using e1)]
  exact wpS_pure (h _ _ (m0.done sa (by omega)) (SG.refl st))
 rw [if_neg (by simpa using e1)]
 by_cases e2 : 0 + 1 = a.size
 ·rw [if_pos (by simpa using e2)]
  exact wpS_pure (h _ _ (m0.last sa sb (fun y hy x hx=>hl y hy 0 e2 x hx)) (SG.refl st))
 rw [if_neg (by simpa using e2)]
 refine wpS_bind (wpS_get ?_)
 refine wpS_bind (wpS_mono (wpS_forRange (I:=fun i c st'=>SG st st'∧∃ out ia ib g,c = (none,out,ia,ib,g)∧MI κ a b out ia ib∧ia + 1 < a.size∧ib < b.size∧i + 1≤ia + ib)
  (Q:=fun c st'=>SG st st'∧∃ m r,c = (some m,r)∧zbX κ a b m) ?step ?fin ⟨SG.refl st,_,0,1,_,rfl,m0,by omega,by omega,by omega⟩) ?post)
 case post=>
  rintro c st' ⟨g,m,r,rfl,hm⟩
  exact wpS_pure (h m st' hm g)
 case fin=>
  rintro c st' ⟨g,out,ia,ib,gg,rfl,hm,q1,q2,q3⟩
  exact absurd q3 (by omega)
 case step=>
  rintro i c st1 _ hi ⟨g1,out,ia,ib,gg,rfl,hm,q1,q2,q3⟩
  dsimp only
  refine wpS_bind (wpS_mono (wpS_forRange (I:=fun x c st'=>st' = st1∧∃ out' ia' ib' ca cb,c = (none,out',ia',ib',ca,cb)∧MI κ a b out' ia' ib'∧ia' + 1 < a.size∧ib' < b.size∧ia + ib + x≤ia' + ib')
   (Q:=fun c st'=>st' = st1∧((∃ m r,c = (some m,r)∧zbX κ a b m)∨∃ out' ia' ib' ca cb,c = (none,out',ia',ib',ca,cb)∧MI κ a b out' ia' ib'∧ia' + 1 < a.size∧ib' < b.size∧ia + ib + 1≤ia' + ib')) ?istep ?ifin ⟨rfl,out,ia,ib,0,0,rfl,hm,q1,q2,by omega⟩) ?ipost)
  case ifin=>
   rintro c st' ⟨rfl,out',ia',ib',ca,cb,rfl,hm',r1,r2,r3⟩
   exact ⟨rfl,.inr ⟨out',ia',ib',ca,cb,rfl,hm',r1,r2,by omega⟩⟩
  case istep=>
   rintro x c st' _ hx ⟨rfl,out',ia',ib',ca,cb,rfl,hm',r1,r2,r3⟩
   dsimp only
   refine wpS_bind (za9 r2 (wpS_bind (za9 (show ia' < a.size by omega) (wpS_bind (lt_G hO (by rw [g1.kind]; exact hkd) (kb _ (by simp)) (ka _ (by simp)) ?_)))))
   dsimp only
   cases e : κ.blt (ky κ b[ib']) (ky κ (a[ia']'(by omega))) with
   | true=>
    simp only [if_true]
    have hm2:=hm'.pb sb r2 (fun y hy=>le_trans (show le κ b[ib'] (a[ia']'(by omega)) from KeyOrd.kle_of_klt e) (zdw sa (by omega) y hy))
    refine wpS_bind (za9 r2 ?_)
    by_cases z : ib' + 1 = b.size
    ·rw [if_pos (by simpa using z)]
     exact wpS_pure ⟨rfl,.inl ⟨_,_,rfl,hm2.done sa (by omega)⟩⟩
    ·rw [if_neg (by simpa using z)]
     split
     ·exact wpS_pure ⟨rfl,.inr ⟨_,_,_,_,_,rfl,hm2,by omega,by omega,by omega⟩⟩
     ·exact wpS_pure ⟨rfl,_,_,_,_,_,rfl,hm2,by omega,by omega,by omega⟩
   | false=>
    simp only [yaU,if_false]
    have hm2:=hm'.pa sa (show ia' < a.size by omega) (fun y hy=>le_trans (show le κ (a[ia']'(by omega)) b[ib'] from e) (zdw sb r2 y hy))
    refine wpS_bind (za9 (show ia' < a.size by omega) ?_)
    by_cases z : ia' + 1 + 1 = a.size
    ·rw [if_pos (by simpa using z)]
     exact wpS_pure ⟨rfl,.inl ⟨_,_,rfl,hm2.last sa sb (fun y hy x hx=>hl y hy _ z x hx)⟩⟩
    ·rw [if_neg (by simpa using z)]
     split
     ·exact wpS_pure ⟨rfl,.inr ⟨_,_,_,_,_,rfl,hm2,by omega,by omega,by omega⟩⟩
     ·exact wpS_pure ⟨rfl,_,_,_,_,_,rfl,hm2,by omega,by omega,by omega⟩
  case ipost=>
   rintro c st' ⟨rfl,⟨m,r,rfl,hmm⟩ | ⟨out,ia',ib',ca,cb,rfl,hm,q1,q2,q4⟩⟩
   ·exact wpS_pure ⟨g1,m,_,rfl,hmm⟩
   dsimp only
   refine wpS_bind (zcO ?_)
   refine wpS_bind (wpS_mono (wpS_forRange (I:=fun x c st''=>SG st st''∧∃ out1 ia1 ib1 gg ca cb,c = (none,out1,ia1,ib1,gg,ca,cb)∧MI κ a b out1 ia1 ib1∧ia1 + 1 < a.size∧ib1 < b.size∧ia + ib + 1≤ia1 + ib1)
    (Q:=fun c st''=>SG st st''∧((∃ m r,c = (some m,r)∧zbX κ a b m)∨∃ out1 ia1 ib1 gg ca cb,c = (none,out1,ia1,ib1,gg,ca,cb)∧MI κ a b out1 ia1 ib1∧ia1 + 1 < a.size∧ib1 < b.size∧ia + ib + 1≤ia1 + ib1)) ?jstep ?jfin ⟨g1,_,_,_,_,_,_,rfl,hm,q1,q2,q4⟩) ?jpost)
   case jfin=>
    rintro c st'' ⟨g2,out1,ia1,ib1,gg1,ca1,cb1,rfl,r⟩
    exact ⟨g2,.inr ⟨_,_,_,_,_,_,rfl,r⟩⟩
   case jpost=>
    rintro c st'' ⟨g2,⟨m,r,rfl,hmm⟩ | ⟨out1,ia1,ib1,gg1,ca1,cb1,rfl,hm1,t1,t2,t3⟩⟩
    ·exact wpS_pure ⟨g2,m,_,rfl,hmm⟩
    ·dsimp only
     exact wpS_bind (zcn g2 fun st3 g3=>wpS_pure ⟨g3,_,_,_,_,rfl,hm1,t1,t2,by omega⟩)
   case jstep=>
    rintro x c st'' _ hx ⟨g2,out1,ia1,ib1,gg1,ca1,cb1,rfl,hm1,t1,t2,t3⟩
    dsimp only
    apply mp2
    case m=>
     intro key
     by_cases hg : gg1 > 1
     ·rw [if_pos hg]
      generalize gg1 - 1 = gg2
      revert gg2
      exact key
     ·rw [if_neg hg]
      generalize gg1 = gg2
      revert gg2
      exact key
    intro gg2
    refine wpS_bind (zcn g2 fun st3 g3=>?_)
    refine wpS_bind (za9 t2 (wpS_bind (zcE hO (by rw [g3.kind]; exact hkd) (kb _ (by simp)) ka (by omega) (by omega) (zg3 sa _ _ (by omega)) fun k k1 k2 k3=>?_)))
    dsimp only
    have hmk : MI κ a b (out1 ++ a.extract ia1 (ia1 + k)) (ia1 + k) ib1:=hm1.goA sa (by rw [yaQ,zfm]) fun x hx y hy=>by
     obtain ⟨j,j1,j2,j3⟩:=zeo hx
     have q:=k2 j j1
     unfold bey at q
     rw [if_neg (by decide),zc3 j3,ybp] at q
     exact le_trans (show le κ x b[ib1] from q) (zdw sb t2 y hy)
    have bk : ∀ hq : ia1 + k < a.size,∀ y∈a.toList.drop (ia1 + k),le κ b[ib1] y:=fun hq y hy=>by
     have q:=k3 k (yaa _) (by omega)
     unfold bey at q
     rw [if_neg (by decide),zba hq,ycw] at q
     exact le_trans (show le κ b[ib1] a[ia1 + k] from KeyOrd.kle_of_klt q) (zdw sa hq y hy)
    apply mp2
    case m=>
     by_cases hk : k > 0
     ·by_cases z : ia1 + k + 1 = a.size
      ·intro h
       clear h
       rw [if_pos hk,if_pos (by simpa using z)]
       exact wpS_pure ⟨g3,.inl ⟨_,_,rfl,hmk.last sa sb (fun y hy x hx=>hl y hy _ z x hx)⟩⟩
      have z0 : ¬(ia1 + k + 1 == a.size) = true:=by simpa using z
      by_cases z' : ia1 + k = a.size
      ·intro h
       clear h
       rw [if_pos hk,if_neg z0,if_pos (by simpa using z')]
       exact wpS_pure ⟨g3,.inl ⟨_,_,rfl,hmk.doneA sb (by omega)⟩⟩
      have z1 : ¬(ia1 + k == a.size) = true:=by simpa using z'
      have u2:=bk (by omega)
      have w1 : ia1 + k + 1 < a.size:=by omega
      have w3 : ia + ib + 1≤ia1 + k + ib1:=by omega
      intro key
      rw [if_pos hk,if_neg z0,if_neg z1]
      refine (?_ : MI κ a b (out1 ++ a.extract ia1 (ia1 + k)) (ia1 + k) ib1→(∀ y∈a.toList.drop (ia1 + k),le κ (b[ib1]'t2) y)→ia1 + k + 1 < a.size→ia + ib + 1≤ia1 + k + ib1→_) hmk u2 w1 w3
      generalize out1 ++ a.extract ia1 (ia1 + k) = out2
      generalize ia1 + k = ja
      generalize k = cnt
      revert out2 ja cnt
      exact key
     ·have e0 : k = 0:=by omega
      have u2:=bk (by omega)
      rw [e0,ybq] at u2
      intro key
      rw [if_neg hk]
      refine (?_ : MI κ a b out1 ia1 ib1→(∀ y∈a.toList.drop ia1,le κ (b[ib1]'t2) y)→ia1 + 1 < a.size→ia + ib + 1≤ia1 + ib1→_) hm1 u2 t1 t3
      generalize k = cnt
      generalize ia1 = ja
      generalize out1 = out2
      exact key out2 ja cnt
    intro out2 ja cnt hm2 u2 w1 w3
    refine wpS_bind (za9 t2 ?_)
    have hm3:=hm2.pb sb t2 u2
    by_cases z2 : ib1 + 1 = b.size
    ·rw [if_pos (by simpa using z2)]
     exact wpS_pure ⟨g3,.inl ⟨_,_,rfl,hm3.done sa (by omega)⟩⟩
    ·rw [if_neg (by simpa using z2)]
     refine wpS_bind (za9 (show ja < a.size by omega) (wpS_bind (zcE hO (by rw [g3.kind]; exact hkd) (ka _ (by simp)) kb (by omega) (by omega) (zg3 sb _ _ (by omega)) fun k' c1 c2 c3=>?_)))
     dsimp only
     have ge5 : ∀ hq : ib1 + 1 + k' < b.size,le κ (a[ja]'(by omega)) b[ib1 + 1 + k']:=fun hq=>by
      have q:=c3 k' (yaa _) (by omega)
      unfold bey at q
      rw [if_pos rfl,zba hq] at q
      exact q
     have hm4 : MI κ a b (out2.push b[ib1] ++ b.extract (ib1 + 1) (ib1 + 1 + k')) ja (ib1 + 1 + k'):=hm3.goB sb (by rw [yaQ (ys:=b.extract (ib1 + 1) (ib1 + 1 + k')),zfm (xs:=b)]) fun x hx y hy=>by
      obtain ⟨j,j1,j2,j3⟩:=zeo hx
      have q:=c2 j j1
      unfold bey at q
      rw [if_pos rfl,zc3 j3] at q
      exact le_trans (show le κ x (a[ja]'(by omega)) from KeyOrd.kle_of_klt q) (zdw sa (by omega) y hy)
     by_cases hk' : k' > 0
     ·rw [if_pos hk']
      by_cases z3 : ib1 + 1 + k' = b.size
      ·rw [if_pos (by simpa using z3)]
       exact wpS_pure ⟨g3,.inl ⟨_,_,rfl,hm4.done sa (by omega)⟩⟩
      ·rw [if_neg (by simpa using z3)]
       refine wpS_bind (za9 (show ja < a.size by omega) ?_)
       have hm5:=hm4.pa sa (show ja < a.size by omega) fun y hy=>le_trans (show le κ (a[ja]'(by omega)) (b[ib1 + 1 + k']'(by omega)) from ge5 (by omega)) (zdw sb (by omega) y hy)
       by_cases z4 : ja + 1 + 1 = a.size
       ·rw [if_pos (by simpa using z4)]
        exact wpS_pure ⟨g3,.inl ⟨_,_,rfl,hm5.last sa sb (fun y hy x hx=>hl y hy _ z4 x hx)⟩⟩
       ·rw [if_neg (by simpa using z4)]
        split
        ·exact wpS_pure ⟨g3,.inr ⟨_,_,_,_,_,_,rfl,hm5,by omega,by omega,by omega⟩⟩
        ·exact wpS_pure ⟨g3,_,_,_,_,_,_,rfl,hm5,by omega,by omega,by omega⟩
     ·rw [if_neg hk']
      have e0 : k' = 0:=by omega
      subst e0
      replace hm4:=hm3
      refine wpS_bind (za9 (show ja < a.size by omega) ?_)
      have hm5:=hm4.pa sa (show ja < a.size by omega) fun y hy=>le_trans (show le κ (a[ja]'(by omega)) (b[ib1 + 1]'(by omega)) from ge5 (by omega)) (zdw sb (by omega) y hy)
      by_cases z4 : ja + 1 + 1 = a.size
      ·rw [if_pos (by simpa using z4)]
       exact wpS_pure ⟨g3,.inl ⟨_,_,rfl,hm5.last sa sb (fun y hy x hx=>hl y hy _ z4 x hx)⟩⟩
      ·rw [if_neg (by simpa using z4)]
       split
       ·exact wpS_pure ⟨g3,.inr ⟨_,_,_,_,_,_,rfl,hm5,by omega,by omega,by omega⟩⟩
       ·exact wpS_pure ⟨g3,_,_,_,_,_,_,rfl,hm5,by omega,by omega,by omega⟩
end
end Tim
namespace Tim
open PySem PyProof.Rows
set_option autoImplicit false
section
variable {κ : KeyKind} {a b out : Array Keyed} {na nb : Nat}
structure MH (κ : KeyKind) (a b : Array Keyed) (out : Array Keyed) (na nb : Nat) : Prop where
 perm : ((a.toList.take na ++ b.toList.take nb) ++ out.toList.reverse).Perm (a.toList ++ b.toList)
 srt : SL κ out.toList.reverse
 high : ∀ x∈out.toList.reverse,∀ y∈a.toList.take na ++ b.toList.take nb,le κ y x
theorem zfa {l : List Keyed} {n m : Nat} (h : n≤m) : l.take m = l.take n ++ (l.take m).drop n:=by
 have e : (l.take m).take n = l.take n:=by rw [List.take_take,ybz h]
 rw [← e,yaZ]
theorem MH.goA {out' : Array Keyed} {n : Nat} (h : MH κ a b out na nb) (sa : SL κ a.toList) (hn : n≤na) (ho : out'.toList.reverse = (a.toList.take na).drop n ++ out.toList.reverse) (hle : ∀ x∈(a.toList.take na).drop n,∀ y∈b.toList.take nb,le κ y x) : MH κ a b out' n nb:=by
 have e:=zfa (l:=a.toList) hn
 have s1:=sa.take na
 rw [e] at s1
 obtain ⟨p1,p2,p3⟩:=yaM.mp s1
 refine ⟨?_,?_,?_⟩
 ·refine List.Perm.trans ?_ h.perm
  rw [ho,e,← yaP]
  refine List.Perm.append_right _ ?_
  rw [yaP,yaP,← e]
  exact List.Perm.append_left _ ycb
 ·rw [ho]
  exact yaM.mpr ⟨p2,h.srt,fun x hx y hy=>h.high y hy x (ya4 _ (ybX hx))⟩
 ·intro x hx y hy
  rw [ho] at hx
  rcases yan.mp hx with hx | hx
  ·rcases yan.mp hy with hy | hy
   ·exact p3 y hy x hx
   ·exact hle x hx y hy
  ·refine h.high x hx y ?_
   rcases yan.mp hy with hy | hy
   ·refine ya4 _ ?_
    rw [e]
    exact ya4 _ hy
   ·exact yax _ hy
theorem MH.goB {out' : Array Keyed} {n : Nat} (h : MH κ a b out na nb) (sb : SL κ b.toList) (hn : n≤nb) (ho : out'.toList.reverse = (b.toList.take nb).drop n ++ out.toList.reverse) (hle : ∀ x∈(b.toList.take nb).drop n,∀ y∈a.toList.take na,le κ y x) : MH κ a b out' na n:=by
 have e:=zfa (l:=b.toList) hn
 have s1:=sb.take nb
 rw [e] at s1
 obtain ⟨p1,p2,p3⟩:=yaM.mp s1
 refine ⟨?_,?_,?_⟩
 ·refine List.Perm.trans (List.Perm.of_eq ?_) h.perm
  rw [ho,← yaP,yaP (a.toList.take na),← e]
 ·rw [ho]
  exact yaM.mpr ⟨p2,h.srt,fun x hx y hy=>h.high y hy x (yax _ (ybX hx))⟩
 ·intro x hx y hy
  rw [ho] at hx
  rcases yan.mp hx with hx | hx
  ·rcases yan.mp hy with hy | hy
   ·exact hle x hx y hy
   ·exact p3 y hy x hx
  ·refine h.high x hx y ?_
   rcases yan.mp hy with hy | hy
   ·exact ya4 _ hy
   ·refine yax _ ?_
    rw [e]
    exact ya4 _ hy
theorem zeW {xs : Array Keyed} {n : Nat} (h0 : 0 < n) (h : n≤xs.size) : (xs.toList.take n).drop (n - 1) = [xs[n - 1]'(by omega)]:=by
 have h' : n - 1 < xs.size:=by omega
 rw [yce,show n - (n - 1) = 1 by omega,ze1 h']
 rfl
theorem zfb {xs : Array Keyed} {n : Nat} (hs : SL κ xs.toList) (h0 : 0 < n) (h : n≤xs.size) : ∀ y∈xs.toList.take n,le κ y (xs[n - 1]'(by omega)):=by
 intro y hy
 have q:=hs.take n
 rw [zfa (l:=xs.toList) (show n - 1≤n by omega),zeW h0 h] at q hy
 rcases yan.mp hy with hy | hy
 ·exact (yaM.mp q).2.2 y hy _ (yao.mpr rfl)
 ·rw [yao.mp hy]
  exact le_refl _
theorem MH.pa (h : MH κ a b out na nb) (sa : SL κ a.toList) (h0 : 0 < na) (hn : na≤a.size) (hle : ∀ y∈b.toList.take nb,le κ y (a[na - 1]'(by omega))) : MH κ a b (out.push (a[na - 1]'(by omega))) (na - 1) nb:=
 h.goA (n:=na - 1) sa (by omega) (by rw [zeW h0 hn,ybV,ycf]; rfl) (by
  rw [zeW h0 hn]
  intro x hx
  rw [yao.mp hx]
  exact hle)
theorem MH.pb (h : MH κ a b out na nb) (sb : SL κ b.toList) (h0 : 0 < nb) (hn : nb≤b.size) (hle : ∀ y∈a.toList.take na,le κ y (b[nb - 1]'(by omega))) : MH κ a b (out.push (b[nb - 1]'(by omega))) na (nb - 1):=
 h.goB (n:=nb - 1) sb (by omega) (by rw [zeW h0 hn,ybV,ycf]; rfl) (by
  rw [zeW h0 hn]
  intro x hx
  rw [yao.mp hx]
  exact hle)
theorem zdY {xs : Array Keyed} {n : Nat} : (xs.extract 0 n).toList = xs.toList.take n:=by
 rw [ycc,ycd,List.drop_zero,Nat.sub_zero]
theorem zmO {xs : Array Keyed} {n m : Nat} : (xs.extract n m).toList = (xs.toList.take m).drop n:=by
 rw [ycc,ycd,yce]
theorem MH.done (h : MH κ a b out na nb) (sb : SL κ b.toList) (hna : na = 0) : zbX κ a b (a.extract 0 na ++ b.extract 0 nb ++ out.reverse):=by
 have e2 : (a.extract 0 na ++ b.extract 0 nb ++ out.reverse).toList = (a.toList.take na ++ b.toList.take nb) ++ out.toList.reverse:=by
  rw [yaQ,yaQ,zdY,zdY,ybY]
 refine ⟨by rw [e2]; exact h.perm,?_⟩
 rw [e2]
 subst hna
 refine yaM.mpr ⟨?_,h.srt,fun x hx y hy=>h.high y hy x hx⟩
 rw [ybA,ybW]
 exact sb.take nb
theorem MH.doneB (h : MH κ a b out na nb) (sa : SL κ a.toList) (hnb : nb = 0) : zbX κ a b (a.extract 0 na ++ b.extract 0 nb ++ out.reverse):=by
 have e2 : (a.extract 0 na ++ b.extract 0 nb ++ out.reverse).toList = (a.toList.take na ++ b.toList.take nb) ++ out.toList.reverse:=by
  rw [yaQ,yaQ,zdY,zdY,ybY]
 refine ⟨by rw [e2]; exact h.perm,?_⟩
 rw [e2]
 subst hnb
 refine yaM.mpr ⟨?_,h.srt,fun x hx y hy=>h.high y hy x hx⟩
 rw [ybA,yaE]
 exact sa.take na
theorem MH.first (h : MH κ a b out na nb) (sa : SL κ a.toList) (sb : SL κ b.toList) (hl : ∀ y∈b.toList.take nb,∀ x∈a.toList,le κ y x) : zbX κ a b (b.extract 0 nb ++ a.extract 0 na ++ out.reverse):=by
 have e2 : (b.extract 0 nb ++ a.extract 0 na ++ out.reverse).toList = (b.toList.take nb ++ a.toList.take na) ++ out.toList.reverse:=by
  rw [yaQ,yaQ,zdY,zdY,ybY]
 refine ⟨?_,?_⟩
 ·rw [e2]
  exact (List.Perm.append_right _ ycb).trans h.perm
 ·rw [e2]
  refine yaM.mpr ⟨yaM.mpr ⟨sb.take nb,sa.take na,fun x hx y hy=>hl x hx y (ybH hy)⟩,h.srt,fun x hx y hy=>h.high y hy x ?_⟩
  rcases yan.mp hx with q | q
  ·exact yax _ q
  ·exact ya4 _ q
end
def zj7 : Array Keyed→Array Keyed→StateT SortSt Sem (Array Keyed):=sortPriv% PySem.Builtin.mergeHi
end Tim
namespace Tim
open PySem PyProof.Rows
set_option autoImplicit false
section
variable {prog : Program} {w : World} {A : Around} {E : Value→Shared→Prop} {s : Shared} {κ : KeyKind} {kd : SortKind}
set_option maxHeartbeats 4000000 in
theorem zkx {st : SortSt} {a b : Array Keyed} {Q : Array Keyed→SortSt→Prop} (hO : LtG prog w A s κ kd) (hkd : kindOf st = kd) (ka : ∀ q∈a.toList,Keyd κ q) (kb : ∀ q∈b.toList,Keyd κ q) (sa : SL κ a.toList) (sb : SL κ b.toList)
  (ha : 0 < a.size) (hb : 0 < b.size) (h0 : ∀ y∈a.toList,le κ b[0] y) (hl : ∀ y∈b.toList,le κ y (a[a.size - 1]'(by omega)))
  (h : ∀ m st',zbX κ a b m→SG st st'→Q m st') : wpS (model prog w) A E s (zj7 a b) Q st:=by
 have fst : ∀ n,n≤1→∀ y∈b.toList.take n,∀ x∈a.toList,le κ y x:=fun n hn y hy x hx=>by
  have hy' : y∈b.toList.take 1:=by
   rcases Nat.lt_or_ge n 1 with z | z
   ·rw [show n = 0 by omega] at hy; simp at hy
   ·rwa [show n = 1 by omega] at hy
  have e : b.toList.take 1 = [b[0]]:=by
   have:=zen hb
   rwa [List.drop_zero] at this
  rw [e] at hy'
  rw [yao.mp hy']
  exact h0 x hx
 have m0 : MH κ a b #[a[a.size - 1]'(by omega)] (a.size - 1) b.size:=by
  have z : MH κ a b #[] a.size b.size:=⟨by
   rw [yaq (by simp),yaq (by simp)]
   simp,by simp,by simp⟩
  have:=z.pa sa ha (yaa _) (fun y hy=>hl y (ybH hy))
  simpa using this
 refine wpS_bind (zcO ?_)
 dsimp only
 refine wpS_bind (za9 (show a.size - 1 < a.size by omega) ?_)
 by_cases e1 : a.size - 1 = 0
 ·rw [if_pos (by simpa using e1)]
  exact wpS_pure (h _ _ (m0.done sb e1) (SG.refl st))
 rw [if_neg (by simpa using e1)]
 by_cases e2 : b.size = 1
 ·rw [if_pos (by simpa using e2)]
  exact wpS_pure (h _ _ (m0.first sa sb (fst _ (by omega))) (SG.refl st))
 rw [if_neg (by simpa using e2)]
 refine wpS_bind (wpS_get ?_)
 refine wpS_bind (wpS_mono (wpS_forRange (I:=fun i c st'=>SG st st'∧∃ na nb out g,c = (none,na,nb,out,g)∧MH κ a b out na nb∧0 < na∧na≤a.size∧1 < nb∧nb≤b.size∧i + 1 + (na + nb)≤a.size + b.size)
  (Q:=fun c st'=>SG st st'∧∃ m r,c = (some m,r)∧zbX κ a b m) ?step ?fin ⟨SG.refl st,_,_,_,_,rfl,m0,by omega,by omega,by omega,by omega,by omega⟩) ?post)
 case post=>
  rintro c st' ⟨g,m,r,rfl,hm⟩
  exact wpS_pure (h m st' hm g)
 case fin=>
  rintro c st' ⟨g,na,nb,out,gg,rfl,hm,q1,q2,q3,q4,q5⟩
  exact absurd q5 (by omega)
 case step=>
  rintro i c st1 _ hi ⟨g1,na,nb,out,gg,rfl,hm,q1,q2,q3,q4,q5⟩
  dsimp only
  refine wpS_bind (wpS_mono (wpS_forRange (I:=fun x c st'=>st' = st1∧∃ na' nb' out' ca cb,c = (none,na',nb',out',ca,cb)∧MH κ a b out' na' nb'∧0 < na'∧na'≤a.size∧1 < nb'∧nb'≤b.size∧x + (na' + nb')≤na + nb)
   (Q:=fun c st'=>st' = st1∧((∃ m r,c = (some m,r)∧zbX κ a b m)∨∃ na' nb' out' ca cb,c = (none,na',nb',out',ca,cb)∧MH κ a b out' na' nb'∧0 < na'∧na'≤a.size∧1 < nb'∧nb'≤b.size∧1 + (na' + nb')≤na + nb)) ?istep ?ifin ⟨rfl,na,nb,out,0,0,rfl,hm,q1,q2,q3,q4,by omega⟩) ?ipost)
  case ifin=>
   rintro c st' ⟨rfl,na',nb',out',ca,cb,rfl,hm',r1,r2,r3,r4,r5⟩
   exact ⟨rfl,.inr ⟨_,_,_,ca,cb,rfl,hm',r1,r2,r3,r4,by omega⟩⟩
  case istep=>
   rintro x c st' _ hx ⟨rfl,na',nb',out',ca,cb,rfl,hm',r1,r2,r3,r4,r5⟩
   dsimp only
   refine wpS_bind (za9 (show nb' - 1 < b.size by omega) (wpS_bind (za9 (show na' - 1 < a.size by omega) (wpS_bind (lt_G hO (by rw [g1.kind]; exact hkd) (kb _ (by simp)) (ka _ (by simp)) ?_)))))
   dsimp only
   cases e : κ.blt (ky κ (b[nb' - 1]'(by omega))) (ky κ (a[na' - 1]'(by omega))) with
   | true=>
    simp only [if_true]
    have hm2:=hm'.pa sa r1 r2 (fun y hy=>le_trans (zfb sb (by omega) r4 y hy) (show le κ (b[nb' - 1]'(by omega)) (a[na' - 1]'(by omega)) from KeyOrd.kle_of_klt e))
    refine wpS_bind (za9 (show na' - 1 < a.size by omega) ?_)
    by_cases z : na' - 1 = 0
    ·rw [if_pos (by simpa using z)]
     exact wpS_pure ⟨rfl,.inl ⟨_,_,rfl,hm2.done sb z⟩⟩
    ·rw [if_neg (by simpa using z)]
     split
     ·exact wpS_pure ⟨rfl,.inr ⟨_,_,_,_,_,rfl,hm2,by omega,by omega,by omega,by omega,by omega⟩⟩
     ·exact wpS_pure ⟨rfl,_,_,_,_,_,rfl,hm2,by omega,by omega,by omega,by omega,by omega⟩
   | false=>
    simp only [yaU,if_false]
    have hm2:=hm'.pb sb (by omega) r4 (fun y hy=>le_trans (zfb sa r1 r2 y hy) (show le κ (a[na' - 1]'(by omega)) (b[nb' - 1]'(by omega)) from e))
    refine wpS_bind (za9 (show nb' - 1 < b.size by omega) ?_)
    by_cases z : nb' - 1 = 1
    ·rw [if_pos (by simpa using z)]
     exact wpS_pure ⟨rfl,.inl ⟨_,_,rfl,hm2.first sa sb (fst _ (by omega))⟩⟩
    ·rw [if_neg (by simpa using z)]
     split
     ·exact wpS_pure ⟨rfl,.inr ⟨_,_,_,_,_,rfl,hm2,by omega,by omega,by omega,by omega,by omega⟩⟩
     ·exact wpS_pure ⟨rfl,_,_,_,_,_,rfl,hm2,by omega,by omega,by omega,by omega,by omega⟩
  case ipost=>
   rintro c st' ⟨rfl,⟨m,r,rfl,hmm⟩ | ⟨na',nb',out,ca,cb,rfl,hm,q1,q2,q3,q4,q6⟩⟩
   ·exact wpS_pure ⟨g1,m,_,rfl,hmm⟩
   dsimp only
   refine wpS_bind (zcO ?_)
   refine wpS_bind (wpS_mono (wpS_forRange (I:=fun x c st''=>SG st st''∧∃ na1 nb1 out1 gg ca cb,c = (none,na1,nb1,out1,gg,ca,cb)∧MH κ a b out1 na1 nb1∧0 < na1∧na1≤a.size∧1 < nb1∧nb1≤b.size∧1 + (na1 + nb1)≤na + nb)
    (Q:=fun c st''=>SG st st''∧((∃ m r,c = (some m,r)∧zbX κ a b m)∨∃ na1 nb1 out1 gg ca cb,c = (none,na1,nb1,out1,gg,ca,cb)∧MH κ a b out1 na1 nb1∧0 < na1∧na1≤a.size∧1 < nb1∧nb1≤b.size∧1 + (na1 + nb1)≤na + nb)) ?jstep ?jfin ⟨g1,_,_,_,_,_,_,rfl,hm,q1,q2,q3,q4,q6⟩) ?jpost)
   case jfin=>
    rintro c st'' ⟨g2,na1,nb1,out1,gg1,ca1,cb1,rfl,r⟩
    exact ⟨g2,.inr ⟨_,_,_,_,_,_,rfl,r⟩⟩
   case jpost=>
    rintro c st'' ⟨g2,⟨m,r,rfl,hmm⟩ | ⟨na1,nb1,out1,gg1,ca1,cb1,rfl,hm1,t1,t2,t3,t4,t5⟩⟩
    ·exact wpS_pure ⟨g2,m,_,rfl,hmm⟩
    ·dsimp only
     exact wpS_bind (zcn g2 fun st3 g3=>wpS_pure ⟨g3,_,_,_,_,rfl,hm1,t1,t2,t3,t4,by omega⟩)
   case jstep=>
    rintro x c st'' _ hx ⟨g2,na1,nb1,out1,gg1,ca1,cb1,rfl,hm1,t1,t2,t3,t4,t5⟩
    dsimp only
    apply mp2
    case m=>
     intro key
     by_cases hg : gg1 > 1
     ·rw [if_pos hg]
      generalize gg1 - 1 = gg2
      revert gg2
      exact key
     ·rw [if_neg hg]
      generalize gg1 = gg2
      revert gg2
      exact key
    intro gg2
    refine wpS_bind (zcn g2 fun st3 g3=>?_)
    refine wpS_bind (za9 (show nb1 - 1 < b.size by omega) (wpS_bind (zcE hO (by rw [g3.kind]; exact hkd) (kb _ (by simp)) ka (by omega) (by omega) (zg3 sa _ _ (by omega)) fun at0 k1 k2 k3=>?_)))
    dsimp only
    have hmk : MH κ a b (out1 ++ (a.extract at0 na1).reverse) at0 nb1:=hm1.goA sa k1 (by
     rw [yaQ,ycf,ybY,ycx,zmO]) fun x hx y hy=>by
     rw [yce] at hx
     obtain ⟨j,j1,j2,j3⟩:=zeo hx
     have q:=k3 (at0 + j) (by omega) (by omega)
     unfold bey at q
     rw [if_neg (by decide),ybr,zc3 j3,ycw] at q
     exact le_trans (zfb sb (by omega) t4 y hy) (show le κ (b[nb1 - 1]'(by omega)) x from KeyOrd.kle_of_klt q)
    have hnb : nb1 - 1 < b.size:=by omega
    have bk : ∀ y∈a.toList.take at0,le κ y (b[nb1 - 1]'hnb):=fun y hy=>by
     have hy' : y∈(a.toList.drop 0).take at0:=by rw [List.drop_zero]; exact hy
     obtain ⟨j,j1,j2,j3⟩:=zeo hy'
     have q:=k2 j j1
     unfold bey at q
     rw [if_neg (by decide),zc3 j3,ybp] at q
     exact q
    apply mp2
    case m=>
     by_cases hk : na1 - at0 > 0
     ·by_cases z : at0 = 0
      ·intro h
       clear h
       rw [if_pos hk,if_pos (by simpa using z)]
       exact wpS_pure ⟨g3,.inl ⟨_,_,rfl,hmk.done sb z⟩⟩
      have w1 : 0 < at0:=by omega
      have w2 : at0≤a.size:=by omega
      have w3 : 1 + (at0 + nb1)≤na + nb:=by omega
      have z0 : ¬(at0 == 0) = true:=by simpa using z
      intro key
      rw [if_pos hk,if_neg z0]
      refine (?_ : MH κ a b (out1 ++ (a.extract at0 na1).reverse) at0 nb1→(∀ y∈a.toList.take at0,le κ y (b[nb1 - 1]'hnb))→0 < at0→at0≤a.size→1 + (at0 + nb1)≤na + nb→_) hmk bk w1 w2 w3
      generalize out1 ++ (a.extract at0 na1).reverse = out2
      generalize na1 - at0 = cnt
      generalize at0 = na2
      revert out2 cnt na2
      exact key
     ·have e0 : at0 = na1:=by omega
      rw [e0] at bk
      intro key
      rw [if_neg hk]
      refine (?_ : MH κ a b out1 na1 nb1→(∀ y∈a.toList.take na1,le κ y (b[nb1 - 1]'hnb))→0 < na1→na1≤a.size→1 + (na1 + nb1)≤na + nb→_) hm1 bk t1 t2 t5
      generalize na1 - at0 = cnt
      generalize na1 = na2
      generalize out1 = out2
      exact key out2 cnt na2
    intro out2 cnt na2 hm2 u2 w1 w2 w3
    refine wpS_bind (za9 (show nb1 - 1 < b.size by omega) ?_)
    have hm3:=hm2.pb sb (by omega) (by omega) u2
    by_cases z2 : nb1 - 1 = 1
    ·rw [if_pos (by simpa using z2)]
     exact wpS_pure ⟨g3,.inl ⟨_,_,rfl,hm3.first sa sb (fst _ (by omega))⟩⟩
    ·rw [if_neg (by simpa using z2)]
     refine wpS_bind (za9 (show na2 - 1 < a.size by omega) (wpS_bind (zcE hO (by rw [g3.kind]; exact hkd) (ka _ (by simp)) kb (by omega) (by omega) (zg3 sb _ _ (by omega)) fun at' c1 c2 c3=>?_)))
     dsimp only
     have lt5 : ∀ hq : 0 < at',le κ (b[at' - 1]'(by omega)) (a[na2 - 1]'(by omega)):=fun hq=>by
      have q:=c2 (at' - 1) (by omega)
      unfold bey at q
      rw [if_pos rfl,ybr,zba (by omega)] at q
      exact KeyOrd.kle_of_klt q
     have hm4 : MH κ a b (out2.push (b[nb1 - 1]'(by omega)) ++ (b.extract at' (nb1 - 1)).reverse) na2 at':=hm3.goB sb c1 (by
      rw [yaQ (ys:=(b.extract at' (nb1 - 1)).reverse),ycf,ybY,ycx,zmO]) fun x hx y hy=>by
      rw [yce] at hx
      obtain ⟨j,j1,j2,j3⟩:=zeo hx
      have q:=c3 (at' + j) (by omega) (by omega)
      unfold bey at q
      rw [if_pos rfl,ybr,zc3 j3] at q
      exact le_trans (zfb sa (by omega) (by omega) y hy) (show le κ (a[na2 - 1]'(by omega)) x from q)
     by_cases hk' : nb1 - 1 - at' > 0
     ·rw [if_pos hk']
      by_cases z3 : at' = 1
      ·rw [if_pos (by simpa using z3)]
       exact wpS_pure ⟨g3,.inl ⟨_,_,rfl,hm4.first sa sb (fst _ (by omega))⟩⟩
      rw [if_neg (by simpa using z3)]
      by_cases z3' : at' = 0
      ·rw [if_pos (by simpa using z3')]
       exact wpS_pure ⟨g3,.inl ⟨_,_,rfl,hm4.doneB sa z3'⟩⟩
      rw [if_neg (by simpa using z3')]
      refine wpS_bind (za9 (show na2 - 1 < a.size by omega) ?_)
      have hm5:=hm4.pa sa (by omega) (by omega) fun y hy=>le_trans (zfb sb (by omega) (by omega) y hy) (lt5 (by omega))
      by_cases z4 : na2 - 1 = 0
      ·rw [if_pos (by simpa using z4)]
       exact wpS_pure ⟨g3,.inl ⟨_,_,rfl,hm5.done sb z4⟩⟩
      ·rw [if_neg (by simpa using z4)]
       split
       ·exact wpS_pure ⟨g3,.inr ⟨_,_,_,_,_,_,rfl,hm5,by omega,by omega,by omega,by omega,by omega⟩⟩
       ·exact wpS_pure ⟨g3,_,_,_,_,_,_,rfl,hm5,by omega,by omega,by omega,by omega,by omega⟩
     ·rw [if_neg hk']
      have e0 : at' = nb1 - 1:=by omega
      subst e0
      replace hm4:=hm3
      refine wpS_bind (za9 (show na2 - 1 < a.size by omega) ?_)
      have hm5:=hm4.pa sa (by omega) (by omega) fun y hy=>le_trans (zfb sb (by omega) (by omega) y hy) (lt5 (by omega))
      by_cases z4 : na2 - 1 = 0
      ·rw [if_pos (by simpa using z4)]
       exact wpS_pure ⟨g3,.inl ⟨_,_,rfl,hm5.done sb z4⟩⟩
      ·rw [if_neg (by simpa using z4)]
       split
       ·exact wpS_pure ⟨g3,.inr ⟨_,_,_,_,_,_,rfl,hm5,by omega,by omega,by omega,by omega,by omega⟩⟩
       ·exact wpS_pure ⟨g3,_,_,_,_,_,_,rfl,hm5,by omega,by omega,by omega,by omega,by omega⟩
end
end Tim
namespace Tim
open PySem PyProof.Rows
set_option autoImplicit false
section
variable {κ : KeyKind}
def seg (xs : Array Keyed) (lo n : Nat) : List Keyed:=(xs.toList.drop lo).take n
theorem zfZ {xs : Array Keyed} {lo n i : Nat} (h : lo + n≤xs.size) (hi : i < n) : (seg xs lo n)[i]? = xs[lo + i]?:=by
 unfold seg
 rw [ybI,if_pos hi,ybZ,ybc]
theorem zb8 {xs : Array Keyed} {lo n : Nat} (h : lo + n≤xs.size) : (seg xs lo n).length = n:=by
 unfold seg
 rw [yak,yaT,yav]
 omega
theorem zoz {xs : Array Keyed} {lo n : Nat} (h : lo + n≤xs.size) (hU : Up κ xs lo (lo + n)) : SL κ (seg xs lo n):=by
 rw [SL,yaO]
 intro i j hi hj hij
 have hi':=hi
 have hj':=hj
 rw [zb8 h] at hi' hj'
 have e1 : (seg xs lo n)[i] = xs[lo + i]'(by omega):=by
  have:=zfZ h hi'
  rw [yac hi,ybb (by omega)] at this
  exact yae this
 have e2 : (seg xs lo n)[j] = xs[lo + j]'(by omega):=by
  have:=zfZ h hj'
  rw [yac hj,ybb (by omega)] at this
  exact yae this
 rw [e1,e2]
 have:=hU (lo + i) (lo + j) (by omega) (by omega) (by omega)
 rw [zba (by omega),zba (by omega)] at this
 exact this
theorem zkG {xs : Array Keyed} {lo n m : Nat} : seg xs lo (n + m) = seg xs lo n ++ seg xs (lo + n) m:=by
 unfold seg
 rw [List.take_add,yca]
theorem zha {xs : Array Keyed} {lo n : Nat} : (xs.extract lo (lo + n)).toList = seg xs lo n:=zfm
theorem zlO {xs : Array Keyed} {lo n : Nat} (h : lo + n≤xs.size) : xs.toList = xs.toList.take lo ++ (seg xs lo n ++ xs.toList.drop (lo + n)):=by
 unfold seg
 rw [← yca,yaZ,yaZ]
def back (xs : Array Keyed) (lo : Nat) (m : Array Keyed) : Array Keyed:=m.toList.zipIdx.foldl (fun a (q : Keyed×Nat)=>a.setIfInBounds (lo + q.2) q.1) xs
theorem zjk (lo : Nat) : ∀ (l : List Keyed) (k : Nat) (xs : Array Keyed),lo + k + l.length≤xs.size→∀ i : Nat,
  ((l.zipIdx k).foldl (fun a (q : Keyed×Nat)=>a.setIfInBounds (lo + q.2) q.1) xs)[i]? = if lo + k≤i∧i < lo + k + l.length then l[i - (lo + k)]? else xs[i]?
 | [],k,xs,h,i=>by
  rw [if_neg (by simp only [ybx]; omega)]
  rfl
 | x :: l,k,xs,h,i=>by
  rw [yaN] at h
  rw [List.zipIdx_cons,List.foldl_cons,zjk lo l (k + 1) (xs.setIfInBounds (lo + k) x) (by rw [Array.size_setIfInBounds]; omega) i,yaN]
  by_cases h1 : lo + (k + 1)≤i∧i < lo + (k + 1) + l.length
  ·rw [if_pos h1,if_pos (by omega),show i - (lo + k) = (i - (lo + (k + 1))) + 1 by omega,ycg]
  ·rw [if_neg h1,Array.getElem?_setIfInBounds]
   by_cases h2 : lo + k = i
   ·rw [if_pos h2,if_pos (by omega),if_pos (by omega)]
    subst h2
    simp
   ·rw [if_neg h2,if_neg (by omega)]
theorem zm8 {xs m : Array Keyed} {lo : Nat} (h : lo + m.size≤xs.size) : (back xs lo m).toList = xs.toList.take lo ++ (m.toList ++ xs.toList.drop (lo + m.size)):=by
 apply ybi
 intro i
 have q:=zjk lo m.toList 0 xs (by rw [yav]; omega) i
 unfold back
 rw [ybc,q,yav,ybq]
 have l1 : (xs.toList.take lo).length = lo:=by rw [yak,yav]; omega
 by_cases h1 : i < lo
 ·rw [if_neg (by omega),ybh (by rw [l1]; exact h1),ybI,if_pos h1,ybc]
 ·rw [yaY (by rw [l1]; omega),l1]
  by_cases h2 : i < lo + m.size
  ·rw [if_pos (by omega),ybh (by rw [yav]; omega)]
  ·rw [if_neg (by omega),yaY (by rw [yav]; omega),yav,ybZ,show lo + m.size + (i - lo - m.size) = i by omega,ybc]
theorem ze6 {xs m : Array Keyed} {lo : Nat} (h : lo + m.size≤xs.size) (i : Nat) : (back xs lo m)[i]? = if lo≤i∧i < lo + m.size then m[i - lo]? else xs[i]?:=by
 have q:=zjk lo m.toList 0 xs (by rw [yav]; omega) i
 rw [yav,ybq,ybc] at q
 exact q
theorem zg9 {xs : Array Keyed} {lo n : Nat} {p : Keyed} (h : lo + n≤xs.size) (hp : p∈seg xs lo n) : ∃ q,lo≤q∧q < lo + n∧xs[q]? = some p:=by
 obtain ⟨i,hi,e⟩:=yaV hp
 have hi':=hi
 rw [zb8 h] at hi'
 refine ⟨lo + i,by omega,by omega,?_⟩
 rw [← zfZ h hi',yac hi,e]
theorem zkV {xs m : Array Keyed} {sa na nb k nb' : Nat} (hz : sa + na + nb≤xs.size) (ua : Up κ xs sa (sa + na)) (ub : Up κ xs (sa + na) (sa + na + nb)) (hk : k < na) (hnb : nb'≤nb) (hb0 : 0 < nb')
  (k2 : ∀ i,i < k→κ.kle (kAt κ xs (sa + i)) (kAt κ xs (sa + na))) (c3 : ∀ i,nb'≤i→i < nb→κ.kle (kAt κ xs (sa + na - 1)) (kAt κ xs (sa + na + i)))
  (hm : zbX κ (xs.extract (sa + k) (sa + na)) (xs.extract (sa + na) (sa + na + nb')) m) :
  Off xs (back xs (sa + k) m) sa (sa + (na + nb))∧Up κ (back xs (sa + k) m) sa (sa + (na + nb)):=by
 have ex : (xs.extract (sa + k) (sa + na)).toList = seg xs (sa + k) (na - k):=by
  have:=zha (xs:=xs) (lo:=sa + k) (n:=na - k)
  rwa [show sa + k + (na - k) = sa + na by omega] at this
 have ey : (xs.extract (sa + na) (sa + na + nb')).toList = seg xs (sa + na) nb':=zha
 have hp:=hm.perm
 rw [ex,ey] at hp
 have ms : m.size = na - k + nb':=by
  have:=hp.length_eq
  rw [yav,yah,zb8 (by omega),zb8 (by omega)] at this
  exact this
 have hzm : sa + k + m.size≤xs.size:=by omega
 have bl:=zm8 hzm
 have mid : seg xs (sa + k) m.size = seg xs (sa + k) (na - k) ++ seg xs (sa + na) nb':=by
  rw [ms,zkG,show sa + k + (na - k) = sa + na by omega]
 have perm : (back xs (sa + k) m).toList.Perm xs.toList:=by
  have e:=zlO hzm
  rw [mid] at e
  refine (List.Perm.of_eq bl).trans (List.Perm.trans ?_ (List.Perm.of_eq e.symm))
  exact List.Perm.append_left _ (List.Perm.append_right _ hp)
 have inm : ∀ i,sa + k≤i→i < sa + k + m.size→∃ q,sa + k≤q∧q < sa + na + nb'∧kAt κ (back xs (sa + k) m) i = kAt κ xs q:=by
  intro i h1 h2
  have g:=ze6 hzm i
  rw [if_pos ⟨h1,h2⟩,ybb (show i - (sa + k) < m.size by omega)] at g
  have hmem : m[i - (sa + k)]'(by omega)∈m.toList:=by simp
  rcases yan.mp (hp.mem_iff.mp hmem) with z | z
  ·obtain ⟨q,q1,q2,e⟩:=zg9 (by omega) z
   exact ⟨q,q1,by omega,zbr (g.trans e.symm)⟩
  ·obtain ⟨q,q1,q2,e⟩:=zg9 (by omega) z
   exact ⟨q,by omega,q2,zbr (g.trans e.symm)⟩
 have outm : ∀ i,(i < sa + k∨sa + k + m.size≤i)→kAt κ (back xs (sa + k) m) i = kAt κ xs i:=fun i h=>zbr (by rw [ze6 hzm,if_neg (by omega)])
 have am : ∀ i q,sa≤i→i < sa + k→sa + k≤q→q < sa + na + nb→κ.kle (kAt κ xs i) (kAt κ xs q):=fun i q h1 h2 h3 h4=>by
  by_cases z : q < sa + na
  ·exact ua i q h1 (by omega) z
  ·have t:=k2 (i - sa) (by omega)
   rw [show sa + (i - sa) = i by omega] at t
   exact KeyOrd.kle_trans t (ub _ q (yaa _) (by omega) h4)
 have mc : ∀ q j,sa + k≤q→q < sa + na + nb'→sa + na + nb'≤j→j < sa + na + nb→κ.kle (kAt κ xs q) (kAt κ xs j):=fun q j h1 h2 h3 h4=>by
  by_cases z : q < sa + na
  ·have t:=c3 (j - (sa + na)) (by omega) (by omega)
   rw [show sa + na + (j - (sa + na)) = j by omega] at t
   exact KeyOrd.kle_trans (ua q (sa + na - 1) (by omega) (by omega) (by omega)) t
  ·exact ub q j (by omega) (by omega) h4
 refine ⟨⟨ycv.mpr perm,fun i hi=>by rw [ze6 hzm,if_neg (by omega)]⟩,fun i j h1 h2 h3=>?_⟩
 by_cases i1 : i < sa + k
 ·rw [outm i (.inl i1)]
  by_cases j1 : j < sa + k
  ·rw [outm j (.inl j1)]; exact ua i j h1 h2 (by omega)
  ·by_cases j2 : j < sa + k + m.size
   ·obtain ⟨q,q1,q2,e⟩:=inm j (by omega) j2
    rw [e]; exact am i q h1 i1 q1 (by omega)
   ·rw [outm j (.inr (by omega))]; exact am i j h1 i1 (by omega) (by omega)
 ·by_cases i2 : i < sa + k + m.size
  ·by_cases j2 : j < sa + k + m.size
   ·by_cases e : i = j
    ·subst e; exact KeyOrd.kle_refl _
    ·have gi:=ze6 hzm i
     have gj:=ze6 hzm j
     rw [if_pos ⟨by omega,i2⟩] at gi
     rw [if_pos ⟨by omega,j2⟩] at gj
     rw [zbr gi,zbr gj,zba (show i - (sa + k) < m.size by omega),zba (show j - (sa + k) < m.size by omega)]
     have:=yaO.mp hm.srt (i - (sa + k)) (j - (sa + k)) (by rw [yav]; omega) (by rw [yav]; omega) (by omega)
     simpa [le] using this
   ·obtain ⟨q,q1,q2,e⟩:=inm i (by omega) i2
    rw [e,outm j (.inr (by omega))]; exact mc q j q1 q2 (by omega) (by omega)
  ·rw [outm i (.inr (by omega)),outm j (.inr (by omega))]; exact ub i j (by omega) h2 (by omega)
theorem zlk {xs : Array Keyed} {sa na nb : Nat} (ua : Up κ xs sa (sa + na)) (ub : Up κ xs (sa + na) (sa + na + nb)) (hna : 0 < na) (hle : κ.kle (kAt κ xs (sa + na - 1)) (kAt κ xs (sa + na))) : Up κ xs sa (sa + (na + nb)):=by
 intro i j h1 h2 h3
 by_cases z : j < sa + na
 ·exact ua i j h1 h2 z
 ·by_cases y : i < sa + na
  ·exact KeyOrd.kle_trans (ua i (sa + na - 1) h1 (by omega) (by omega)) (KeyOrd.kle_trans hle (ub (sa + na) j (yaa _) (by omega) (by omega)))
  ·exact ub i j (by omega) h2 (by omega)
end
end Tim
namespace Tim
open PySem PyProof.Rows
set_option autoImplicit false
theorem zi0 (i : Nat) : mergeAt' i = (do
 let s ← get
 let (some (sa,na,power),some (sb,nb,_)):=((pendingOf s)[i]?,(pendingOf s)[i + 1]?) | unsupported "internal:list.sort.pending"
 set (setPending s (((pendingOf s).setIfInBounds i (sa,na + nb,power)).eraseIdxIfInBounds (i + 1)))
 let some k ← zi7 false (← elem' (arrOf s) sb) (arrOf s) sa na 0 | return false
 let (sa,na):=(sa + k,na - k)
 if na == 0 then return true
 let some nb ← zi7 true (← elem' (arrOf s) (sa + na - 1)) (arrOf s) sb nb (nb - 1) | return false
 if nb == 0 then return true
 let x:=(arrOf s).extract sa sb
 let y:=(arrOf s).extract sb (sb + nb)
 let merged ← if na≤nb then zj6 x y else zj7 x y
 modify fun s=>setArr s (merged.toList.zipIdx.foldl (fun a (p,j)=>a.setIfInBounds (sa + j) p) (arrOf s))
 return (failedOf (← get)).isNone):=rfl
section
variable {prog : Program} {w : World} {A : Around} {E : Value→Shared→Prop} {s : Shared} {κ : KeyKind} {kd : SortKind}
theorem zoU {σ : Type} {x : σ} {Q : PUnit→σ→Prop} {st : σ} (h : Q ⟨⟩ x) : wpS (model prog w) A E s (set x : StateT σ Sem PUnit) Q st:=by
 unfold wpS; rw [StateT.run_set]; exact wpAny_pure ⟨rfl,h⟩
set_option maxHeartbeats 4000000 in
theorem zky {st : SortSt} {N i sa na pa nb pb : Nat} {Q : Bool→SortSt→Prop} (hO : LtG prog w A s κ kd) (hB : TB κ kd N st)
  (h1 : (pendingOf st)[i]? = some (sa,na,pa)) (h2 : (pendingOf st)[i + 1]? = some (sa + na,nb,pb)) (hna : 0 < na) (hnb : 0 < nb) (hz : sa + na + nb≤N)
  (ua : Up κ (arrOf st) sa (sa + na)) (ub : Up κ (arrOf st) (sa + na) (sa + na + nb))
  (h : ∀ st',TB κ kd N st'→Off (arrOf st) (arrOf st') sa (sa + (na + nb))→Up κ (arrOf st') sa (sa + (na + nb))→pendingOf st' = ((pendingOf st).setIfInBounds i (sa,na + nb,pa)).eraseIdxIfInBounds (i + 1)→Q true st') :
  wpS (model prog w) A E s (mergeAt' i) Q st:=by
 have hsz:=hB.size
 rw [zi0]
 refine wpS_bind (wpS_get ?_)
 rw [h1,h2]
 dsimp only
 refine wpS_bind (zoU ?_)
 generalize hp : ((pendingOf st).setIfInBounds i (sa,na + nb,pa)).eraseIdxIfInBounds (i + 1) = pend at h
 have same : ∀ st',SG (setPending st pend) st'→TB κ kd N st'∧arrOf st' = arrOf st∧pendingOf st' = pend:=fun st' g=>by
  have ga : arrOf st' = arrOf st:=g.arr
  refine ⟨⟨g.kind.trans hB.kind,by rw [ga]; exact hB.keys,g.failed.trans hB.failed,by rw [ga]; exact hB.size⟩,ga,g.pend⟩
 obtain ⟨B0,_,_⟩:=same _ (SG.refl _)
 have hbz : sa + na < (arrOf st).size:=by omega
 refine wpS_bind (za9 hbz ?_)
 refine wpS_bind (zcE hO B0.kind (hB.keys _ (by simp)) hB.keys (by omega) hna ua fun k k1 k2 k3=>?_)
 dsimp only
 have kk : kAt κ (arrOf st) (sa + na) = ky κ (arrOf st)[sa + na]:=zba hbz
 have k2' : ∀ i,i < k→κ.kle (kAt κ (arrOf st) (sa + i)) (kAt κ (arrOf st) (sa + na)):=fun i hi=>by
  have:=k2 i hi
  unfold bey at this
  simp only [yaU,if_false,ybp] at this
  rw [kk]
  exact this
 have k3' : ∀ i,k≤i→i < na→κ.klt (kAt κ (arrOf st) (sa + na)) (kAt κ (arrOf st) (sa + i)):=fun i hi hj=>by
  have:=k3 i hi hj
  unfold bey at this
  simp only [yaU,if_false,ycw] at this
  rw [kk]
  exact this
 by_cases e1 : na - k = 0
 ·rw [if_pos (by simpa using e1)]
  obtain ⟨b1,b2,b3⟩:=same _ (SG.refl _)
  refine wpS_pure (h _ b1 (by rw [b2]; exact Off.refl _ _ _) ?_ b3)
  rw [b2]
  refine zlk ua ub hna ?_
  have:=k2' (na - 1) (by omega)
  rwa [show sa + (na - 1) = sa + na - 1 by omega] at this
 rw [if_neg (by simpa using e1)]
 have e2 : sa + k + (na - k) - 1 = sa + na - 1:=by omega
 have hlz : sa + k + (na - k) - 1 < (arrOf st).size:=by omega
 refine wpS_bind (za9 hlz ?_)
 refine wpS_bind (zcE hO B0.kind (hB.keys _ (by simp)) hB.keys (by omega) (by omega) ub fun c c1 c2 c3=>?_)
 dsimp only
 have ck : ky κ ((arrOf st)[sa + k + (na - k) - 1]'hlz) = kAt κ (arrOf st) (sa + na - 1):=by
  rw [← zba hlz,e2]
 have c2' : ∀ i,i < c→κ.klt (kAt κ (arrOf st) (sa + na + i)) (kAt κ (arrOf st) (sa + na - 1)):=fun i hi=>by
  have:=c2 i hi
  unfold bey at this
  simp only [if_true] at this
  rw [← ck]
  exact this
 have c3' : ∀ i,c≤i→i < nb→κ.kle (kAt κ (arrOf st) (sa + na - 1)) (kAt κ (arrOf st) (sa + na + i)):=fun i hi hj=>by
  have:=c3 i hi hj
  unfold bey at this
  simp only [if_true] at this
  rw [← ck]
  exact this
 by_cases e3 : c = 0
 ·rw [if_pos (by simpa using e3)]
  obtain ⟨b1,b2,b3⟩:=same _ (SG.refl _)
  refine wpS_pure (h _ b1 (by rw [b2]; exact Off.refl _ _ _) ?_ b3)
  rw [b2]
  exact zlk ua ub hna (c3' 0 (by omega) hnb)
 rw [if_neg (by simpa using e3)]
 generalize hX : (arrOf st).extract (sa + k) (sa + na) = X
 generalize hY : (arrOf st).extract (sa + na) (sa + na + c) = Y
 have xl : X.toList = seg (arrOf st) (sa + k) (na - k):=by
  have:=zha (xs:=arrOf st) (lo:=sa + k) (n:=na - k)
  rw [← hX]
  rwa [show sa + k + (na - k) = sa + na by omega] at this
 have yl : Y.toList = seg (arrOf st) (sa + na) c:=by rw [← hY]; exact zha
 have xz : X.size = na - k:=by
  have:=congrArg List.length xl
  rwa [yav,zb8 (by omega)] at this
 have yz : Y.size = c:=by
  have:=congrArg List.length yl
  rwa [yav,zb8 (by omega)] at this
 have xg : ∀ i (hi : i < X.size),X[i] = (arrOf st)[sa + k + i]'(by omega):=fun i hi=>by
  have e : X[i]? = (arrOf st)[sa + k + i]?:=by
   rw [← ybc,xl]
   exact zfZ (by omega) (by omega)
  rw [ybb hi,ybb (by omega)] at e
  exact yae e
 have yg : ∀ i (hi : i < Y.size),Y[i] = (arrOf st)[sa + na + i]'(by omega):=fun i hi=>by
  have e : Y[i]? = (arrOf st)[sa + na + i]?:=by
   rw [← ybc,yl]
   exact zfZ (by omega) (by omega)
  rw [ybb hi,ybb (by omega)] at e
  exact yae e
 have xm : ∀ q∈X.toList,∃ i,k≤i∧i < na∧ky κ q = kAt κ (arrOf st) (sa + i)∧q∈(arrOf st).toList:=fun q hq=>by
  rw [xl] at hq
  obtain ⟨j,j1,j2,e⟩:=zg9 (by omega) hq
  refine ⟨j - sa,by omega,by omega,?_,?_⟩
  ·rw [show sa + (j - sa) = j by omega,zc3 e]
  ·rw [← ybc] at e
   exact yaK e
 have ym : ∀ q∈Y.toList,∃ i,i < c∧ky κ q = kAt κ (arrOf st) (sa + na + i)∧q∈(arrOf st).toList:=fun q hq=>by
  rw [yl] at hq
  obtain ⟨j,j1,j2,e⟩:=zg9 (by omega) hq
  refine ⟨j - (sa + na),by omega,?_,?_⟩
  ·rw [show sa + na + (j - (sa + na)) = j by omega,zc3 e]
  ·rw [← ybc] at e
   exact yaK e
 have kX : ∀ q∈X.toList,Keyd κ q:=fun q hq=>by obtain ⟨_,_,_,_,z⟩:=xm q hq; exact hB.keys q z
 have kY : ∀ q∈Y.toList,Keyd κ q:=fun q hq=>by obtain ⟨_,_,_,z⟩:=ym q hq; exact hB.keys q z
 have sX : SL κ X.toList:=by
  rw [xl]
  exact zoz (by omega) (fun i j q1 q2 q3=>ua i j (by omega) q2 (by omega))
 have sY : SL κ Y.toList:=by
  rw [yl]
  exact zoz (by omega) (fun i j q1 q2 q3=>ub i j q1 q2 (by omega))
 have y0 : ∀ (hb : 0 < Y.size),ky κ Y[0] = kAt κ (arrOf st) (sa + na):=fun hb=>by
  rw [yg 0 hb,← zba]
  rfl
 have lo0 : ∀ (hb : 0 < Y.size),∀ q∈X.toList,le κ Y[0] q:=fun hb q hq=>by
  obtain ⟨i,i1,i2,e,_⟩:=xm q hq
  unfold le
  rw [y0 hb,e]
  exact KeyOrd.kle_of_klt (k3' i i1 i2)
 have xlast : ∀ (ha : X.size - 1 < X.size),ky κ X[X.size - 1] = kAt κ (arrOf st) (sa + na - 1):=fun ha=>by
  rw [xg _ ha,← zba]
  congr 1
  omega
 have hi0 : ∀ (ha : X.size - 1 < X.size),∀ q∈Y.toList,le κ q X[X.size - 1]:=fun ha q hq=>by
  obtain ⟨i,i1,e,_⟩:=ym q hq
  unfold le
  rw [xlast ha,e]
  exact KeyOrd.kle_of_klt (c2' i i1)
 have fin : ∀ m st',zbX κ X Y m→SG (setPending st pend) st'→wpS (model prog w) A E s (do
   modify fun s=>setArr s (m.toList.zipIdx.foldl (fun a (q : Keyed×Nat)=>a.setIfInBounds (sa + k + q.2) q.1) (arrOf s))
   return (failedOf (← get)).isNone) Q st':=fun m st' hm g=>by
  obtain ⟨b1,b2,b3⟩:=same _ g
  refine wpS_bind (wpS_modify ?_)
  refine wpS_bind (wpS_get ?_)
  have hf : failedOf (setArr st' (m.toList.zipIdx.foldl (fun a (q : Keyed×Nat)=>a.setIfInBounds (sa + k + q.2) q.1) (arrOf st'))) = none:=b1.failed
  rw [hf]
  rw [← hX,← hY] at hm
  obtain ⟨o1,o2⟩:=zkV (by omega) ua ub (by omega) c1 (by omega) k2' c3' hm
  refine wpS_pure (h _ ?_ ?_ ?_ b3)
  ·refine b1.off (lo:=sa) (hi:=sa + (na + nb)) ?_
   rw [b2]
   exact o1
  ·show Off (arrOf st) (back (arrOf st') (sa + k) m) _ _
   rw [b2]
   exact o1
  ·show Up κ (back (arrOf st') (sa + k) m) _ _
   rw [b2]
   exact o2
 by_cases e4 : na - k≤c
 ·rw [if_pos e4]
  refine wpS_bind ?_
  refine zkw hO B0.kind kX kY sX sY (by omega) (by omega) (lo0 _) ?_ fun m st' hm g=>fin m st' hm g
  intro q hq i hi x hx
  have : x = X[X.size - 1]'(by omega):=by
   rw [show i = X.size - 1 by omega,ze1 (by omega),ya0 (by rw [yav]; omega)] at hx
   exact yao.mp hx
  rw [this]
  exact hi0 _ q hq
 ·rw [if_neg e4]
  refine wpS_bind ?_
  exact zkx hO B0.kind kX kY sX sY (by omega) (by omega) (lo0 _) (hi0 (by omega)) fun m st' hm g=>fin m st' hm g
end
end Tim
namespace Tim
open PySem PyProof.Rows
set_option autoImplicit false
section
variable {κ : KeyKind} {xs ys : Array Keyed}
def Runs (κ : KeyKind) (xs : Array Keyed) : List (Nat×Nat×Nat)→Nat→Nat→Prop
 | [],a,b=>a = b
 | (s,n,_) :: r,a,b=>s = a∧0 < n∧Up κ xs a (a + n)∧Runs κ xs r (a + n) b
theorem Runs.le : ∀ {l : List (Nat×Nat×Nat)} {a b : Nat},Runs κ xs l a b→a + l.length≤b
 | [],_,_,h=>by rw [show _ = _ from h]; simp
 | (s,n,p) :: r,a,b,⟨_,h1,_,h2⟩=>by
  have:=Runs.le h2
  rw [yaN]
  omega
theorem Runs.split : ∀ {l m : List (Nat×Nat×Nat)} {a b : Nat},Runs κ xs (l ++ m) a b→∃ c,Runs κ xs l a c∧Runs κ xs m c b
 | [],m,a,b,h=>⟨a,rfl,h⟩
 | (s,n,p) :: r,m,a,b,⟨h0,h1,h2,h3⟩=>by
  obtain ⟨c,c1,c2⟩:=Runs.split (l:=r) h3
  exact ⟨c,⟨h0,h1,h2,c1⟩,c2⟩
theorem Runs.glue : ∀ {l m : List (Nat×Nat×Nat)} {a b c : Nat},Runs κ xs l a c→Runs κ xs m c b→Runs κ xs (l ++ m) a b
 | [],m,a,b,c,h,g=>by rw [show a = c from h]; exact g
 | (s,n,p) :: r,m,a,b,c,⟨h0,h1,h2,h3⟩,g=>⟨h0,h1,h2,Runs.glue h3 g⟩
theorem Up.off {lo hi a b : Nat} (h : Up κ xs a b) (o : Off xs ys lo hi) (d : b≤lo∨hi≤a) : Up κ ys a b:=fun i j h1 h2 h3=>by
 rw [zi6 o (by omega),zi6 o (by omega)]
 exact h i j h1 h2 h3
theorem Runs.off {lo hi : Nat} (o : Off xs ys lo hi) : ∀ {l : List (Nat×Nat×Nat)} {a b : Nat},Runs κ xs l a b→(b≤lo∨hi≤a)→Runs κ ys l a b
 | [],_,_,h,_=>h
 | (s,n,p) :: r,a,b,⟨h0,h1,h2,h3⟩,d=>by
  have:=Runs.le h3
  exact ⟨h0,h1,h2.off o (by omega),Runs.off o h3 (by omega)⟩
theorem zh4 {α : Type} {x y v : α} {post : List α} : ∀ pre : List α,((pre ++ x :: y :: post).set pre.length v).eraseIdx (pre.length + 1) = pre ++ v :: post
 | []=>rfl
 | p :: pre=>by
  rw [List.cons_append,yaN,List.set_cons_succ,List.eraseIdx_cons_succ,zh4 pre,List.cons_append]
end
section
variable {prog : Program} {w : World} {A : Around} {E : Value→Shared→Prop} {s : Shared} {κ : KeyKind} {kd : SortKind}
structure SI (κ : KeyKind) (kd : SortKind) (a₀ : Array Keyed) (lo : Nat) (st : SortSt) : Prop where
 tb : TB κ kd a₀.size st
 perm : (arrOf st).Perm a₀
 le : lo≤a₀.size
 runs : Runs κ (arrOf st) (pendingOf st).toList 0 lo
theorem zdf {a₀ : Array Keyed} {st : SortSt} {lo i : Nat} {Q : Bool→SortSt→Prop} (hO : LtG prog w A s κ kd) (hI : SI κ kd a₀ lo st) (hi : i + 1 < (pendingOf st).size)
  (h : ∀ st',SI κ kd a₀ lo st'→Off (arrOf st) (arrOf st') 0 lo→(pendingOf st').size + 1 = (pendingOf st).size→Q true st') : wpS (model prog w) A E s (mergeAt' i) Q st:=by
 have hl : (pendingOf st).toList.length = (pendingOf st).size:=yav
 obtain ⟨pre,x,y,post,e,hp⟩ : ∃ pre x y post,(pendingOf st).toList = pre ++ x :: y :: post∧pre.length = i:=by
  refine ⟨(pendingOf st).toList.take i,(pendingOf st).toList[i]'(by omega),(pendingOf st).toList[i + 1]'(by omega),(pendingOf st).toList.drop (i + 2),?_,?_⟩
  ·rw [← ybU,← ybU,yaZ]
  ·rw [yak]
   omega
 obtain ⟨sa,na,pa⟩:=x
 obtain ⟨sb,nb,pb⟩:=y
 have hr:=hI.runs
 rw [e] at hr
 obtain ⟨c,r1,h0,h1,ua,h2,h3,ub,r2⟩:=hr.split
 subst h0 h2
 have l1:=r2.le
 have l0:=hI.le
 have g1 : (pendingOf st)[i]? = some (sa,na,pa):=by
  rw [← ybc,e,← hp]
  simp
 have g2 : (pendingOf st)[i + 1]? = some (sa + na,nb,pb):=by
  rw [← ybc,e,← hp,yaY (by omega),show pre.length + 1 - pre.length = 1 by omega]
  rfl
 refine zky hO hI.tb g1 g2 h1 h3 (by omega) ua ub fun st' b1 b2 b3 b4=>?_
 have e' : (pendingOf st').toList = pre ++ (sa,na + nb,pa) :: post:=by
  rw [b4,Array.toList_eraseIdxIfInBounds,Array.toList_setIfInBounds,e,← hp]
  exact zh4 pre
 refine h st' ⟨b1,b2.perm.trans hI.perm,hI.le,?_⟩ (b2.wide (yaD _) (by omega)) ?_
 ·rw [e']
  refine (r1.off b2 (.inl (yaa _))).glue ⟨rfl,by omega,b3,?_⟩
  have:=r2.off b2 (.inr (by omega))
  rwa [show sa + na + nb = sa + (na + nb) by omega] at this
 ·have z1:=congrArg List.length e
  have z2:=congrArg List.length e'
  rw [yav,yah,yaN] at z1 z2
  rw [yaN] at z1
  omega
end
end Tim
namespace Tim
open PySem PyProof.Rows
set_option autoImplicit false
section
variable {prog : Program} {w : World} {A : Around} {E : Value→Shared→Prop} {s : Shared} {κ : KeyKind} {kd : SortKind}
theorem Runs.modify {xs : Array Keyed} {p : Nat} : ∀ {l : List (Nat×Nat×Nat)} {a b : Nat} (i : Nat),Runs κ xs l a b→Runs κ xs (l.modify i fun x=>(x.fst,x.2.fst,p)) a b
 | [],_,_,i,h=>by
  cases i <;> exact h
 | (s,n,q) :: r,a,b,0,h=>h
 | (s,n,q) :: r,a,b,i + 1,⟨h0,h1,h2,h3⟩=>⟨h0,h1,h2,Runs.modify i h3⟩
theorem SI.setp {a₀ : Array Keyed} {lo hi : Nat} {st : SortSt} {p : Array (Nat×Nat×Nat)} (hI : SI κ kd a₀ lo st) (hz : hi≤a₀.size) (hr : Runs κ (arrOf st) p.toList 0 hi) : SI κ kd a₀ hi (setPending st p):=
 ⟨⟨hI.tb.kind,hI.tb.keys,hI.tb.failed,hI.tb.size⟩,hI.perm,hz,hr⟩
theorem SI.pushed {a₀ : Array Keyed} {st : SortSt} {lo n : Nat} (hI : SI κ kd a₀ lo st) (hn : 0 < n) (hz : lo + n≤a₀.size) (hU : Up κ (arrOf st) lo (lo + n)) : SI κ kd a₀ (lo + n) (setPending st ((pendingOf st).push (lo,n,0))):=by
 refine hI.setp hz ?_
 rw [ybV]
 exact hI.runs.glue ⟨rfl,hn,hU,rfl⟩
theorem SI.marked {a₀ : Array Keyed} {st : SortSt} {lo p : Nat} (hI : SI κ kd a₀ lo st) : SI κ kd a₀ lo (setPending st ((pendingOf st).modify ((pendingOf st).size - 1) fun x=>(x.fst,x.2.fst,p))):=by
 refine hI.setp hI.le ?_
 rw [Array.toList_modify]
 exact hI.runs.modify _
theorem zni {c : Prop} [Decidable c] {n : Nat} (h : 2≤n) : (if c then n - 2 - 1 else n - 2) + 1 < n:=by
 split <;> omega
theorem ziO {a₀ : Array Keyed} {st : SortSt} {Q : Unit→SortSt→Prop} (hO : LtG prog w A s κ kd) (hI : SI κ kd a₀ 0 st) (h2 : 2≤a₀.size)
  (h : ∀ st',(arrOf st').Perm a₀→failedOf st' = none→Up κ (arrOf st') 0 a₀.size→Q () st') : wpS (model prog w) A E s sortRuns' Q st:=by
 rw [sortRuns'_eq]
 refine wpS_bind (wpS_get ?_)
 dsimp only
 simp only [hI.tb.size]
 generalize minRun' a₀.size a₀.size 0 = mr
 refine wpS_bind (wpS_mono (wpS_forRange (I:=fun x c st'=>∃ lo,c = (none,lo)∧x≤lo∧SI κ kd a₀ lo st') (Q:=fun c st'=>c = (none,a₀.size)∧SI κ kd a₀ a₀.size st') ?step ?fin ⟨0,rfl,yaa _,hI⟩) ?post)
 case fin=>
  rintro c st' ⟨lo,rfl,hx,hI'⟩
  have e : lo = a₀.size:=by
   have:=hI'.le
   omega
  subst e
  exact ⟨rfl,hI'⟩
 case step=>
  rintro x c st' _ hx ⟨lo,rfl,hxl,hI'⟩
  have hle:=hI'.le
  dsimp only
  by_cases hlo : lo ≥ a₀.size
  ·rw [if_pos hlo]
   have e : lo = a₀.size:=by omega
   subst e
   exact wpS_pure ⟨rfl,hI'⟩
  ·rw [if_neg hlo]
   refine wpS_bind (ziP hO hI'.tb (by omega) (by omega) fun r st2 hr=>?_)
   obtain ⟨n,ys,rfl,n1,n2,rfl,ho,hU⟩:=hr
   have hI2 : SI κ kd a₀ lo (setArr st' ys):=⟨hI'.tb.off ho,ho.perm.trans hI'.perm,hle,hI'.runs.off ho (.inl (yaa _))⟩
   dsimp only
   by_cases hmr : n < mr
   ·rw [if_pos hmr]
    refine wpS_bind (zcO (wpS_bind (zg0 hO hI2.tb (by omega) (by omega) hU fun zs oz uz=>?_)))
    simp only [yb0,yaU,if_false]
    have hI3 : SI κ kd a₀ lo (setArr st' zs):=⟨hI2.tb.off oz,oz.perm.trans hI2.perm,hle,hI2.runs.off oz (.inl (yaa _))⟩
    refine wpS_bind (wpS_get ?_)
    cases hb : (pendingOf (setArr st' zs)).back? with
    | none=>
     dsimp only
     exact wpS_bind (wpS_modify (wpS_pure ⟨_,rfl,by omega,hI3.pushed (by omega) (by omega) uz⟩))
    | some x1=>
     obtain ⟨s1,n1',p1⟩:=x1
     dsimp only
     refine wpS_bind (wpS_mono (wpS_forRange (I:=fun _ c st5=>c = (none,())∧SI κ kd a₀ lo st5∧Up κ (arrOf st5) lo (lo + (min (a₀.size - lo) mr))) (Q:=fun c st5=>c = (none,())∧SI κ kd a₀ lo st5∧Up κ (arrOf st5) lo (lo + (min (a₀.size - lo) mr))) ?_ (fun _ _ z=>z) ⟨rfl,hI3,uz⟩) ?_)
     ·rintro i c st5 _ _ ⟨rfl,hI5,hU5⟩
      refine wpS_bind (wpS_get ?_)
      by_cases h1 : (pendingOf st5).size > 1
      ·rw [if_pos h1,ybb (by omega)]
       obtain ⟨q1,q2,q3⟩:=(pendingOf st5)[(pendingOf st5).size - 2]'(by omega)
       dsimp only
       split
       ·exact wpS_pure ⟨rfl,hI5,hU5⟩
       ·refine wpS_bind (zdf hO hI5 (by omega) fun st6 h3 h4 _=>?_)
        simp only [yb0,yaU,if_false]
        exact wpS_pure ⟨rfl,h3,hU5.off h4 (.inr (yaa _))⟩
      ·rw [if_neg h1]
       exact wpS_pure ⟨rfl,hI5,hU5⟩
     ·rintro c st5 ⟨rfl,hI5,hU5⟩
      dsimp only
      exact wpS_bind (wpS_modify (wpS_bind (wpS_modify (wpS_pure ⟨_,rfl,by omega,SI.pushed (SI.marked hI5) (by omega) (by omega) hU5⟩))))
   ·rw [if_neg hmr]
    refine wpS_bind (wpS_get ?_)
    cases hb : (pendingOf (setArr st' ys)).back? with
    | none=>
     dsimp only
     exact wpS_bind (wpS_modify (wpS_pure ⟨_,rfl,by omega,hI2.pushed (by omega) (by omega) hU⟩))
    | some x1=>
     obtain ⟨s1,n1',p1⟩:=x1
     dsimp only
     refine wpS_bind (wpS_mono (wpS_forRange (I:=fun _ c st5=>c = (none,())∧SI κ kd a₀ lo st5∧Up κ (arrOf st5) lo (lo + n)) (Q:=fun c st5=>c = (none,())∧SI κ kd a₀ lo st5∧Up κ (arrOf st5) lo (lo + n)) ?_ (fun _ _ z=>z) ⟨rfl,hI2,hU⟩) ?_)
     ·rintro i c st5 _ _ ⟨rfl,hI5,hU5⟩
      refine wpS_bind (wpS_get ?_)
      by_cases h1 : (pendingOf st5).size > 1
      ·rw [if_pos h1,ybb (by omega)]
       obtain ⟨q1,q2,q3⟩:=(pendingOf st5)[(pendingOf st5).size - 2]'(by omega)
       dsimp only
       split
       ·exact wpS_pure ⟨rfl,hI5,hU5⟩
       ·refine wpS_bind (zdf hO hI5 (by omega) fun st6 h3 h4 _=>?_)
        simp only [yb0,yaU,if_false]
        exact wpS_pure ⟨rfl,h3,hU5.off h4 (.inr (yaa _))⟩
      ·rw [if_neg h1]
       exact wpS_pure ⟨rfl,hI5,hU5⟩
     ·rintro c st5 ⟨rfl,hI5,hU5⟩
      dsimp only
      exact wpS_bind (wpS_modify (wpS_bind (wpS_modify (wpS_pure ⟨_,rfl,by omega,SI.pushed (SI.marked hI5) (by omega) (by omega) hU5⟩))))
 case post=>
  rintro c st' ⟨rfl,hI'⟩
  dsimp only
  refine wpS_bind (wpS_mono (wpS_forRange (I:=fun x c st''=>c = (none,())∧SI κ kd a₀ a₀.size st''∧(pendingOf st'').size + x≤a₀.size + 1) (Q:=fun c st''=>c = (none,())∧SI κ kd a₀ a₀.size st''∧(pendingOf st'').size≤1) ?_ ?_ ⟨rfl,hI',?_⟩) ?_)
  ·rintro x c st'' _ hx ⟨rfl,hJ,hz⟩
   refine wpS_bind (wpS_get ?_)
   by_cases h1 : (pendingOf st'').size≤1
   ·rw [if_pos h1]
    exact wpS_pure ⟨rfl,hJ,h1⟩
   ·rw [if_neg h1]
    refine wpS_bind (zdf hO hJ ?_ fun st3 h3 _ h4=>?_)
    ·exact zni (by omega)
    ·simp only [yb0,yaU,if_false]
     exact wpS_pure ⟨rfl,h3,by omega⟩
  ·rintro c st'' ⟨rfl,hJ,hz⟩
   exact ⟨rfl,hJ,by omega⟩
  ·have:=hI'.runs.le
   rw [yav] at this
   omega
  ·rintro c st'' ⟨rfl,hJ,hz⟩
   dsimp only
   refine wpS_pure (h _ hJ.perm hJ.tb.failed ?_)
   have hr:=hJ.runs
   rw [← yav] at hz
   match e : (pendingOf st'').toList,hz,hr with
   | [],_,hr=>
    have : 0 = a₀.size:=hr
    omega
   | [(s1,n1,p1)],_,hr=>
    obtain ⟨_,_,u,z⟩:=hr
    have z : 0 + n1 = a₀.size:=z
    rw [z] at u
    exact u
end
end Tim
namespace Tim
open PySem PyProof.Rows
set_option autoImplicit false
section
variable {prog : Program} {w : World} {A : Around} {E : Value→Shared→Prop} {s : Shared} {κ : KeyKind} {kd : SortKind}
def zgo (a : Addr) (h h' : Heap) : Prop:=∀ b o,b≠a→h.get? b = some o→h'.get? b = some o
def keyV (κ : KeyKind) (v : Value) : κ.α:=(κ.keyOf v).getD κ.dflt
theorem ziM : ∀ vs : List Value,vs.zip vs = vs.map fun v=>(v,v)
 | []=>rfl
 | v :: vs=>by rw [ycy,ziM vs,yay]
theorem zhr {vs : List Value} {p : Keyed} (h : p∈(pairsOf vs).toList) : p.1 = p.2∧p.1∈vs:=by
 have e : (pairsOf vs).toList = vs.zip vs:=by
  unfold pairsOf
  simp
 rw [e] at h
 rw [ziM] at h
 obtain ⟨v,hv,rfl⟩:=yaI.mp h
 exact ⟨rfl,hv⟩
theorem zl0 (vs : List Value) : (pairsOf vs).toList.map (·.2) = vs:=by
 have e : (pairsOf vs).toList = vs.zip vs:=by
  unfold pairsOf
  simp
 rw [e,ziM,ybB]
 have z : ((fun x : Keyed=>x.2) ∘ fun v : Value=>(v,v)) = id:=rfl
 first
  | rw [z,List.map_id]
  | exact List.map_id vs
theorem zqA {vs : List Value} {xs : Array Keyed} (hp : xs.Perm (pairsOf vs)) (hU : Up κ xs 0 (pairsOf vs).size) :
  (xs.toList.map (·.2)).Perm vs∧(xs.toList.map (·.2)).Pairwise (fun x y=>κ.kle (keyV κ x) (keyV κ y)):=by
 have hpl:=ycv.mp hp
 refine ⟨?_,?_⟩
 ·have:=hpl.map (·.2)
  rwa [zl0] at this
 ·have hs : SL κ xs.toList:=zpB (by rw [hp.size_eq]; exact hU)
  refine yb1.mpr (hs.imp_of_mem fun {a b} ha hb hab=>?_)
  have ea:=(zhr (hpl.mem_iff.mp ha)).1
  have eb:=(zhr (hpl.mem_iff.mp hb)).1
  unfold le ky at hab
  unfold keyV
  rw [← ea,← eb]
  exact hab
theorem zqm {a : Addr} {vs : List Value} {n : Nat} {P : Fin→Shared→Prop} (ho : s.heap.get? a = some (seqObj "list" vs.toArray n)) (hz : vs.length≤sizeLine) (keys : ∀ v∈vs,∃ k,κ.keyOf v = some k)
  (hlt : ∀ h',zgo a s.heap h'→LtG prog w A { s with heap:=h' } κ kd)
  (hkd : ∀ (h' : Heap) (E : Value→Shared→Prop) (Q : SortKind→Shared→Prop),zgo a s.heap h'→2≤vs.length→Q kd { s with heap:=h' }→wpAny (model prog w) A (keyKind' vs.toArray) Q E { s with heap:=h' })
  (h : ∀ out : List Value,out.Perm vs→out.Pairwise (fun x y=>κ.kle (keyV κ x) (keyV κ y))→P (.done (.ret .none)) { s with heap:=sortedHeap s.heap a vs out.toArray }) :
  wpAny (model prog w) A (Builtin.«list.sort» ⟨[.ref a],[]⟩) P E s:=by
 rw [list_sort_plain]
 have hlt0 : a < s.heap.objs.size:=yaf ho
 refine wpAny_bind (listItems_at ho rfl ?_)
 refine wpAny_bind (listUpdate_at ho rfl ?_ (by simpa using hz) (yaD _))
 obtain ⟨m,ho1⟩ : ∃ m,(s.heap.update a (Obj.mapSeq fun _=>#[])).get? a = some (seqObj "list" #[] m):=⟨_,get?_update_seq ho (fun _=>#[])⟩
 refine wpAny_bind (seqEpoch_at ho1 rfl ?_)
 refine wpAny_bind (wpAny_newTuple ?_ (by simpa using hz))
 refine wpAny_bind (wpAny_newList ?_)
 refine wpAny_holding ?_
 have z1 : (s.heap.update a (Obj.mapSeq fun _=>#[])).objs.size = s.heap.objs.size:=by rw [Heap.size_update]
 have hk : zgo a s.heap (((s.heap.update a (Obj.mapSeq fun _=>#[])).push (seqObj "tuple" vs.toArray 0)).push (seqObj "list" #[] 0)):=fun b o hb e=>
  yai _ (yai _ ((ybw _ _ (Ne.symm hb)).trans e))
 have ho6 : (((s.heap.update a (Obj.mapSeq fun _=>#[])).push (seqObj "tuple" vs.toArray 0)).push (seqObj "list" #[] 0)).get? a = some (seqObj "list" #[] m):=yai _ (yai _ ho1)
 show wpAny (model prog w) A _ P E { s with heap:=((s.heap.update a (Obj.mapSeq fun _=>#[])).push (seqObj "tuple" vs.toArray 0)).push (seqObj "list" #[] 0) }
 dsimp only
 have fin : ∀ st' : SortSt,(arrOf st').Perm (pairsOf vs)→failedOf st' = none→Up κ (arrOf st') 0 (pairsOf vs).size→wpAny (model prog w) A (do
   let touched:=(← seqEpoch a) != m
   Builtin.List.listUpdate (.ref a) fun _=>(arrOf st').map (·.2)
   if let some e:=failedOf st' then rule "list.sort.comparison-raised"; throw e
   if touched then rule "list.sort.modified"; raiseError "ValueError" "list modified during sort"
   ret .none) P E { s with heap:=((s.heap.update a (Obj.mapSeq fun _=>#[])).push (seqObj "tuple" vs.toArray 0)).push (seqObj "list" #[] 0) }:=fun st' hp hf hU=>by
  refine wpAny_bind (seqEpoch_at ho6 rfl ?_)
  refine wpAny_bind (listUpdate_at ho6 rfl ?_ (yaD _) (by
   refine yat (Nat.le_of_eq ((Array.size_map ..).trans (hp.size_eq.trans (pairsOf_size _)))) ?_
   omega))
  rw [hf]
  simp only [bne_self_eq_false,yaU,if_false]
  obtain ⟨o1,o2⟩:=zqA hp hU
  have:=h _ o1 o2
  have e : ((arrOf st').toList.map (·.2)).toArray = (arrOf st').map (·.2):=by rw [← Array.toList_map,Array.toArray_toList]
  rw [e] at this
  exact wpAny_pure this
 by_cases h2 : vs.toArray.size < 2
 ·rw [if_pos h2,if_pos h2]
  refine wpAny_bind (wpAny_pure ?_)
  rw [StateT.run_pure]
  refine wpAny_bind (wpAny_pure ?_)
  refine fin (SortSt.mk' general' (vs.toArray.zip vs.toArray) #[] 7 none) (Array.Perm.refl _) rfl ?_
  intro i j q1 q2 q3
  have : i = j:=by
   rw [pairsOf_size] at q3
   simp at h2
   omega
  subst this
  exact KeyOrd.kle_refl _
 ·rw [if_neg h2,if_neg h2]
  have h2' : 2≤vs.length:=by
   simp at h2
   omega
  refine wpAny_bind (hkd _ _ _ hk h2' ?_)
  refine wpAny_bind (wpAny_mono (ziO (κ:=κ) (hlt _ hk) (a₀:=pairsOf vs) (st:=SortSt.mk' kd (vs.toArray.zip vs.toArray) #[] 7 none)
   (Q:=fun _ st'=>(arrOf st').Perm (pairsOf vs)∧failedOf st' = none∧Up κ (arrOf st') 0 (pairsOf vs).size)
   ⟨⟨rfl,fun p hp=>keys _ (zhr hp).2,rfl,rfl⟩,Array.Perm.refl _,yaD _,rfl⟩ (by rw [pairsOf_size]; omega) fun st' a1 a2 a3=>⟨a1,a2,a3⟩) ?_ fun _ _ e=>e)
  rintro ⟨⟨⟩,st'⟩ s' ⟨rfl,hp,hf,hs⟩
  exact fin st' hp hf hs
theorem zi5 {h : Heap} {a : Addr} {vs out : List Value} {n : Nat} (ho : h.get? a = some (seqObj "list" vs.toArray n)) : zgo a h (sortedHeap h a vs out.toArray)∧∃ c,(sortedHeap h a vs out.toArray).get? a = some (seqObj "list" out.toArray c):=by
 unfold sortedHeap
 refine ⟨fun b o hb e=>(ybw _ _ (Ne.symm hb)).trans (yai _ (yai _ ((ybw _ _ (Ne.symm hb)).trans e))),?_⟩
 exact ⟨_,get?_update_seq (yai _ (yai _ (get?_update_seq ho (fun _=>#[])))) fun _=>out.toArray⟩
theorem znq {l : Addr} {vs : List Value} {Q : Value→Shared→Prop} (hl : s.heap.IsList l vs.toArray) (hz : vs.length≤sizeLine) (keys : ∀ v∈vs,∃ k,κ.keyOf v = some k)
  (hlt : ∀ h',(∀ b o,s.heap.get? b = some o→h'.get? b = some o)→LtG prog w A.in1.in1 { s with heap:=h' } κ kd)
  (hkd : ∀ (h' : Heap) (E : Value→Shared→Prop) (Q : SortKind→Shared→Prop),(∀ b o,s.heap.get? b = some o→h'.get? b = some o)→2≤vs.length→Q kd { s with heap:=h' }→wpAny (model prog w) A.in1.in1 (keyKind' vs.toArray) Q E { s with heap:=h' })
  (h : ∀ (out : List Value) (h' : Heap) (c : Nat),out.Perm vs→out.Pairwise (fun x y=>κ.kle (keyV κ x) (keyV κ y))→(∀ b o,s.heap.get? b = some o→h'.get? b = some o)→
   h'.get? (s.heap.objs.size + 1) = some (seqObj "list" out.toArray c)→Q (.ref (s.heap.objs.size + 1)) { s with heap:=h' }) :
  wpAny (model prog w) A (call (.builtin "sorted") [.ref l]) Q E s:=by
 refine Calls.call_function_entry kind_sorted plain_sorted entry_sorted (args_sorted1 _) ?_
 unfold Builtin.«sorted»
 refine wpAny_bind (m:=checkCount "sorted" 1 1 _) (wpAny_pure ?_)
 refine wpAny_bind (collect_list hl ?_ hz)
 refine wpAny_bind (wpAny_newList ?_ (by simpa using hz))
 have z1 : ((s.heap.push (seqObj "list" #[] 0)).update s.heap.objs.size (Obj.mapSeq (· ++ vs.toArray))).objs.size = s.heap.objs.size + 1:=by
  rw [Heap.size_update,size_push']
 have hn : (((s.heap.push (seqObj "list" #[] 0)).update s.heap.objs.size (Obj.mapSeq (· ++ vs.toArray))).push (seqObj "list" vs.toArray 0)).get? (s.heap.objs.size + 1) = some (seqObj "list" vs.toArray 0):=by
  rw [← z1]
  exact yaH _ rfl
 have hk : ∀ b o,s.heap.get? b = some o→(((s.heap.push (seqObj "list" #[] 0)).update s.heap.objs.size (Obj.mapSeq (· ++ vs.toArray))).push (seqObj "list" vs.toArray 0)).get? b = some o:=fun b o e=>
  yai _ ((ybw _ _ (ybC (yaf e))).trans (yai _ e))
 show wpAny _ _ _ _ _ { s with heap:=((s.heap.push (seqObj "list" #[] 0)).update s.heap.objs.size (Obj.mapSeq (· ++ vs.toArray))).push (seqObj "list" vs.toArray 0) }
 rw [z1]
 generalize ((s.heap.push (seqObj "list" #[] 0)).update s.heap.objs.size (Obj.mapSeq (· ++ vs.toArray))).push (seqObj "list" vs.toArray 0) = h1 at hn hk ⊢
 have up : ∀ h',zgo (s.heap.objs.size + 1) h1 h'→∀ b o,s.heap.get? b = some o→h'.get? b = some o:=fun h' kb b o e=>kb b o (fun z=>by
  have:=yaf e
  rw [z] at this
  exact absurd this (ybJ.mpr (ya5 _))) (hk b o e)
 refine wpAny_bind (wpAny_holding (wpAny_call_entry slot_list_sort ⟨_,hn,rfl⟩ entry_list_sort (zqm (s:={ s with heap:=h1 }) hn hz keys (fun h' kb=>hlt h' (up h' kb)) (fun h' E Q kb h2 q=>hkd h' E Q (up h' kb) h2 q) fun out p1 p2=>⟨_,rfl,?_⟩) (args_list_sort _)))
 obtain ⟨kb,c,hc⟩:=zi5 (out:=out) hn
 exact wpAny_pure ⟨_,rfl,h out _ c p1 p2 (up _ kb) hc⟩
end
end Tim
namespace L2
open PySem PySem.Spec PyProof.Rows
structure DF (K : Frag) (mg : Str→Option Value) (x : Str) (st : Stmt) (ps : List Str) : Prop where
 ex : ∃ f fd,Fun K x x st f fd∧zhP K fd ps []∧mg x = some (.ref f)
structure FC (P : Program) (w : World) (K : Frag) (mg : Str→Option Value) (base : Heap) (k : Nat) (x : Str) (ps : List Str) (sp : Sp) : Prop where
 ex : ∃ f fd,FnOk P w K mg base CX0 k f fd ps sp∧zhP K fd ps []∧keepIn K (.ref f) = true∧mg x = some (.ref f)∧∃ oc od osl,K.lookup f = some ⟨oc,od,.func fd,osl⟩
theorem FC.at {P : Program} {w : World} {K : Frag} {mg : Str→Option Value} {base : Heap} {k : Nat} {x : Str} {ps : List Str} {sp : Sp} {f : Addr} {fd : FuncData} {oc : Value} {od : Option Addr} {osl : Array (Option Value)} (F : FC P w K mg base k x ps sp) (m : mg x = some (.ref f)) (l : K.lookup f = some ⟨oc,od,.func fd,osl⟩) : FnOk P w K mg base CX0 k f fd ps sp:=by
 obtain ⟨f',fd',ok,_,_,m',oc',od',osl',l'⟩:=F.ex
 rw [m] at m'
 cases m'
 rw [l] at l'
 cases l'
 exact ok
theorem DF.ok {P : Program} {w : World} {K : Frag} {mg : Str→Option Value} {base : Heap} {x : Str} {st : Stmt} {N ps : List Str} {k : Nat} {sp : Sp} (D : DF K mg x st ps) (S : zao N ps (zak st)) (len : ∀ vs H Q E,sp vs H Q E→vs.length = ps.length)
  (hbody : ∀ (f : Addr) (cdv : Value) (A : Around) (outer : List Env) (s : Shared) (H : Hp) (vs : List V) (Q : VK) (E : XK),Room k (A.deeper (envOfC x (zak st) s.heap.objs.size f cdv))→sp vs H Q E→
   ∃ t,PSs (cxOf CX0 P w K mg base N x (zak st) f cdv A outer s H E).nox (zbK st) t∧t { nx:=fun _ H'=>Q .non H',rt:=Q } (zcP N vs) H) : FC P w K mg base (k + 1) x ps sp:=by
 obtain ⟨f,fd,F,b,m⟩:=D.ex
 exact ⟨f,fd,F.ok S len fun cdv A outer s H vs Q E hr h=>hbody f cdv A outer s H vs Q E hr h,b,F.kp,m,by
  obtain ⟨oc,od,kV,doc,pm,an,cdv,ct,osl,rfl,lk,hcd⟩:=F.ex
  exact ⟨oc,od,osl,lk⟩⟩
theorem zaA {X : Cx} {j k : Nat} {x : Str} {ps : List Str} {sp : Sp} {e : Expr} {es : List Expr} {t : TA} {p pos : Pos} (F : FC X.prog X.w X.K X.mg X.base j x ps sp) (hr : Room k X.A) (ha : PA X (e :: es) t) (hjk : j≤k:=by decide) (hg : Gl X x:=by rfl)
  (hdb : (x == ("__debug__" : Str)) = false:=by decide) (he : starEach (e :: es) X.env = (false,eval e X.env) :: starEach es X.env:=by rfl) (hpl : (backTo pos (starEach es X.env)).any (·.1) = false:=by rfl) : PE X (.Call (.Name x p) (e :: es) [] pos) (zqf sp [] E0 t):=by
 obtain ⟨f,fd,ok,b,kp,m,_⟩:=F.ex
 exact zpj ok (hr.mono hjk) hg m kp b .nil zqy ha hdb he hpl
def zrc (t u : TS) : TS:=fun D σ H=>∃ M : St→Hp→Prop,t { D with nx:=M } σ H∧∀ σ' H',M σ' H'→u D σ' H'
theorem zbk {X : Cx} {st : Stmt} {rest : List Stmt} {t u : TS} (h1 : PS X st t) (h2 : PSs X rest u) : PSs X (st :: rest) (zrc t u):=by
 intro pins s σ H D I h
 obtain ⟨M,h,hM⟩:=h
 refine wpAny_execs_cons (thn (h1 pins s σ H { D with nx:=M } I h) fun f s1 q=>?_)
 cases f with
 | next=>
  obtain ⟨σ',H',I',q⟩:=q
  exact h2 pins s1 σ' H' D I' (hM σ' H' q)
 | ret v=>exact q
 | brk=>exact q
 | cont=>exact q
def zrA (i j : Int) : Prop:=0 < j∧j < 2 ^ 4000
section
variable {X : Cx}
def kitO (a b : String) : Option Bool:=if (Value.type a == Value.type b) = true then some true else if PySem.W.kitMeta b = true then (PySem.fastBuiltinMro a).map (·.contains (.type b)) else none
theorem zpE {K : Frag} {a b : String} : kitOne K (.type a) (.type b) = kitO a b:=rfl
def rIsi (K : Frag) : List V→Hp→VK→Prop:=fun xs H Q=>∃ x n t b,xs = [x,.ty n]∧TyOf K H x (.type t)∧kitO t n = some b∧Q (.bl b) H
theorem zc7 : ze8 X (.builtin "isinstance") (rIsi X.K):=by
 intro pins s σ H xs us Q I r h
 obtain ⟨x,n,t,b,e,ty,ki,q⟩:=h
 subst e
 obtain ⟨u,w',e,r1,r2⟩:=zhU r
 subst e
 cases r2
 exact zmB I r1 ty (zpE.trans ki) fun tk=>⟨.bl b,H,I.tok tk,rfl,q⟩
theorem zoK : kitO "int" "int" = some true:=by decide +kernel
theorem zoL : kitO "int" "bool" = some false:=by decide +kernel
theorem zoJ : kitO "list" "list" = some true:=by decide +kernel
theorem zqR : kitO "bool" "bool" = some true:=by decide +kernel
def zpc : V→List V→Hp→VK→Prop:=fun x xs H Q=>∃ i,x = .int i∧xs = []∧Q (.int (Builtin.Int.intBits i : Nat)) H
theorem zhw : MtR X "int.bit_length" zpc:=by
 intro pins s σ H x xs v us Q I rx rv h
 obtain ⟨i,rfl,rfl,q⟩:=h
 obtain ⟨t,rfl⟩:=rx
 cases rv
 exact call_int_bit_length ⟨.int _,H,I.tok _,⟨_,rfl⟩,q⟩
end
theorem zrr {c A B : Prop} [Decidable c] (hc : ¬ c) (h : B) : if decide c = true then A else B:=by
 rw [yas hc]
 exact iteF h
theorem zrq {c A B : Prop} [Decidable c] (hc : c) (h : A) : if decide c = true then A else B:=by
 rw [yam hc]
 exact iteT h
def zc2 (L : Addr) (a l : Int) : HO:=.dK [(.inr "script",.ref L),(.inr "at",.int a),(.inr "left",.int l)]
def Keep (d : Addr) (H H' : Hp) : Prop:=∀ b o,b≠d→H b = some o→H' b = some o
theorem Keep.refl (d : Addr) (H : Hp) : Keep d H H:=fun _ _ _ h=>h
theorem Keep.trans {d : Addr} {H H1 H2 : Hp} (a : Keep d H H1) (b : Keep d H1 H2) : Keep d H H2:=fun c o n h=>b c o n (a c o n h)
theorem Same.keep {d : Addr} {H H' : Hp} (s : Same H H') : Keep d H H':=fun b o _ h=>s b o h
structure LS (K : Frag) (L d : Addr) (H : Hp) : Prop where
 ex : ∃ (ns : List Int) (a l : Int),H d = some (zc2 L a l)∧SqL K H L (ns.map V.int)
theorem zg8 {K : Frag} {H H' : Hp} {L d : Addr} {xs : List V} {L' : Addr} {a l : Int} (hd : H d = some (zc2 L' a l)) (k : Keep d H H') (h : SqL K H L xs) : SqL K H' L xs:=by
 have ne : ∀ o,H L = some o→(∀ kvs,o≠.dK kvs)→L≠d:=fun o e n z=>by
  rw [z,hd] at e
  cases e
  exact n _ rfl
 rcases h with (h | ⟨o,h⟩) | h
 ·exact .inl (.inl (k L _ (ne _ h (fun _ z=>nomatch z)) h))
 ·exact .inl (.inr ⟨o,k L _ (ne _ h (fun _ z=>nomatch z)) h⟩)
 ·exact .inr h
theorem LS.set {K : Frag} {d L : Addr} {H : Hp} {ns : List Int} {a l a' l' : Int} (hd : H d = some (zc2 L a l)) (h : SqL K H L (ns.map V.int)) : LS K L d (upd H d (zc2 L a' l'))∧Keep d H (upd H d (zc2 L a' l')):=by
 have k : Keep d H (upd H d (zc2 L a' l')):=fun b o n e=>by rw [zag n]; exact e
 exact ⟨⟨ns,a',l',zac,zg8 hd k h⟩,k⟩
theorem LS.same {K : Frag} {L d : Addr} {H H' : Hp} (s : LS K L d H) (k : Same H H') : LS K L d H':=by
 obtain ⟨ns,a,l,e,q⟩:=s.ex
 exact ⟨ns,a,l,k _ _ e,k.seq q⟩
theorem zai {H : Hp} {p : Addr} (h : H p = none) (o : HO) : Same H (upd H p o):=fun b u q=>by rw [zag (zab q h)]; exact q
theorem LS.put {K : Frag} {L d p : Addr} {H0 H2 : Hp} {o : HO} (s : LS K L d H0) (hp : H0 p = none) (k : ∀ b o,b≠d→b≠p→H0 b = some o→H2 b = some o) (s2 : LS K L d H2) : LS K L d (upd H2 p o):=by
 obtain ⟨ns,a,l,e,q⟩:=s.ex
 obtain ⟨ns2,a2,l2,e2,_⟩:=s2.ex
 have hdp : d≠p:=zab e hp
 have go : ∀ u,H0 L = some u→(∀ kvs,u≠.dK kvs)→upd H2 p o L = some u:=fun u hu hn=>by
  have h1 : L≠p:=zab hu hp
  have h2 : L≠d:=fun z=>by
   rw [z,e] at hu
   cases hu
   exact hn _ rfl
  rw [zag h1]
  exact k L u h2 h1 hu
 refine ⟨ns,a2,l2,by rw [zag hdp]; exact e2,?_⟩
 rcases q with (h | ⟨ob,h⟩) | h
 ·exact .inl (.inl (go _ h (fun _ z=>nomatch z)))
 ·exact .inl (.inr ⟨ob,go _ h (fun _ z=>nomatch z)⟩)
 ·exact .inr h
section
variable {H : Hp} {d L : Addr} {a l : Int}
theorem zd4 {x y : Str} (h : x≠y) : (Sum.inr x : Key)≠Sum.inr y:=fun z=>h (Sum.inr.inj z)
theorem zk1 (h : H d = some (zc2 L a l)) : DGet H d (.str "script") (some (.ref L)):=.inl ⟨_,.inr "script",.inl h,rfl,by rw [zco rfl]⟩
theorem zqZ (h : H d = some (zc2 L a l)) : DGet H d (.str "at") (some (.int a)):=.inl ⟨_,.inr "at",.inl h,rfl,by rw [zbt (zd4 (show ("script" : Str) ≠ "at" by decide +kernel)),zco rfl]⟩
theorem zhE (h : H d = some (zc2 L a l)) : DGet H d (.str "left") (some (.int l)):=.inl ⟨_,.inr "left",.inl h,rfl,by rw [zbt (zd4 (show ("script" : Str) ≠ "left" by decide +kernel)),zbt (zd4 (show ("at" : Str) ≠ "left" by decide +kernel)),zco rfl]⟩
theorem zoB {k : Key} {v : V} {kvs kvs' : List (Key×V)} (h : H d = some (.dK kvs)) (hl : kvs.length < sizeLine) (e : putK kvs k v = kvs') : DPut H d (kV k) v (upd H d (.dK kvs')):=by
 subst e
 exact DPut.k h hl
theorem zqu {a' : Int} (h : H d = some (zc2 L a l)) : DPut H d (.str "at") (.int a') (upd H d (zc2 L a' l)):=
 zoB (k:=.inr "at") h (by show 3 < sizeLine; decide) (by
  unfold putK
  rw [if_pos (by simp)]
  simp only [yay,ybG,if_neg (zd4 (show ("script" : Str) ≠ "at" by decide +kernel)),if_neg (zd4 (show ("left" : Str) ≠ "at" by decide +kernel)),if_true])
theorem zjR {l' : Int} (h : H d = some (zc2 L a l)) : DPut H d (.str "left") (.int l') (upd H d (zc2 L a l')):=
 zoB (k:=.inr "left") h (by show 3 < sizeLine; decide) (by
  unfold putK
  rw [if_pos (by simp)]
  simp only [yay,ybG,if_neg (zd4 (show ("script" : Str) ≠ "left" by decide +kernel)),if_neg (zd4 (show ("at" : Str) ≠ "left" by decide +kernel)),if_true])
end
def zft (K : Frag) : Sp:=fun vs H Q _=>∃ (d L : Addr) (m : Int),vs = [.ref d,.int m]∧(0 < m∧m < 1073741824)∧LS K L d H∧∀ (v : Int) (H' : Hp),0≤v→v < m→Keep d H H'→LS K L d H'→Q (.int v) H'
def zlF : Sp:=fun vs H Q _=>∃ c k : Int,vs = [.int c,.int k]∧∀ v : Int,Q (.int v) H
def zlK (K : Frag) : Sp:=fun vs H Q _=>∃ (L : Addr) (ns : List Int),vs = [.ref L]∧SqL K H L (ns.map V.int)∧∀ (d : Addr) (H' : Hp),H d = none→Same H H'→LS K L d H'→Q (.ref d) H'
theorem zq8 {ns : List Int} {k : Int} (h : 0 < ns.length) : ∃ v : Int,atI (ns.map V.int) (k % (((ns.map V.int).length : Nat) : Int)) = some (.int v):=by
 have e : (ns.map V.int).length = ns.length:=yab _
 have h1 : (0 : Int) < (((ns.map V.int).length : Nat) : Int):=by rw [e]; omega
 have z0:=ych k (Int.ne_of_gt h1)
 have z1:=yci k h1
 generalize hj : k % (((ns.map V.int).length : Nat) : Int) = j at z0 z1
 rw [e] at z1
 have hk : j.toNat < ns.length:=by omega
 obtain ⟨n,rfl⟩ : ∃ n : Nat,j = (n : Int):=⟨j.toNat,by omega⟩
 have hn : n < ns.length:=by omega
 exact ⟨ns[n],zbh (by rw [yaj,yac hn]; rfl)⟩
end L2
namespace L2
open PySem PySem.Spec PyProof.Rows PySem.SeqAt
def Ext (H H' : Hp) : Prop:=∀ b o,H b = some o→(∀ kvs,o≠.dK kvs)→H' b = some o
theorem Same.ext {H H' : Hp} (s : Same H H') : Ext H H':=fun b o h _=>s b o h
theorem Keep.ext {d L : Addr} {a l : Int} {H H' : Hp} (k : Keep d H H') (h : H d = some (zc2 L a l)) : Ext H H':=fun b o e n=>k b o (fun z=>by
 rw [z,h] at e
 cases e
 exact n _ rfl) e
theorem LS.ext {K : Frag} {L d : Addr} {H H' : Hp} (s : LS K L d H) (k : Keep d H H') : Ext H H':=by
 obtain ⟨ns,a,l,e,_⟩:=s.ex
 exact k.ext e
theorem LS.of_new {K : Frag} {L d : Addr} {H : Hp} (s : LS K L d H) {p : Addr} (hp : H p = none) (o : HO) : LS K L d (upd H p o):=s.same (zai hp o)
theorem SqL.ext {K : Frag} {H H' : Hp} {a : Addr} {xs : List V} (e : Ext H H') (h : SqL K H a xs) : SqL K H' a xs:=by
 rcases h with (h | ⟨o,h⟩) | h
 ·exact .inl (.inl (e _ _ h (fun _ z=>nomatch z)))
 ·exact .inl (.inr ⟨o,e _ _ h (fun _ z=>nomatch z)⟩)
 ·exact .inr h
theorem SqT.ext {K : Frag} {H H' : Hp} {a : Addr} {xs : List V} (e : Ext H H') (h : SqT K H a xs) : SqT K H' a xs:=by
 rcases h with (h | ⟨o,h⟩) | h
 ·exact .inl (.inl (e _ _ h (fun _ z=>nomatch z)))
 ·exact .inl (.inr ⟨o,e _ _ h (fun _ z=>nomatch z)⟩)
 ·exact .inr h
class Rep (α : Type) where
 dec : DecidableEq α
 depth : Nat
 has : Frag→Hp→α→V→Prop
 mono : ∀ {K : Frag} {H H' : Hp} {a : α} {v : V},Ext H H'→has K H a v→has K H' a v
 inj : ∀ {X : Cx} {pins : List (Addr×Obj)} {σ : St} {H : Hp} {s : Shared} {a b : α} {v : V},Inv X pins σ H s→has X.K H a v→has X.K H b v→a = b
 rc : ∀ {X : Cx} {pins : List (Addr×Obj)} {σ : St} {H : Hp} {s : Shared} {A : Around} {a b : α} {x y : V} {u v : Value},Inv X pins σ H s→A.units + depth < cLine→has X.K H a x→has X.K H b y→RelV x u→RelV y v→RcAt A s u v (dec a b).decide
 rn : ∀ {X : Cx} {pins : List (Addr×Obj)} {σ : St} {H : Hp} {s : Shared} {A : Around} {a b : α} {x y : V} {u v : Value},Inv X pins σ H s→A.units + depth < cLine→has X.K H a x→has X.K H b y→RelV x u→RelV y v→RcNeAt A s u v (!(dec a b).decide)
 eq : ∀ {X : Cx} {pins : List (Addr×Obj)} {σ : St} {H : Hp} {s : Shared} {A : Around} {a b : α} {x y : V} {u v : Value},Inv X pins σ H s→A.units + depth < cLine→has X.K H a x→has X.K H b y→RelV x u→RelV y v→EqAt A s u v (dec a b).decide
instance (priority:=low) repDec {α : Type} [Rep α] : DecidableEq α:=Rep.dec
theorem zjh {i j : Int} : (i == j) = (Int.instDecidableEq i j).decide:=by
 by_cases h : i = j
 ·subst h; simp
 ·rw [beq_eq_false_iff_ne.mpr h]; exact (yas h).symm
instance : Rep Int where
 dec:=Int.instDecidableEq
 depth:=0
 has:=fun _ _ i v=>v = .int i
 mono:=fun _ h=>h
 inj:=fun _ h1 h2=>V.int.inj (h1.symm.trans h2)
 rc:=fun _ _ h1 h2 r1 r2=>by
  subst h1 h2
  obtain ⟨t,rfl⟩:=r1
  obtain ⟨t',rfl⟩:=r2
  rw [← zjh]
  exact RcAt.int_int _ _ _ _
 rn:=fun _ _ h1 h2 r1 r2=>by
  subst h1 h2
  obtain ⟨t,rfl⟩:=r1
  obtain ⟨t',rfl⟩:=r2
  rw [← zjh]
  exact RcNeAt.int_int _ _ _ _
 eq:=fun _ _ h1 h2 r1 r2=>by
  subst h1 h2
  obtain ⟨t,rfl⟩:=r1
  obtain ⟨t',rfl⟩:=r2
  rw [← zjh]
  exact EqAt.int_int _ _ _ _
instance : Rep Bool where
 dec:=instDecidableEqBool
 depth:=0
 has:=fun _ _ i v=>v = .bl i
 mono:=fun _ h=>h
 inj:=fun _ h1 h2=>V.bl.inj (h1.symm.trans h2)
 rc:=fun {_ _ _ _ _ _ a b _ _ _ _} _ _ h1 h2 r1 r2=>by
  subst h1 h2
  cases r1
  cases r2
  have e : (a == b) = (instDecidableEqBool a b).decide:=by cases a <;> cases b <;> rfl
  rw [← e]
  exact RcAt.bool_bool _ _
 rn:=fun {_ _ _ _ _ _ a b _ _ _ _} _ _ h1 h2 r1 r2=>by
  subst h1 h2
  cases r1
  cases r2
  have e : (a == b) = (instDecidableEqBool a b).decide:=by cases a <;> cases b <;> rfl
  rw [← e]
  exact RcNeAt.bool_bool _ _
 eq:=fun {_ _ _ _ _ _ a b _ _ _ _} _ _ h1 h2 r1 r2=>by
  subst h1 h2
  cases r1
  cases r2
  have e : (a == b) = (instDecidableEqBool a b).decide:=by cases a <;> cases b <;> rfl
  rw [← e]
  exact EqAt.bool_bool _ _
def zam {α : Type} [Rep α] (K : Frag) (H : Hp) : List α→List V→Prop:=Paired (Rep.has K H)
section
variable {α : Type} [Rep α] {K : Frag} {H H' : Hp}
theorem zam.mono (e : Ext H H') : ∀ {as : List α} {xs : List V},zam K H as xs→zam K H' as xs
 | _,_,.nil=>.nil
 | _,_,.cons h t=>.cons (Rep.mono e h) (zam.mono e t)
theorem zam.length {as : List α} {xs : List V} (h : zam K H as xs) : as.length = xs.length:=Paired.length h
theorem zam.get : ∀ {as : List α} {xs : List V} {i : Nat} {x : V},zam K H as xs→xs[i]? = some x→∃ a,as[i]? = some a∧Rep.has K H a x
 | _,_,_,_,.nil,e=>by simp at e
 | _,_,0,_,.cons h _,e=>by simp at e; subst e; exact ⟨_,rfl,h⟩
 | _,_,i + 1,x,.cons _ t,e=>by
  obtain ⟨a,h1,h2⟩:=zam.get (i:=i) (x:=x) t (by simpa using e)
  exact ⟨a,by simpa using h1,h2⟩
theorem zam.append : ∀ {as bs : List α} {xs ys : List V},zam K H as xs→zam K H bs ys→zam K H (as ++ bs) (xs ++ ys)
 | _,_,_,_,.nil,s=>s
 | _,_,_,_,.cons r t,s=>.cons r (zam.append t s)
theorem zam.one {a : α} {x : V} (h : Rep.has K H a x) : zam K H [a] [x]:=.cons h .nil
theorem zam.ints : ∀ {ns : List Int},zam K H ns (ns.map V.int)
 | []=>.nil
 | _ :: _=>.cons rfl zam.ints
theorem zam.toInts : ∀ {ns : List Int} {xs : List V},zam K H ns xs→xs = ns.map V.int
 | [],_,.nil=>rfl
 | n :: ns,_,.cons h t=>by
  have e : _ = V.int n:=h
  rw [e,zam.toInts t]
  rfl
theorem zam.inj {X : Cx} {pins : List (Addr×Obj)} {σ : St} {s : Shared} (I : Inv X pins σ H s) : ∀ {as bs : List α} {xs : List V},zam X.K H as xs→zam X.K H bs xs→as = bs
 | _,_,_,.nil,.nil=>rfl
 | _,_,_,.cons h t,.cons h' t'=>by rw [Rep.inj I h h',zam.inj I t t']
end
theorem zfr {α : Type} [DecidableEq α] : ∀ (as bs : List α),as.length = bs.length→((List.range as.length).all fun j=>decide (as[j]? = bs[j]?)) = decide (as = bs):=by
 intro as bs hl
 by_cases h : as = bs
 ·subst h
  simp
 ·rw [yas h,List.all_eq_false]
  false_or_by_contra
  rename_i z
  apply h
  apply ybi
  intro i
  by_cases hi : i < as.length
  ·false_or_by_contra
   rename_i q
   exact z ⟨i,ya9.mpr hi,by simpa using q⟩
  ·rw [yaW (by omega),yaW (by omega)]
section
variable {α : Type} [r : Rep α]
theorem zcL {A : Around} : A.in1.units≤A.units + 1:=by
 first
  | exact yaa _
  | (unfold Around.in1; simp)
theorem zfV {X : Cx} {pins : List (Addr×Obj)} {σ : St} {H : Hp} {s : Shared} {A : Around} {as bs : List α} {xs ys : List V} {us vs : List Value} (I : Inv X pins σ H s) (hu : A.units + Rep.depth α < cLine)
  (h1 : zam X.K H as xs) (h2 : zam X.K H bs ys) (r1 : Vals xs us) (r2 : Vals ys vs) : ∀ j (q1 : j < us.toArray.size) (q2 : j < vs.toArray.size),EqAt A s us.toArray[j] vs.toArray[j] (decide (as[j]? = bs[j]?)):=by
 intro j q1 q2
 have l1:=r1.length
 have l2:=r2.length
 have m1:=h1.length
 have m2:=h2.length
 have j1 : j < us.length:=by simpa using q1
 have j2 : j < vs.length:=by simpa using q2
 obtain ⟨a,ea,ha⟩:=h1.get (i:=j) (yac (by omega))
 obtain ⟨b,eb,hb⟩:=h2.get (i:=j) (yac (by omega))
 obtain ⟨u,eu,ru⟩:=r1.get (i:=j) (yac (by omega))
 obtain ⟨v,ev,rv⟩:=r2.get (i:=j) (yac (by omega))
 have gu : us.toArray[j] = u:=by
  have : us[j]? = some us[j]:=yac j1
  rw [eu] at this
  simpa using (yae this).symm
 have gv : vs.toArray[j] = v:=by
  have : vs[j]? = some vs[j]:=yac j2
  rw [ev] at this
  simpa using (yae this).symm
 rw [gu,gv,ea,eb]
 have e : decide (some a = some b) = (Rep.dec a b).decide:=by
  by_cases z : a = b
  ·subst z; simp
  ·rw [yas (fun q=>z (yae q))]; exact (yas z).symm
 rw [e]
 exact Rep.eq I hu ha hb ru rv
end
def hasL {α : Type} [Rep α] (K : Frag) (H : Hp) (as : List α) (v : V) : Prop:=∃ a xs,v = .ref a∧SqL K H a xs∧zam K H as xs
section
variable {α : Type} [r : Rep α] {X : Cx} {pins : List (Addr×Obj)} {σ : St} {H : Hp} {s : Shared} {A : Around} {as bs : List α} {x y : V} {u v : Value}
theorem zn7 (I : Inv X pins σ H s) (h1 : hasL X.K H as x) (h2 : hasL X.K H bs x) : as = bs:=by
 obtain ⟨a,xs,rfl,q1,h1⟩:=h1
 obtain ⟨b,ys,e,q2,h2⟩:=h2
 cases e
 rw [I.list_inj q2 q1] at h2
 exact h1.inj I h2
theorem zmJ (I : Inv X pins σ H s) (hu : A.units + (Rep.depth α + 1) < cLine) (h1 : hasL X.K H as x) (h2 : hasL X.K H bs y) (r1 : RelV x u) (r2 : RelV y v) : RcAt A s u v (decide (as = bs)):=by
 obtain ⟨a,xs,rfl,q1,h1⟩:=h1
 obtain ⟨b,ys,rfl,q2,h2⟩:=h2
 cases r1
 cases r2
 obtain ⟨us,ru,pu,_⟩:=I.list q1
 obtain ⟨vs,rv,pv,_⟩:=I.list q2
 have l1:=ru.length
 have l2:=rv.length
 have m1:=h1.length
 have m2:=h2.length
 have hin : A.in1.units + Rep.depth α < cLine:=ybg (ybK zcL _) (by omega)
 by_cases hl : as.length = bs.length
 ·have e:=zfr as bs hl
  rw [← e]
  have z : as.length = us.toArray.size:=by simp; omega
  rw [z]
  exact RcAt.lists pu.isList pv.isList (by simp; omega) (by omega) (zfV I hin h1 h2 ru rv)
 ·rw [yas (fun z=>hl (by rw [z]))]
  exact RcAt.lists_lengths pu.isList pv.isList (by simp; omega) (by omega)
theorem zpK (I : Inv X pins σ H s) (hu : A.units + (Rep.depth α + 1) < cLine) (h1 : hasL X.K H as x) (h2 : hasL X.K H bs y) (r1 : RelV x u) (r2 : RelV y v) : RcNeAt A s u v (!decide (as = bs)):=by
 obtain ⟨a,xs,rfl,q1,h1⟩:=h1
 obtain ⟨b,ys,rfl,q2,h2⟩:=h2
 cases r1
 cases r2
 obtain ⟨us,ru,pu,_⟩:=I.list q1
 obtain ⟨vs,rv,pv,_⟩:=I.list q2
 have l1:=ru.length
 have l2:=rv.length
 have m1:=h1.length
 have m2:=h2.length
 have hin : A.in1.units + Rep.depth α < cLine:=ybg (ybK zcL _) (by omega)
 by_cases hl : as.length = bs.length
 ·have e:=zfr as bs hl
  rw [← e]
  have z : as.length = us.toArray.size:=by simp; omega
  rw [z]
  exact RcNeAt.lists pu.isList pv.isList (by simp; omega) (by omega) (zfV I hin h1 h2 ru rv)
 ·rw [yas (fun z=>hl (by rw [z])),Bool.not_false]
  exact RcNeAt.lists_lengths pu.isList pv.isList (by simp; omega) (by omega)
theorem zpL (I : Inv X pins σ H s) (hu : A.units + (Rep.depth α + 1) < cLine) (h1 : hasL X.K H as x) (h2 : hasL X.K H bs y) (r1 : RelV x u) (r2 : RelV y v) : EqAt A s u v (decide (as = bs)):=by
 have rc:=zmJ (A:=A) I hu h1 h2 r1 r2
 obtain ⟨a,xs,rfl,q1,h1⟩:=h1
 obtain ⟨b,ys,rfl,q2,h2⟩:=h2
 cases r1
 cases r2
 by_cases hab : a = b
 ·subst hab
  rw [I.list_inj q2 q1] at h2
  rw [yam (h1.inj I h2)]
  exact EqAt.same _
 ·exact EqAt.of_refs hab rc
end
instance {α : Type} [Rep α] : Rep (List α) where
 dec:=inferInstance
 depth:=Rep.depth α + 1
 has:=hasL
 mono:=fun e ⟨a,xs,h1,h2,h3⟩=>⟨a,xs,h1,h2.ext e,h3.mono e⟩
 inj:=fun I h1 h2=>zn7 I h1 h2
 rc:=fun I hu h1 h2 r1 r2=>zmJ I hu h1 h2 r1 r2
 rn:=fun I hu h1 h2 r1 r2=>zpK I hu h1 h2 r1 r2
 eq:=fun I hu h1 h2 r1 r2=>zpL I hu h1 h2 r1 r2
def hasP {α β : Type} [Rep α] [Rep β] (K : Frag) (H : Hp) (p : α×β) (v : V) : Prop:=∃ a x y,v = .ref a∧H a = some (.tup [x,y])∧Rep.has K H p.1 x∧Rep.has K H p.2 y
section
variable {α β : Type} [ra : Rep α] [rb : Rep β] {X : Cx} {pins : List (Addr×Obj)} {σ : St} {H : Hp} {s : Shared} {A : Around} {p q : α×β} {x y : V} {u v : Value}
theorem zkk (I : Inv X pins σ H s) (h1 : hasP X.K H p x) (h2 : hasP X.K H q x) : p = q:=by
 obtain ⟨a,x1,x2,rfl,q1,e1,e2⟩:=h1
 obtain ⟨b,y1,y2,e,q2,f1,f2⟩:=h2
 cases e
 have z:=I.tuple_inj (SqT.of q2) (SqT.of q1)
 cases z
 have g1:=Rep.inj I e1 f1
 have g2:=Rep.inj I e2 f2
 obtain ⟨p1,p2⟩:=p
 obtain ⟨s1,s2⟩:=q
 cases g1
 cases g2
 rfl
theorem zmI (I : Inv X pins σ H s) (hu : A.units + (Rep.depth α + Rep.depth β + 1) < cLine) (h1 : hasP X.K H p x) (h2 : hasP X.K H q y) (r1 : RelV x u) (r2 : RelV y v) : RcAt A s u v (decide (p = q)):=by
 obtain ⟨a,x1,x2,rfl,q1,e1,e2⟩:=h1
 obtain ⟨b,y1,y2,rfl,q2,f1,f2⟩:=h2
 cases r1
 cases r2
 obtain ⟨us,ru,pu,_⟩:=I.tuple (SqT.of q1)
 obtain ⟨vs,rv,pv,_⟩:=I.tuple (SqT.of q2)
 obtain ⟨u1,u2,rfl,ru1,ru2⟩:=zhU ru
 obtain ⟨v1,v2,rfl,rv1,rv2⟩:=zhU rv
 have hin : ∀ n,n≤Rep.depth α + Rep.depth β→A.in1.units + n < cLine:=fun n hn=>ybg (ybK zcL _) (by omega)
 have c1:=Rep.eq (A:=A.in1) I (hin _ (by omega)) e1 f1 ru1 rv1
 have c2:=Rep.eq (A:=A.in1) I (hin _ (by omega)) e2 f2 ru2 rv2
 have:=RcAt.tuples (A:=A) (s:=s) (l:=a) (b:=b) (items:=#[u1,u2]) (items2:=#[v1,v2]) (e:=fun j=>if j = 0 then (Rep.dec p.1 q.1).decide else (Rep.dec p.2 q.2).decide) pu pv (by omega) (by
  intro j h1 h2
  have h1' : j < 2:=h1
  have z : j = 0∨j = 1:=by omega
  rcases z with rfl | rfl
  ·exact c1
  ·exact c2)
 have e : ((List.range (min (#[u1,u2] : Array Value).size (#[v1,v2] : Array Value).size)).all (fun j=>if j = 0 then (Rep.dec p.1 q.1).decide else (Rep.dec p.2 q.2).decide) && (#[u1,u2] : Array Value).size == (#[v1,v2] : Array Value).size) = decide (p = q):=by
  obtain ⟨p1,p2⟩:=p
  obtain ⟨s1,s2⟩:=q
  show (((List.range 2).all fun j=>if j = 0 then (Rep.dec p1 s1).decide else (Rep.dec p2 s2).decide) && true) = _
  rw [show List.range 2 = [0,1] from rfl]
  simp only [yb9,List.all_nil,Bool.and_true,if_true]
  rw [if_neg (by decide)]
  by_cases z1 : p1 = s1
  ·by_cases z2 : p2 = s2
   ·subst z1 z2; simp
   ·subst z1; simp [z2]
  ·simp [z1]
 rw [e] at this
 exact this
theorem zpI (I : Inv X pins σ H s) (hu : A.units + (Rep.depth α + Rep.depth β + 1) < cLine) (h1 : hasP X.K H p x) (h2 : hasP X.K H q y) (r1 : RelV x u) (r2 : RelV y v) : RcNeAt A s u v (!decide (p = q)):=by
 obtain ⟨a,x1,x2,rfl,q1,e1,e2⟩:=h1
 obtain ⟨b,y1,y2,rfl,q2,f1,f2⟩:=h2
 cases r1
 cases r2
 obtain ⟨us,ru,pu,_⟩:=I.tuple (SqT.of q1)
 obtain ⟨vs,rv,pv,_⟩:=I.tuple (SqT.of q2)
 obtain ⟨u1,u2,rfl,ru1,ru2⟩:=zhU ru
 obtain ⟨v1,v2,rfl,rv1,rv2⟩:=zhU rv
 have hin : ∀ n,n≤Rep.depth α + Rep.depth β→A.in1.units + n < cLine:=fun n hn=>ybg (ybK zcL _) (by omega)
 have c1:=Rep.eq (A:=A.in1) I (hin _ (by omega)) e1 f1 ru1 rv1
 have c2:=Rep.eq (A:=A.in1) I (hin _ (by omega)) e2 f2 ru2 rv2
 have:=RcNeAt.tuples (A:=A) (s:=s) (l:=a) (b:=b) (items:=#[u1,u2]) (items2:=#[v1,v2]) (e:=fun j=>if j = 0 then (Rep.dec p.1 q.1).decide else (Rep.dec p.2 q.2).decide) pu pv (by omega) (by
  intro j h1 h2
  have h1' : j < 2:=h1
  have z : j = 0∨j = 1:=by omega
  rcases z with rfl | rfl
  ·exact c1
  ·exact c2)
 have e : ((List.range (min (#[u1,u2] : Array Value).size (#[v1,v2] : Array Value).size)).all (fun j=>if j = 0 then (Rep.dec p.1 q.1).decide else (Rep.dec p.2 q.2).decide) && (#[u1,u2] : Array Value).size == (#[v1,v2] : Array Value).size) = decide (p = q):=by
  obtain ⟨p1,p2⟩:=p
  obtain ⟨s1,s2⟩:=q
  show (((List.range 2).all fun j=>if j = 0 then (Rep.dec p1 s1).decide else (Rep.dec p2 s2).decide) && true) = _
  rw [show List.range 2 = [0,1] from rfl]
  simp only [yb9,List.all_nil,Bool.and_true,if_true]
  rw [if_neg (by decide)]
  by_cases z1 : p1 = s1
  ·by_cases z2 : p2 = s2
   ·subst z1 z2; simp
   ·subst z1; simp [z2]
  ·simp [z1]
 rw [e] at this
 exact this
theorem zpJ (I : Inv X pins σ H s) (hu : A.units + (Rep.depth α + Rep.depth β + 1) < cLine) (h1 : hasP X.K H p x) (h2 : hasP X.K H q y) (r1 : RelV x u) (r2 : RelV y v) : EqAt A s u v (decide (p = q)):=by
 have rc:=zmI (A:=A) I hu h1 h2 r1 r2
 have h1':=id h1
 have h2':=id h2
 obtain ⟨a,x1,x2,rfl,q1,e1,e2⟩:=h1
 obtain ⟨b,y1,y2,rfl,q2,f1,f2⟩:=h2
 cases r1
 cases r2
 by_cases hab : a = b
 ·subst hab
  rw [yam (zkk I h1' h2')]
  exact EqAt.same _
 ·exact EqAt.of_refs hab rc
end
instance {α β : Type} [Rep α] [Rep β] : Rep (α×β) where
 dec:=inferInstance
 depth:=Rep.depth α + Rep.depth β + 1
 has:=hasP
 mono:=fun e ⟨a,x,y,h1,h2,h3,h4⟩=>⟨a,x,y,h1,e _ _ h2 (fun _ z=>nomatch z),Rep.mono e h3,Rep.mono e h4⟩
 inj:=fun I h1 h2=>zkk I h1 h2
 rc:=fun I hu h1 h2 r1 r2=>zmI I hu h1 h2 r1 r2
 rn:=fun I hu h1 h2 r1 r2=>zpI I hu h1 h2 r1 r2
 eq:=fun I hu h1 h2 r1 r2=>zpJ I hu h1 h2 r1 r2
theorem huD {A : Around} {k : Nat} {α : Type} [Rep α] (hr : Room k A) (h : Rep.depth α≤64:=by decide) : A.units + Rep.depth α < cLine:=ybg (ycu h _) hr.units
def rEqD (α : Type) [Rep α] (K : Frag) : R2:=fun x y H Q=>∃ a b : α,Rep.has K H a x∧Rep.has K H b y∧Q (.bl (decide (a = b))) H
def rNeD (α : Type) [Rep α] (K : Frag) : R2:=fun x y H Q=>∃ a b : α,Rep.has K H a x∧Rep.has K H b y∧Q (.bl (!decide (a = b))) H
section
variable {X : Cx}
theorem zoE (α : Type) [Rep α] (hu : X.A.units + Rep.depth α < cLine) : OpR X (compareOp .Eq) (rEqD α X.K):=by
 intro pins s σ H x y v u Q I rx ry h
 obtain ⟨a,b,ha,hb,q⟩:=h
 refine Rep.rc I hu ha hb rx ry X.prog X.w X.xe _ ⟨.bl _,H,I,rfl,?_⟩
 have e : (Rep.dec a b).decide = decide (a = b):=rfl
 rw [e]
 exact q
theorem zjZ (α : Type) [Rep α] (hu : X.A.units + Rep.depth α < cLine) : OpR X (compareOp .NotEq) (rNeD α X.K):=by
 intro pins s σ H x y v u Q I rx ry h
 obtain ⟨a,b,ha,hb,q⟩:=h
 refine Rep.rn I hu ha hb rx ry X.prog X.w X.xe _ ⟨.bl _,H,I,rfl,?_⟩
 have e : (Rep.dec a b).decide = decide (a = b):=rfl
 rw [e]
 exact q
end
end L2
namespace L2
open PySem PySem.Spec PyProof.Rows
section
variable {X : Cx} {pins : List (Addr×Obj)} {σ : St} {H : Hp} {s : Shared} {h' : Heap}
theorem Inv.turnedNew {t' : Nat} {fp : List Addr} {p : Addr} {o : HO} (I : Inv X pins σ H s) (k : ∀ b ob,b∉fp→s.heap.get? b = some ob→h'.get? b = some ob) (hf : ∀ b∈fp,FpOk X pins H b)
  (hp : s.heap.objs.size≤p) (new : zbs X.prog X.w (upd H p o) h' p o) : Inv X pins σ (upd H p o) { s with heap:=h',toks:=t' }:=by
 have hn : H p = none:=I.hok.fresh hp
 have nfp : ∀ b u,H b = some u→b∉fp:=fun b u e z=>by rw [(hf b z).1] at e; cases e
 have nep : ∀ b ob,s.heap.get? b = some ob→b≠p:=fun b ob e=>yar (yau (yaf e) hp)
 refine I.step (g':=s.gens) (d':=s.drawn) (ch:=fp) (fun b hb=>?_) (fun b ob _ _ hc e _=>k b ob hc e) (fun b ob _ _ hc e _=>⟨ob.slots,k b ob hc e⟩) (fun b ob _ e n=>by rw [zag (nep b ob e)]; exact n)
  (fun b ob hc e=>⟨ob,k b ob hc e⟩) (fun b xs e=>by rw [zag (zab e hn)]; exact e) (fun b ob u e=>by rw [zag (zab e hn)]; exact e) (fun b ps e=>⟨#[],by rw [zag (zab e hn),e]; simp⟩) (fun m hm=>?_) (fun b u e=>?_) I.bare
 ·obtain ⟨_,h2,_,h4,h5,h6⟩:=hf b hb
  exact ⟨h4,h2,h5,h6⟩
 ·obtain ⟨ob,es,ep,ho,r⟩:=hm
  exact ⟨ob,es,ep,k _ ob (fun z=>(hf _ z).2.1 rfl) ho,r⟩
 ·by_cases hb : b = p
  ·subst hb; rw [zac] at e; cases e; exact new
  ·rw [zag hb] at e
   refine (I.hok b u e).stay (fun c v hc q=>k c v ?_ q) (fun c q=>by rw [zag (zab q hn)]; exact q) fun c xs q=>by rw [zag (zab q hn)]; exact q
   rcases hc with z | z
   ·rw [z]; exact nfp b u e
   ·exact nfp c _ z
theorem zlq {P : Program} {w : World} {H : Hp} {h : Heap} {p : Addr} {x y : V} {u v : Value} (rx : RelV x u) (ry : RelV y v) (e : h.get? p = some { cls:=.type "tuple",data:=.seq #[u,v] }) : zbs P w H h p (.tup [x,y]):=
 ⟨by show 2≤sizeLine; decide,[u,v],.cons rx (.cons ry .nil),_,e,rfl,0,rfl⟩
end
def Ite (K : Frag) (a : Addr) : It:=
 ⟨fun i H=>∃ xs x,SqL K H a xs∧xs[i]? = some x,fun i H x H'=>∃ p y,x = .ref p∧H p = none∧(∀ xs,SqL K H a xs→xs[i]? = some y)∧H' = upd H p (.tup [.int i,y]),fun i H=>∃ xs,SqL K H a xs∧xs.length≤i⟩
theorem zln {P : Program} {w : World} {K : Frag} {es : List Expr} {k0} {pos : Pos} (a it e : Addr) (hne : e≠it) : Turn P w K (.Tuple es k0 pos) (Ite K a) [e,it] e (fun i h=>(∃ old,IsEnum h e it i old)∧h.IsListIter it a i) where
 mem:=by simp
 obj:=fun i h st b hb=>by
  obtain ⟨⟨old,he⟩,o,ho,c,d⟩:=st
  rcases yap.mp hb with z | z
  ·subst z
   exact ⟨_,he,fun v z=>by cases z⟩
  ·have z:=yao.mp z
   subst z
   exact ⟨o,ho,fun v z=>by rw [d] at z; cases z⟩
 keep:=fun i h h' st k=>by
  obtain ⟨⟨old,he⟩,hi⟩:=st
  exact ⟨⟨old,k e (by simp) _ he⟩,hi.at fun o q=>k it (by simp) o q⟩
 item:=by
  intro X hP hw hK hc i pins s σ H E I hf st hg
  subst hP hw hK
  obtain ⟨⟨old,he⟩,hi⟩:=st
  obtain ⟨xs,x,hq,hx⟩:=hg
  obtain ⟨its,rv,p,hz⟩:=I.list hq
  obtain ⟨u,hu,ru⟩:=rv.get hx
  refine wpAny_pyNext_enum_item he hi p.isList (x:=u) (by simpa using hu) hne fun h1 he1 hi1 ht1 _ k1=>?_
  refine ⟨_,rfl,wpAny_letOwnedTupleGo_enum (s:={ s with heap:=h1,toks:=s.toks + 1 }) he1 fun h2 he2 sb=>?_⟩
  have np : s.heap.objs.size≠e:=ybC (yaf he)
  have ht2 : h2.get? s.heap.objs.size = some { cls:=.type "tuple",data:=.seq #[.int i s.toks,u] }:=(sb.2 _ np).trans ht1
  have I2 : Inv X pins σ (upd H s.heap.objs.size (.tup [.int i,x])) { s with heap:=h2,toks:=s.toks + 1 }:=
   I.turnedNew (fp:=[e,it]) (fun b ob hb q=>(sb.2 b (fun z=>hb (by simp [z]))).trans (k1 b ob (fun z=>hb (by simp [z])) (fun z=>hb (by simp [z])) q)) hf (yaa _) (zlq ⟨_,rfl⟩ ru ht2)
  refine ⟨.ref s.heap.objs.size,_,I2,rfl,⟨_,x,rfl,I.hok.fresh (yaa _),fun ys hy=>by rw [I.list_inj hy hq]; exact hx,rfl⟩,⟨⟨u,?_⟩,?_⟩,fun b hb=>?_⟩
  ·have z : IsEnum h2 e it ((i : Int) + 1) u:=he2
   exact z
  ·exact hi1.at fun o q=>(sb.2 it (Ne.symm hne)).trans q
  ·have z:=(hf b hb).1
   rw [zag ?_]
   ·exact z
   ·rcases yap.mp hb with q | q
    ·rw [q]; exact Ne.symm np
    ·rw [yao.mp q]
     obtain ⟨o,ho,_⟩:=hi
     exact yar (yaf ho)
 done:=by
  intro X hP hw hK hc i pins s σ H E I hf st hg
  subst hP hw hK
  obtain ⟨⟨old,he⟩,hi⟩:=st
  obtain ⟨xs,hq,hx⟩:=hg
  obtain ⟨its,rv,p,hz⟩:=I.list hq
  obtain ⟨f0,f1,f2,f3,f4,f5⟩:=hf it (by simp)
  have hl:=rv.length
  exact wpAny_pyNext_enum_end (I.ok.hd hc) he hi p.isList (by simp; omega) fun h' eb=>⟨rfl,I.turned (t':=s.toks) (fun b o hb q=>eb b o hb q) f0 f1 f3 f4 f5⟩
 self:=fun _ _ _ _ _ st h=>by
  obtain ⟨⟨old,he⟩,_⟩:=st
  exact wpAny_pyIter_enum he h
def zrw (K : Frag) (ta : TA) : TI:=fun σ H R=>ta σ H fun vs H1=>∃ a,vs = [.ref a]∧(∃ xs,SqL K H1 a xs)∧R (Ite K a) H1
section
variable {X : Cx}
theorem zdl {es : List Expr} {k0} {tp : Pos} {a : Expr} {ta : TA} {p pos : Pos} (hg : Gl X "enumerate") (hm : X.mg "enumerate" = none) (ha : PA X [a] ta) (hs : starEach [a] X.env = [(false,eval a X.env)]:=by rfl) : PI X (.Tuple es k0 tp) (.Call (.Name "enumerate" p) [a] [] pos) (zrw X.K ta):=by
 intro pins s σ H R I h
 refine Call_ (zeV I hg hm boot_enumerate (PyProof.Rows.callWith_type1 (thn (ha pos pins s σ H _ I h) fun us s1 ⟨vs,H1,I1,r1,q1⟩=>?_) hs rfl))
 obtain ⟨l,e,⟨xs,hq⟩,q⟩:=q1
 subst e
 cases r1 with
 | cons r rr=>
  cases rr
  cases r
  obtain ⟨its,rv,pl,hz⟩:=I1.list hq
  refine call_enumerate_list pl.isList fun h' he hi _ hk=>?_
  have I2 : Inv X pins σ H1 { s1 with heap:=h' }:=I1.kept (t':=s1.toks) hk
  refine wpAny_pyIter_enum (s:={ s1 with heap:=h' }) he ⟨_,[s1.heap.objs.size + 1,s1.heap.objs.size],_,_,H1,rfl,I2,zln l s1.heap.objs.size (s1.heap.objs.size + 1) (Nat.succ_ne_self _),⟨⟨_,he⟩,hi⟩,fun b hb=>?_,q⟩
  have hb' : s1.heap.objs.size≤b:=by
   rcases yap.mp hb with z | z
   ·rw [z]; exact ya5 _
   ·rw [yao.mp z]; exact yaa _
  exact I1.fpOk hb' (I1.hok.fresh hb')
end
theorem zhF {K : Frag} {a : Addr} {xs : List V} {g : TG} {tb : TS} {D : Ends} {σ : St} {H : Hp} (Pv : Nat→St→Hp→Prop) (h0 : Pv 0 σ H) (hl : ∀ i σ H,i≤xs.length→Pv i σ H→SqL K H a xs)
  (hs : ∀ i x σ H p,xs[i]? = some x→Pv i σ H→H p = none→g (.ref p) σ (upd H p (.tup [.int i,x])) fun σ2 H2=>tb { D with nx:=Pv (i + 1),ct:=Pv (i + 1),bk:=D.nx } σ2 H2) (hd : ∀ σ H,Pv xs.length σ H→D.nx σ H) :
  ∃ W : Nat→Nat→St→Hp→Prop,(∃ m,W 0 m σ H)∧∀ i m σ H,W i m σ H→((Ite K a).stop i H∧D.nx σ H)∨((Ite K a).go i H∧∃ N : St→Hp→Prop,(∀ σ' H',N σ' H'→∃ m',m' < m∧W (i + 1) m' σ' H')∧∀ x H',(Ite K a).yld i H x H'→g x σ H' fun σ2 H2=>tb { D with nx:=N,ct:=N,bk:=D.nx } σ2 H2):=by
 refine ⟨fun i m σ H=>i + m = xs.length∧Pv i σ H,⟨xs.length,by omega,h0⟩,fun i m σ H ⟨e,pv⟩=>?_⟩
 have hS:=hl i σ H (by omega) pv
 by_cases hi : i < xs.length
 ·refine .inr ⟨⟨xs,xs[i],hS,yac hi⟩,Pv (i + 1),fun σ' H' q=>⟨m - 1,by omega,by omega,q⟩,fun x H' y=>?_⟩
  obtain ⟨p,z,rfl,hp,hz,rfl⟩:=y
  exact hs i z σ H p (hz xs hS) pv hp
 ·have : i = xs.length:=by omega
  subst this
  exact .inl ⟨⟨xs,hS,yaa _⟩,hd σ H pv⟩
def Itz (K : Frag) (a b : Addr) : It:=
 ⟨fun i H=>∃ xs ys x y,SqL K H a xs∧SqL K H b ys∧xs[i]? = some x∧ys[i]? = some y,fun i H x H'=>∃ p y z,x = .ref p∧H p = none∧(∀ xs,SqL K H a xs→xs[i]? = some y)∧(∀ xs,SqL K H b xs→xs[i]? = some z)∧H' = upd H p (.tup [y,z]),fun i H=>∃ xs ys,SqL K H a xs∧SqL K H b ys∧(xs.length≤i∨ys.length≤i)⟩
theorem znj {P : Program} {w : World} {K : Frag} {es : List Expr} {k0} {pos : Pos} {a b z TI TO i1 i2 : Addr} (D : ZipApart z TI TO i1 i2 a b) : Turn P w K (.Tuple es k0 pos) (Itz K a b) [z,TI,TO,i1,i2] z
  (fun i h=>IsZip h z TI TO .none∧IsPair h TI (.ref i1) (.ref i2)∧(∃ u v,IsPair h TO u v)∧h.IsListIter i1 a i∧h.IsListIter i2 b i) where
 mem:=by simp
 obj:=fun i h st c hc=>by
  obtain ⟨hz,hTI,⟨u,v,hTO⟩,⟨o1,e1,_,d1⟩,⟨o2,e2,_,d2⟩⟩:=st
  simp only [yap,ya6,or_false] at hc
  rcases hc with rfl | rfl | rfl | rfl | rfl
  ·exact ⟨_,hz,fun v q=>by cases q⟩
  ·exact ⟨_,hTI,fun v q=>by cases q⟩
  ·exact ⟨_,hTO,fun v q=>by cases q⟩
  ·exact ⟨o1,e1,fun v q=>by rw [d1] at q; cases q⟩
  ·exact ⟨o2,e2,fun v q=>by rw [d2] at q; cases q⟩
 keep:=fun i h h' st k=>by
  obtain ⟨hz,hTI,⟨u,v,hTO⟩,h1,h2⟩:=st
  exact ⟨k z (by simp) _ hz,k TI (by simp) _ hTI,⟨u,v,k TO (by simp) _ hTO⟩,h1.at fun o q=>k i1 (by simp) o q,h2.at fun o q=>k i2 (by simp) o q⟩
 item:=by
  intro X hP hw hK hc i pins s σ H E I hf st hg
  subst hP hw hK
  obtain ⟨hz,hTI,⟨u0,v0,hTO⟩,h1,h2⟩:=st
  obtain ⟨xs,ys,x,y,hqa,hqb,hx,hy⟩:=hg
  obtain ⟨its,rv,p,_⟩:=I.list hqa
  obtain ⟨jts,rw',p',_⟩:=I.list hqb
  obtain ⟨u,hu,ru⟩:=rv.get hx
  obtain ⟨v,hv,rv'⟩:=rw'.get hy
  refine wpAny_pyNext_zip_item D hz hTI hTO h1 h2 p.isList p'.isList (x:=u) (y:=v) (by simpa using hu) (by simpa using hv) fun h1' hz1 hTO1 hi1 hi2 ht1 _ k1=>?_
  refine ⟨_,rfl,wpAny_letOwnedTupleGo_zip (s:={ s with heap:=h1' }) hz1 fun h2' hz2 sb=>?_⟩
  have np : s.heap.objs.size≠z:=ybC (yaf hz)
  have ht2 : h2'.get? s.heap.objs.size = some { cls:=.type "tuple",data:=.seq #[u,v] }:=(sb.2 _ np).trans ht1
  have I2 : Inv X pins σ (upd H s.heap.objs.size (.tup [x,y])) { s with heap:=h2',toks:=s.toks }:=
   I.turnedNew (fp:=[z,TI,TO,i1,i2]) (fun c ob hb q=>(sb.2 c (fun r=>hb (by simp [r]))).trans (k1 c ob (fun r=>hb (by simp [r])) (fun r=>hb (by simp [r])) (fun r=>hb (by simp [r])) (fun r=>hb (by simp [r])) q)) hf (yaa _) (zlq ru rv' ht2)
  refine ⟨.ref s.heap.objs.size,_,I2,rfl,⟨_,x,y,rfl,I.hok.fresh (yaa _),fun ys hy'=>by rw [I.list_inj hy' hqa]; exact hx,fun ys hy'=>by rw [I.list_inj hy' hqb]; exact hy,rfl⟩,⟨hz2,(sb.2 _ D.TIz).trans (k1 TI _ D.TIz D.TITO D.TIi1 D.TIi2 hTI),⟨_,_,(sb.2 _ D.TOz).trans hTO1⟩,hi1.at fun o q=>(sb.2 i1 D.i1z).trans q,hi2.at fun o q=>(sb.2 i2 D.i2z).trans q⟩,fun c hb=>?_⟩
  have zf:=(hf c hb).1
  have lt : c < s.heap.objs.size:=by
   simp only [yap,ya6,or_false] at hb
   obtain ⟨o1,e1,_⟩:=h1
   obtain ⟨o2,e2,_⟩:=h2
   rcases hb with rfl | rfl | rfl | rfl | rfl
   ·exact yaf hz
   ·exact yaf hTI
   ·exact yaf hTO
   ·exact yaf e1
   ·exact yaf e2
  rw [zag (yar lt)]
  exact zf
 done:=by
  intro X hP hw hK hc i pins s σ H E I hf st hg
  subst hP hw hK
  obtain ⟨hz,hTI,⟨u0,v0,hTO⟩,h1,h2⟩:=st
  obtain ⟨xs,ys,hqa,hqb,hend⟩:=hg
  obtain ⟨its,rv,p,_⟩:=I.list hqa
  obtain ⟨jts,rw',p',_⟩:=I.list hqb
  have l1:=rv.length
  have l2:=rw'.length
  refine wpAny_pyNext_zip_end (I.ok.hd hc) D hz hTI hTO h1 h2 p.isList p'.isList (by
   rcases hend with q | q
   ·left; simp; omega
   ·right; simp; omega) fun h' kk=>⟨rfl,?_⟩
  refine I.step (g':=s.gens) (d':=s.drawn) (t':=s.toks) (ch:=[z,TI,TO,i1,i2]) (fun c hb=>?_) (fun c ob _ _ hn q _=>kk c ob (fun r=>hn (by simp [r])) (fun r=>hn (by simp [r])) (fun r=>hn (by simp [r])) (fun r=>hn (by simp [r])) q)
   (fun c ob _ _ hn q _=>⟨ob.slots,kk c ob (fun r=>hn (by simp [r])) (fun r=>hn (by simp [r])) (fun r=>hn (by simp [r])) (fun r=>hn (by simp [r])) q⟩) (fun _ _ _ _ n=>n)
   (fun c ob hn q=>⟨ob,kk c ob (fun r=>hn (by simp [r])) (fun r=>hn (by simp [r])) (fun r=>hn (by simp [r])) (fun r=>hn (by simp [r])) q⟩) (fun _ _ q=>q) (fun _ _ _ q=>q) (fun c ps q=>⟨#[],by rw [q]; simp⟩) (fun m hm=>?_) (fun c u e=>?_) I.bare
  ·obtain ⟨_,q2,_,q4,q5,q6⟩:=hf c hb
   exact ⟨q4,q2,q5,q6⟩
  ·obtain ⟨ob,es,ep,ho,r⟩:=hm
   have nL : ∀ c∈[z,TI,TO,i1,i2],X.env.locals≠c:=fun c hc=>Ne.symm (hf c hc).2.1
   exact ⟨ob,es,ep,kk _ ob (nL z (by simp)) (nL TO (by simp)) (nL i1 (by simp)) (nL i2 (by simp)) ho,r⟩
  ·have nf : ∀ c' u,H c' = some u→∀ q∈[z,TI,TO,i1,i2],c'≠q:=fun c' u e q hq r=>by rw [r,(hf q hq).1] at e; cases e
   refine (I.hok c u e).stay (fun c' v hc' q=>?_) (fun _ q=>q) fun _ _ q=>q
   have go : ∀ u',H c' = some u'→h'.get? c' = some v:=fun u' e'=>kk c' v (nf c' _ e' z (by simp)) (nf c' _ e' TO (by simp)) (nf c' _ e' i1 (by simp)) (nf c' _ e' i2 (by simp)) q
   rcases hc' with r | r
   ·exact go u (by rw [r]; exact e)
   ·exact go _ r
 self:=fun _ _ _ _ _ st h=>wpAny_pyIter_zip st.1 h
theorem zlc {l l' n : Nat} (hl : l < n) (hl' : l' < n) : ZipApart (n + 4) (n + 2) (n + 3) n (n + 1) l l':=by
 constructor <;> (intro z; have z' : (_ : Nat) = _:=z; omega)
theorem zp4 {n c : Nat} (h : c∈[n + 4,n + 2,n + 3,n,n + 1]) : n≤c:=by
 simp only [yap,ya6,or_false] at h
 omega
def iZip (K : Frag) (ta : TA) : TI:=fun σ H R=>ta σ H fun vs H1=>∃ a b,vs = [.ref a,.ref b]∧(∃ xs,SqL K H1 a xs)∧(∃ xs,SqL K H1 b xs)∧R (Itz K a b) H1
section
variable {X : Cx}
theorem zjT {es : List Expr} {k0} {tp : Pos} {a b : Expr} {ta : TA} {p pos : Pos} (hg : Gl X "zip") (hm : X.mg "zip" = none) (ha : PA X [a,b] ta) (hs : starEach [a,b] X.env = [(false,eval a X.env),(false,eval b X.env)]:=by rfl) (hs2 : starEach [b] X.env = [(false,eval b X.env)]:=by rfl) : PI X (.Tuple es k0 tp) (.Call (.Name "zip" p) [a,b] [] pos) (iZip X.K ta):=by
 intro pins s σ H R I h
 refine Call_ (zeV I hg hm boot_zip (PyProof.Rows.callWith_type1 (thn (ha pos pins s σ H _ I h) fun us s1 ⟨vs,H1,I1,r1,q1⟩=>?_) (by rw [hs,hs2]) (by rw [hs2]; rfl)))
 obtain ⟨l,l',e,⟨xs,hq⟩,⟨ys,hq'⟩,q⟩:=q1
 subst e
 cases r1 with
 | cons r rr=>
  cases rr with
  | cons r' rr=>
   cases rr
   cases r
   cases r'
   obtain ⟨its,rv,pl,hz⟩:=I1.list hq
   obtain ⟨jts,rv',pl',hz'⟩:=I1.list hq'
   have hl : l < s1.heap.objs.size:=by obtain ⟨o,_,e,_⟩:=pl; exact yaf e
   have hl' : l' < s1.heap.objs.size:=by obtain ⟨o,_,e,_⟩:=pl'; exact yaf e
   refine call_zip_2 pl.isList pl'.isList fun h' hz hTI hTO hi hi' _ hk=>?_
   have I2 : Inv X pins σ H1 { s1 with heap:=h' }:=I1.kept (t':=s1.toks) hk
   refine wpAny_pyIter_zip (s:={ s1 with heap:=h' }) hz ⟨_,[s1.heap.objs.size + 4,s1.heap.objs.size + 2,s1.heap.objs.size + 3,s1.heap.objs.size,s1.heap.objs.size + 1],_,_,H1,rfl,I2,znj (zlc hl hl'),⟨hz,hTI,⟨_,_,hTO⟩,hi,hi'⟩,fun c hb=>?_,q⟩
   have hb' : s1.heap.objs.size≤c:=zp4 hb
   exact I1.fpOk hb' (I1.hok.fresh hb')
end
theorem zpM {K : Frag} {a b : Addr} {xs ys : List V} {g : TG} {tb : TS} {D : Ends} {σ : St} {H : Hp} (hlen : xs.length = ys.length) (Pv : Nat→St→Hp→Prop) (h0 : Pv 0 σ H) (hl : ∀ i σ H,i≤xs.length→Pv i σ H→SqL K H a xs∧SqL K H b ys)
  (hs : ∀ i x y σ H p,xs[i]? = some x→ys[i]? = some y→Pv i σ H→H p = none→g (.ref p) σ (upd H p (.tup [x,y])) fun σ2 H2=>tb { D with nx:=Pv (i + 1),ct:=Pv (i + 1),bk:=D.nx } σ2 H2) (hd : ∀ σ H,Pv xs.length σ H→D.nx σ H) :
  ∃ W : Nat→Nat→St→Hp→Prop,(∃ m,W 0 m σ H)∧∀ i m σ H,W i m σ H→((Itz K a b).stop i H∧D.nx σ H)∨((Itz K a b).go i H∧∃ N : St→Hp→Prop,(∀ σ' H',N σ' H'→∃ m',m' < m∧W (i + 1) m' σ' H')∧∀ x H',(Itz K a b).yld i H x H'→g x σ H' fun σ2 H2=>tb { D with nx:=N,ct:=N,bk:=D.nx } σ2 H2):=by
 refine ⟨fun i m σ H=>i + m = xs.length∧Pv i σ H,⟨xs.length,by omega,h0⟩,fun i m σ H ⟨e,pv⟩=>?_⟩
 obtain ⟨hS,hS'⟩:=hl i σ H (by omega) pv
 by_cases hi : i < xs.length
 ·refine .inr ⟨⟨xs,ys,xs[i],ys[i]'(by omega),hS,hS',yac hi,yac (by omega)⟩,Pv (i + 1),fun σ' H' q=>⟨m - 1,by omega,by omega,q⟩,fun x H' y=>?_⟩
  obtain ⟨p,z,z',rfl,hp,hz,hz',rfl⟩:=y
  exact hs i z z' σ H p (hz xs hS) (hz' ys hS') pv hp
 ·have : i = xs.length:=by omega
  subst this
  exact .inl ⟨⟨xs,ys,hS,hS',.inl (yaa _)⟩,hd σ H pv⟩
end L2
namespace L2
open PySem PySem.Spec PyProof.Rows
def zbE (X : Cx) (N : List Str) (scope : Scope) (cl : List (Str×Addr)) (C : Addr) (s₂ : Shared) (H₂ : Hp) (fp : List Addr) : Cx:=
 { X with N:=N,s₀:=s₂,H₀:=H₂,env:=compEnvC scope cl C X.env,outer:=X.stack,stack:=X.stack,ex:=fp,fn:=fun _=>false,xe:=fun _ _=>False }
structure zgq (scope : Scope) (env : Env) (cl : List (Str×Addr)) : Prop where
 eq : closureFor scope env = pure cl
 sub : ∀ x c,cl.lookup x = some c→env.cells.lookup x = some c
 has : ∀ x,(x,NameKind.free)∈scope.names→∃ c,cl.lookup x = some c
theorem zgg {env : Env} : ∀ (names : List (Str×NameKind)) (cs : List (Str×Addr)),(∀ x,(x,NameKind.free)∈names→∃ c,env.cells.lookup x = some c)→(∀ x c,cs.lookup x = some c→env.cells.lookup x = some c)→
  ∃ cl : List (Str×Addr),(forIn names cs (fun (x : Str×NameKind) (r : List (Str×Addr))=>if (x.2 == NameKind.free) = true then (do let c ← cellOf env x.1; pure (ForInStep.yield ((x.1,c) :: r))) else pure (ForInStep.yield r)) : Sem (List (Str×Addr))) = pure cl∧
   (∀ x c,cl.lookup x = some c→env.cells.lookup x = some c)∧(∀ x c,cs.lookup x = some c→∃ c',cl.lookup x = some c')∧∀ x,(x,NameKind.free)∈names→∃ c,cl.lookup x = some c
 | [],cs,_,h2=>⟨cs,by rw [List.forIn_nil],h2,fun x c e=>⟨c,e⟩,fun _ z=>nomatch z⟩
 | (n,k) :: r,cs,h1,h2=>by
  by_cases hk : k = .free
  ·subst hk
   obtain ⟨c,hc⟩:=h1 n yaz
   have hn : ∀ x c',((n,c) :: cs).lookup x = some c'→env.cells.lookup x = some c':=fun x c' e=>by
    rw [yaJ] at e
    cases hx : x == n with
    | true=>
     rw [hx] at e
     cases e
     rw [eq_of_beq hx]
     exact hc
    | false=>
     rw [hx] at e
     exact h2 x c' e
   obtain ⟨cl,e,s1,s2,s3⟩:=zgg r ((n,c) :: cs) (fun x hx=>h1 x (yaG _ hx)) hn
   have here : ∃ c',cl.lookup n = some c':=s2 n c (by rw [yaJ,beq_self_eq_true])
   refine ⟨cl,?_,s1,fun x c' q=>?_,fun x hx=>?_⟩
   ·rw [List.forIn_cons,if_pos (by rfl)]
    have q : cellOf env n = pure c:=by unfold cellOf; rw [hc]
    rw [q]
    simp only [pure_bind]
    exact e
   ·cases hxn : x == n with
    | true=>rw [eq_of_beq hxn]; exact here
    | false=>exact s2 x c' (by rw [yaJ,hxn]; exact q)
   ·rcases yap.mp hx with z | z
    ·cases z; exact here
    ·exact s3 x z
  ·obtain ⟨cl,e,s1,s2,s3⟩:=zgg r cs (fun x hx=>h1 x (yaG _ hx)) h2
   refine ⟨cl,?_,s1,s2,fun x hx=>?_⟩
   ·have hb : (k == NameKind.free) = false:=by simpa using hk
    rw [List.forIn_cons,if_neg (by rw [hb]; exact yaA)]
    simp only [pure_bind]
    exact e
   ·rcases yap.mp hx with z | z
    ·cases z; exact absurd rfl hk
    ·exact s3 x z
theorem ze4 {scope : Scope} {env : Env} (h : ∀ x,(x,NameKind.free)∈scope.names→∃ c,env.cells.lookup x = some c) : ∃ cl,zgq scope env cl:=by
 obtain ⟨cl,e,s1,_,s3⟩:=zgg scope.names [] h (fun _ _ z=>nomatch z)
 refine ⟨cl,?_,s1,s3⟩
 unfold closureFor
 exact (by simpa using e)
theorem zbx {env : Env} : ∀ {names : List (Str×NameKind)} {x : Str},names.lookup x = some .free→
  (names.map fun (n,k)=>if (k == NameKind.free && env.scope.kind == .function && env.kindOf n == some .cell) then (n,NameKind.cell) else (n,k)).lookup x = some .cell∨
  (names.map fun (n,k)=>if (k == NameKind.free && env.scope.kind == .function && env.kindOf n == some .cell) then (n,NameKind.cell) else (n,k)).lookup x = some .free
 | [],_,h=>by simp at h
 | (n,k) :: r,x,h=>by
  have ih:=@zbx env r x
  show List.lookup x ((if (k == NameKind.free && env.scope.kind == .function && env.kindOf n == some .cell) = true then (n,NameKind.cell) else (n,k)) :: _) = _∨List.lookup x ((if (k == NameKind.free && env.scope.kind == .function && env.kindOf n == some .cell) = true then (n,NameKind.cell) else (n,k)) :: _) = _
  cases hx : x == n with
  | true=>
   simp only [yaJ,hx] at h
   cases h
   by_cases hc : (NameKind.free == NameKind.free && env.scope.kind == .function && env.kindOf n == some .cell) = true
   ·rw [if_pos hc]; left; simp only [yaJ,hx]
   ·rw [if_neg hc]; right; simp only [yaJ,hx]
  | false=>
   simp only [yaJ,hx] at h
   by_cases hc : (k == NameKind.free && env.scope.kind == .function && env.kindOf n == some .cell) = true
   ·rw [if_pos hc]; simp only [yaJ,hx]; exact ih h
   ·rw [if_neg hc]; simp only [yaJ,hx]; exact ih h
theorem zd7 {env : Env} : ∀ {names : List (Str×NameKind)} {x : Str} {k' : NameKind},(names.map fun (n,k)=>if (k == NameKind.free && env.scope.kind == .function && env.kindOf n == some .cell) then (n,NameKind.cell) else (n,k)).lookup x = some k'→k' = .cell∨k' = .free→
  (∀ y∈names,y.2≠.cell)→(x,NameKind.free)∈names
 | [],_,_,h,_,_=>by simp at h
 | (n,k) :: r,x,k',h,hk,hc=>by
  have ih:=@zd7 env r x k'
  have h' : List.lookup x ((if (k == NameKind.free && env.scope.kind == .function && env.kindOf n == some .cell) = true then (n,NameKind.cell) else (n,k)) :: r.map fun (n,k)=>if (k == NameKind.free && env.scope.kind == .function && env.kindOf n == some .cell) then (n,NameKind.cell) else (n,k)) = some k':=h
  cases hx : x == n with
  | true=>
   have e:=eq_of_beq hx
   subst e
   by_cases hf : k = .free
   ·subst hf; exact yaz
   ·have hb : (k == NameKind.free) = false:=by simpa using hf
    rw [if_neg (by rw [hb]; simp),yaJ,hx] at h'
    cases h'
    rcases hk with z | z
    ·exact absurd z (hc (x,k) yaz)
    ·exact absurd z hf
  | false=>
   refine yaG _ (ih ?_ hk fun y hy=>hc y (yaG _ hy))
   by_cases hcd : (k == NameKind.free && env.scope.kind == .function && env.kindOf n == some .cell) = true
   ·rw [if_pos hcd,yaJ,hx] at h'; exact h'
   ·rw [if_neg hcd,yaJ,hx] at h'; exact h'
def zcg (own : Nat) (cap : List Nat) (σ : St) : St:=List.replicate own none ++ cap.map fun i=>(σ[i]?).getD none
structure zkv (X : Cx) (scope : Scope) (N : List Str) (own : Nat) (cap : List Nat) : Prop where
 kind : scope.kind = .function
 nocell : (scope.names.all fun y=>y.2 != .cell) = true
 locs : (scope.names.all fun y=>y.2 != .local || scope.names.lookup y.1 == some .local) = true
 frees : (scope.names.all fun y=>y.2 != .free || (X.env.kindOf y.1 == some .cell || X.env.kindOf y.1 == some .free)) = true
 len : N.length = own + cap.length
 caps : ((List.range cap.length).all fun j=>(N[own + j]? == X.N[cap[j]!]?) && (match N[own + j]? with | some x=>scope.names.lookup x == some .free && (X.env.kindOf x == some .cell || X.env.kindOf x == some .free) | none=>false)) = true
section
variable {prog : Program} {w : World} {A : Around} {R : Result→Shared→Prop} {s : Shared}
theorem zge {elt target iter : Expr} {ifs : List Expr} {scope : Scope} {pos : Pos} {it acc : Value} {env : Env} (I : Nat→Shared→Prop)
  (turn : ∀ n s,I n s→wpAny (model prog w) A (pyNext it) (fun r s₁=>match r with
   | none=>R (.ok .next) s₁
   | some v=>wpAny (model prog w) A (letOwnedTupleGo target it v) (fun _ s₁'=>wpAny (model prog w) A (assign target env v) (fun _ s₂=>
     wpAny (model prog w) A (forIn ifs true fun c r=>if r = true then do let ok ← isTrue c env (eval c env); pure (ForInStep.yield ok) else pure (ForInStep.yield r)) (fun ok s₃=>
      if ok = true then wpAny (model prog w) A (eval elt env) (fun x s₄=>
       wpAny (model prog w) A (call (.builtin "list.append") [acc,x]) (fun _ s₅=>∃ m,m < n∧I m s₅) (fun _ _=>False) s₄) (fun _ _=>False) s₃
      else ∃ m,m < n∧I m s₃) (fun _ _=>False) s₂) (fun _ _=>False) s₁') (fun _ _=>False) s₁) (fun _ _=>False) s)
  (n : Nat) (h : I n s) :
  codeAny (model prog w) A (.compLoop (.ListComp elt [⟨target,iter,ifs,0⟩] scope pos) 0 it acc env) R s:=by
 refine codeAny_loop rfl I (fun n s hI=>?_) n h
 show wpAny _ A ((compTurn (.ListComp elt [⟨target,iter,ifs,0⟩] scope pos) 0 it acc env).onRaise (fun x=>do noteFrame x env; theTreesLotGoes x)) _ _ s
 refine wpAny_noted ?_
 rw [compTurn_list]
 refine wpAny_bind (wpAny_standAt (wpAny_bind (wpAny_mono (turn n s hI) (fun r s₁ h₁=>?_) fun _ _ h'=>h'.elim)))
 cases r with
 | none=>exact wpAny_pure h₁
 | some v=>
  refine wpAny_bind (wpAny_mono h₁ (fun _ s₁' h₁'=>?_) fun _ _ h'=>h'.elim)
  refine wpAny_bind (wpAny_mono h₁' (fun _ s₂ h₂=>wpAny_bind (wpAny_mono h₂ (fun ok s₃ h₃=>?_) fun _ _ h'=>h'.elim)) fun _ _ h'=>h'.elim)
  cases ok with
  | true=>
   simp only [if_true] at h₃ ⊢
   exact wpAny_bind (wpAny_bind (wpAny_mono h₃ (fun x s₄ h₄=>wpAny_bind (wpAny_mono h₄ (fun _ s₅ h₅=>wpAny_pure (wpAny_pure ⟨rfl,h₅⟩)) fun _ _ h'=>h'.elim)) fun _ _ h'=>h'.elim))
  | false=>
   simp only [yaU,if_false] at h₃ ⊢
   exact wpAny_pure ⟨rfl,h₃⟩
end
section
variable {X : Cx}
def PTs (X : Cx) (ifs : List Expr) (t : TT) : Prop:=
 ∀ (pins : List (Addr×Obj)) (s : Shared) (σ : St) (H : Hp) (Q : Bool→Hp→Prop),Inv X pins σ H s→t σ H Q→
  wpAny (model X.prog X.w) X.A (forIn ifs true fun c r=>if r = true then do let ok ← isTrue c X.env (eval c X.env); pure (ForInStep.yield ok) else pure (ForInStep.yield r)) (TP X pins σ Q) X.xe s
def tYes : TT:=fun _ H Q=>Q true H
theorem zbH : PTs X [] tYes:=fun _ _ _ H _ I h=>wpAny_tests_nil ⟨H,I,h⟩
theorem zdh {c : Expr} {t : TT} (h : PT X c t) : PTs X [c] t:=fun pins s σ H Q I q=>wpAny_tests_one (h pins s σ H Q I q)
theorem zn4 {pins : List (Addr×Obj)} {σ : St} {H : Hp} {s : Shared} {N : List Str} {own : Nat} {cap : List Nat} {scope : Scope} {cl : List (Str×Addr)} {C : Addr} {fp : List Addr} {h₁ : Heap} {tk : Nat} {D : Addr}
  (I : Inv X pins σ H s) (c : zkv X scope N own cap) (hcl : zgq scope X.env cl) (f : ∀ b∈fp,FpOk X pins H b) (hD : s.heap.objs.size≤D) (hC : s.heap.objs.size≤C) (hCD : D≠C)
  (kp : ∀ b o,s.heap.get? b = some o→h₁.get? b = some o) (hnew : h₁.get? D = some { cls:=.type "list",data:=.seq #[] }) (hns : ∃ m,h₁.Ns C m) (hfp : ∀ b∈fp,b < s.heap.objs.size) (hcalm : X.calm = true) :
  Inv (zbE X N scope cl C s H fp) pins (zcg own cap σ) (upd H D (.lst [])) { s with heap:=h₁,toks:=tk }:=by
 have hfr : H D = none:=I.hok.fresh hD
 have hfrC : H C = none:=I.hok.fresh hC
 have sz : ∀ b o,s.heap.get? b = some o→b≠D∧b≠C:=fun b o e=>⟨yar (yau (yaf e) hD),yar (yau (yaf e) hC)⟩
 have cells : ∀ x cc,cl.lookup x = some cc→∃ v,s.heap.IsCell cc v:=fun x cc e=>I.cell x cc (hcl.sub x cc e)
 have cellne : ∀ x cc,cl.lookup x = some cc→cc≠D∧cc≠C:=fun x cc e=>by
  obtain ⟨v,o,ho,_⟩:=cells x cc e
  exact sz cc o ho
 have ok : (zbE X N scope cl C s H fp).Ok:=by
  refine ⟨I.ok.mod,c.kind,I.ok.glob,I.ok.blt,hC,fun x y cc e1 e2=>I.ok.inj x y cc (hcl.sub x cc e1) (hcl.sub y cc e2),fun x hx=>?_,(fun x cc z _=>nomatch z),I.ok.hd,I.ok.frames,.inl rfl,fun b hb=>?_,fun b o e=>I.bs b o e,?_,fun b o e hb=>?_,fun b hb z=>?_,I.stack,fun b hb=>I.stkFree b hb⟩
  ·have hm : (x,NameKind.free)∈scope.names:=by
    rcases hx with z | z
    ·exact zd7 (env:=X.env) (names:=scope.names) (x:=x) (k':=.cell) z (.inl rfl) fun y hy q=>by
      have:=ya7.mp c.nocell y hy
      rw [q] at this
      exact absurd this (by decide)
    ·exact zd7 (env:=X.env) (names:=scope.names) (x:=x) (k':=.free) z (.inr rfl) fun y hy q=>by
      have:=ya7.mp c.nocell y hy
      rw [q] at this
      exact absurd this (by decide)
   exact hcl.has x hm
  ·exact ⟨yar (yau (hfp b hb) hC),fun x cc e z=>(f b hb).2.2.2.2.1 x cc (hcl.sub x cc e) z⟩
  ·exact yat I.ok.bsz I.sz
  ·obtain ⟨_,_,_,h4,_⟩:=f b hb
   rcases h4 with z | z
   ·exact I.ok.noex b o e z
   ·exact absurd (yau (yaf e) (yat I.ok.bsz z)) (yaX _)
  ·obtain ⟨_,h2,h3,_⟩:=f b hb
   rcases yap.mp (I.stkSub b z) with q | q
   ·exact h2 q
   ·exact h3 q
 have hokN : zbs X.prog X.w (upd H D (.lst [])) h₁ D (.lst []):=⟨yaD _,[],0,.nil,hnew⟩
 refine ⟨ok,I.os.symm ▸ rfl,I.bare,Un.laid kp hD hfr,?_,fun x cc e=>?_,?_,fun x cc e=>?_,fun p hp=>?_,I.hok.laid kp hD hokN,?_⟩
 ·obtain ⟨m,hm⟩:=hns
  refine ⟨m,hm,fun i x v e1 e2 e3=>?_⟩
  have hi : own≤i:=by
   false_or_by_contra
   rename_i z
   unfold zcg at e2
   rw [ybh (by rw [ybe]; omega),yct] at e2
   split at e2 <;> cases e2
  obtain ⟨j,rfl⟩ : ∃ j,i = own + j:=⟨i - own,by omega⟩
  have hj : j < cap.length:=by
   have:=(yag.mp e1).1
   have z:=c.len
   have this' : own + j < N.length:=this
   omega
  have hc:=ya7.mp c.caps j (ya9.mpr hj)
  have e1' : N[own + j]? = some x:=e1
  rw [e1'] at hc
  simp only [ybf,beq_iff_eq,yb2] at hc
  obtain ⟨hN,hf,hk⟩:=hc
  have e2' : σ[cap[j]!]? = some (some v):=by
   unfold zcg at e2
   rw [yaY (by rw [ybe]; omega),ybe,show own + j - own = j by omega,yaj] at e2
   have g : cap[j]! = cap[j]:=by simp [hj]
   rw [yac hj,Option.map_some] at e2
   rw [g]
   have e2:=yae e2
   cases q : σ[cap[j]]? with
   | none=>rw [q] at e2; cases e2
   | some z=>rw [q] at e2; exact congrArg some e2
  obtain ⟨m0,_,hl⟩:=I.loc
  obtain ⟨u,ru,lk⟩:=hl (cap[j]!) x v hN.symm e2' (by
   rcases hk with z | z
   ·exact .inr (.inl z)
   ·exact .inr (.inr z))
  refine ⟨u,ru,.inr ⟨zbx (env:=X.env) hf,?_⟩⟩
  rcases lk with ⟨z,_⟩ | ⟨_,cc,ec,ic⟩
  ·rcases hk with q | q
   ·rw [q] at z; cases z
   ·rw [q] at z; cases z
  ·obtain ⟨c',hc'⟩:=hcl.has x (by
    have : (x,NameKind.free)∈scope.names:=by
     have hlk:=hf
     obtain ⟨l1,l2,hs,hno⟩:=List.lookup_eq_some_iff.mp hlk
     rw [hs]
     exact yax _ yaz
    exact this)
   have:=hcl.sub x c' hc'
   rw [ec] at this
   cases this
   obtain ⟨o,ho,hd⟩:=ic
   exact ⟨cc,hc',o,kp cc o ho,hd⟩
 ·obtain ⟨v,o,ho,hd⟩:=cells x cc e
  exact ⟨v,o,kp cc o ho,hd⟩
 ·show upd H D (.lst []) C = none
  rw [zag (Ne.symm hCD)]
  exact hfrC
 ·show upd H D (.lst []) cc = none
  rw [zag (cellne x cc e).1]
  exact I.freeC x cc (hcl.sub x cc e)
 ·obtain ⟨e,n,ne,nf,d⟩:=I.pin p hp
  refine ⟨kp _ _ e,?_,(sz _ _ e).2,fun z=>?_,d⟩
  ·show upd H D (.lst []) p.1 = none
   rw [zag (sz _ _ e).1]
   exact n
  ·rcases yap.mp (I.stkSub p.1 z) with q | q
   ·exact ne q
   ·exact nf q
 ·show (zcg own cap σ).length = N.length
  unfold zcg
  rw [yah,ybe,yab,c.len]
def zo4 (own : Nat) (cap : List Nat) (wi : TI) (g : TG) (ts : TT) (te : TE) : TE:=fun σ H Q=>wi σ H fun J H1=>∀ D,H1 D = none→∃ W : Nat→Nat→St→Hp→Prop,(∃ m,W 0 m (zcg own cap σ) (upd H1 D (.lst [])))∧∀ i m σ H,W i m σ H→
 (J.stop i H∧Q (.ref D) H)∨(J.go i H∧∀ x H',J.yld i H x H'→g x σ H' fun σ2 H2=>ts σ2 H2 fun b H3=>if b = true then te σ2 H3 fun y H4=>∃ xs,H4 D = some (.lst xs)∧xs.length < sizeLine∧∃ m',m' < m∧W (i + 1) m' σ2 (upd H4 D (.lst (xs ++ [y]))) else ∃ m',m' < m∧W (i + 1) m' σ2 H3)
theorem ziB {pins : List (Addr×Obj)} {σ : St} {H2 : Hp} {s2 : Shared} {N : List Str} {own : Nat} {cap : List Nat} {scope : Scope} {cl : List (Str×Addr)} {fp : List Addr} {tg elt iter : Expr} {ifs : List Expr} {pos : Pos} {J : It} {it : Addr} {tn : Nat→Heap→Prop} {g : TG} {ts : TT} {te : TE} {Q : VK}
  {E : Value→Shared→Prop} {RR : Value→Addr→Result→Shared→Prop}
  (hcalm : X.calm = true) (c : zkv X scope N own cap) (hcl : zgq scope X.env cl)
  (hg : ∀ cl C s₂ H₂ fp,PG (zbE X N scope cl C s₂ H₂ fp) tg g) (hts : ∀ cl C s₂ H₂ fp,PTs (zbE X N scope cl C s₂ H₂ fp) ifs ts) (he : ∀ cl C s₂ H₂ fp,PE (zbE X N scope cl C s₂ H₂ fp) elt te)
  (I2 : Inv X pins σ H2 s2) (T : Turn X.prog X.w X.K tg J fp it tn) (st2 : tn 0 s2.heap) (f2 : ∀ b∈fp,FpOk X pins H2 b)
  (rd : ∀ D,H2 D = none→∃ W : Nat→Nat→St→Hp→Prop,(∃ m,W 0 m (zcg own cap σ) (upd H2 D (.lst [])))∧∀ i m σ H,W i m σ H→
   (J.stop i H∧Q (.ref D) H)∨(J.go i H∧∀ x H',J.yld i H x H'→g x σ H' fun σ2 H2=>ts σ2 H2 fun b H3=>if b = true then te σ2 H3 fun y H4=>∃ xs,H4 D = some (.lst xs)∧xs.length < sizeLine∧∃ m',m' < m∧W (i + 1) m' σ2 (upd H4 D (.lst (xs ++ [y]))) else ∃ m',m' < m∧W (i + 1) m' σ2 H3))
  (hRR : ∀ D C s' H',Inv X pins σ H' s'→(∃ m,s'.heap.Ns C m)→FpOk X pins H' C→Q (.ref D) H'→RR (.ref D) C (.ok .next) s') :
  wpAny (model X.prog X.w) X.A (newList []) (fun acc s₃=>wpAny (model X.prog X.w) X.A (newFunctionEnv scope X.env.globals cl [] X.env.qual none .none (some X.env)) (fun cenv s₄=>
   codeAny (model X.prog X.w) X.A (.compStart (.ListComp elt [⟨tg,iter,ifs,0⟩] scope pos) 0 (.ref it) acc { cenv with scope:=relabel scope X.env }) (RR acc cenv.locals) s₄) E s₃) E s2:=by
 have hcell : ∀ y∈scope.names,y.2≠.cell:=fun y hy q=>by
  have:=ya7.mp c.nocell y hy
  rw [q] at this
  exact absurd this (by decide)
 have hfp : ∀ b∈fp,b < s2.heap.objs.size:=fun b hb=>by
  obtain ⟨o,e,_⟩:=T.obj 0 _ st2 b hb
  exact yaf e
 refine wpAny_newObj_type (wpAny_newFunctionEnv hcell (by intro y hy; simp at hy) (fun h₁ hns₁ hsb₁=>?_) c.kind)
 dsimp only at hns₁ hsb₁ ⊢
 generalize hHH : s2.heap.push { cls:=.type "list",dict:=none,data:=.seq ([] : List Value).toArray } = HH at hns₁ hsb₁ ⊢
 have hC : HH.objs.size = s2.heap.objs.size + 1:=by rw [← hHH,yb3]
 have hDC : s2.heap.objs.size≠HH.objs.size:=by rw [hC]; exact yar (ycj _)
 have hCle : s2.heap.objs.size≤HH.objs.size:=by rw [hC]; exact ya5 _
 have old : ∀ b o,s2.heap.get? b = some o→h₁.get? b = some o:=fun b o e=>hsb₁.extBut b o (yar (by rw [hC]; exact Nat.lt_succ_of_lt (yaf e))) (yai _ (hHH ▸ yai _ e))
 have hnew : h₁.get? s2.heap.objs.size = some { cls:=.type "list",data:=.seq #[] }:=hsb₁.extBut _ _ hDC (yai _ (hHH ▸ yaH _ rfl))
 have I3 : ∀ tk,Inv (zbE X N scope cl HH.objs.size s2 H2 fp) pins (zcg own cap σ) (upd H2 s2.heap.objs.size (.lst [])) { s2 with heap:=h₁,toks:=tk }:=fun tk=>
  zn4 I2 c hcl f2 (yaa _) hCle hDC old hnew ⟨_,hns₁⟩ hfp hcalm
 obtain ⟨W,⟨m0,w0⟩,turn⟩:=rd s2.heap.objs.size (I2.hok.fresh (yaa _))
 have st3 : tn 0 h₁:=T.keep _ _ _ st2 fun b _ o e=>old b o e
 have fr3 : ∀ b∈fp,upd H2 s2.heap.objs.size (.lst []) b = none:=fun b hb=>by rw [zag (yar (hfp b hb))]; exact (f2 b hb).1
 have stat : ∀ {H' : Hp},(∀ b∈fp,H' b = none)→∀ b∈fp,FpOk (zbE X N scope cl HH.objs.size s2 H2 fp) pins H' b:=fun hn b hb=>by
  obtain ⟨_,h2,h3,_,h5,h6⟩:=f2 b hb
  refine ⟨hn b hb,yar (yau (hfp b hb) hCle),fun z=>?_,.inl hb,fun x cc e=>h5 x cc (hcl.sub x cc e),h6⟩
  rcases yap.mp (I2.stkSub b z) with q | q
  ·exact h2 q
  ·exact h3 q
 have loop : ∀ s₃ : Shared,s₃ = { s2 with heap:=h₁,toks:=s2.toks + ([] : List (Str×Value)).length }→
   codeAny (model X.prog X.w) X.A (.compLoop (.ListComp elt [⟨tg,iter,ifs,0⟩] scope pos) 0 (.ref it) (.ref s2.heap.objs.size) (compEnvC scope cl HH.objs.size X.env)) (RR (.ref s2.heap.objs.size) HH.objs.size) s₃:=by
  rintro s₃ rfl
  refine zge (fun n s'=>∃ i σ' H',Inv (zbE X N scope cl HH.objs.size s2 H2 fp) pins σ' H' s'∧tn i s'.heap∧(∀ b∈fp,H' b = none)∧W i n σ' H') ?_ m0 ⟨0,_,_,I3 _,st3,fr3,w0⟩
  rintro n s3 ⟨i,σ3,H3,J3,t3,fr,w3⟩
  rcases turn i n σ3 H3 w3 with ⟨stop,qn⟩ | ⟨go,step⟩
  ·refine thn (T.done (zbE X N scope cl HH.objs.size s2 H2 fp) rfl rfl rfl hcalm i pins s3 σ3 H3 (fun _ _=>False) J3 (stat fr) t3 stop) fun r s4 ⟨hr,I4⟩=>?_
   subst hr
   obtain ⟨mm,hmm,_⟩:=I4.loc
   refine hRR _ _ s4 H3 (I2.call' I4.os I4.base I4.hok I4.bare fun b hb=>?_) ⟨mm,hmm⟩ (I2.fpOk hCle I4.free) qn
   obtain ⟨_,h2,_,h4,h5,h6⟩:=f2 b hb
   exact ⟨h4,h2,h5,h6⟩
  ·refine thn (T.item (zbE X N scope cl HH.objs.size s2 H2 fp) rfl rfl rfl hcalm i pins s3 σ3 H3 (fun _ _=>False) J3 (stat fr) t3 go) fun r s4 ⟨u,hr,h4⟩=>?_
   subst hr
   refine thn h4 fun _ s5 ⟨x,H5,I5,r5,y5,st5,fr5⟩=>?_
   have I5':=I5.pinned (stat fr5) (T.obj _ _ st5)
   have back : ∀ {σ7 : St} {H7 : Hp} {s7 : Shared} {m' : Nat},Inv (zbE X N scope cl HH.objs.size s2 H2 fp) (pins ++ zgE fp s5.heap) σ7 H7 s7→W (i + 1) m' σ7 H7→∃ i σ' H',Inv (zbE X N scope cl HH.objs.size s2 H2 fp) pins σ' H' s7∧tn i s7.heap∧(∀ b∈fp,H' b = none)∧W i m' σ' H':=fun {σ7 H7 s7 m'} I7 w7=>by
    refine ⟨i + 1,σ7,H7,I7.unpinned,T.keep _ _ _ st5 fun b hb o e=>(I7.pin (b,o) (yax _ (yax _ (zca hb e)))).1,fun b hb=>?_,w7⟩
    obtain ⟨o,e,d⟩:=T.obj _ _ st5 b hb
    exact (I7.pin (b,o) (yax _ (yax _ (zca hb e)))).2.1
   refine thn (hg cl HH.objs.size s2 H2 fp _ s5 σ3 H5 x u _ I5' r5 (step x H5 y5)) fun _ s6 ⟨σ6,H6,I6,q6⟩=>?_
   refine thn (hts cl HH.objs.size s2 H2 fp _ s6 σ6 H6 _ I6 q6) fun b s7 ⟨H7,I7,q7⟩=>?_
   cases b with
   | false=>
    rw [if_neg yaA] at q7 ⊢
    obtain ⟨m',hm,w7⟩:=q7
    exact ⟨m',hm,back I7 w7⟩
   | true=>
    rw [if_pos rfl] at q7 ⊢
    refine thn (he cl HH.objs.size s2 H2 fp _ s7 σ6 H7 _ I7 q7) fun v s8 ⟨y,H8,I8,r8,q8⟩=>?_
    obtain ⟨xs,hx,hz,m',hm,w8⟩:=q8
    refine thn (zaI (X:=zbE X N scope cl HH.objs.size s2 H2 fp) _ s8 σ6 H8 (.ref s2.heap.objs.size) [y] (.ref s2.heap.objs.size) [v] (fun _ H9=>H9 = upd H8 s2.heap.objs.size (.lst (xs ++ [y]))) I8 rfl (.cons r8 .nil) ⟨_,xs,y,rfl,rfl,hx,hz,rfl⟩) fun _ s9 ⟨_,H9,I9,_,e9⟩=>?_
    subst e9
    exact ⟨m',hm,back I9 w8⟩
 refine codeAny_compStart_list (loop _ rfl) ?_
 exact T.self _ 0 _ _ _ st3 (loop _ rfl)
theorem zbJ {N : List Str} {own : Nat} {cap : List Nat} {scope : Scope} {tg elt iter : Expr} {ifs : List Expr} {pos : Pos} {wi : TI} {g : TG} {ts : TT} {te : TE} (hcalm : X.calm = true) (hi : PI X tg iter wi) (c : zkv X scope N own cap)
  (hg : ∀ cl C s₂ H₂ fp,PG (zbE X N scope cl C s₂ H₂ fp) tg g) (hts : ∀ cl C s₂ H₂ fp,PTs (zbE X N scope cl C s₂ H₂ fp) ifs ts) (he : ∀ cl C s₂ H₂ fp,PE (zbE X N scope cl C s₂ H₂ fp) elt te)
  (hs : ∀ x,foldedSetIterable iter X.env x = pure x:=by intro _; rfl) : PE X (.ListComp elt [⟨tg,iter,ifs,0⟩] scope pos) (zo4 own cap wi g ts te):=by
 intro pins s σ H Q I h
 obtain ⟨cl,hcl⟩:=ze4 (scope:=scope) (env:=X.env) fun x hx=>I.ok.has x (by
  have:=ya7.mp c.frees _ hx
  simpa using this)
 rw [eval_ListComp]
 refine wpAny_comprehension_free (use:=none) rfl hs hcl.eq c.kind (fun x hx hl=>by
  have:=ya7.mp c.locs x hx
  rw [hl] at this
  simpa using this) (thn (hi pins s σ H _ I h) fun v s1 h1=>thn h1 fun itv s2 h2=>?_)
 obtain ⟨it,fp,tn,J,H2,e,I2,T,st2,f2,rd⟩:=h2
 subst e
 refine ziB (RR:=fun acc C=>compPost (model X.prog X.w) X.A X.xe none (EP X pins σ Q) acc C) hcalm c hcl hg hts he I2 T st2 f2 rd ?_
 intro D C s' H' I' hm fC q
 obtain ⟨m,hm⟩:=hm
 obtain ⟨f0,f1,f2,f3,f4,f5⟩:=fC
 exact ⟨m,hm,fun h' hsb=>⟨.ref D,H',I'.turned (t':=s'.toks) (fun b o hb e=>(hsb.2 b hb).trans e) f0 f1 f3 f4 f5,rfl,q⟩⟩
theorem zd8 {i : Nat} {x : Str} {N : List Str} {own : Nat} {cap : List Nat} {scope : Scope} {tg elt iter : Expr} {ifs : List Expr} {pos pos' spos : Pos} {wi : TI} {g : TG} {ts : TT} {te : TE} (hN : X.N.Nodup) (hxi : X.N[i]? = some x) (hx : X.env.scope.names.lookup x = some .local) (hcalm : X.calm = true) (hi : PI X tg iter wi) (c : zkv X scope N own cap)
  (hg : ∀ cl C s₂ H₂ fp,PG (zbE X N scope cl C s₂ H₂ fp) tg g) (hts : ∀ cl C s₂ H₂ fp,PTs (zbE X N scope cl C s₂ H₂ fp) ifs ts) (he : ∀ cl C s₂ H₂ fp,PE (zbE X N scope cl C s₂ H₂ fp) elt te)
  (hsw : swapsWith (.ListComp elt [⟨tg,iter,ifs,0⟩] scope pos) (some (.Name x pos')) spos.line X.env = pure true:=by rfl)
  (hs : ∀ x,foldedSetIterable iter X.env x = pure x:=by intro _; rfl) : PS X (.Assign [.Name x pos'] (.ListComp elt [⟨tg,iter,ifs,0⟩] scope pos) spos) (tAsg (zo4 own cap wi g ts te) (ziu i)):=by
 intro pins s σ H D I h
 obtain ⟨cl,hcl⟩:=ze4 (scope:=scope) (env:=X.env) fun x hx=>I.ok.has x (by
  have:=ya7.mp c.frees _ hx
  simpa using this)
 rw [exec_Assign_Name_used _ _ _ _ hsw]
 refine wpAny_bind (wpAny_standAt (wpAny_bind ?_))
 show wpAny _ X.A (do let _ ← comprehension (.ListComp elt [⟨tg,iter,ifs,0⟩] scope pos) scope X.env _ (newList []) false (eval iter X.env) (some (assign (.Name x pos') X.env))) _ _ s
 refine wpAny_bind (wpAny_mono (wpAny_comprehension_free (use:=some (assign (.Name x pos') X.env)) (Q:=fun _ s'=>SP X pins D .next s') rfl hs hcl.eq c.kind (fun x hx hl=>by
  have:=ya7.mp c.locs x hx
  rw [hl] at this
  simpa using this) (thn (hi pins s σ H _ I h) fun v s1 h1=>thn h1 fun itv s2 h2=>?_)) (fun _ s' hq=>wpAny_pure (wpAny_pure hq)) fun _ _ e=>e)
 obtain ⟨it,fp,tn,J,H2,e,I2,T,st2,f2,rd⟩:=h2
 subst e
 refine ziB (RR:=fun acc C=>compPost (model X.prog X.w) X.A X.xe (some (assign (.Name x pos') X.env)) (fun _ s'=>SP X pins D .next s') acc C) (Q:=fun x H1=>ziu i x σ H1 D.nx) hcalm c hcl hg hts he I2 T st2 f2 rd ?_
 intro Dd C s' H' I' hm fC q
 obtain ⟨m,hm⟩:=hm
 have hne : ∀ a,(a = X.env.locals∨X.env.cells.lookup x = some a)→a≠C:=fun a z=>by
  obtain ⟨f0,f1,f2,f3,f4,f5⟩:=fC
  rcases z with z | z
  ·rw [z]; exact Ne.symm f1
  ·exact f4 x a z
 show wpAny _ X.A (assign (.Name x pos') X.env (.ref Dd)) _ _ _
 refine wpAny_assign_Name (zfY I' hN hxi (.inl hx) (v:=.ref Dd) rfl (fun s'' I'' hch=>?_) (.inr hx))
 obtain ⟨a,hsb,ha⟩:=hch
 refine ⟨m,hm.sameBut hsb (Ne.symm (hne a ha)),fun h' hs'=>?_⟩
 obtain ⟨f0,f1,f2,f3,f4,f5⟩:=fC
 exact ⟨_,H',I''.turned (t':=s''.toks) (fun b o hb e=>(hs'.2 b hb).trans e) f0 f1 f3 f4 f5,q⟩
end
end L2
namespace L2
open PySem PySem.Spec PyProof.Rows PySem.SeqAt
class Srt (α : Type) [Rep α] where
 blt : α→α→Bool
 irrefl : ∀ a,blt a a = false
 trans : ∀ a b c,blt a b = true→blt b c = true→blt a c = true
 negTrans : ∀ a b c,blt a c = true→blt a b = true∨blt b c = true
 total : ∀ a b,blt a b = false→blt b a = false→a = b
 kd : SortKind
 one : α
 lt : ∀ {X : Cx} {pins : List (Addr×Obj)} {σ : St} {H : Hp} {s : Shared} {A : Around} {a b : α} {x y : V} {u v : Value} {Q : Bool→Shared→Prop} {E : Value→Shared→Prop},Inv X pins σ H s→Rep.has X.K H a x→Rep.has X.K H b y→RelV x u→RelV y v→Q (blt a b) s→wpAny (model X.prog X.w) A (keyLt' kd u v) Q E s
 kind : ∀ {X : Cx} {pins : List (Addr×Obj)} {σ : St} {H : Hp} {s : Shared} {A : Around} {as : List α} {xs : List V} {us : List Value} {Q : SortKind→Shared→Prop} {E : Value→Shared→Prop},Inv X pins σ H s→zam X.K H as xs→Vals xs us→2≤us.length→Q kd s→wpAny (model X.prog X.w) A (keyKind' us.toArray) Q E s
section
variable {α : Type} [Rep α] [Srt α]
noncomputable def srtKind (α : Type) [Rep α] [Srt α] (K : Frag) (H : Hp) : PyProof.Rows.KeyKind where
 α:=α
 blt:=Srt.blt
 irrefl:=Srt.irrefl
 trans:=Srt.trans
 negTrans:=Srt.negTrans
 total:=Srt.total
 keyOf:=fun u=>open Classical in if h : ∃ a : α,∃ x,RelV x u∧Rep.has K H a x then some (Classical.choose h) else none
 dflt:=Srt.one
theorem zn1 {X : Cx} {pins : List (Addr×Obj)} {σ : St} {H : Hp} {s : Shared} {a : α} {x : V} {u : Value} (I : Inv X pins σ H s) (r : RelV x u) (h : Rep.has X.K H a x) : (srtKind α X.K H).keyOf u = some a:=by
 have e : ∃ a : α,∃ x,RelV x u∧Rep.has X.K H a x:=⟨a,x,r,h⟩
 unfold srtKind
 dsimp only
 rw [dif_pos e]
 obtain ⟨y,ry,hy⟩:=Classical.choose_spec e
 have z:=ry.inj r
 subst z
 exact congrArg some (Rep.inj I hy h)
theorem zgJ {K : Frag} {H : Hp} {a : α} {u : Value} (h : (srtKind α K H).keyOf u = some a) : ∃ x,RelV x u∧Rep.has K H a x:=by
 unfold srtKind at h
 dsimp only at h
 split at h
 ·rename_i e
  cases h
  exact Classical.choose_spec e
 ·cases h
def zdg (as : List α) : List α:=as.mergeSort fun a b=>!Srt.blt b a
theorem zb7 (as : List α) : (zdg as).Perm as:=List.mergeSort_perm _ _
theorem zeq {as : List α} {a : α} : a∈zdg as↔a∈as:=(zb7 as).mem_iff
theorem zcp (as : List α) : (zdg as).length = as.length:=(zb7 as).length_eq
theorem zm4 {a b : α} (h : Srt.blt a b = true) : Srt.blt b a = false:=by
 cases e : Srt.blt b a with
 | false=>rfl
 | true=>
  have:=Srt.trans _ _ _ h e
  rw [Srt.irrefl] at this
  cases this
theorem zjO (as : List α) : (zdg as).Pairwise fun a b=>Srt.blt b a = false:=by
 have h:=List.pairwise_mergeSort (le:=fun a b : α=>!Srt.blt b a) (fun a b c h1 h2=>by
  simp only [ybp] at h1 h2 ⊢
  cases e : Srt.blt c a with
  | false=>rfl
  | true=>
   rcases Srt.negTrans c b a e with z | z
   ·rw [h2] at z; cases z
   ·rw [h1] at z; cases z) (fun a b=>by
  cases e : Srt.blt b a with
  | false=>rfl
  | true=>rw [zm4 e]; rfl) as
 exact h.imp fun {a b} z=>by simpa using z
theorem znr {as bs : List α} (hp : bs.Perm as) (hs : bs.Pairwise fun a b=>Srt.blt b a = false) : bs = zdg as:=
 List.Perm.eq_of_pairwise (fun a b _ _ h1 h2=>Srt.total a b h2 h1) hs (zjO as) (hp.trans (zb7 as).symm)
theorem zfd {as : List α} (hn : as.Nodup) : (zdg as).Pairwise fun a b=>Srt.blt a b = true:=by
 have h1:=zjO as
 have h2 : (zdg as).Nodup:=(zb7 as).nodup_iff.mpr hn
 refine (h1.and h2).imp fun {a b} z=>?_
 cases e : Srt.blt a b with
 | true=>rfl
 | false=>exact absurd (Srt.total a b e z.1) z.2
theorem zio {K : Frag} {H : Hp} : ∀ {out : List Value},(∀ v∈out,∃ a : α,∃ x,RelV x v∧Rep.has K H a x∧(srtKind α K H).keyOf v = some a)→
  ∃ (ws : List V) (bs : List α),Vals ws out∧zam K H bs ws∧bs = out.map (Tim.keyV (srtKind α K H))
 | [],_=>⟨[],[],.nil,.nil,rfl⟩
 | v :: out,h=>by
  obtain ⟨ws,bs,h1,h2,h3⟩:=zio (out:=out) fun u hu=>h u (yaG _ hu)
  obtain ⟨a,x,r,e,k⟩:=h v yaz
  refine ⟨x :: ws,a :: bs,.cons r h1,.cons e h2,?_⟩
  rw [yay,← h3]
  have z : Tim.keyV (srtKind α K H) v = a:=by
   unfold Tim.keyV
   rw [k]
   rfl
  rw [z]
  rfl
theorem zmu {X : Cx} {pins : List (Addr×Obj)} {σ : St} {H : Hp} {s : Shared} (I : Inv X pins σ H s) : ∀ {as : List α} {xs : List V} {us : List Value},zam X.K H as xs→Vals xs us→us.map (Tim.keyV (srtKind α X.K H)) = as∧∀ v∈us,∃ a : α,∃ x,RelV x v∧Rep.has X.K H a x∧(srtKind α X.K H).keyOf v = some a
 | _,_,_,.nil,.nil=>⟨rfl,fun _ z=>nomatch z⟩
 | _,_,_,.cons e t,.cons r q=>by
  obtain ⟨h1,h2⟩:=zmu I t q
  have k:=zn1 I r e
  refine ⟨?_,fun v hv=>?_⟩
  ·rw [yay,h1]
   unfold Tim.keyV
   rw [k]
   rfl
  ·rcases yap.mp hv with z | z
   ·subst z
    exact ⟨_,_,r,e,k⟩
   ·exact h2 v z
end
def zqr (α : Type) [Rep α] [Srt α] (K : Frag) : List V→Hp→VK→Prop:=fun xs H Q=>∃ (p : Addr) (vs : List V) (as : List α),xs = [.ref p]∧SqL K H p vs∧zam K H as vs∧
 ∀ l ws,H l = none→zam K H (zdg as) ws→Q (.ref l) (upd H l (.lst ws))
section
variable {X : Cx}
theorem zd0 (α : Type) [Rep α] [Srt α] : ze8 X (.builtin "sorted") (zqr α X.K):=by
 intro pins s σ H xs us Q I r h
 obtain ⟨p,vs,as,rfl,hq,ha,q⟩:=h
 obtain ⟨u,rfl,rx⟩:=zhV r
 cases rx
 obtain ⟨its,rv,pl,hz⟩:=I.list hq
 have hlen:=rv.length
 obtain ⟨km,kk⟩:=zmu I ha rv
 refine Tim.znq (κ:=srtKind α X.K H) (kd:=Srt.kd α) pl.isList (by omega) (fun v hv=>?_) (fun h' k E x y a b Q hx hy q=>?_) (fun h' E Q k h2 q=>Srt.kind (Inv.kept (t':=s.toks) I k) ha rv h2 q) fun out h' c p1 p2 k hc=>?_
 ·obtain ⟨a,_,_,_,e⟩:=kk v hv
  exact ⟨a,e⟩
 ·obtain ⟨x1,r1,e1⟩:=zgJ hx
  obtain ⟨y1,r2,e2⟩:=zgJ hy
  exact Srt.lt (Inv.kept (t':=s.toks) I k) e1 e2 r1 r2 q
 ·obtain ⟨ws,bs,w1,w2,w3⟩:=zio (α:=α) (K:=X.K) (H:=H) (out:=out) fun v hv=>kk v (p1.mem_iff.mp hv)
  have eb : bs = zdg as:=by
   refine znr ?_ ?_
   ·rw [w3,← km]
    exact p1.map _
   ·rw [w3]
    exact yb1.mpr p2
  rw [eb] at w2
  have hw : ws.length≤sizeLine:=by
   have:=w1.length
   have:=p1.length_eq
   omega
  exact ⟨.ref (s.heap.objs.size + 1),_,I.laid (a:=s.heap.objs.size + 1) (o:=.lst ws) (t':=s.toks) k (ya5 _) ⟨hw,out,c,w1,hc⟩,rfl,q _ ws (I.hok.fresh (ya5 _)) w2⟩
end
instance : Srt Int where
 blt:=fun a b=>decide (a < b)
 irrefl:=fun a=>by simp
 trans:=fun a b c h1 h2=>by
  simp only [decide_eq_true_eq] at *
  omega
 negTrans:=fun a b c h=>by
  simp only [decide_eq_true_eq] at *
  omega
 total:=fun a b h1 h2=>by
  simp only [decide_eq_false_iff_not] at *
  omega
 kd:=oneType'
 one:=0
 lt:=fun {X pins σ H s A a b x y u v Q E} _ h1 h2 r1 r2 q=>by
  have h1 : x = .int a:=h1
  have h2 : y = .int b:=h2
  subst h1 h2
  obtain ⟨t,rfl⟩:=r1
  obtain ⟨t',rfl⟩:=r2
  exact PySem.W.kat_lt_int q
 kind:=fun {X pins σ H s A as xs us Q E} _ h r hl q=>by
  have e:=zam.toInts h
  subst e
  have hi : IntsAre us as:=by
   clear q hl
   induction as generalizing us with
   | nil=>cases r; exact .nil
   | cons a as ih=>
    cases r with
    | cons r1 r2=>
     obtain ⟨t,rfl⟩:=r1
     exact .cons a t (ih (by first | exact zam.ints | assumption) r2)
  match us,hl,hi with
  | v₁ :: v₂ :: rest,_,hi=>
   rw [keyKind_ints hi]
   exact wpAny_pure q
def pLt (a b : Int×Int) : Bool:=decide (a.1 < b.1) || (decide (a.1 = b.1) && decide (a.2 < b.2))
theorem zcC {a b : Int×Int} : pLt a b = true↔a.1 < b.1∨(a.1 = b.1∧a.2 < b.2):=by
 unfold pLt
 simp
theorem ziU {a b : Int×Int} : pLt a b = false↔¬ (a.1 < b.1∨(a.1 = b.1∧a.2 < b.2)):=by
 rw [← zcC]
 simp
theorem zhq {X : Cx} {pins : List (Addr×Obj)} {σ : St} {H : Hp} {s : Shared} {a : Int×Int} {x : V} {u : Value} (I : Inv X pins σ H s) (h : Rep.has X.K H a x) (r : RelV x u) :
  ∃ (p : Addr) (o : Obj) (n : Nat) (t t' : Tok),u = .ref p∧s.heap.get? p = some o∧o.cls = .type "tuple"∧o.data = .seq #[.int a.1 t,.int a.2 t'] n:=by
 obtain ⟨p,x1,x2,rfl,q,e1,e2⟩:=(show hasP X.K H a x from h)
 have e1 : x1 = .int a.1:=e1
 have e2 : x2 = .int a.2:=e2
 subst e1 e2
 cases r
 obtain ⟨us,ru,pu,_⟩:=I.tuple (SqT.of q)
 obtain ⟨u1,u2,rfl,⟨t,rfl⟩,⟨t',rfl⟩⟩:=zhU ru
 obtain ⟨o,ho,hc,n,hd⟩:=pu
 exact ⟨p,o,n,t,t',rfl,ho,hc,hd⟩
theorem zoG {prog : Program} {w : World} {A : Around} {E : Value→Shared→Prop} {s : Shared} {x y : Int} {t u : Tok} {Q : Bool→Shared→Prop} (b : Bool) (h : Q (decide (x < y)) s) : wpAny (model prog w) A (oneLt' b (.int x t) (.int y u)) Q E s:=by
 cases b with
 | true=>
  rw [← keyLt'_oneType]
  exact PySem.W.kat_lt_int h
 | false=>exact PySem.W.kat_one _ _ (lt_int h)
instance : Srt (Int×Int) where
 blt:=pLt
 irrefl:=fun a=>by rw [ziU]; omega
 trans:=fun a b c h1 h2=>by
  rw [zcC] at *
  omega
 negTrans:=fun a b c h=>by
  rw [zcC] at *
  rw [zcC]
  omega
 total:=fun a b h1 h2=>by
  rw [ziU] at *
  obtain ⟨a1,a2⟩:=a
  obtain ⟨b1,b2⟩:=b
  have : a1 = b1∧a2 = b2:=by dsimp only at *; omega
  rw [this.1,this.2]
 kd:=tuples' true
 one:=(0,0)
 lt:=fun {X pins σ H s A a b x y u v Q E} I h1 h2 r1 r2 q=>by
  obtain ⟨p,o,n,t1,t2,rfl,ho,hc,hd⟩:=zhq I h1 r1
  obtain ⟨p',o',n',t3,t4,rfl,ho',hc',hd'⟩:=zhq I h2 r2
  refine PySem.W.kat_lt ho hd ho' hd' ?_
  show PySem.W.KatLex X.prog X.w A true _ Q [(.int a.1 t1,.int b.1 t3),(.int a.2 t2,.int b.2 t4)] 0 s
  refine PySem.W.kat_cons (EqAt.int_int a.1 t1 b.1 t3 _ _ _ _ (PySem.W.kat_go (fun e=>PySem.W.kat_yes ?_) (fun e=>PySem.W.kat_no ?_)))
  ·have e1 : a.1 = b.1:=eq_of_beq e
   refine PySem.W.kat_cons (EqAt.int_int a.2 t2 b.2 t4 _ _ _ _ (PySem.W.kat_go (fun e=>PySem.W.kat_yes (PySem.W.kat_nil ?_)) (fun e=>PySem.W.kat_no (zoG _ ?_))))
   ·have e2 : a.2 = b.2:=eq_of_beq e
    have z : pLt a b = false:=by rw [ziU]; omega
    rw [z] at q
    exact q
   ·have z : pLt a b = decide (a.2 < b.2):=by
     unfold pLt
     rw [yas (by omega : ¬ a.1 < b.1),yam e1]
     rfl
    rw [z] at q
    exact q
  ·have e1 : ¬ a.1 = b.1:=fun z=>by rw [z] at e; simp at e
   refine zoG _ ?_
   have z : pLt a b = decide (a.1 < b.1):=by
    unfold pLt
    rw [yas e1]
    simp
   rw [z] at q
   exact q
 kind:=fun {X pins σ H s A as xs us Q E} I h r hl q=>by
  have go : ∀ {as : List (Int×Int)} {xs : List V} {us : List Value},zam X.K H as xs→Vals xs us→∃ fs,PySem.W.KatTups s.heap us fs∧fs.length = us.length∧∀ v∈fs,∃ i t,v = Value.int i t:=by
   intro as
   induction as with
   | nil=>
    intro xs us h r
    cases h
    cases r
    exact ⟨[],.nil,rfl,fun _ z=>nomatch z⟩
   | cons a as ih=>
    intro xs us h r
    cases h with
    | cons h1 h2=>
     cases r with
     | cons r1 r2=>
      obtain ⟨fs,f1,f2,f3⟩:=ih h2 r2
      obtain ⟨p,o,n,t,t',rfl,ho,hc,hd⟩:=zhq I h1 r1
      refine ⟨.int a.1 t :: fs,PySem.W.KatTups.cons ho hc hd rfl f1,by rw [yaN,yaN,f2],fun v hv=>?_⟩
      rcases yap.mp hv with z | z
      ·exact ⟨_,_,z⟩
      ·exact f3 v z
  obtain ⟨fs,f1,f2,f3⟩:=go h r
  refine PySem.W.kat_kind (T:=.type "int") f1 (by omega) (fun v hv=>?_) (by decide) ?_
  ·obtain ⟨i,t,rfl⟩:=f3 v hv
   exact PySem.W.Looks.of_pure rfl
  ·exact q
end L2
namespace L2
open PySem PySem.Spec PyProof.Rows
section
variable {X : Cx}
theorem zhm {x : Str} {i : Int} {pos : Pos} (hg : Gl X x) (hm : ∃ t,X.mg x = some (.int i t)) (hd : (x == ("__debug__" : Str)) = false:=by decide) : PE X (.Name x pos) (tC (.int i)):=by
 obtain ⟨t,e⟩:=hm
 exact zph hg e ⟨t,rfl⟩ hd
end
theorem zbU {K : Frag} {a D : Addr} {xs : List V} {g : TG} {ts : TT} {te : TE} {σ : St} {H : Hp} {Q : Hp→Prop} (Pv : Nat→St→Hp→Prop) (h0 : Pv 0 σ H) (hl : ∀ i σ H,i≤xs.length→Pv i σ H→SqL K H a xs)
  (hs : ∀ i m x σ H,xs[i]? = some x→i + m = xs.length→Pv i σ H→g x σ H fun σ2 H2=>ts σ2 H2 fun b H3=>if b = true then te σ2 H3 fun y H4=>∃ zs,H4 D = some (.lst zs)∧zs.length < sizeLine∧∃ m',m' < m∧(i + 1 + m' = xs.length∧Pv (i + 1) σ2 (upd H4 D (.lst (zs ++ [y])))) else ∃ m',m' < m∧(i + 1 + m' = xs.length∧Pv (i + 1) σ2 H3))
  (hd : ∀ σ H,Pv xs.length σ H→Q H) :
  ∃ W : Nat→Nat→St→Hp→Prop,(∃ m,W 0 m σ H)∧∀ i m σ H,W i m σ H→((Itl K a).stop i H∧Q H)∨((Itl K a).go i H∧∀ x H',(Itl K a).yld i H x H'→g x σ H' fun σ2 H2=>ts σ2 H2 fun b H3=>if b = true then te σ2 H3 fun y H4=>∃ xs,H4 D = some (.lst xs)∧xs.length < sizeLine∧∃ m',m' < m∧W (i + 1) m' σ2 (upd H4 D (.lst (xs ++ [y]))) else ∃ m',m' < m∧W (i + 1) m' σ2 H3):=by
 refine ⟨fun i m σ H=>i + m = xs.length∧Pv i σ H,⟨xs.length,by omega,h0⟩,fun i m σ H ⟨e,pv⟩=>?_⟩
 have hS:=hl i σ H (by omega) pv
 by_cases hi : i < xs.length
 ·refine .inr ⟨⟨xs,xs[i],hS,yac hi⟩,fun x H' y=>?_⟩
  obtain ⟨e1,y⟩:=y
  subst e1
  exact hs i m x σ _ (y xs hS) e pv
 ·have : i = xs.length:=by omega
  subst this
  exact .inl ⟨⟨xs,hS,yaa _⟩,hd σ H pv⟩
theorem zcb {lo : Int} {n : Nat} {D : Addr} {g : TG} {ts : TT} {te : TE} {σ : St} {H : Hp} {Q : Hp→Prop} (Pv : Nat→St→Hp→Prop) (h0 : Pv 0 σ H)
  (hs : ∀ i m σ H,i + m = n→i < n→Pv i σ H→g (.int (lo + i)) σ H fun σ2 H2=>ts σ2 H2 fun b H3=>if b = true then te σ2 H3 fun y H4=>∃ zs,H4 D = some (.lst zs)∧zs.length < sizeLine∧∃ m',m' < m∧(i + 1 + m' = n∧Pv (i + 1) σ2 (upd H4 D (.lst (zs ++ [y])))) else ∃ m',m' < m∧(i + 1 + m' = n∧Pv (i + 1) σ2 H3))
  (hd : ∀ σ H,Pv n σ H→Q H) :
  ∃ W : Nat→Nat→St→Hp→Prop,(∃ m,W 0 m σ H)∧∀ i m σ H,W i m σ H→((Itr lo n).stop i H∧Q H)∨((Itr lo n).go i H∧∀ x H',(Itr lo n).yld i H x H'→g x σ H' fun σ2 H2=>ts σ2 H2 fun b H3=>if b = true then te σ2 H3 fun y H4=>∃ xs,H4 D = some (.lst xs)∧xs.length < sizeLine∧∃ m',m' < m∧W (i + 1) m' σ2 (upd H4 D (.lst (xs ++ [y]))) else ∃ m',m' < m∧W (i + 1) m' σ2 H3):=by
 refine ⟨fun i m σ H=>i + m = n∧Pv i σ H,⟨n,by omega,h0⟩,fun i m σ H ⟨e,pv⟩=>?_⟩
 by_cases hi : i < n
 ·refine .inr ⟨hi,fun x H' y=>?_⟩
  obtain ⟨e1,y⟩:=y
  subst e1 y
  exact hs i m σ _ e hi pv
 ·have : i = n:=by omega
  subst this
  exact .inl ⟨yaa _,hd σ H pv⟩
end L2
namespace L2
open PySem PySem.Spec PyProof.Rows
theorem zfs : ∀ {ns : List Int} {us : List Value},Vals (ns.map V.int) us→IntsAre us ns
 | [],_,.nil=>.nil
 | n :: _,_,.cons ⟨t,e⟩ q=>by
  subst e
  exact .cons n t (zfs q)
end L2
namespace L2
open PySem PySem.Spec PyProof.Rows
theorem zqQ : kitO "tuple" "tuple" = some true:=by decide +kernel
end L2
namespace L2
theorem zdc {i : Nat} {x : V} {σ : St} {H : Hp} {A B : St→Hp→Prop} (h : A (σ.set i (some x)) H) : ziu i x σ H fun σ2 H2=>tYes σ2 H2 fun b H3=>if b = true then A σ2 H3 else B σ2 H3:=by
 show (if true = true then A (σ.set i (some x)) H else B (σ.set i (some x)) H)
 rw [if_pos rfl]
 exact h
end L2
namespace L2
open PySem PySem.Spec PyProof.Rows
section
variable {X : Cx} {K : Frag}
theorem zfU (h : X.K = K:=by rfl) : IxR X (rIxL K):=by
 subst h
 exact zax
theorem zee (h : X.K = K:=by rfl) : IxR X (rIxT K):=by
 subst h
 exact zaW
end
end L2
namespace L2
open PySem PySem.Spec PyProof.Rows
theorem zhQ {c : TT} {tb : TS} {D : Ends} {σ : St} {H : Hp} (Pv Pe : St→Hp→Prop) (μ : St→Hp→Nat) (h0 : Pv σ H)
  (hs : ∀ σ H,Pv σ H→c σ H fun b H1=>if b = true then tb { D with nx:=fun σ' H'=>Pv σ' H'∧μ σ' H' < μ σ H,ct:=fun σ' H'=>Pv σ' H'∧μ σ' H' < μ σ H,bk:=D.nx } σ H1 else Pe σ H1)
  (mono : ∀ σ H Q Q',(∀ b H1,Q b H1→Q' b H1)→c σ H Q→c σ H Q') (he : ∀ σ H,Pe σ H→D.nx σ H) : zlu c tb D σ H:=by
 refine zjt Pv μ h0 (fun σ H p=>mono σ H _ _ (fun b H1 q=>?_) (hs σ H p)) mono
 cases b with
 | true=>exact q
 | false=>exact he _ _ q
def zp3 (c : TT) : Prop:=∀ σ H Q Q',(∀ b H1,Q b H1→Q' b H1)→c σ H Q→c σ H Q'
theorem zly {a b : TT} (ha : zp3 a) (hb : zp3 b) : zp3 (tAnd a b):=fun σ H Q Q' m h=>ha σ H _ _ (fun c H1 q=>by
 cases c with
 | false=>exact m _ _ q
 | true=>exact hb σ H1 Q Q' m q) h
section
variable {X : Cx} {K : Frag}
theorem zeQ (h : X.K = K:=by rfl) : OpR X (compareOp .NotIn) (rIn K true):=by
 subst h
 exact zdq
theorem zlW {es : List Expr} {k : Nat} {t : TGs} {n : Nat} {pos : Pos} (hc : X.calm = true) (h : PGs X es t) (hK : X.K = K:=by rfl)
  (hn : (assignEach es X.env).length = n:=by rfl) (hst : (assignEach es X.env).findIdx? (·.1) = none:=by rfl) : PG X (.Tuple es k pos) (gTup K n t):=by
 subst hK
 exact zfv hc h hn hst
end
theorem zkq {K : Frag} {a b D : Addr} {xs ys : List V} {g : TG} {ts : TT} {te : TE} {σ : St} {H : Hp} {Q : Hp→Prop} (hlen : xs.length = ys.length) (Pv : Nat→St→Hp→Prop) (h0 : Pv 0 σ H) (hl : ∀ i σ H,i≤xs.length→Pv i σ H→SqL K H a xs∧SqL K H b ys)
  (hs : ∀ i m x y σ H r,xs[i]? = some x→ys[i]? = some y→i + m = xs.length→Pv i σ H→H r = none→g (.ref r) σ (upd H r (.tup [x,y])) fun σ2 H2=>ts σ2 H2 fun b H3=>if b = true then te σ2 H3 fun y H4=>∃ zs,H4 D = some (.lst zs)∧zs.length < sizeLine∧∃ m',m' < m∧(i + 1 + m' = xs.length∧Pv (i + 1) σ2 (upd H4 D (.lst (zs ++ [y])))) else ∃ m',m' < m∧(i + 1 + m' = xs.length∧Pv (i + 1) σ2 H3))
  (hd : ∀ σ H,Pv xs.length σ H→Q H) :
  ∃ W : Nat→Nat→St→Hp→Prop,(∃ m,W 0 m σ H)∧∀ i m σ H,W i m σ H→((Itz K a b).stop i H∧Q H)∨((Itz K a b).go i H∧∀ x H',(Itz K a b).yld i H x H'→g x σ H' fun σ2 H2=>ts σ2 H2 fun b H3=>if b = true then te σ2 H3 fun y H4=>∃ xs,H4 D = some (.lst xs)∧xs.length < sizeLine∧∃ m',m' < m∧W (i + 1) m' σ2 (upd H4 D (.lst (xs ++ [y]))) else ∃ m',m' < m∧W (i + 1) m' σ2 H3):=by
 refine ⟨fun i m σ H=>i + m = xs.length∧Pv i σ H,⟨xs.length,by omega,h0⟩,fun i m σ H ⟨e,pv⟩=>?_⟩
 obtain ⟨hS,hS'⟩:=hl i σ H (by omega) pv
 by_cases hi : i < xs.length
 ·refine .inr ⟨⟨xs,ys,xs[i],ys[i]'(by omega),hS,hS',yac hi,yac (by omega)⟩,fun x H' y=>?_⟩
  obtain ⟨p,z,z',rfl,hp,hz,hz',rfl⟩:=y
  exact hs i m z z' σ H p (hz xs hS) (hz' ys hS') e pv hp
 ·have : i = xs.length:=by omega
  subst this
  exact .inl ⟨⟨xs,ys,hS,hS',.inl (yaa _)⟩,hd σ H pv⟩
end L2
namespace L2
open PySem PySem.Spec PyProof.Rows
section
variable {X : Cx}
theorem zm3 (hc : X.calm = true) : ze8 X (.builtin "min") (fun xs H Q=>∃ (p : Addr) (ns : List Int),xs = [.ref p]∧SqL X.K H p (ns.map V.int)∧0 < ns.length∧∀ M,M∈ns→(∀ a,a∈ns→M≤a)→Q (.int M) H):=by
 intro pins s σ H xs us Q I r h
 obtain ⟨p,ns,rfl,hq,hne,q⟩:=h
 obtain ⟨u,rfl,rx⟩:=zhV r
 cases rx
 obtain ⟨its,rv,pl,_⟩:=I.list hq
 have hi:=zfs rv
 obtain ⟨xs,hx⟩:=hi.allInts.items
 have hl' : s.heap.IsList p (intItems xs):=hx ▸ pl.isList
 have e1 : ns = xs.toList.map (·.1):=by
  rw [← nums_intItems,← hx]
  exact (show numsOf its.toArray.toList = ns from hi.numsOf).symm
 have hsz : 0 < xs.size:=by
  rw [e1,yab,yav] at hne
  exact hne
 refine min_intList (I.ok.hd hc) hl' hsz fun v h' tk hv hk=>?_
 obtain ⟨t,rfl⟩:=intItems_at hv
 obtain ⟨h1,h2⟩:=argBest_lt (numAt xs) (xs.size - 1)
 refine ⟨.int _,H,Inv.kept (t':=tk) I hk,⟨t,rfl⟩,q _ ?_ fun a ha=>?_⟩
 ·rw [e1,numAt_eq]
  rw [yad,yac (by rw [yab,yav]; omega)]
  exact yaB _
 ·rw [e1] at ha
  obtain ⟨j,hj,rfl⟩:=mem_getD ha
  rw [yab,yav] at hj
  rw [← numAt_eq]
  exact h2 j (by omega)
end
theorem zdZ {K : Frag} {a D : Addr} {xs : List V} {g : TG} {ts : TT} {te : TE} {σ : St} {H : Hp} {Q : Hp→Prop} (Pv : Nat→St→Hp→Prop) (h0 : Pv 0 σ H) (hl : ∀ i σ H,i≤xs.length→Pv i σ H→SqT K H a xs)
  (hs : ∀ i m x σ H,xs[i]? = some x→i + m = xs.length→Pv i σ H→g x σ H fun σ2 H2=>ts σ2 H2 fun b H3=>if b = true then te σ2 H3 fun y H4=>∃ zs,H4 D = some (.lst zs)∧zs.length < sizeLine∧∃ m',m' < m∧(i + 1 + m' = xs.length∧Pv (i + 1) σ2 (upd H4 D (.lst (zs ++ [y])))) else ∃ m',m' < m∧(i + 1 + m' = xs.length∧Pv (i + 1) σ2 H3))
  (hd : ∀ σ H,Pv xs.length σ H→Q H) :
  ∃ W : Nat→Nat→St→Hp→Prop,(∃ m,W 0 m σ H)∧∀ i m σ H,W i m σ H→((Itt K a).stop i H∧Q H)∨((Itt K a).go i H∧∀ x H',(Itt K a).yld i H x H'→g x σ H' fun σ2 H2=>ts σ2 H2 fun b H3=>if b = true then te σ2 H3 fun y H4=>∃ xs,H4 D = some (.lst xs)∧xs.length < sizeLine∧∃ m',m' < m∧W (i + 1) m' σ2 (upd H4 D (.lst (xs ++ [y]))) else ∃ m',m' < m∧W (i + 1) m' σ2 H3):=by
 refine ⟨fun i m σ H=>i + m = xs.length∧Pv i σ H,⟨xs.length,by omega,h0⟩,fun i m σ H ⟨e,pv⟩=>?_⟩
 have hS:=hl i σ H (by omega) pv
 by_cases hi : i < xs.length
 ·refine .inr ⟨⟨xs,xs[i],hS,yac hi⟩,fun x H' y=>?_⟩
  obtain ⟨e1,y⟩:=y
  subst e1
  exact hs i m x σ _ (y xs hS) e pv
 ·have : i = xs.length:=by omega
  subst this
  exact .inl ⟨⟨xs,hS,yaa _⟩,hd σ H pv⟩
end L2
namespace L2
open PySem PySem.Spec PyProof.Rows
def Itv (K : Frag) (a : Addr) (n : Nat) : It:=
 ⟨fun i H=>i < n∧∃ xs,SqL K H a xs∧xs.length = n,fun i H x H'=>H' = H∧∀ xs,SqL K H a xs→xs.length = n→xs.reverse[i]? = some x,fun i _=>i = n⟩
theorem znk {P : Program} {w : World} {K : Frag} {tg : Expr} (a it : Addr) (n : Nat) : Turn P w K tg (Itv K a n) [it] it (fun i h=>h.IsRevIter it a ((n : Int) - 1 - (i : Int))) where
 mem:=by simp
 obj:=fun i h st b hb=>by
  have e : b = it:=by simpa using hb
  subst e
  obtain ⟨o,e,c,d⟩:=st
  exact ⟨o,e,fun v z=>by rw [d] at z; cases z⟩
 keep:=fun i h h' st k=>st.at fun o e=>k it (by simp) o e
 item:=by
  intro X hP hw hK hc i pins s σ H E I hf st hg
  subst hP hw hK
  obtain ⟨hi,xs,hq,hn⟩:=hg
  obtain ⟨its,rv,p,hz⟩:=I.list hq
  have hx : xs[n - 1 - i]? = some (xs[n - 1 - i]'(by omega)):=yac (by omega)
  obtain ⟨u,hu,ru⟩:=rv.get hx
  obtain ⟨f0,f1,f2,f3,f4,f5⟩:=hf it (by simp)
  have e1 : (n : Int) - 1 - (i : Int) = ((n - 1 - i : Nat) : Int):=by omega
  rw [e1] at st
  refine wpAny_pyNext_rev_item st p.isList (x:=u) (by simpa using hu) fun h' st' sb=>?_
  have e2 : ((n - 1 - i : Nat) : Int) - 1 = (n : Int) - 1 - ((i + 1 : Nat) : Int):=by omega
  rw [e2] at st'
  have I1 : Inv X pins σ H { s with heap:=h' }:=I.turned (t':=s.toks) (fun b o hb e=>(sb.2 b hb).trans e) f0 f1 f3 f4 f5
  obtain ⟨o,e,c,d⟩:=id st'
  refine ⟨u,rfl,zmK (s:={ s with heap:=h' }) e c d (by decide) ⟨xs[n - 1 - i]'(by omega),H,I1,ru,⟨rfl,fun ys hy hyn=>?_⟩,st',fun b hb=>(hf b hb).1⟩⟩
  rw [I.list_inj hy hq,ycz (by omega),show xs.length - 1 - i = n - 1 - i by omega]
  exact hx
 done:=by
  intro X hP hw hK hc i pins s σ H E I hf st hg
  subst hP hw hK
  have hi : i = n:=hg
  subst hi
  obtain ⟨f0,f1,f2,f3,f4,f5⟩:=hf it (by simp)
  have e1 : (i : Int) - 1 - (i : Int) = -1:=by omega
  rw [e1] at st
  exact wpAny_pyNext_rev_end (I.ok.hd hc) st fun h' eb=>⟨rfl,I.turned (t':=s.toks) (fun b o hb e=>eb b o hb e) f0 f1 f3 f4 f5⟩
 self:=fun _ _ _ _ _ st h=>wpAny_pyIter_revIter st h
def iRev (K : Frag) (ta : TA) : TI:=fun σ H R=>ta σ H fun vs H1=>∃ a xs,vs = [.ref a]∧SqL K H1 a xs∧R (Itv K a xs.length) H1
section
variable {X : Cx}
theorem ziS {tg : Expr} {a : Expr} {ta : TA} {p pos : Pos} (hg : Gl X "reversed") (hm : X.mg "reversed" = none) (ha : PA X [a] ta) (hs : starEach [a] X.env = [(false,eval a X.env)]:=by rfl) : PI X tg (.Call (.Name "reversed" p) [a] [] pos) (iRev X.K ta):=by
 intro pins s σ H R I h
 refine Call_ (zeV I hg hm boot_reversed (PyProof.Rows.callWith_type1 (thn (ha pos pins s σ H _ I h) fun us s1 ⟨vs,H1,I1,r1,q1⟩=>?_) hs rfl))
 obtain ⟨l,xs,e,hq,q⟩:=q1
 subst e
 cases r1 with
 | cons r rr=>
  cases rr
  cases r
  obtain ⟨its,rv,pl,hz⟩:=I1.list hq
  have hl:=rv.length
  refine call_reversed_list pl.isList ?_
  have I2 : Inv X pins σ H1 { s1 with heap:=s1.heap.push (revObj l ((its.toArray.size : Int) - 1)) }:=I1.kept (t':=s1.toks) fun b o e=>yai _ e
  have hr : (s1.heap.push (revObj l ((its.toArray.size : Int) - 1))).IsRevIter s1.heap.objs.size l (((xs.length : Nat) : Int) - 1 - ((0 : Nat) : Int)):=by
   refine ⟨_,yaH _ rfl,rfl,?_⟩
   have : (its.toArray.size : Int) - 1 = ((xs.length : Nat) : Int) - 1 - ((0 : Nat) : Int):=by
    rw [yaw,hl]
    omega
   rw [this]
   rfl
  refine wpAny_pyIter_revIter (s:={ s1 with heap:=s1.heap.push (revObj l ((its.toArray.size : Int) - 1)) }) hr ⟨_,[s1.heap.objs.size],_,_,H1,rfl,I2,znk l s1.heap.objs.size xs.length,hr,fun b hb=>?_,q⟩
  have e : b = s1.heap.objs.size:=by simpa using hb
  subst e
  exact I1.fpOk (yaa _) (I1.hok.fresh (yaa _))
end
theorem zpN {K : Frag} {a : Addr} {xs : List V} {g : TG} {tb : TS} {D : Ends} {σ : St} {H : Hp} (Pv : Nat→St→Hp→Prop) (h0 : Pv 0 σ H) (hl : ∀ i σ H,i≤xs.length→Pv i σ H→SqL K H a xs)
  (hs : ∀ i x σ H,xs.reverse[i]? = some x→Pv i σ H→g x σ H fun σ2 H2=>tb { D with nx:=Pv (i + 1),ct:=Pv (i + 1),bk:=D.nx } σ2 H2) (hd : ∀ σ H,Pv xs.length σ H→D.nx σ H) :
  ∃ W : Nat→Nat→St→Hp→Prop,(∃ m,W 0 m σ H)∧∀ i m σ H,W i m σ H→((Itv K a xs.length).stop i H∧D.nx σ H)∨((Itv K a xs.length).go i H∧∃ N : St→Hp→Prop,(∀ σ' H',N σ' H'→∃ m',m' < m∧W (i + 1) m' σ' H')∧∀ x H',(Itv K a xs.length).yld i H x H'→g x σ H' fun σ2 H2=>tb { D with nx:=N,ct:=N,bk:=D.nx } σ2 H2):=by
 refine ⟨fun i m σ H=>i + m = xs.length∧Pv i σ H,⟨xs.length,by omega,h0⟩,fun i m σ H ⟨e,pv⟩=>?_⟩
 have hS:=hl i σ H (by omega) pv
 by_cases hi : i < xs.length
 ·refine .inr ⟨⟨hi,xs,hS,rfl⟩,Pv (i + 1),fun σ' H' q=>⟨m - 1,by omega,by omega,q⟩,fun x H' y=>?_⟩
  obtain ⟨e1,y⟩:=y
  subst e1
  exact hs i x σ _ (y xs hS rfl) pv
 ·have : i = xs.length:=by omega
  subst this
  exact .inl ⟨rfl,hd σ H pv⟩
end L2
namespace L2
open PySem PySem.Spec PyProof.Rows
theorem zlS {P : Program} {w : World} {k : Key} {u : Value} (h : (zaF P w).is k u = true) : RelV (kV k) u:=by
 rw [zkU] at h
 rcases zaY h with ⟨i,t,rfl,rfl⟩ | ⟨x,t,rfl,rfl⟩
 ·exact ⟨t,rfl⟩
 ·exact ⟨t,rfl⟩
section
variable {X : Cx}
theorem zk9 (hc : X.calm = true) : ze8 X (.type "list") (fun xs H Q=>∃ (p : Addr) (kvs : List (Key×V)),xs = [.ref p]∧H p = some (.dK kvs)∧∀ l,H l = none→Q (.ref l) (upd H l (.lst (kvs.map fun kv=>kV kv.1)))):=by
 intro pins s σ H xs us Q I r h
 obtain ⟨p,kvs,rfl,hq,q⟩:=h
 obtain ⟨u,rfl,rx⟩:=zhV r
 cases rx
 obtain ⟨hz,hne,vs,rel,o,es,ep,h1,h2,h3,h4,h5,h6⟩:=zpS I.hok hq
 have hlen : kvs.length = vs.length:=rel.length
 refine PySem.W.kdl_call (PySem.W.kdl_dict (knd:=zaF X.prog X.w) (kvs:=vs) (ep:=ep) hne) (I.ok.hd hc) ⟨o,es,h1,h2,h3,h4,h5,h6⟩ (by omega) fun h' tk acc c k e hi=>?_
 have hv : Vals (kvs.map fun kv=>kV kv.1) acc.toList:=by
  obtain ⟨g1,g2⟩:=hi
  have key : ∀ (m : Nat) (kvs : List (Key×V)) (vs : List (Key×Value)) (us : List Value),KV kvs vs→us.length = vs.length→(∀ (i : Nat) (v : Value),us[i]? = some v→∃ k x,vs[i]? = some (k,x)∧(zaF X.prog X.w).is k v = true)→Vals (kvs.map fun kv=>kV kv.1) us:=by
   intro m kvs
   induction kvs with
   | nil=>
    intro vs us r hl _
    cases r
    have : us = []:=yck hl
    subst this
    exact .nil
   | cons kv kvs ih=>
    intro vs us r hl hh
    cases r with
    | cons a b=>
     cases us with
     | nil=>cases hl
     | cons v us=>
      refine .cons ?_ (ih _ us b (Nat.succ.inj hl) fun i v e=>?_)
      ·obtain ⟨k,x,e1,e2⟩:=hh 0 v rfl
       cases e1
       have h9:=zlS e2
       have a1 : kv.1 = k:=a.1
       rw [← a1] at h9
       exact h9
      ·have:=hh (i + 1) v (by simpa using e)
       simpa using this
  refine key 0 kvs vs acc.toList rel (by rw [yav]; exact g1) fun i v e=>?_
  exact g2 i v (by rw [← ybc]; exact e)
 refine ⟨.ref s.heap.objs.size,_,I.laid (a:=s.heap.objs.size) (o:=.lst (kvs.map fun kv=>kV kv.1)) (t':=tk) k (yaa _) ⟨?_,acc.toList,c,hv,by rw [Array.toArray_toList]; exact e⟩,rfl,q _ (I.hok.fresh (yaa _))⟩
 rw [yab]
 omega
end
end L2
namespace L2
open PySem PySem.Spec PyProof.Rows
def iSeq (K : Frag) (tl : TE) : TI:=fun σ H R=>tl σ H fun x H1=>∃ a,x = .ref a∧((∃ xs,SqL K H1 a xs)∧R (Itl K a) H1∨(∃ xs,SqT K H1 a xs)∧R (Itt K a) H1)
section
variable {X : Cx} {tg : Expr}
theorem zqv {l : Expr} {tl : TE} (hl : PE X l tl) : PI X tg l (iSeq X.K tl):=by
 intro pins s σ H R I h
 refine thn (hl pins s σ H _ I h) fun v s1 ⟨x,H1,I1,r1,a,e,q1⟩=>?_
 subst e
 cases r1
 have new : ∀ b∈[s1.heap.objs.size],FpOk X pins H1 b:=fun b hb=>by
  rw [yao.mp hb]
  exact I1.fpOk (yaa _) (I1.hok.fresh (yaa _))
 rcases q1 with ⟨⟨xs,hq⟩,q⟩ | ⟨⟨xs,hq⟩,q⟩
 ·obtain ⟨its,rv,p,hz⟩:=I1.list hq
  exact wpAny_pyIter_list p.isList ⟨s1.heap.objs.size,[s1.heap.objs.size],_,_,H1,rfl,Inv.kept (t':=s1.toks) I1 (fun b o e=>yai _ e),zhW a _,⟨_,yaH _ rfl,rfl,rfl⟩,new,q⟩
 ·obtain ⟨its,rv,p,hz⟩:=I1.tuple hq
  exact wpAny_pyIter_tuple (show s1.heap.IsTuple a its.toArray from p) ⟨s1.heap.objs.size,[s1.heap.objs.size],_,_,H1,rfl,Inv.kept (t':=s1.toks) I1 (fun b o e=>yai _ e),zgx a _,⟨_,yaH _ rfl,rfl,rfl⟩,new,q⟩
end
end L2
namespace HT
open PySem PySem.Spec PyProof.Rows
section
variable {prog : Program} {w : World} {A : Around} {E : Value→Shared→Prop} {s : Shared}
theorem getItem_tuple_all {t sl : Addr} {items : Array Value} {vl vu : Value} {lo hi : Option Int} {Q : Value→Shared→Prop} (ht : IsTup s.heap t items) (hs : s.heap.IsSliceOf sl vl vu .none) (pl : IsPart vl lo) (pu : IsPart vu hi)
  (hw : sIx items.size 0 lo = 0∧sIx items.size items.size hi = items.size) (h : Q (.ref t) s) : wpAny (model prog w) A (getItem (.ref t) (.ref sl)) Q E s:=by
 obtain ⟨os,hos,hcs,hds⟩:=id hs
 have hTs : s.TypeIs (.ref sl) "slice":=⟨os,hos,hcs⟩
 unfold getItem
 try with_reducible refine wpAny_holding ?_
 first | refine wpAny_bind (wpAny_pure ?_) | skip
 refine wpAny_bind (wpAny_sequenceKey ht.typeIs (by decide) ?_)
 refine wpAny_bind (wpAny_callSpecial?_slot (name:=Str.ofString "__getitem__") ht.typeIs PyProof.Rows.slot_tuple_getitem (wpAny_call_entry PyProof.Rows.slot_tuple_getitem ht.typeIs entry_tuple_getitem ?_ (args_tuple_getitem _ _)))
 show wpAny _ _ (Builtin.Tuple.tupleItemsOf (.ref t) >>= _) _ _ s
 refine wpAny_bind (tupleItemsOf_ ht ?_)
 refine wpAny_bind (wpAny_typeOf hTs ?_)
 rw [if_pos (by decide)]
 refine wpAny_bind (zda hs pl pu ?_)
 have yes : (((sIx items.size 0 lo : Nat) : Int) == 0 && (1 : Int) == 1 && (sIx items.size items.size hi - sIx items.size 0 lo) == items.size) = true:=by
  rw [hw.1,hw.2]
  simp
 show wpAny _ _ (if (((sIx items.size 0 lo : Nat) : Int) == 0 && (1 : Int) == 1 && (sIx items.size items.size hi - sIx items.size 0 lo) == items.size) = true then _ else _) _ _ s
 rw [if_pos yes]
 refine wpAny_bind ?_
 unfold Builtin.Tuple.tupleIsExact
 refine wpAny_bind (wpAny_typeOf ht.typeIs ?_)
 refine wpAny_pure ?_
 rw [if_pos (by decide)]
 exact wpAny_bind (wpAny_rule (wpAny_pure ⟨_,rfl,wpAny_pure h⟩))
end
end HT
namespace L2
open PySem PySem.Spec PyProof.Rows
section
variable {X : Cx}
def rSlX (K : Frag) : V→Option Int→Option Int→Hp→VK→Prop:=fun x lo hi H Q=>∃ a xs,x = .ref a∧SqT K H a xs∧
 ((HT.sIx xs.length 0 lo = 0∧HT.sIx xs.length xs.length hi = xs.length)→Q (.ref a) H)∧(¬ (HT.sIx xs.length 0 lo = 0∧HT.sIx xs.length xs.length hi = xs.length)→∀ p,H p = none→Q (.ref p) (upd H p (.tup (cutV xs lo hi))))
theorem zlN : SlR X (rSlX X.K):=by
 intro pins s σ H x v vl vu lo hi sl Q I rx hs pl pu h
 obtain ⟨a,xs,e,hx,q1,q2⟩:=h
 by_cases hw : HT.sIx xs.length 0 lo = 0∧HT.sIx xs.length xs.length hi = xs.length
 ·subst e
  cases rx
  obtain ⟨its,r,ht,hz⟩:=I.tuple hx
  have hlen : its.toArray.size = xs.length:=by rw [yaw]; exact r.length.symm
  refine ⟨"tuple",_,PyProof.Rows.slot_tuple_getitem.lookup,ht.typeIs,?_⟩
  exact HT.getItem_tuple_all ht hs pl pu (by rw [hlen]; exact hw) ⟨.ref a,H,I,rfl,q1 hw⟩
 ·exact zqn pins s σ H x v vl vu lo hi sl Q I rx hs pl pu ⟨a,xs,e,hx,hw,q2 hw⟩
def zqt (K : Frag) : R2:=fun x y H Q=>∃ a b xs ys,x = .ref a∧y = .ref b∧SqT K H a xs∧SqT K H b ys∧ys≠[]∧xs.length + ys.length≤sizeLine∧
 (xs = []→Q (.ref b) H)∧(xs≠[]→∀ p,H p = none→Q (.ref p) (upd H p (.tup (xs ++ ys))))
theorem zpl : OpR X (binaryOp .Add) (zqt X.K):=by
 intro pins s σ H x y v u Q I rx ry h
 obtain ⟨a,b,xs,ys,e1,e2,ha,hb,hy,hz,q1,q2⟩:=h
 by_cases hx : xs = []
 ·subst e1 e2
  cases rx
  cases ry
  obtain ⟨its,r1,p1,_⟩:=I.tuple ha
  obtain ⟨its2,r2,p2,_⟩:=I.tuple hb
  obtain ⟨⟨cls,dd,data,sl⟩,ho,hc,n,hd⟩:=id p1
  obtain ⟨⟨cls2,dd2,data2,sl2⟩,ho2,hc2,n2,hd2⟩:=id p2
  simp only at hc hd hc2 hd2
  subst hc hd hc2 hd2
  have hv : its = []:=r1.nil_iff.mpr hx
  exact concat_meets ⟨_,ho,rfl⟩ ⟨_,ho2,rfl⟩ noFill_tuple_add seq_tuple_add PySem.F.slot_tuple_add PySem.F.entry_tuple_add (PySem.F.args_tuple_add_2 _ _)
   (tuple_addW0 a b its.toArray its2.toArray n n2 dd dd2 sl sl2 (by simp [hv])) ⟨ho,ho2,.ref b,H,I,rfl,q1 hx⟩
 ·exact zpm pins s σ H x y v u Q I rx ry ⟨a,b,xs,ys,e1,e2,ha,hb,hx,hz,fun z=>absurd z hy,fun _=>q2 hx⟩
end
end L2
namespace L2
open PySem PySem.Spec PyProof.Rows PySem.SeqAt
def hasO (o : Option Int) (v : V) : Prop:=match o with
 | none=>v = .non
 | some i=>v = .int i
instance : Rep (Option Int) where
 dec:=inferInstance
 depth:=0
 has:=fun _ _ o v=>hasO o v
 mono:=fun _ h=>h
 inj:=fun {_ _ _ _ _ a b v} _ h1 h2=>by
  cases a <;> cases b
  ·rfl
  ·have h1 : v = .non:=h1
   have h2 : v = .int _:=h2
   rw [h1] at h2
   cases h2
  ·have h1 : v = .int _:=h1
   have h2 : v = .non:=h2
   rw [h1] at h2
   cases h2
  ·have h1 : v = .int _:=h1
   have h2 : v = .int _:=h2
   rw [V.int.inj (h1.symm.trans h2)]
 rc:=fun {_ _ _ _ _ _ a b x y u v} _ _ h1 h2 r1 r2=>by
  cases a with
  | none=>
   have h1 : x = .non:=h1
   subst h1
   obtain rfl : u = .none:=r1
   cases b with
   | none=>
    have h2 : y = .non:=h2
    subst h2
    obtain rfl : v = .none:=r2
    exact RcAt.none_none
   | some j=>
    have h2 : y = .int j:=h2
    subst h2
    obtain ⟨t,rfl⟩:=r2
    exact RcAt.none_int _ _
  | some i=>
   have h1 : x = .int i:=h1
   subst h1
   obtain ⟨t,rfl⟩:=r1
   cases b with
   | none=>
    have h2 : y = .non:=h2
    subst h2
    obtain rfl : v = .none:=r2
    exact RcAt.int_none _ _
   | some j=>
    have h2 : y = .int j:=h2
    subst h2
    obtain ⟨t',rfl⟩:=r2
    have e : decide (some i = some j) = (i == j):=by
     by_cases z : i = j
     ·subst z; simp
     ·rw [yas (fun q=>z (yae q)),beq_eq_false_iff_ne.mpr z]
    have:=RcAt.int_int (A:=‹Around›) (s:=‹Shared›) i t j t'
    rw [← e] at this
    exact this
 rn:=fun {_ _ _ _ _ _ a b x y u v} _ _ h1 h2 r1 r2=>by
  cases a with
  | none=>
   have h1 : x = .non:=h1
   subst h1
   obtain rfl : u = .none:=r1
   cases b with
   | none=>
    have h2 : y = .non:=h2
    subst h2
    obtain rfl : v = .none:=r2
    exact RcNeAt.none_none
   | some j=>
    have h2 : y = .int j:=h2
    subst h2
    obtain ⟨t,rfl⟩:=r2
    exact RcNeAt.none_int _ _
  | some i=>
   have h1 : x = .int i:=h1
   subst h1
   obtain ⟨t,rfl⟩:=r1
   cases b with
   | none=>
    have h2 : y = .non:=h2
    subst h2
    obtain rfl : v = .none:=r2
    exact RcNeAt.int_none _ _
   | some j=>
    have h2 : y = .int j:=h2
    subst h2
    obtain ⟨t',rfl⟩:=r2
    have e : decide (some i = some j) = (i == j):=by
     by_cases z : i = j
     ·subst z; simp
     ·rw [yas (fun q=>z (yae q)),beq_eq_false_iff_ne.mpr z]
    have:=RcNeAt.int_int (A:=‹Around›) (s:=‹Shared›) i t j t'
    rw [← e] at this
    exact this
 eq:=fun {_ _ _ _ _ _ a b x y u v} _ _ h1 h2 r1 r2=>by
  cases a with
  | none=>
   have h1 : x = .non:=h1
   subst h1
   obtain rfl : u = .none:=r1
   cases b with
   | none=>
    have h2 : y = .non:=h2
    subst h2
    obtain rfl : v = .none:=r2
    exact EqAt.same _
   | some j=>
    have h2 : y = .int j:=h2
    subst h2
    obtain ⟨t,rfl⟩:=r2
    exact EqAt.none_int _ _
  | some i=>
   have h1 : x = .int i:=h1
   subst h1
   obtain ⟨t,rfl⟩:=r1
   cases b with
   | none=>
    have h2 : y = .non:=h2
    subst h2
    obtain rfl : v = .none:=r2
    exact EqAt.int_none _ _
   | some j=>
    have h2 : y = .int j:=h2
    subst h2
    obtain ⟨t',rfl⟩:=r2
    have e : decide (some i = some j) = (i == j):=by
     by_cases z : i = j
     ·subst z; simp
     ·rw [yas (fun q=>z (yae q)),beq_eq_false_iff_ne.mpr z]
    have:=EqAt.int_int (A:=‹Around›) (s:=‹Shared›) i t j t'
    rw [← e] at this
    exact this
structure Tup (α : Type) where
 l : List α
theorem Tup.ext' {α : Type} {a b : Tup α} (h : a.l = b.l) : a = b:=by
 cases a
 cases b
 cases h
 rfl
instance {α : Type} [DecidableEq α] : DecidableEq (Tup α):=fun a b=>if h : a.l = b.l then .isTrue (Tup.ext' h) else .isFalse fun z=>h (by rw [z])
def hasT {α : Type} [Rep α] (K : Frag) (H : Hp) (t : Tup α) (v : V) : Prop:=∃ a xs,v = .ref a∧SqT K H a xs∧zam K H t.l xs
section
variable {α : Type} [r : Rep α] {X : Cx} {pins : List (Addr×Obj)} {σ : St} {H : Hp} {s : Shared} {A : Around} {as bs : Tup α} {x y : V} {u v : Value}
theorem zkj (I : Inv X pins σ H s) (h1 : hasT X.K H as x) (h2 : hasT X.K H bs x) : as = bs:=by
 obtain ⟨a,xs,rfl,q1,h1⟩:=h1
 obtain ⟨b,ys,e,q2,h2⟩:=h2
 cases e
 rw [I.tuple_inj q2 q1] at h2
 exact Tup.ext' (h1.inj I h2)
theorem zlp {as bs : List α} (n m : Nat) (hn : as.length = n) (hm : bs.length = m) : ((List.range (min n m)).all (fun j=>decide (as[j]? = bs[j]?)) && n == m) = decide (as = bs):=by
 by_cases hl : as.length = bs.length
 ·have e:=zfr as bs hl
  have z : min n m = as.length:=by omega
  rw [z,e,beq_iff_eq.mpr (by omega : n = m),Bool.and_true]
 ·rw [yas (fun z=>hl (by rw [z])),beq_eq_false_iff_ne.mpr (by omega : n≠m),Bool.and_false]
theorem zmR : decide (as = bs) = decide (as.l = bs.l):=by
 by_cases h : as.l = bs.l
 ·rw [yam h,yam (Tup.ext' h)]
 ·rw [yas h,yas (fun z=>h (by rw [z]))]
theorem zmH (I : Inv X pins σ H s) (hu : A.units + (Rep.depth α + 1) < cLine) (h1 : hasT X.K H as x) (h2 : hasT X.K H bs y) (r1 : RelV x u) (r2 : RelV y v) : RcAt A s u v (decide (as = bs)):=by
 obtain ⟨a,xs,rfl,q1,h1⟩:=h1
 obtain ⟨b,ys,rfl,q2,h2⟩:=h2
 cases r1
 cases r2
 obtain ⟨us,ru,pu,_⟩:=I.tuple q1
 obtain ⟨vs,rv,pv,_⟩:=I.tuple q2
 have l1:=ru.length
 have l2:=rv.length
 have m1:=h1.length
 have m2:=h2.length
 have hin : A.in1.units + Rep.depth α < cLine:=ybg (ybK zcL _) (by omega)
 have:=RcAt.tuples (A:=A) (s:=s) (l:=a) (b:=b) (items:=us.toArray) (items2:=vs.toArray) (e:=fun j=>decide (as.l[j]? = bs.l[j]?)) pu pv (by omega) (zfV I hin h1 h2 ru rv)
 rw [zlp (as:=as.l) (bs:=bs.l) us.toArray.size vs.toArray.size (by simp; omega) (by simp; omega),← zmR] at this
 exact this
theorem zpG (I : Inv X pins σ H s) (hu : A.units + (Rep.depth α + 1) < cLine) (h1 : hasT X.K H as x) (h2 : hasT X.K H bs y) (r1 : RelV x u) (r2 : RelV y v) : RcNeAt A s u v (!decide (as = bs)):=by
 obtain ⟨a,xs,rfl,q1,h1⟩:=h1
 obtain ⟨b,ys,rfl,q2,h2⟩:=h2
 cases r1
 cases r2
 obtain ⟨us,ru,pu,_⟩:=I.tuple q1
 obtain ⟨vs,rv,pv,_⟩:=I.tuple q2
 have l1:=ru.length
 have l2:=rv.length
 have m1:=h1.length
 have m2:=h2.length
 have hin : A.in1.units + Rep.depth α < cLine:=ybg (ybK zcL _) (by omega)
 have:=RcNeAt.tuples (A:=A) (s:=s) (l:=a) (b:=b) (items:=us.toArray) (items2:=vs.toArray) (e:=fun j=>decide (as.l[j]? = bs.l[j]?)) pu pv (by omega) (zfV I hin h1 h2 ru rv)
 rw [zlp (as:=as.l) (bs:=bs.l) us.toArray.size vs.toArray.size (by simp; omega) (by simp; omega),← zmR] at this
 exact this
theorem zpH (I : Inv X pins σ H s) (hu : A.units + (Rep.depth α + 1) < cLine) (h1 : hasT X.K H as x) (h2 : hasT X.K H bs y) (r1 : RelV x u) (r2 : RelV y v) : EqAt A s u v (decide (as = bs)):=by
 have rc:=zmH (A:=A) I hu h1 h2 r1 r2
 have h1':=id h1
 have h2':=id h2
 obtain ⟨a,xs,rfl,q1,h1⟩:=h1
 obtain ⟨b,ys,rfl,q2,h2⟩:=h2
 cases r1
 cases r2
 by_cases hab : a = b
 ·subst hab
  rw [yam (zkj I h1' h2')]
  exact EqAt.same _
 ·exact EqAt.of_refs hab rc
end
instance {α : Type} [Rep α] : Rep (Tup α) where
 dec:=inferInstance
 depth:=Rep.depth α + 1
 has:=hasT
 mono:=fun e ⟨a,xs,h1,h2,h3⟩=>⟨a,xs,h1,h2.ext e,h3.mono e⟩
 inj:=fun I h1 h2=>zkj I h1 h2
 rc:=fun I hu h1 h2 r1 r2=>zmH I hu h1 h2 r1 r2
 rn:=fun I hu h1 h2 r1 r2=>zpG I hu h1 h2 r1 r2
 eq:=fun I hu h1 h2 r1 r2=>zpH I hu h1 h2 r1 r2
end L2
namespace L2
open PySem PySem.Spec PyProof.Rows
section
variable {X : Cx} {K : Frag}
theorem zgv (h : X.K = K:=by rfl) : ze8 X (.type "tuple") (fun xs H Q=>∃ p ys,xs = [V.ref p]∧((SqL K H p ys∧∀ l,H l = none→Q (.ref l) (upd H l (.tup ys)))∨(SqT K H p ys∧Q (.ref p) H))):=by
 subst h
 exact zbF
end
end L2
namespace L2
open PySem PySem.Spec PyProof.Rows
section
variable {X : Cx} {K : Frag} {tg : Expr}
theorem zpg {l : Expr} {tl : TE} (hl : PE X l tl) (h : X.K = K:=by rfl) : PI X tg l (iTup K tl):=by
 subst h
 exact zdj hl
end
end L2
namespace L2
open PySem PySem.Spec PyProof.Rows
def zbn (X : Cx) (N : List Str) (scope : Scope) (z : Str) (cl : List (Str×Addr)) (C : Addr) (s₂ : Shared) (H₂ : Hp) (fp : List Addr) : Cx:=
 { X with N:=N,s₀:=s₂,H₀:=H₂,env:=compEnvC scope ((z,C + 1) :: cl) C X.env,outer:=X.stack,stack:=X.stack,ex:=fp,fn:=fun x=>x == z,xe:=fun _ _=>False }
theorem zgV {n : Nat} {h : Heap} : ∀ {names : List (Str×NameKind)} {acc : List (Str×Addr)},names.filter (fun y=>y.2 == .cell) = []→cellsFrom n names acc = acc∧pushCells h names = h
 | [],_,_=>⟨rfl,rfl⟩
 | (x,k) :: r,acc,e=>by
  cases hk : k == NameKind.cell with
  | true=>
   rw [ya8 (by exact hk)] at e
   cases e
  | false=>
   rw [ybj (by rw [show ((x,k) : Str×NameKind).2 = k from rfl,hk]; decide)] at e
   unfold cellsFrom pushCells
   rw [hk]
   exact zgV e
theorem zgi {n : Nat} {h : Heap} {z : Str} : ∀ {names : List (Str×NameKind)} {acc : List (Str×Addr)},names.filter (fun y=>y.2 == .cell) = [(z,.cell)]→cellsFrom n names acc = (z,n) :: acc∧pushCells h names = h.push { cls:=.type "cell",data:=.cell none }
 | [],_,e=>by cases e
 | (x,k) :: r,acc,e=>by
  cases hk : k == NameKind.cell with
  | true=>
   rw [ya8 (by exact hk)] at e
   obtain ⟨e1,e2⟩:=List.cons.inj e
   have e3 : x = z:=congrArg Prod.fst e1
   subst e3
   unfold cellsFrom pushCells
   rw [hk]
   exact zgV e2
  | false=>
   rw [ybj (by rw [show ((x,k) : Str×NameKind).2 = k from rfl,hk]; decide)] at e
   unfold cellsFrom pushCells
   rw [hk]
   exact zgi e
theorem zpR {M : Model} {A : Around} {E : Value→Shared→Prop} {s : Shared} {scope : Scope} {z : Str} {globals : Addr} {closure : List (Str×Addr)} {qual : Str} {env : Env} {Q : Env→Shared→Prop}
  (one : scope.names.filter (fun y=>y.2 == .cell) = [(z,.cell)])
  (hQ : Q { scope,locals:=s.heap.objs.size,globals,cells:=(z,s.heap.objs.size + 1) :: closure,qual,func:=none,code:=env.code,frame:=env.frame,builtins:=env.builtins } { s with heap:=(s.heap.push { cls:=.type "dict",data:=.dict #[] }).push { cls:=.type "cell",data:=.cell none } }) :
  wpAny M A (newFunctionEnv scope globals closure [] qual none .none (some env)) Q E s:=by
 simp only [newFunctionEnv,Option.isSome_some,if_true]
 refine wpAny_bind (wpAny_alloc ?_)
 refine wpAny_bind (wpAny_layCells _ (fun name kind cells=>by cases hkc : kind == NameKind.cell <;> simp [hkc]) _ _ _ _ ?_)
 rw [show ({ s with heap:=s.heap.push { cls:=.type "dict",data:=.dict #[] } } : Shared).heap.objs.size = s.heap.objs.size + 1 from yb3 ..]
 rw [(zgi (n:=s.heap.objs.size + 1) (h:=s.heap) one).1,(zgi (n:=0) (h:=s.heap.push { cls:=.type "dict",data:=.dict #[] }) (acc:=[]) one).2]
 refine wpAny_bind ?_
 rw [List.forIn_nil]
 exact wpAny_pure (wpAny_pure hQ)
theorem zff {env : Env} : ∀ {names : List (Str×NameKind)} {x : Str} {k' : NameKind},(names.map fun (n,k)=>if (k == NameKind.free && env.scope.kind == .function && env.kindOf n == some .cell) then (n,NameKind.cell) else (n,k)).lookup x = some k'→k' = .cell∨k' = .free→
  (x,NameKind.free)∈names∨(x,NameKind.cell)∈names
 | [],_,_,h,_=>by simp at h
 | (n,k) :: r,x,k',h,hk=>by
  have ih:=@zff env r x k'
  have h' : List.lookup x ((if (k == NameKind.free && env.scope.kind == .function && env.kindOf n == some .cell) = true then (n,NameKind.cell) else (n,k)) :: r.map fun (n,k)=>if (k == NameKind.free && env.scope.kind == .function && env.kindOf n == some .cell) then (n,NameKind.cell) else (n,k)) = some k':=h
  cases hx : x == n with
  | true=>
   have e:=eq_of_beq hx
   subst e
   by_cases hf : k = .free
   ·subst hf; exact .inl yaz
   ·have hb : (k == NameKind.free) = false:=by simpa using hf
    rw [if_neg (by rw [hb]; simp),yaJ,hx] at h'
    cases h'
    rcases hk with z | z
    ·subst z; exact .inr yaz
    ·exact absurd z hf
  | false=>
   refine (ih ?_ hk).imp (yaG _) (yaG _)
   by_cases hcd : (k == NameKind.free && env.scope.kind == .function && env.kindOf n == some .cell) = true
   ·rw [if_pos hcd,yaJ,hx] at h'; exact h'
   ·rw [if_neg hcd,yaJ,hx] at h'; exact h'
structure zjo (X : Cx) (scope : Scope) (z : Str) (N : List Str) (own : Nat) (cap : List Nat) : Prop where
 kind : scope.kind = .function
 one : scope.names.filter (fun y=>y.2 == .cell) = [(z,.cell)]
 look : scope.names.lookup z = some .cell
 locs : (scope.names.all fun y=>y.2 != .local || scope.names.lookup y.1 == some .local) = true
 frees : (scope.names.all fun y=>y.2 != .free || (X.env.kindOf y.1 == some .cell || X.env.kindOf y.1 == some .free)) = true
 len : N.length = own + cap.length
 caps : ((List.range cap.length).all fun j=>(N[own + j]? == X.N[cap[j]!]?) && (match N[own + j]? with | some x=>scope.names.lookup x == some .free && (X.env.kindOf x == some .cell || X.env.kindOf x == some .free) | none=>false)) = true
section
variable {X : Cx}
theorem zmD {z : Str} {pins : List (Addr×Obj)} {σ : St} {H : Hp} {s : Shared} {N : List Str} {own : Nat} {cap : List Nat} {scope : Scope} {cl : List (Str×Addr)} {C : Addr} {fp : List Addr} {h₁ : Heap} {tk : Nat} {D : Addr}
  (I : Inv X pins σ H s) (c : zjo X scope z N own cap) (hcl : zgq scope X.env cl) (f : ∀ b∈fp,FpOk X pins H b) (hD : s.heap.objs.size≤D) (hC : s.heap.objs.size≤C) (hCD : D≠C)
  (kp : ∀ b o,s.heap.get? b = some o→h₁.get? b = some o) (hnew : h₁.get? D = some { cls:=.type "list",data:=.seq #[] }) (hns : ∃ m,h₁.Ns C m) (hcz : h₁.IsCell (C + 1) none) (hDz : D≠C + 1) (hfp : ∀ b∈fp,b < s.heap.objs.size) (hcalm : X.calm = true) :
  Inv (zbn X N scope z cl C s H fp) pins (zcg own cap σ) (upd H D (.lst [])) { s with heap:=h₁,toks:=tk }:=by
 have hfr : H D = none:=I.hok.fresh hD
 have hfrC : H C = none:=I.hok.fresh hC
 have sz : ∀ b o,s.heap.get? b = some o→b≠D∧b≠C:=fun b o e=>⟨yar (yau (yaf e) hD),yar (yau (yaf e) hC)⟩
 have cells : ∀ x cc,cl.lookup x = some cc→∃ v,s.heap.IsCell cc v:=fun x cc e=>I.cell x cc (hcl.sub x cc e)
 have cellne : ∀ x cc,cl.lookup x = some cc→cc≠D∧cc≠C:=fun x cc e=>by
  obtain ⟨v,o,ho,_⟩:=cells x cc e
  exact sz cc o ho
 have czlt : ∀ x cc,cl.lookup x = some cc→cc≠C + 1:=fun x cc e q=>by
  obtain ⟨v,o,ho,_⟩:=cells x cc e
  exact absurd (show C + 1 < s.heap.objs.size from (by rw [← q]; exact yaf ho)) (ybJ.mpr (yat hC (ya5 _)))
 have lk : ∀ x cc,((z,C + 1) :: cl).lookup x = some cc→(x = z∧cc = C + 1)∨(x≠z∧cl.lookup x = some cc):=fun x cc e=>by
  rw [yaJ] at e
  cases hx : x == z with
  | true=>
   rw [hx] at e
   exact .inl ⟨eq_of_beq hx,(yae e).symm⟩
  | false=>
   rw [hx] at e
   exact .inr ⟨fun q=>(by rw [q,beq_self_eq_true] at hx; cases hx),e⟩
 have hfrZ : H (C + 1) = none:=I.hok.fresh (yat hC (ya5 _))
 have ok : (zbn X N scope z cl C s H fp).Ok:=by
  refine ⟨I.ok.mod,c.kind,I.ok.glob,I.ok.blt,hC,fun x y cc e1 e2=>?_,fun x hx=>?_,fun x cc e1 e2=>?_,I.ok.hd,I.ok.frames,.inl rfl,fun b hb=>?_,fun b o e=>I.bs b o e,?_,fun b o e hb=>?_,fun b hb z=>?_,I.stack,fun b hb=>I.stkFree b hb⟩
  ·rcases lk x cc e1 with ⟨q1,q2⟩ | ⟨q1,q2⟩ <;> rcases lk y cc e2 with ⟨r1,r2⟩ | ⟨r1,r2⟩
   ·rw [q1,r1]
   ·exact absurd q2 (czlt y cc r2)
   ·exact absurd r2 (czlt x cc q2)
   ·exact I.ok.inj x y cc (hcl.sub x cc q2) (hcl.sub y cc r2)
  ·show ∃ c,((z,C + 1) :: cl).lookup x = some c
   cases hxz : x == z with
   | true=>exact ⟨C + 1,by rw [yaJ,hxz]⟩
   | false=>
    have hm : (x,NameKind.free)∈scope.names:=by
     have hor : (x,NameKind.free)∈scope.names∨(x,NameKind.cell)∈scope.names:=by
      rcases hx with y | y
      ·exact zff (env:=X.env) (names:=scope.names) (x:=x) (k':=.cell) y (.inl rfl)
      ·exact zff (env:=X.env) (names:=scope.names) (x:=x) (k':=.free) y (.inr rfl)
     rcases hor with q | q
     ·exact q
     ·have hf : (x,NameKind.cell)∈scope.names.filter (fun y=>y.2 == .cell):=ya3.mpr ⟨q,rfl⟩
      rw [c.one] at hf
      have e:=congrArg Prod.fst (yao.mp hf)
      have e : x = z:=e
      rw [e,beq_self_eq_true] at hxz
      cases hxz
    obtain ⟨cc,hcc⟩:=hcl.has x hm
    exact ⟨cc,by rw [yaJ,hxz]; exact hcc⟩
  ·have e1 : (x == z) = true:=e1
   rcases lk x cc e2 with ⟨_,q2⟩ | ⟨q1,_⟩
   ·rw [q2]
    exact yat hC (ya5 _)
   ·exact absurd (eq_of_beq e1) q1
  ·exact ⟨yar (yau (hfp b hb) hC),fun x cc e q=>by
    rcases lk x cc e with ⟨_,q2⟩ | ⟨_,q2⟩
    ·exact absurd (show C + 1 < s.heap.objs.size from (by rw [← q2,q]; exact hfp b hb)) (ybJ.mpr (yat hC (ya5 _)))
    ·exact (f b hb).2.2.2.2.1 x cc (hcl.sub x cc q2) q⟩
  ·exact yat I.ok.bsz I.sz
  ·obtain ⟨_,_,_,h4,_⟩:=f b hb
   rcases h4 with z | z
   ·exact I.ok.noex b o e z
   ·exact absurd (yau (yaf e) (yat I.ok.bsz z)) (yaX _)
  ·obtain ⟨_,h2,h3,_⟩:=f b hb
   rcases yap.mp (I.stkSub b z) with q | q
   ·exact h2 q
   ·exact h3 q
 have hokN : zbs X.prog X.w (upd H D (.lst [])) h₁ D (.lst []):=⟨yaD _,[],0,.nil,hnew⟩
 refine ⟨ok,I.os.symm ▸ rfl,I.bare,Un.laid kp hD hfr,?_,fun x cc e=>?_,?_,fun x cc e=>?_,fun p hp=>?_,I.hok.laid kp hD hokN,?_⟩
 ·obtain ⟨m,hm⟩:=hns
  refine ⟨m,hm,fun i x v e1 e2 e3=>?_⟩
  have hi : own≤i:=by
   false_or_by_contra
   rename_i z
   unfold zcg at e2
   rw [ybh (by rw [ybe]; omega),yct] at e2
   split at e2 <;> cases e2
  obtain ⟨j,rfl⟩ : ∃ j,i = own + j:=⟨i - own,by omega⟩
  have hj : j < cap.length:=by
   have:=(yag.mp e1).1
   have z:=c.len
   have this' : own + j < N.length:=this
   omega
  have hc:=ya7.mp c.caps j (ya9.mpr hj)
  have e1' : N[own + j]? = some x:=e1
  rw [e1'] at hc
  simp only [ybf,beq_iff_eq,yb2] at hc
  obtain ⟨hN,hf,hk⟩:=hc
  have e2' : σ[cap[j]!]? = some (some v):=by
   unfold zcg at e2
   rw [yaY (by rw [ybe]; omega),ybe,show own + j - own = j by omega,yaj] at e2
   have g : cap[j]! = cap[j]:=by simp [hj]
   rw [yac hj,Option.map_some] at e2
   rw [g]
   have e2:=yae e2
   cases q : σ[cap[j]]? with
   | none=>rw [q] at e2; cases e2
   | some z=>rw [q] at e2; exact congrArg some e2
  obtain ⟨m0,_,hl⟩:=I.loc
  obtain ⟨u,ru,lk⟩:=hl (cap[j]!) x v hN.symm e2' (by
   rcases hk with z | z
   ·exact .inr (.inl z)
   ·exact .inr (.inr z))
  refine ⟨u,ru,.inr ⟨zbx (env:=X.env) hf,?_⟩⟩
  rcases lk with ⟨z,_⟩ | ⟨_,cc,ec,ic⟩
  ·rcases hk with q | q
   ·rw [q] at z; cases z
   ·rw [q] at z; cases z
  ·obtain ⟨c',hc'⟩:=hcl.has x (by
    have : (x,NameKind.free)∈scope.names:=by
     have hlk:=hf
     obtain ⟨l1,l2,hs,hno⟩:=List.lookup_eq_some_iff.mp hlk
     rw [hs]
     exact yax _ yaz
    exact this)
   have:=hcl.sub x c' hc'
   rw [ec] at this
   cases this
   obtain ⟨o,ho,hd⟩:=ic
   refine ⟨cc,?_,o,kp cc o ho,hd⟩
   show ((z,C + 1) :: cl).lookup x = some cc
   cases hxz : x == z with
   | true=>
    rw [eq_of_beq hxz,c.look] at hf
    cases hf
   | false=>rw [yaJ,hxz]; exact hc'
 ·rcases lk x cc e with ⟨_,q2⟩ | ⟨_,q2⟩
  ·rw [q2]
   exact ⟨_,hcz⟩
  ·obtain ⟨v,o,ho,hd⟩:=cells x cc q2
   exact ⟨v,o,kp cc o ho,hd⟩
 ·show upd H D (.lst []) C = none
  rw [zag (Ne.symm hCD)]
  exact hfrC
 ·show upd H D (.lst []) cc = none
  rcases lk x cc e with ⟨_,q2⟩ | ⟨_,q2⟩
  ·rw [q2,zag (Ne.symm hDz)]
   exact hfrZ
  ·rw [zag (cellne x cc q2).1]
   exact I.freeC x cc (hcl.sub x cc q2)
 ·obtain ⟨e,n,ne,nf,d⟩:=I.pin p hp
  refine ⟨kp _ _ e,?_,(sz _ _ e).2,fun z=>?_,d⟩
  ·show upd H D (.lst []) p.1 = none
   rw [zag (sz _ _ e).1]
   exact n
  ·rcases yap.mp (I.stkSub p.1 z) with q | q
   ·exact ne q
   ·exact nf q
 ·show (zcg own cap σ).length = N.length
  unfold zcg
  rw [yah,ybe,yab,c.len]
theorem zk6 {z : Str} {pins : List (Addr×Obj)} {σ : St} {H2 : Hp} {s2 : Shared} {N : List Str} {own : Nat} {cap : List Nat} {scope : Scope} {cl : List (Str×Addr)} {fp : List Addr} {tg elt iter : Expr} {ifs : List Expr} {pos : Pos} {J : It} {it : Addr} {tn : Nat→Heap→Prop} {g : TG} {ts : TT} {te : TE} {Q : VK}
  {E : Value→Shared→Prop} {RR : Value→Addr→Result→Shared→Prop}
  (hcalm : X.calm = true) (c : zjo X scope z N own cap) (hcl : zgq scope X.env cl)
  (hg : ∀ cl C s₂ H₂ fp,PG (zbn X N scope z cl C s₂ H₂ fp) tg g) (hts : ∀ cl C s₂ H₂ fp,PTs (zbn X N scope z cl C s₂ H₂ fp) ifs ts) (he : ∀ cl C s₂ H₂ fp,PE (zbn X N scope z cl C s₂ H₂ fp) elt te)
  (I2 : Inv X pins σ H2 s2) (T : Turn X.prog X.w X.K tg J fp it tn) (st2 : tn 0 s2.heap) (f2 : ∀ b∈fp,FpOk X pins H2 b)
  (rd : ∀ D,H2 D = none→∃ W : Nat→Nat→St→Hp→Prop,(∃ m,W 0 m (zcg own cap σ) (upd H2 D (.lst [])))∧∀ i m σ H,W i m σ H→
   (J.stop i H∧Q (.ref D) H)∨(J.go i H∧∀ x H',J.yld i H x H'→g x σ H' fun σ2 H2=>ts σ2 H2 fun b H3=>if b = true then te σ2 H3 fun y H4=>∃ xs,H4 D = some (.lst xs)∧xs.length < sizeLine∧∃ m',m' < m∧W (i + 1) m' σ2 (upd H4 D (.lst (xs ++ [y]))) else ∃ m',m' < m∧W (i + 1) m' σ2 H3))
  (hRR : ∀ D C s' H',Inv X pins σ H' s'→(∃ m,s'.heap.Ns C m)→FpOk X pins H' C→Q (.ref D) H'→RR (.ref D) C (.ok .next) s') :
  wpAny (model X.prog X.w) X.A (newList []) (fun acc s₃=>wpAny (model X.prog X.w) X.A (newFunctionEnv scope X.env.globals cl [] X.env.qual none .none (some X.env)) (fun cenv s₄=>
   codeAny (model X.prog X.w) X.A (.compStart (.ListComp elt [⟨tg,iter,ifs,0⟩] scope pos) 0 (.ref it) acc { cenv with scope:=relabel scope X.env }) (RR acc cenv.locals) s₄) E s₃) E s2:=by
 have hfp : ∀ b∈fp,b < s2.heap.objs.size:=fun b hb=>by
  obtain ⟨o,e,_⟩:=T.obj 0 _ st2 b hb
  exact yaf e
 refine wpAny_newObj_type (zpR c.one ?_)
 dsimp only
 generalize hHH : s2.heap.push { cls:=.type "list",dict:=none,data:=.seq ([] : List Value).toArray } = HH
 generalize hh₁ : (HH.push { cls:=.type "dict",data:=.dict #[] }).push { cls:=.type "cell",data:=.cell none } = h₁
 have hC : HH.objs.size = s2.heap.objs.size + 1:=by rw [← hHH,yb3]
 have hDC : s2.heap.objs.size≠HH.objs.size:=by rw [hC]; exact yar (ycj _)
 have hCle : s2.heap.objs.size≤HH.objs.size:=by rw [hC]; exact ya5 _
 have kp₁ : ∀ b o,HH.get? b = some o→h₁.get? b = some o:=fun b o e=>hh₁ ▸ yai _ (yai _ e)
 have old : ∀ b o,s2.heap.get? b = some o→h₁.get? b = some o:=fun b o e=>kp₁ b o (hHH ▸ yai _ e)
 have hnew : h₁.get? s2.heap.objs.size = some { cls:=.type "list",data:=.seq #[] }:=kp₁ _ _ (hHH ▸ yaH _ rfl)
 have hns₁ : h₁.Ns HH.objs.size fun _=>none:=hh₁ ▸ (Heap.Ns.new HH (.type "dict")).push _
 have hcz : h₁.IsCell (HH.objs.size + 1) none:=by
  refine ⟨{ cls:=.type "cell",data:=.cell none },?_,rfl⟩
  rw [← hh₁]
  have e : (HH.push { cls:=.type "dict",data:=.dict #[] }).objs.size = HH.objs.size + 1:=yb3 ..
  rw [← e]
  exact yaH _ rfl
 have I3 : ∀ tk,Inv (zbn X N scope z cl HH.objs.size s2 H2 fp) pins (zcg own cap σ) (upd H2 s2.heap.objs.size (.lst [])) { s2 with heap:=h₁,toks:=tk }:=fun tk=>
  zmD I2 c hcl f2 (yaa _) hCle hDC old hnew ⟨_,hns₁⟩ hcz (by rw [hC]; exact yar (Nat.lt_succ_of_lt (ycj _))) hfp hcalm
 obtain ⟨W,⟨m0,w0⟩,turn⟩:=rd s2.heap.objs.size (I2.hok.fresh (yaa _))
 have st3 : tn 0 h₁:=T.keep _ _ _ st2 fun b _ o e=>old b o e
 have fr3 : ∀ b∈fp,upd H2 s2.heap.objs.size (.lst []) b = none:=fun b hb=>by rw [zag (yar (hfp b hb))]; exact (f2 b hb).1
 have stat : ∀ {H' : Hp},(∀ b∈fp,H' b = none)→∀ b∈fp,FpOk (zbn X N scope z cl HH.objs.size s2 H2 fp) pins H' b:=fun hn b hb=>by
  obtain ⟨_,h2,h3,_,h5,h6⟩:=f2 b hb
  refine ⟨hn b hb,yar (yau (hfp b hb) hCle),fun z=>?_,.inl hb,fun x cc e=>?_,h6⟩
  ·rcases yap.mp (I2.stkSub b z) with q | q
   ·exact h2 q
   ·exact h3 q
  ·have e : ((_,HH.objs.size + 1) :: cl).lookup x = some cc:=e
   rw [yaJ] at e
   split at e
   ·exact fun q=>absurd (show HH.objs.size + 1 < s2.heap.objs.size from (by rw [yae e,q]; exact hfp b hb)) (ybJ.mpr (yat hCle (ya5 _)))
   ·exact h5 x cc (hcl.sub x cc e)
 have loop : ∀ s₃ : Shared,s₃ = { s2 with heap:=h₁ }→
   codeAny (model X.prog X.w) X.A (.compLoop (.ListComp elt [⟨tg,iter,ifs,0⟩] scope pos) 0 (.ref it) (.ref s2.heap.objs.size) (compEnvC scope ((z,HH.objs.size + 1) :: cl) HH.objs.size X.env)) (RR (.ref s2.heap.objs.size) HH.objs.size) s₃:=by
  rintro s₃ rfl
  refine zge (fun n s'=>∃ i σ' H',Inv (zbn X N scope z cl HH.objs.size s2 H2 fp) pins σ' H' s'∧tn i s'.heap∧(∀ b∈fp,H' b = none)∧W i n σ' H') ?_ m0 ⟨0,_,_,I3 _,st3,fr3,w0⟩
  rintro n s3 ⟨i,σ3,H3,J3,t3,fr,w3⟩
  rcases turn i n σ3 H3 w3 with ⟨stop,qn⟩ | ⟨go,step⟩
  ·refine thn (T.done (zbn X N scope z cl HH.objs.size s2 H2 fp) rfl rfl rfl hcalm i pins s3 σ3 H3 (fun _ _=>False) J3 (stat fr) t3 stop) fun r s4 ⟨hr,I4⟩=>?_
   subst hr
   obtain ⟨mm,hmm,_⟩:=I4.loc
   refine hRR _ _ s4 H3 (I2.call' I4.os I4.base I4.hok I4.bare fun b hb=>?_) ⟨mm,hmm⟩ (I2.fpOk hCle I4.free) qn
   obtain ⟨_,h2,_,h4,h5,h6⟩:=f2 b hb
   exact ⟨h4,h2,h5,h6⟩
  ·refine thn (T.item (zbn X N scope z cl HH.objs.size s2 H2 fp) rfl rfl rfl hcalm i pins s3 σ3 H3 (fun _ _=>False) J3 (stat fr) t3 go) fun r s4 ⟨u,hr,h4⟩=>?_
   subst hr
   refine thn h4 fun _ s5 ⟨x,H5,I5,r5,y5,st5,fr5⟩=>?_
   have I5':=I5.pinned (stat fr5) (T.obj _ _ st5)
   have back : ∀ {σ7 : St} {H7 : Hp} {s7 : Shared} {m' : Nat},Inv (zbn X N scope z cl HH.objs.size s2 H2 fp) (pins ++ zgE fp s5.heap) σ7 H7 s7→W (i + 1) m' σ7 H7→∃ i σ' H',Inv (zbn X N scope z cl HH.objs.size s2 H2 fp) pins σ' H' s7∧tn i s7.heap∧(∀ b∈fp,H' b = none)∧W i m' σ' H':=fun {σ7 H7 s7 m'} I7 w7=>by
    refine ⟨i + 1,σ7,H7,I7.unpinned,T.keep _ _ _ st5 fun b hb o e=>(I7.pin (b,o) (yax _ (yax _ (zca hb e)))).1,fun b hb=>?_,w7⟩
    obtain ⟨o,e,d⟩:=T.obj _ _ st5 b hb
    exact (I7.pin (b,o) (yax _ (yax _ (zca hb e)))).2.1
   refine thn (hg cl HH.objs.size s2 H2 fp _ s5 σ3 H5 x u _ I5' r5 (step x H5 y5)) fun _ s6 ⟨σ6,H6,I6,q6⟩=>?_
   refine thn (hts cl HH.objs.size s2 H2 fp _ s6 σ6 H6 _ I6 q6) fun b s7 ⟨H7,I7,q7⟩=>?_
   cases b with
   | false=>
    rw [if_neg yaA] at q7 ⊢
    obtain ⟨m',hm,w7⟩:=q7
    exact ⟨m',hm,back I7 w7⟩
   | true=>
    rw [if_pos rfl] at q7 ⊢
    refine thn (he cl HH.objs.size s2 H2 fp _ s7 σ6 H7 _ I7 q7) fun v s8 ⟨y,H8,I8,r8,q8⟩=>?_
    obtain ⟨xs,hx,hz,m',hm,w8⟩:=q8
    refine thn (zaI (X:=zbn X N scope z cl HH.objs.size s2 H2 fp) _ s8 σ6 H8 (.ref s2.heap.objs.size) [y] (.ref s2.heap.objs.size) [v] (fun _ H9=>H9 = upd H8 s2.heap.objs.size (.lst (xs ++ [y]))) I8 rfl (.cons r8 .nil) ⟨_,xs,y,rfl,rfl,hx,hz,rfl⟩) fun _ s9 ⟨_,H9,I9,_,e9⟩=>?_
    subst e9
    exact ⟨m',hm,back I9 w8⟩
 refine codeAny_compStart_list (loop _ rfl) ?_
 exact T.self _ 0 _ _ _ st3 (loop _ rfl)
theorem znv (z : Str) {i : Nat} {x : Str} {N : List Str} {own : Nat} {cap : List Nat} {scope : Scope} {tg elt iter : Expr} {ifs : List Expr} {pos pos' spos : Pos} {wi : TI} {g : TG} {ts : TT} {te : TE} (hN : X.N.Nodup) (hxi : X.N[i]? = some x) (hx : X.env.scope.names.lookup x = some .local) (hcalm : X.calm = true) (hi : PI X tg iter wi) (c : zjo X scope z N own cap)
  (hg : ∀ cl C s₂ H₂ fp,PG (zbn X N scope z cl C s₂ H₂ fp) tg g) (hts : ∀ cl C s₂ H₂ fp,PTs (zbn X N scope z cl C s₂ H₂ fp) ifs ts) (he : ∀ cl C s₂ H₂ fp,PE (zbn X N scope z cl C s₂ H₂ fp) elt te)
  (hsw : swapsWith (.ListComp elt [⟨tg,iter,ifs,0⟩] scope pos) (some (.Name x pos')) spos.line X.env = pure true:=by rfl)
  (hs : ∀ x,foldedSetIterable iter X.env x = pure x:=by intro _; rfl) : PS X (.Assign [.Name x pos'] (.ListComp elt [⟨tg,iter,ifs,0⟩] scope pos) spos) (tAsg (zo4 own cap wi g ts te) (ziu i)):=by
 intro pins s σ H D I h
 obtain ⟨cl,hcl⟩:=ze4 (scope:=scope) (env:=X.env) fun x hx=>I.ok.has x (by
  have:=ya7.mp c.frees _ hx
  simpa using this)
 rw [exec_Assign_Name_used _ _ _ _ hsw]
 refine wpAny_bind (wpAny_standAt (wpAny_bind ?_))
 show wpAny _ X.A (do let _ ← comprehension (.ListComp elt [⟨tg,iter,ifs,0⟩] scope pos) scope X.env _ (newList []) false (eval iter X.env) (some (assign (.Name x pos') X.env))) _ _ s
 refine wpAny_bind (wpAny_mono (wpAny_comprehension_free (use:=some (assign (.Name x pos') X.env)) (Q:=fun _ s'=>SP X pins D .next s') rfl hs hcl.eq c.kind (fun x hx hl=>by
  have:=ya7.mp c.locs x hx
  rw [hl] at this
  simpa using this) (thn (hi pins s σ H _ I h) fun v s1 h1=>thn h1 fun itv s2 h2=>?_)) (fun _ s' hq=>wpAny_pure (wpAny_pure hq)) fun _ _ e=>e)
 obtain ⟨it,fp,tn,J,H2,e,I2,T,st2,f2,rd⟩:=h2
 subst e
 refine zk6 (RR:=fun acc C=>compPost (model X.prog X.w) X.A X.xe (some (assign (.Name x pos') X.env)) (fun _ s'=>SP X pins D .next s') acc C) (Q:=fun x H1=>ziu i x σ H1 D.nx) hcalm c hcl hg hts he I2 T st2 f2 rd ?_
 intro Dd C s' H' I' hm fC q
 obtain ⟨m,hm⟩:=hm
 have hne : ∀ a,(a = X.env.locals∨X.env.cells.lookup x = some a)→a≠C:=fun a z=>by
  obtain ⟨f0,f1,f2,f3,f4,f5⟩:=fC
  rcases z with z | z
  ·rw [z]; exact Ne.symm f1
  ·exact f4 x a z
 show wpAny _ X.A (assign (.Name x pos') X.env (.ref Dd)) _ _ _
 refine wpAny_assign_Name (zfY I' hN hxi (.inl hx) (v:=.ref Dd) rfl (fun s'' I'' hch=>?_) (.inr hx))
 obtain ⟨a,hsb,ha⟩:=hch
 refine ⟨m,hm.sameBut hsb (Ne.symm (hne a ha)),fun h' hs'=>?_⟩
 obtain ⟨f0,f1,f2,f3,f4,f5⟩:=fC
 exact ⟨_,H',I''.turned (t':=s''.toks) (fun b o hb e=>(hs'.2 b hb).trans e) f0 f1 f3 f4 f5,q⟩
end
end L2
namespace L2
open PySem PySem.Spec PyProof.Rows
def ItF (hi : Int) (n : Nat) : It:=⟨fun i _=>i < n,fun i H x H'=>H' = H∧x = .int (hi - i),fun i _=>n≤i⟩
theorem zlm {P : Program} {w : World} {K : Frag} {tg : Expr} (it : Addr) (hi : Int) (n : Nat) : Turn P w K tg (ItF hi n) [it] it (fun i h=>IsRangeIter h it (hi + (i : Nat) * (-1)) ((n : Int) - (i : Nat)) (-1)) where
 mem:=by simp
 obj:=fun i h st b hb=>by
  have e : b = it:=by simpa using hb
  subst e
  exact ⟨_,st,fun v z=>by
   have z' : Data.fields _ = Data.cell v:=z
   cases z'⟩
 keep:=fun i h h' st k=>k it (by simp) _ st
 item:=by
  intro X hP hw hK hc i pins s σ H E I hf st hg
  subst hP hw hK
  obtain ⟨f0,f1,f2,f3,f4,f5⟩:=hf it (by simp)
  have W:=Walks.range (prog:=X.prog) (w:=X.w) (I.ok.hd hc) it hi (-1) n
  refine W.item i s _ _ hg st fun v h' tk hv st' kk=>?_
  obtain ⟨t,rfl⟩:=hv
  have I1 : Inv X pins σ H { s with heap:=h',toks:=tk }:=I.turned (fun b o hb e=>kk b o (by simpa using hb) e) f0 f1 f3 f4 f5
  refine ⟨_,rfl,zmK (s:={ s with heap:=h',toks:=tk }) (n := "range_iterator") st' rfl rfl (by decide) ⟨.int (hi - i),H,I1,⟨t,?_⟩,⟨rfl,rfl⟩,st',fun b hb=>(hf b hb).1⟩⟩
  rw [show hi + ((i : Nat) : Int) * (-1) = hi - i by omega]
 done:=by
  intro X hP hw hK hc i pins s σ H E I hf st hg
  subst hP hw hK
  obtain ⟨f0,f1,f2,f3,f4,f5⟩:=hf it (by simp)
  exact wpAny_pyNext_range_end (I.ok.hd hc) st (by have : n≤i:=hg; omega) fun h' eb=>⟨rfl,I.turned (t':=s.toks) (fun b o hb e=>eb b o hb e) f0 f1 f3 f4 f5⟩
 self:=fun _ _ _ _ _ st h=>wpAny_pyIter_rangeiter st h
theorem zh3 (a b : Int) : Builtin.Range.rangeSize a b (-1) = if a > b then a - b else 0:=by
 unfold Builtin.Range.rangeSize
 rw [if_neg (by decide)]
 split
 ·rw [show -(-1 : Int) = 1 from rfl,Int.ediv_one]
  omega
 ·rfl
theorem zkE {a b : Int} (ha : -(2 ^ 62)≤a) (ha' : a < 2 ^ 62) (hb : -(2 ^ 62)≤b) (hb' : b < 2 ^ 62) : Builtin.Range.small a b (-1) = true:=by
 unfold Builtin.Range.small
 rw [zh3]
 simp only [Builtin.Range.rangeFitsLong,ybf,yb2,decide_eq_true_eq,beq_iff_eq,show ¬ (-1 : Int) > 0 by decide,if_false]
 split <;> omega
section
variable {X : Cx} {tg : Expr}
theorem zpQ {pins : List (Addr×Obj)} {σ : St} {H : Hp} {s : Shared} {R : It→Hp→Prop} {E : Value→Shared→Prop} {hi lo : Int} {t u v : Tok} {tk : Nat} (I : Inv X pins σ H s) (h1 : -(2 ^ 62)≤hi) (h2 : hi < 2 ^ 62) (h3 : -(2 ^ 62)≤lo) (h4 : lo < 2 ^ 62)
  (q : R (ItF hi (hi - lo).toNat) H) : wpAny (model X.prog X.w) X.A (pyIter (.ref s.heap.objs.size)) (PIE X pins σ tg R) E { s with heap:=s.heap.push { cls:=.type "range",data:=.fields #[.int hi t,.int lo u,.int (-1) v] },toks:=tk }:=by
 refine wpAny_pyIter_range (IsRange.new ..) (zkE h1 h2 h3 h4) ?_
 have I1 : Inv X pins σ H { s with heap:=s.heap.push { cls:=.type "range",data:=.fields #[.int hi t,.int lo u,.int (-1) v] },toks:=tk }:=I.kept fun b o e=>yai _ e
 refine ⟨(s.heap.push { cls:=.type "range",data:=.fields #[.int hi t,.int lo u,.int (-1) v] }).objs.size,[(s.heap.push { cls:=.type "range",data:=.fields #[.int hi t,.int lo u,.int (-1) v] }).objs.size],_,_,H,rfl,
  I1.kept (t':=tk) fun b o e=>yai _ e,zlm _ hi (hi - lo).toNat,?_,fun b hb=>?_,q⟩
 ·have e1 : hi + ((0 : Nat) : Int) * (-1) = hi:=by simp
  have e2 : (((hi - lo).toNat : Nat) : Int) - ((0 : Nat) : Int) = Builtin.Range.rangeSize hi lo (-1):=by rw [zh3]; split <;> omega
  show IsRangeIter _ _ (hi + ((0 : Nat) : Int) * (-1)) ((((hi - lo).toNat : Nat) : Int) - ((0 : Nat) : Int)) (-1)
  rw [e1,e2]
  exact yaH _ rfl
 ·have e : b = (s.heap.push { cls:=.type "range",data:=.fields #[.int hi t,.int lo u,.int (-1) v] }).objs.size:=by simpa using hb
  subst e
  exact I1.fpOk (yaa _) (I1.hok.fresh (yaa _))
def zrs (ta : TA) : TI:=fun σ H R=>ta σ H fun vs H1=>∃ i j : Int,vs = [.int i,.int j,.int (-1)]∧(-(2 ^ 62)≤i∧i < 2 ^ 62∧-(2 ^ 62)≤j∧j < 2 ^ 62)∧R (ItF i (i - j).toNat) H1
theorem zlV {a b c : Expr} {ta : TA} {p pos : Pos} (hg : Gl X "range") (hm : X.mg "range" = none) (ha : PA X [a,b,c] ta) (hs : starEach [a,b,c] X.env = [(false,eval a X.env),(false,eval b X.env),(false,eval c X.env)]:=by rfl) (hs2 : starEach [b,c] X.env = [(false,eval b X.env),(false,eval c X.env)]:=by rfl) :
  PI X tg (.Call (.Name "range" p) [a,b,c] [] pos) (zrs ta):=by
 intro pins s σ H R I h
 refine Call_ (zeV I hg hm boot_range (PyProof.Rows.callWith_type1 (thn (ha pos pins s σ H _ I h) fun us s1 ⟨vs,H1,I1,r1,q1⟩=>?_) (by rw [hs,hs2]) (by rw [hs2]; rfl)))
 obtain ⟨i,j,e,⟨q1,q2,q3,q4⟩,q⟩:=q1
 subst e
 cases r1 with
 | cons r rr=>
  cases rr with
  | cons r' rr=>
   cases rr with
   | cons r2 rr=>
    cases rr
    obtain ⟨t,rfl⟩:=r
    obtain ⟨t',rfl⟩:=r'
    obtain ⟨t2,rfl⟩:=r2
    exact call_range_3 (by decide) (zpQ I1 q1 q2 q3 q4 q) (Or.inl (PyProof.noPylong_small (by decide)))
end
theorem zob {hi : Int} {n : Nat} {g : TG} {tb : TS} {D : Ends} {σ : St} {H : Hp} (Pv : Nat→St→Hp→Prop) (h0 : Pv 0 σ H)
  (hs : ∀ i σ H,i < n→Pv i σ H→g (.int (hi - i)) σ H fun σ2 H2=>tb { D with nx:=Pv (i + 1),ct:=Pv (i + 1),bk:=D.nx } σ2 H2) (hd : ∀ σ H,Pv n σ H→D.nx σ H) :
  ∃ W : Nat→Nat→St→Hp→Prop,(∃ m,W 0 m σ H)∧∀ i m σ H,W i m σ H→
   ((ItF hi n).stop i H∧D.nx σ H)∨((ItF hi n).go i H∧∃ N : St→Hp→Prop,(∀ σ' H',N σ' H'→∃ m',m' < m∧W (i + 1) m' σ' H')∧∀ x H',(ItF hi n).yld i H x H'→g x σ H' fun σ2 H2=>tb { D with nx:=N,ct:=N,bk:=D.nx } σ2 H2):=by
 refine ⟨fun i m σ H=>m = n - i∧i≤n∧Pv i σ H,⟨n,by simp,yaD _,h0⟩,?_⟩
 rintro i m σ H ⟨rfl,hi,p⟩
 by_cases hlt : i < n
 ·refine .inr ⟨hlt,Pv (i + 1),fun σ' H' p'=>⟨n - (i + 1),by omega,rfl,hlt,p'⟩,fun x H' y=>?_⟩
  obtain ⟨e,y⟩:=y
  subst e y
  exact hs i σ _ hlt p
 ·have e : i = n:=by omega
  subst e
  exact .inl ⟨yaa _,hd σ H p⟩
end L2
namespace L2
open PySem PySem.Spec PyProof.Rows
structure zhO (scope : Scope) (ps caps : List Str) : Prop where
 kind : scope.kind = .function
 co : scope.isCoroutine = false
 gen : scope.isGenerator = false
 nocell : ∀ x∈scope.names,x.2≠.cell
 par : ∀ x∈ps,scope.names.lookup x = some .local
 cap : ∀ x∈caps,scope.names.lookup x = some .free
 nd : (ps ++ caps).Nodup
def zk5 (P : Program) (w : World) (K : Frag) (mg : Str→Option Value) (base : Heap) (N : List Str) (qual : Str) (scope : Scope) (f : Addr) (cd : Value) (cl : List (Str×Addr)) (A : Around) (outer : List Env) (s : Shared) (H : Hp) : Cx where
 prog:=P
 w:=w
 K:=K
 mg:=mg
 base:=base
 A:=A.deeper (PySem.W.envX qual scope s.heap.objs.size f cd cl)
 N:=N
 s₀:=s
 H₀:=H
 env:=PySem.W.envX qual scope s.heap.objs.size f cd cl
 outer:=outer
 stack:=PySem.W.envX qual scope s.heap.objs.size f cd cl :: outer
 ex:=[]
 calm:=true
 fn:=fun _=>false
 pn:=[]
 xe:=fun _ _=>False
def zm0 (c : Addr) (q : Str) : Heap→Prop:=fun h=>h.CodeRec (.ref c) q
def zgZ (H : Hp) (c : Addr) (q : Str) : Prop:=H c = some (.ext (zm0 c q))
theorem zk7 {c : Addr} {q : Str} (h1 h2 : Heap) (x : zm0 c q h1) (k : ∀ o,h1.get? c = some o→h2.get? c = some o) : zm0 c q h2:=by
 obtain ⟨c',o,vs,t,e,ho,r⟩:=x
 cases e
 exact ⟨c,o,vs,t,rfl,k o ho,r⟩
theorem zgZ.rec {P : Program} {w : World} {H : Hp} {h : Heap} {c : Addr} {q : Str} (x : zgZ H c q) (ok : HOk P w H h) : h.CodeRec (.ref c) q:=(ok c _ x).1
theorem zgD {x : Str} {u : Value} : ∀ {ps : List Str} {us : List Value} {i : Nat},ps.Nodup→ps[i]? = some x→us[i]? = some u→(ps.zip us).reverse.lookup x = some u
 | [],_,_,_,e,_=>by simp at e
 | _ :: _,[],_,_,_,e=>by simp at e
 | p :: ps,v :: us,0,hn,e1,e2=>by
  have e1 : p = x:=by simpa using e1
  have e2 : v = u:=by simpa using e2
  subst e1 e2
  rw [ycy,ybD,List.lookup_append]
  have z : (ps.zip us).reverse.lookup p = none:=by
   rw [List.lookup_eq_none_iff]
   intro y hy
   have:=ybT (yb4.mp hy)
   simp only [beq_eq_false_iff_ne,ne_eq,bne_iff_ne]
   intro q
   rw [yaS] at hn
   first
    | exact hn.1 (q ▸ this.1)
    | (rw [q] at hn; exact hn.1 this.1)
  rw [z]
  simp
 | p :: ps,v :: us,i + 1,hn,e1,e2=>by
  rw [yaS] at hn
  have ih:=zgD (ps:=ps) (us:=us) (i:=i) hn.2 (by simpa using e1) (by simpa using e2)
  rw [ycy,ybD,List.lookup_append,ih]
  rfl
def zo9 (n : Nat) (tb : TE) (vcs : List V) (c : Addr) (q : Str) : Sp:=fun vs H Q _=>vs.length = n∧zgZ H c q∧tb (vs.map some ++ vcs.map some) H Q
theorem zqP {P : Program} {w : World} {K : Frag} {mg : Str→Option Value} {base : Heap} {k : Nat} {f c : Addr} {name qual : Str} {params : Arguments} {body : Expr} {scope : Scope} {cl : List (Str×Addr)} {pm ctv : Value} {ps caps : List Str} {vcs : List V} {tb : TE}
  (S : zhO scope ps caps) (hf : base.get? f = some (PySem.W.kla_obj name qual params body scope cl pm c ctv)) (hlen : vcs.length = caps.length)
  (hcap : ∀ (j : Nat) (x : Str) (v : V),caps[j]? = some x→vcs[j]? = some v→∃ a u,cl.lookup x = some a∧base.IsCell a (some u)∧RelV v u)
  (hcell : ∀ x a,cl.lookup x = some a→∃ v,base.IsCell a v) (hinj : ∀ x y a,cl.lookup x = some a→cl.lookup y = some a→x = y) (hhas : ∀ x,scope.names.lookup x = some .free→∃ a,cl.lookup x = some a)
  (hb : ∀ (A : Around) (outer : List Env) (s : Shared) (H : Hp),Room k (A.deeper (PySem.W.envX qual scope s.heap.objs.size f (.ref c) cl))→PE (zk5 P w K mg base (ps ++ caps) qual scope f (.ref c) cl A outer s H) body tb) :
  FnOk P w K mg base CX0 (k + 1) f (PySem.W.kla_fn name qual params body scope cl pm (.ref c) ctv) ps (zo9 ps.length tb vcs c qual):=by
 refine ⟨fun vs H Q E h=>h.1,fun A outer s H args us vs Q E hr e0 hbind r hsp=>?_⟩
 obtain ⟨hl,hc,hq⟩:=hsp
 have bk : ∀ b o,base.get? b = some o→s.heap.get? b = some o:=fun b o e=>(e0.bs b o e).1
 have hul : us.length = ps.length:=by rw [← r.length]; exact hl
 refine PySem.W.kla_callFunE hr.depth (bk _ _ hf) rfl S.co S.gen rfl (hc.rec e0.hok) ?_
 refine hbind _ _ _ _ ?_
 refine wpAny_newFunctionEnv S.nocell (fun y hy=>S.par _ (ybT hy).1) (fun h1 hns hsb=>⟨(e0.mod.nolimit.keeps bk).fresh _ hsb,?_⟩) S.kind
 show codeAny _ _ (.expr body (PySem.W.envX qual scope s.heap.objs.size f (.ref c) cl)) _ _
 have hk : ∀ b o,s.heap.get? b = some o→h1.get? b = some o:=fun b o e=>hsb.extBut b o (yar (yaf e)) (yai _ e)
 have cellK : ∀ a v,base.IsCell a v→h1.IsCell a v∧H a = none:=fun a v ⟨o,ho,hd⟩=>⟨⟨o,hk _ _ (bk _ _ ho),hd⟩,(e0.bs _ _ ho).2⟩
 have ndps : ps.Nodup:=(ybl.mp S.nd).1
 have noA : ∀ b : Addr,b∉([] : List Addr):=fun b z=>absurd z (by simp)
 have I : Inv (zk5 P w K mg base (ps ++ caps) qual scope f (.ref c) cl A outer s H) [] (vs.map some ++ vcs.map some) H { s with heap:=h1,toks:=s.toks + (ps.zip us).length }:=by
  refine ⟨⟨e0.mod,S.kind,rfl,rfl,yaa _,hinj,fun y hy=>?_,fun y a z _=>(by cases z),fun _=>hr.hd,Around.frames_deeper e0.frames,.inr ⟨rfl,rfl⟩,fun b z=>absurd z (noA b),e0.bs,e0.bsz,fun b _ _=>noA b,fun b z=>absurd z (noA b),e0.funs,e0.frf⟩,
   rfl,e0.bare,Un.kept hk,⟨_,hns,fun i y v h1' h2 h3=>?_⟩,fun y a h=>?_,e0.hok.fresh (yaa _),fun y a h=>?_,fun p hp=>absurd (show p∈([] : List (Addr×Obj)) from hp) (by simp),e0.hok.kept hk,?_⟩
  ·have hy : scope.names.lookup y = some .cell∨scope.names.lookup y = some .free:=hy
   rcases hy with hy | hy
   ·exact absurd rfl (S.nocell _ (PySem.mem_of_lookup hy))
   ·exact hhas y hy
  ·have h1' : (ps ++ caps)[i]? = some y:=h1'
   by_cases hi : i < ps.length
   ·rw [ybh hi] at h1'
    rw [ybh (by rw [yab]; omega),yaj] at h2
    cases e : vs[i]? with
    | none=>rw [e] at h2; cases h2
    | some v'=>
     rw [e] at h2
     cases h2
     obtain ⟨u,hu,ru⟩:=r.get e
     exact ⟨u,ru,.inl ⟨S.par y (yaK h1'),zgD ndps h1' hu⟩⟩
   ·rw [yaY (by omega)] at h1'
    rw [yaY (by rw [yab]; omega),yab,yaj] at h2
    cases e : vcs[i - vs.length]? with
    | none=>rw [e] at h2; cases h2
    | some v'=>
     rw [e] at h2
     cases h2
     rw [hl] at e
     obtain ⟨a,u,e1,e2,ru⟩:=hcap _ _ _ h1' e
     exact ⟨u,ru,.inr ⟨.inr (S.cap y (yaK h1')),a,e1,(cellK _ _ e2).1⟩⟩
  ·obtain ⟨v,z⟩:=hcell y a h
   exact ⟨v,(cellK _ _ z).1⟩
  ·obtain ⟨v,z⟩:=hcell y a h
   exact (cellK _ _ z).2
  ·show (vs.map some ++ vcs.map some).length = (ps ++ caps).length
   rw [yah,yah,yab,yab,hl,hlen]
 refine PySem.W.kla_codeExpr (wpAny_mono (hb A outer s H (hr.deeper _) [] _ _ H Q I hq) (fun u s' hu=>?_) fun _ _ z=>(show False from z).elim)
 obtain ⟨v,H',J,rv,q⟩:=hu
 exact ⟨v,H',J.os,J.bare,J.base,J.hok,rv,q⟩
end L2
namespace L2
open PySem PySem.Spec PyProof.Rows
def Gro (Pt : Addr) (H H' : Hp) : Prop:=∀ b o,b≠Pt→H b = some o→H' b = some o
theorem Gro.refl (Pt : Addr) (H : Hp) : Gro Pt H H:=fun _ _ _ h=>h
structure zbc (H : Hp) (Pt : Addr) (pos : Pos) (q : Str) : Prop where
 ex : ∃ tab : Array Value,H Pt = some (.tbl tab)∧TriplesOk tab.toList∧(codeAmong pos tab.toList = none∨∃ c,codeAmong pos tab.toList = some (.ref c)∧zgZ H c q)
theorem zbc.ext {H H' : Hp} {Pt : Addr} {pos : Pos} {q : Str} (x : zbc H Pt pos q) (e : Ext H H') : zbc H' Pt pos q:=by
 obtain ⟨tab,h1,h2,h3⟩:=x.ex
 refine ⟨tab,e _ _ h1 (fun _ z=>nomatch z),h2,?_⟩
 rcases h3 with h3 | ⟨c,h3,h4⟩
 ·exact .inl h3
 ·exact .inr ⟨c,h3,e _ _ h4 (fun _ z=>nomatch z)⟩
theorem zbc.gro {H H' : Hp} {Pt P2 : Addr} {pos : Pos} {q : Str} (x : zbc H Pt pos q) (e : Gro P2 H H') (hne : Pt≠P2) (h2 : ∃ tab,H P2 = some (.tbl tab)) : zbc H' Pt pos q:=by
 obtain ⟨tab,h1,h3,h4⟩:=x.ex
 refine ⟨tab,e _ _ hne h1,h3,?_⟩
 rcases h4 with h4 | ⟨c,h4,h5⟩
 ·exact .inl h4
 ·refine .inr ⟨c,h4,e _ _ (fun z=>?_) h5⟩
  obtain ⟨tab2,y⟩:=h2
  rw [← z,show H c = _ from h5] at y
  cases y
def BMAt (mg : Str→Option Value) (base : Heap) : Prop:=∃ bm o,mg "__builtins__" = some (.ref bm)∧bm≠builtinsNs∧bm≠mainGlobals∧base.get? bm = some o∧o.cls = .type "module"∧o.dict = some builtinsNs∧o.data = .plain
section
variable {X : Cx} {pins : List (Addr×Obj)} {σ : St} {H : Hp} {s : Shared} {params : Arguments} {body : Expr} {scope : Scope} {lpos : Pos} {c Pt : Addr} {Q : Value→Shared→Prop}
theorem zn9 {c' : Addr} {q : Str} {tab more : Array Value} {h' : Heap} {tk : Nat} (I : Inv X pins σ H s) (hP : H Pt = some (.tbl tab)) (hx : ∀ b o,b≠Pt→s.heap.get? b = some o→h'.get? b = some o) (hge : s.heap.objs.size≤c')
  (hrec : h'.CodeRec (.ref c') q) (htb : h'.get? Pt = some (PySem.W.tabObj (tab ++ more))) : Inv X pins σ (upd (upd H Pt (.tbl (tab ++ more))) c' (.ext (zm0 c' q))) { s with heap:=h',toks:=tk }:=by
 have hfr : H c' = none:=I.hok.fresh hge
 have nPc : Pt≠c':=zab hP hfr
 have low : ∀ b u,H b = some u→b≠c':=fun b u e=>zab e hfr
 have lows : ∀ b o,s.heap.get? b = some o→b≠c':=fun b o e=>yar (yau (yaf e) hge)
 have nP : ∀ b,H b = none→b≠Pt:=fun b n z=>by rw [z,hP] at n; cases n
 refine I.un (t':=tk) ⟨fun b o e n _ _=>hx b o (nP b n) e,fun b o e n _ _=>⟨o.slots,hx b o (nP b n) e⟩,fun b o e n _=>?_,fun b o e _=>?_,fun b xs e=>?_,fun b o u e=>?_,fun b ps e=>?_⟩ fun a o e=>?_
 ·rw [zag (lows b o e),zag (nP b n)]
  exact n
 ·by_cases z : b = Pt
  ·exact ⟨_,by rw [z]; exact htb⟩
  ·exact ⟨o,hx b o z e⟩
 ·rw [zag (low b _ e),zag (fun z=>by rw [z,hP] at e; cases e)]
  exact e
 ·rw [zag (low b _ e),zag (fun z=>by rw [z,hP] at e; cases e)]
  exact e
 ·by_cases z : b = Pt
  ·rw [z,hP] at e
   cases e
   exact ⟨more,by rw [z,zag nPc,zac]⟩
  ·exact ⟨#[],by rw [zag (low b _ e),zag z,e]; simp⟩
 ·by_cases z : a = c'
  ·subst z
   rw [zac] at e
   cases e
   obtain ⟨c2,o2,vs,t,e2,ho2,r2⟩:=id hrec
   cases e2
   exact ⟨hrec,⟨o2,ho2⟩,fun h1 h2 x k=>zk7 h1 h2 x k⟩
  ·rw [zag z] at e
   by_cases y : a = Pt
   ·subst y
    rw [zac] at e
    cases e
    exact htb
   ·rw [zag y] at e
    refine (I.hok a o e).stay (fun b u hb q=>hx b u ?_ q) (fun b q=>?_) fun b xs q=>?_
    ·rcases hb with rfl | hb
     ·exact y
     ·intro z2
      rw [z2,hP] at hb
      cases hb
    ·rw [zag (low b _ q),zag (fun z2=>by rw [z2,hP] at q; cases q)]
     exact q
    ·rw [zag (low b _ q),zag (fun z2=>by rw [z2,hP] at q; cases q)]
     exact q
theorem znY (I : Inv X pins σ H s) (hdef : defaultsOf params X.env = ([],[])) (hfr : ∀ x,(x,NameKind.free)∈scope.names→(X.env.kindOf x = some .cell∨X.env.kindOf x = some .free)) (hcode : X.env.code = .ref c) (hC : codeHdIn X.K c Pt = true) (hBM : BMAt X.mg X.base)
  (hT : zbc H Pt lpos (X.env.qual ++ "<lambda>"))
  (h : ∀ (f c' : Addr) (cl : List (Str×Addr)) (pm ctv : Value) (H' : Hp) (s' : Shared),zgq scope X.env cl→Inv X pins σ H' s'→s'.heap.get? f = some (PySem.W.kla_obj "<lambda>" (X.env.qual ++ "<lambda>") params body scope cl pm c' ctv)→H' f = none→s.heap.objs.size≤f→
   Gro Pt H H'→zbc H' Pt lpos (X.env.qual ++ "<lambda>")→zgZ H' c' (X.env.qual ++ "<lambda>")→Q (.ref f) s') :
  wpAny (model X.prog X.w) X.A (eval (.Lambda params body scope lpos) X.env) Q X.xe s:=by
 obtain ⟨cl,hcl⟩:=ze4 (scope:=scope) (env:=X.env) fun x hx=>I.ok.has x (hfr x hx)
 obtain ⟨tab,hP,ht,hor⟩:=hT.ex
 have hPo : s.heap.get? Pt = some (PySem.W.tabObj tab):=I.hok Pt _ hP
 have C : PySem.W.CodeHd s.heap c Pt:=(PySem.W.codeHd_of_K I.ok.mod.kin hC).keeps I.bk
 have hgl:=I.mod.glob.keeps I.bk
 have hgP : mainGlobals≠Pt:=fun z=>by
  obtain ⟨o,es,ep,e,_⟩:=I.mod.glob
  have:=(I.bs _ _ e).2
  rw [z,hP] at this
  cases this
 have hb : s.heap.BuiltinsAt X.mg Pt:=by
  obtain ⟨bm,o,b1,b2,b3,b4,b5⟩:=hBM
  refine ⟨bm,o,b1,b2,b3,fun z=>?_,I.bk _ _ b4,b5⟩
  have:=(I.bs _ _ b4).2
  rw [z,hP] at this
  cases this
 refine PySem.W.kla_eval hdef ?_
 rcases hor with hnone | ⟨c',hsome,hca⟩
 ·refine PySem.W.kla_makeFunction (clos:=cl) hcl.eq I.ok.glob hgl hcode C hPo ht hnone hgP hb fun c' ctv h' tk hx hge hlt hrec htb=>?_
  have hx' : ∀ o2 b o,b≠Pt→s.heap.get? b = some o→(h'.push o2).get? b = some o:=fun o2 b o n e=>yai _ (hx b o n e)
  have I':=zn9 (c':=c') (q:=X.env.qual ++ "<lambda>") (tk:=tk) I hP (hx' _) hge (hrec.push (PySem.W.kla_obj "<lambda>" (X.env.qual ++ "<lambda>") params body scope cl ((X.mg "__name__").getD .none) c' ctv)) (yai _ htb)
  have hsz : s.heap.objs.size≤h'.objs.size:=ybm (ybg hge hlt)
  have nPc : Pt≠c':=zab hP (I.hok.fresh hge)
  have eT : (tab ++ #[rawInt lpos.line,rawInt lpos.col,.ref c']).toList = tab.toList ++ [rawInt lpos.line,rawInt lpos.col,.ref c']:=by simp
  have hTI : zbc (upd (upd H Pt (.tbl (tab ++ #[rawInt lpos.line,rawInt lpos.col,.ref c']))) c' (.ext (zm0 c' (X.env.qual ++ "<lambda>")))) Pt lpos (X.env.qual ++ "<lambda>"):=
   ⟨_,by rw [zag nPc,zac],by rw [eT]; exact TriplesOk_snoc _ _ _ _ ht,.inr ⟨c',by rw [eT]; exact codeAmong_snoc _ ht hnone,zac⟩⟩
  refine h h'.objs.size c' cl _ ctv _ _ hcl I' (yaH _ rfl) ?_ hsz ?_ hTI zac
  ·rw [zag (ybC hlt),zag (fun z=>?_)]
   ·exact I.hok.fresh hsz
   ·have:=yaf hPo
    rw [← z] at this
    exact absurd this (ybJ.mpr hsz)
  ·intro b o n e
   rw [zag (zab e (I.hok.fresh hge)),zag n]
   exact e
 ·refine PySem.W.kla_makeFunctionHit (clos:=cl) hcl.eq I.ok.glob hgl hcode C hPo ht hsome hb fun ctv h' tk hk hsz=>?_
  exact h h'.objs.size c' cl _ ctv H _ hcl (I.kept (t':=tk) fun b o e=>yai _ (hk b o e)) (yaH _ rfl) (I.hok.fresh hsz) hsz (Gro.refl _ _) hT hca
end
end L2
namespace L2
open PySem PySem.Spec PyProof.Rows
def zdd (X : Cx) (s : Shared) (H : Hp) : Heap:=PySem.W.hideAll s.heap (trk s.heap H ++ frs X.stack)
theorem zeh {h b1 b2 : Heap} : ∀ {l : List Env},h.FunFrames b1 l→(∀ b∈frs l,b2.get? b = none)→h.FunFrames b2 l
 | [],_,_=>trivial
 | env :: l,⟨h1,⟨L,o,h2,h3,h4,h5⟩,h6⟩,k=>by
  have m : ∀ b∈frs l,b∈frs (env :: l):=fun b hb=>by
   unfold frs
   rw [ybS,h2]
   exact yaG _ hb
  refine ⟨h1,⟨L,o,h2,k L ?_,h4,h5⟩,zeh h6 fun b hb=>k b (m b hb)⟩
  unfold frs
  rw [ybS,h2]
  exact yaz
section
variable {X : Cx} {pins : List (Addr×Obj)} {σ : St} {H : Hp} {s : Shared}
theorem zfp {b : Addr} {o : Obj} (e : s.heap.get? b = some o) (n : H b = none) (hf : b∉frs X.stack) : (zdd X s H).get? b = some o:=
 PySem.W.hideAll_get _ e fun hm=>by
  rcases yan.mp hm with z | z
  ·have q : (H b).isSome = true:=(ya3.mp z).2
   rw [n] at q
   cases q
  ·exact hf z
theorem zie {b : Addr} {o : Obj} (e : (zdd X s H).get? b = some o) : s.heap.get? b = some o∧H b = none∧b∉frs X.stack:=by
 have e1:=PySem.W.of_hideAll _ e
 have hm : b∉trk s.heap H ++ frs X.stack:=fun z=>by
  unfold zdd at e
  rw [PySem.W.hideAll_none _ z] at e
  cases e
 rw [yan,not_or] at hm
 refine ⟨e1,?_,hm.2⟩
 cases q : H b with
 | none=>rfl
 | some u=>exact absurd (ya3.mpr ⟨ya9.mpr (yaf e1),by rw [q]; rfl⟩) hm.1
theorem zgX (I : Inv X pins σ H s) : ∀ b o,X.base.get? b = some o→(zdd X s H).get? b = some o:=fun b o e=>by
 obtain ⟨h1,h2⟩:=I.bs b o e
 refine zfp h1 h2 fun z=>?_
 have:=(I.stack.mem z).1
 rw [e] at this
 cases this
theorem zjj (I : Inv X pins σ H s) : Env0 X.prog X.w X.K X.mg (zdd X s H) X.A X.stack s H:=by
 have sub:=zgX I
 refine ⟨I.ok.frames,⟨I.mod.kin.keeps sub,I.mod.glob.keeps sub,?_,I.mod.nolimit.keeps sub⟩,fun b o e=>⟨(zie e).1,(zie e).2.1⟩,Nat.le_of_eq (PySem.W.hideAll_size _ _),zeh I.stack fun b hb=>PySem.W.hideAll_none _ (yax _ hb),I.stkFree,I.hok,I.bare⟩
 obtain ⟨mb,h1,h2⟩:=I.mod.blt
 exact ⟨mb,h1.keeps sub,h2⟩
end
structure FV (P : Program) (w : World) (K : Frag) (mg : Str→Option Value) (base : Heap) (k : Nat) (f : Addr) (ps : List Str) (sp : Sp) : Prop where
 ex : ∃ fd,FnOk P w K mg base CX0 k f fd ps sp∧zhP K fd ps []∧PySem.W.FnAt f base
section
variable {X : Cx}
def zqe (X : Cx) (kr : Nat) (tf : TE) (t : TA) : TE:=fun σ H Q=>tf σ H fun x H1=>∃ f k ps sp,x = .ref f∧FV X.prog X.w X.K X.mg X.base k f ps sp∧k≤kr∧t σ H1 fun vs H2=>sp vs H2 Q E0
theorem zhn {kr : Nat} {x : Str} {e : Expr} {es : List Expr} {tf : TE} {t : TA} {p pos : Pos} (hr : Room kr X.A) (hf : PE X (.Name x p) tf) (ha : PA X (e :: es) t)
  (he : starEach (e :: es) X.env = (false,eval e X.env) :: starEach es X.env:=by rfl) (hpl : (backTo pos (starEach es X.env)).any (·.1) = false:=by rfl) : PE X (.Call (.Name x p) (e :: es) [] pos) (zqe X kr tf t):=by
 intro pins s σ H Q I h
 refine wpAny_Call_Name_kw (thn (hf pins s σ H _ I h) fun u s1 ⟨x1,H1,I1,r1,q1⟩=>?_)
 obtain ⟨f,k,ps,sp,rfl,hF,hk,q⟩:=q1
 cases r1
 obtain ⟨fd,ok,bd,oc,od,fd2,sl,ho⟩:=hF.ex
 refine PySem.W.callWith_F ⟨oc,od,fd2,sl,I1.bk _ _ ho⟩ (thn (ha pos pins s1 σ H1 _ I1 q) fun us s2 ⟨vs,H2,I2,r,q2⟩=>⟨⟨oc,od,fd2,sl,I2.bk _ _ ho⟩,?_⟩) he hpl
 exact zoA ok (hr.mono hk) bd .nil zqy I2 r (by rw [yaE]; exact q2)
structure znd (X : Cx) (params : Arguments) (body : Expr) (scope : Scope) (ps caps : List Str) (cap : List Nat) : Prop where
 sc : zhO scope ps caps
 frees : ∀ x,(x,NameKind.free)∈scope.names→(X.env.kindOf x = some .cell∨X.env.kindOf x = some .free)
 capAt : ∀ (j : Nat) (x : Str),caps[j]? = some x→∃ i : Nat,cap[j]? = some i∧X.N[i]? = some x∧(X.env.kindOf x = some .cell∨X.env.kindOf x = some .free)
 dflt : defaultsOf params X.env = ([],[])
 binds : ∀ (cl : List (Str×Addr)) (pm cdv ct : Value) (us : List Value),us.length = ps.length→bindArgs (PySem.W.kla_fn "<lambda>" (X.env.qual ++ "<lambda>") params body scope cl pm cdv ct) ⟨us,[]⟩ = pure (ps.zip us)
 own : ∀ x,X.fn x = true
end
end L2
namespace L2
open PySem PySem.Spec PyProof.Rows
theorem zmp {P : Program} {w : World} {K : Frag} {mg mb : Str→Option Value} {CX : CXT} {k : Nat} {fa a : Addr} {fd : FuncData} {x : Str} {sp : Sp} {s₁ : Shared} {vs : List Value} {ns : List Int} {tabs : List (Addr×Addr)}
  (KX : K.In s₁.heap) (hns : s₁.heap.Ns mainGlobals mg) (hb : s₁.heap.Ns builtinsNs mb) (hbb : ∀ x : Str,x ≠ "__name__"→mb x = bootBuiltins x) (hlim : s₁.heap.NoLimit) (hg : s₁.gens = #[]) (hBM : BMAt mg s₁.heap)
  (hT : PySem.W.TabsAt tabs s₁.heap) (hKT : ∀ q∈tabs,K.lookup q.2 = none)
  (ha : s₁.heap.get? a = some { cls:=.type "list",data:=.seq vs.toArray }) (hi : IntsAre vs ns) (hl : ns.length≤sizeLine) (hr : Room k callerA)
  (F : ∀ base : Heap,K.In base→base.Ns mainGlobals mg→BMAt mg base→FnOk P w K mg base CX k fa fd [x] sp) (hbind : ∀ (s : Shared) (u : Value),BindsTo s fd ⟨[u],[]⟩ [(x,u)])
  (hsp : ∀ H : Hp,(∀ q∈tabs,H q.2 = some (.tbl #[]))→SqL K H a (ns.map V.int)→sp [.ref a] H (fun v _=>v = .bl true) fun _ _ _=>False)
  (hCX : ∀ H e s',CX [] H s₁ (fun _ _ _=>False) e s'→False) :
  codeAny (model P w) callerA (.call (.ref fa) ⟨[.ref a],[]⟩) (fun r s'=>r = .ok (.ret (.bool true))∧OldK s₁.heap s'.heap∧s'.os = s₁.os∧AllBare s'.gens) s₁:=by
 have rv:=zhT hi
 have lenV:=hi.length
 have tabO : ∀ b,b∈tabs.map (·.2)→s₁.heap.get? b = some (PySem.W.tabObj #[])∧isCodeTable s₁.heap b∧K.lookup b = none:=fun b hm=>by
  obtain ⟨q,hq,rfl⟩:=yaI.mp hm
  exact ⟨(hT q hq).2,((hT q hq).1.tab (hT q hq).2).isCodeTable,hKT q hq⟩
 have nat : a∉tabs.map (·.2):=fun z=>by
  have:=(tabO a z).1
  rw [ha] at this
  cases this
 have core : ∀ Hs : Hp,(∀ b,Hs b = none∨(b = a∧Hs b = some (.frz { cls:=.type "list",data:=.seq vs.toArray } (.lst (ns.map V.int)))))→(∀ H : Hp,(∀ b,b∉tabs.map (·.2)→H b = Hs b)→SqL K H a (ns.map V.int))→(Hs a≠none→K.lookup a = none)→
   codeAny (model P w) callerA (.call (.ref fa) ⟨[.ref a],[]⟩) (fun r s'=>r = .ok (.ret (.bool true))∧OldK s₁.heap s'.heap∧s'.os = s₁.os∧AllBare s'.gens) s₁:=by
  intro Hs hO hS hK
  obtain ⟨H,hH⟩ : ∃ H : Hp,H = fun b=>if b∈tabs.map (·.2) then some (.tbl #[]) else Hs b:=⟨_,rfl⟩
  have H1 : ∀ b,b∈tabs.map (·.2)→H b = some (.tbl #[]):=fun b z=>by rw [hH]; exact if_pos z
  have H2 : ∀ b,b∉tabs.map (·.2)→H b = Hs b:=fun b z=>by rw [hH]; exact if_neg z
  have cases3 : ∀ b,H b = none∨(b = a∧H b = some (.frz { cls:=.type "list",data:=.seq vs.toArray } (.lst (ns.map V.int))))∨(b∈tabs.map (·.2)∧H b = some (.tbl #[])):=fun b=>by
   by_cases z : b∈tabs.map (·.2)
   ·exact .inr (.inr ⟨z,H1 b z⟩)
   ·rcases hO b with y | ⟨y1,y2⟩
    ·exact .inl ((H2 b z).trans y)
    ·exact .inr (.inl ⟨y1,(H2 b z).trans y2⟩)
  have hok : HOk P w H s₁.heap:=fun b u e=>by
   rcases cases3 b with y | ⟨y1,y2⟩ | ⟨y1,y2⟩
   ·rw [y] at e; cases e
   ·rw [y2] at e
    cases e
    subst y1
    exact ⟨ha,by rw [yab]; exact hl,vs,_,rv,ha⟩
   ·rw [y2] at e
    cases e
    exact (tabO b y1).1
  have base_of : ∀ {b : Addr} {o : Obj},s₁.heap.get? b = some o→H b = none→(hidT s₁.heap H).get? b = some o:=fun e n=>zn6 e n
  have noD : ∀ {b : Addr} {o : Obj},s₁.heap.get? b = some o→(∀ xs n,o.data≠.seq xs n)→(∀ xs,o.data≠.fields xs)→H b = none:=fun {b o} e d1 d2=>by
   rcases cases3 b with y | ⟨y1,y2⟩ | ⟨y1,y2⟩
   ·exact y
   ·subst y1
    rw [ha] at e
    cases e
    exact absurd rfl (d1 _ _)
   ·rw [(tabO b y1).1] at e
    cases e
    exact absurd rfl (d2 _)
  have nsK : ∀ {b : Addr} {m : Str→Option Value},s₁.heap.Ns b m→(hidT s₁.heap H).Ns b m:=fun {b m} ⟨o,es,ep,e,d,r⟩=>⟨o,es,ep,base_of e (noD e (fun _ _ z=>by rw [d] at z; cases z) (fun _ z=>by rw [d] at z; cases z)),d,r⟩
  have hKb : K.In (hidT s₁.heap H):=fun b o e=>base_of (KX b o e) (by
   rcases cases3 b with y | ⟨y1,y2⟩ | ⟨y1,y2⟩
   ·exact y
   ·subst y1
    rw [hK (by rw [← H2 b nat,y2]; exact fun z=>nomatch z)] at e
    cases e
   ·rw [(tabO b y1).2.2] at e
    cases e)
  have hM : Mod K mg (hidT s₁.heap H):=⟨hKb,nsK hns,⟨mb,nsK hb,hbb⟩,let ⟨mc,h1,h2⟩:=hlim; ⟨mc,nsK h1,h2⟩⟩
  have hBMb : BMAt mg (hidT s₁.heap H):=by
   obtain ⟨bm,o,b1,b2,b3,b4,b5,b6,b7⟩:=hBM
   exact ⟨bm,o,b1,b2,b3,base_of b4 (noD b4 (fun _ _ z=>by rw [b7] at z; cases z) (fun _ z=>by rw [b7] at z; cases z)),b5,b6,b7⟩
  have e0 : Env0 P w K mg (hidT s₁.heap H) callerA [] s₁ H:=⟨rfl,hM,fun b o e=>zpv e,Nat.le_of_eq (zmG _ _),trivial,fun b hb=>absurd (show b∈([] : List Addr) from hb) (by simp),hok,.of_eq hg⟩
  refine codeAny_mono ((F _ hKb (nsK hns) hBMb).run callerA [] s₁ H ⟨[.ref a],[]⟩ [.ref a] [.ref a] _ _ hr e0 (hbind s₁ (.ref a)) (.cons rfl .nil) (hsp H (fun q hq=>H1 _ (List.mem_map_of_mem hq)) (hS H H2))) fun r s' h=>?_
  cases r with
  | error e=>exact (hCX H e s' h).elim
  | ok fl=>
   cases fl with
   | next=>exact False.elim h
   | brk=>exact False.elim h
   | cont=>exact False.elim h
   | ret u=>
    obtain ⟨v,H',os,bare,un,hok',r',q⟩:=h
    have q' : v = .bl true:=q
    subst q'
    obtain rfl : u = Value.bool true:=r'
    have keep : ∀ b o,H b = none→s₁.heap.get? b = some o→s'.heap.get? b = some o:=fun b o n e=>un.keep b o e n (by intro z; exact absurd (show b∈([] : List Addr) from z) (by simp)) (by simp)
    have frz : ∀ b o,b = a→H b = some (.frz { cls:=.type "list",data:=.seq vs.toArray } (.lst (ns.map V.int)))→s₁.heap.get? b = some o→s'.heap.get? b = some o:=fun b o y1 y2 e=>by
     obtain ⟨e1,_⟩:=hok b _ y2
     obtain ⟨e2,_⟩:=hok' b _ (un.frzs b _ _ y2)
     rw [e] at e1
     cases e1
     exact e2
    have tbl : ∀ b,H b = some (.tbl #[])→∃ ps,s'.heap.get? b = some (PySem.W.tabObj ps):=fun b y=>by
     obtain ⟨more,e⟩:=un.tbls b _ y
     exact ⟨_,hok' b _ e⟩
    refine ⟨rfl,⟨fun b o e=>?_,fun b o e=>?_⟩,os,bare⟩
    ·rcases cases3 b with y | ⟨y1,y2⟩ | ⟨y1,y2⟩
     ·exact .inl (keep b o y e)
     ·exact .inl (frz b o y1 y2 e)
     ·obtain ⟨ps,hp⟩:=tbl b y2
      obtain ⟨t1,t2,_⟩:=tabO b y1
      rw [e] at t1
      cases t1
      exact .inr (.inl ⟨t2,rfl,#[],ps,rfl,by rw [Array.empty_append]; exact hp⟩)
    ·rcases cases3 b with y | ⟨y1,y2⟩ | ⟨y1,y2⟩
     ·exact ⟨o,keep b o y e⟩
     ·exact ⟨o,frz b o y1 y2 e⟩
     ·obtain ⟨ps,hp⟩:=tbl b y2
      exact ⟨_,hp⟩
 cases hk : K.lookup a with
 | some o=>
  have e:=KX a o hk
  rw [ha] at e
  cases e
  exact core (fun _=>none) (fun _=>.inl rfl) (fun H _=>.inr ⟨_,vs.toArray,_,hk,rfl,rfl,rfl,by rw [yaw,lenV]; exact hl,by simpa using rv⟩) fun z=>absurd rfl z
 | none=>
  refine core (fun b=>if b = a then some (.frz { cls:=.type "list",data:=.seq vs.toArray } (.lst (ns.map V.int))) else none) (fun b=>?_) (fun H h=>.inl (.inr ⟨{ cls:=.type "list",data:=.seq vs.toArray },by rw [h a nat]; exact if_pos rfl⟩)) fun _=>hk
  by_cases z : b = a
  ·exact .inr ⟨z,if_pos z⟩
  ·exact .inl (if_neg z)
theorem znh {l : OpenLaw} {n k : Nat} {q : Program} {loose : List Str} {XP : (Str→Option Value)→Heap→Prop} {YP : World→Heap→Prop} {d : DefRec} {K : Params→Frag} {sp : World→Sp} {x : Str} {tabs : List (Addr×Addr)}
  (hn : l.most = some n) (hn2 : n≤sizeLine) (hdf : d.params.defaults = []) (hr : Room k callerA)
  (hY : ∀ (w : World) (h : Heap),YP w h→(K w.params).In h) (hYT : ∀ (w : World) (h : Heap),YP w h→∀ q∈tabs,h.get? q.2 = some (PySem.W.tabObj #[]))
  (hC : ∀ (w : World),∀ q∈tabs,codeHdIn (K w.params) q.1 q.2 = true∧(K w.params).lookup q.2 = none)
  (F : ∀ (w : World) (mg : Str→Option Value) (fa : Addr) (h : Heap),(K w.params).In h→h.Ns mainGlobals mg→mg d.name = some (.ref fa)→
   ∃ fd : FuncData,(∀ (s : Shared) (u : Value),BindsTo s fd ⟨[u],[]⟩ [(x,u)])∧
    ∀ base : Heap,(K w.params).In base→base.Ns mainGlobals mg→BMAt mg base→FnOk l.prog w (K w.params) mg base CX0 k fa fd [x] (sp w))
  (hsp : ∀ (w : World) (H : Hp) (a : Addr) (ns : List Int),ns.length≤n→(∀ q∈tabs,H q.2 = some (.tbl #[]))→SqL (K w.params) H a (ns.map V.int)→sp w [.ref a] H (fun v _=>v = .bl true) fun _ _ _=>False) :
  PySem.W.WalkO q loose XP YP l.row.toRowW d [] (fun f vs=>PySem.call f vs):=by
 refine Att.attach_call hn hdf fun w s₀ s₁ mg mb fa o pm cd doc a vs ns G Y ho hd hcd hmg hobj hints hlen hg=>?_
 have KX:=hY w _ Y
 obtain ⟨fd,hb,hF⟩:=F w mg fa _ KX G.T.g hmg
 have hBM : BMAt mg s₁.heap:=by
  obtain ⟨bm,ob,b1,b2,b3,b4,b5,b6⟩:=G.T.bmain
  refine ⟨bm,ob,b1,b2,fun z=>?_,b3,b4,b5,b6⟩
  obtain ⟨o,es,ep,e,hd,_⟩:=G.T.g
  rw [z,e] at b3
  cases b3
  rw [hd] at b6
  cases b6
 exact zmp (tabs:=tabs) KX G.T.g G.T.b G.T.builtins G.T.nolimit hg hBM (fun q hq=>⟨PySem.W.codeHd_of_K KX (hC w q hq).1,hYT w _ Y q hq⟩) (fun q hq=>(hC w q hq).2) hobj hints (yat hlen hn2) hr hF hb (fun H hO hS=>hsp w H a ns hlen hO hS) fun H e s' z=>z
structure DFT (K : Frag) (mg : Str→Option Value) (x : Str) (st : Stmt) (ps : List Str) (c Pt : Addr) : Prop where
 ex : ∃ (f : Addr) (oc : Value) (od : Option Addr) (kV dc pm : Value) (an : Option Addr) (ct : Value) (osl : Array (Option Value)),K.lookup f = some ⟨oc,od,.func (fnOf x x (zcD st) (zbK st) (zak st) .none kV dc pm an (.ref c) ct),osl⟩∧
  codeIn K (.ref c) x = true∧keepIn K (.ref f) = true∧mg x = some (.ref f)∧zhP K (fnOf x x (zcD st) (zbK st) (zak st) .none kV dc pm an (.ref c) ct) ps []
 hd : codeHdIn K c Pt = true
theorem DFT.ok {P : Program} {w : World} {K : Frag} {mg : Str→Option Value} {base : Heap} {x : Str} {st : Stmt} {N ps : List Str} {k : Nat} {sp : Sp} {c Pt : Addr} (D : DFT K mg x st ps c Pt) (S : zao N ps (zak st)) (len : ∀ vs H Q E,sp vs H Q E→vs.length = ps.length)
  (hbody : ∀ (f : Addr) (A : Around) (outer : List Env) (s : Shared) (H : Hp) (vs : List V) (Q : VK) (E : XK),Room k (A.deeper (envOfC x (zak st) s.heap.objs.size f (.ref c)))→sp vs H Q E→
   ∃ t,PSs (cxOf CX0 P w K mg base N x (zak st) f (.ref c) A outer s H E).nox (zbK st) t∧t { nx:=fun _ H'=>Q .non H',rt:=Q } (zcP N vs) H) : FC P w K mg base (k + 1) x ps sp:=by
 obtain ⟨f,oc,od,kV,dc,pm,an,ct,osl,lk,hcd,kp,m,bd⟩:=D.ex
 refine ⟨f,_,zq1 lk hcd S len fun A outer s H vs Q E hr hsp=>?_,bd,kp,m,oc,od,osl,lk⟩
 obtain ⟨t,h,q⟩:=hbody f A outer s H vs Q E hr hsp
 exact ⟨t,h.nox,q⟩
theorem znl {K : Frag} {x : Str} {c Pt f : Addr} {oc : Value} {od : Option Addr} {fd : FuncData} {sl : Array (Option Value)} (a : nsIn K mainGlobals x = some (some (.ref f))) (l : K.lookup f = some ⟨oc,od,.func fd,sl⟩) (t : tabIn K x = some (c,Pt)) : fd.code = .ref c:=by
 unfold tabIn at t
 rw [a] at t
 dsimp only at t
 rw [l] at t
 dsimp only at t
 split at t
 ·rename_i c2 hc
  split at t
  ·split at t
   ·cases t
    exact hc
   ·cases t
  ·cases t
 ·cases t
end L2
namespace L2
open PySem PySem.Spec PyProof.Rows
theorem zoI {X : Cx} {params : Arguments} {body : Expr} {scope osc : Scope} {N ps caps : List Str} {cap : List Nat} (sc : zhO scope ps caps)
  (h1 : ∀ p∈scope.names,p.2 = NameKind.free→osc.names.lookup p.1 = some NameKind.cell) (h2 : ∀ p∈caps.zip cap,N[p.2]? = some p.1∧osc.names.lookup p.1 = some NameKind.cell) (hl : caps.length = cap.length)
  (ho : X.env.scope = osc) (hN : X.N = N) (d : defaultsOf params X.env = ([],[]))
  (b : ∀ (cl : List (Str×Addr)) (pm cdv ct : Value) (us : List Value),us.length = ps.length→bindArgs (PySem.W.kla_fn "<lambda>" (X.env.qual ++ "<lambda>") params body scope cl pm cdv ct) ⟨us,[]⟩ = pure (ps.zip us))
  (o : ∀ x,X.fn x = true) : znd X params body scope ps caps cap:=by
 have hk : ∀ x,X.env.kindOf x = osc.names.lookup x:=fun x=>by
  unfold Env.kindOf
  rw [ho]
 refine ⟨sc,fun x hx=>.inl ?_,fun j x hj=>?_,d,b,o⟩
 ·rw [hk]
  exact h1 (x,.free) hx rfl
 ·have hj':=(yag.mp hj).1
  have hc : cap[j]? = some (cap[j]'(by omega)):=yac _
  have hz : (caps.zip cap)[j]? = some (x,cap[j]'(by omega)):=by
   rw [List.getElem?_zip_eq_some]
   exact ⟨hj,hc⟩
  obtain ⟨a1,a2⟩:=h2 _ (yaK hz)
  refine ⟨_,hc,?_,.inl ?_⟩
  ·rw [hN]
   exact a1
  ·rw [hk]
   exact a2
end L2
namespace L2
open PySem PySem.Spec PyProof.Rows
structure Sub (K : Frag) (mg : Str→Option Value) (b1 b2 : Heap) : Prop where
 mod : Mod K mg b1
 get : ∀ b o,b1.get? b = some o→b2.get? b = some o
 size : b1.objs.size≤b2.objs.size
section
variable {P : Program} {w : World} {K : Frag} {mg : Str→Option Value} {b1 b2 : Heap} {k : Nat} {f : Addr} {ps : List Str} {sp : Sp}
theorem FnOk.lift {CX : CXT} {fd : FuncData} (F : FnOk P w K mg b1 CX k f fd ps sp) (S : Sub K mg b1 b2) : FnOk P w K mg b2 CX k f fd ps sp:=
 ⟨F.len,fun A outer s H args us vs Q E hr e0=>F.run A outer s H args us vs Q E hr ⟨e0.frames,S.mod,fun b o e=>e0.bs b o (S.get b o e),yat S.size e0.bsz,zeh e0.funs (fun b hb=>by
  cases q : b1.get? b with
  | none=>rfl
  | some o=>
   have z:=(e0.funs.mem hb).1
   rw [S.get b o q] at z
   exact nomatch z),e0.frf,e0.hok,e0.bare⟩⟩
theorem FV.lift (F : FV P w K mg b1 k f ps sp) (S : Sub K mg b1 b2) : FV P w K mg b2 k f ps sp:=by
 obtain ⟨fd,ok,bd,oc,od,fd2,sl,ho⟩:=F.ex
 exact ⟨fd,FnOk.lift ok S,bd,oc,od,fd2,sl,S.get _ _ ho⟩
theorem BMAt.lift (h : BMAt mg b1) (S : Sub K mg b1 b2) : BMAt mg b2:=by
 obtain ⟨bm,o,h1,h2,h3,h4,h5⟩:=h
 exact ⟨bm,o,h1,h2,h3,S.get _ _ h4,h5⟩
end
def zqd (P : Program) (w : World) (K : Frag) (mg : Str→Option Value) (base : Heap) (kr : Nat) (tf : TE) (t : TA) : TE:=fun σ H Q=>tf σ H fun x H1=>∃ f k ps sp,x = .ref f∧FV P w K mg base k f ps sp∧k≤kr∧t σ H1 fun vs H2=>sp vs H2 Q E0
theorem znB (P : Program) (w : World) (K : Frag) (mg : Str→Option Value) (base : Heap) {X : Cx} {kr : Nat} {x : Str} {e : Expr} {es : List Expr} {tf : TE} {t : TA} {p pos : Pos} (hr : Room kr X.A) (hf : PE X (.Name x p) tf) (ha : PA X (e :: es) t)
  (h1 : X.prog = P:=by rfl) (h2 : X.w = w:=by rfl) (h3 : X.K = K:=by rfl) (h4 : X.mg = mg:=by rfl) (h5 : X.base = base:=by rfl)
  (he : starEach (e :: es) X.env = (false,eval e X.env) :: starEach es X.env:=by rfl) (hpl : (backTo pos (starEach es X.env)).any (·.1) = false:=by rfl) : PE X (.Call (.Name x p) (e :: es) [] pos) (zqd P w K mg base kr tf t):=by
 subst h1 h2 h3 h4 h5
 exact zhn hr hf ha he hpl
section
variable {X : Cx} {pins : List (Addr×Obj)} {σ : St} {H : Hp} {s : Shared}
theorem zfq (I : Inv X pins σ H s) : Sub X.K X.mg X.base (zdd X s H):=⟨I.ok.mod,zgX I,yat I.env0.bsz (Nat.le_of_eq (PySem.W.hideAll_size _ _).symm)⟩
def zne (X : Cx) (n kf : Nat) (ps : List Str) (cap : List Nat) (Pt : Addr) (lpos : Pos) (tb : Heap→TE) (σ : St) (H1 : Hp) (q : Heap→Addr→Hp→Prop) : Prop:=zbc H1 Pt lpos (X.env.qual ++ "<lambda>")∧∃ vcs : List V,vcs.length = n∧(∀ (j i : Nat) (v : V),cap[j]? = some i→vcs[j]? = some v→σ[i]? = some (some v))∧
 ∀ (base : Heap) (f c' : Addr) (H2 : Hp),Gro Pt H1 H2→zbc H2 Pt lpos (X.env.qual ++ "<lambda>")→zgZ H2 c' (X.env.qual ++ "<lambda>")→Sub X.K X.mg X.base base→FV X.prog X.w X.K X.mg base kf f ps (zo9 ps.length (tb base) vcs c' (X.env.qual ++ "<lambda>"))→q base f H2
theorem zq0 {params : Arguments} {body : Expr} {scope : Scope} {ps caps : List Str} {cap : List Nat} {f c' : Addr} {cl : List (Str×Addr)} {pm ctv : Value} {vcs : List V} {tb : TE} {k n : Nat} (I : Inv X pins σ H s) (L : znd X params body scope ps caps cap) (hcl : zgq scope X.env cl)
  (ho : s.heap.get? f = some (PySem.W.kla_obj "<lambda>" (X.env.qual ++ "<lambda>") params body scope cl pm c' ctv)) (hn : H f = none) (hfr : ∀ b∈frs X.stack,b < n) (hge : n≤f)
  (hv : vcs.length = caps.length) (hvs : ∀ (j i : Nat) (v : V),cap[j]? = some i→vcs[j]? = some v→σ[i]? = some (some v))
  (hb : ∀ (f : Addr) (cd : Value) (cl : List (Str×Addr)) (A : Around) (outer : List Env) (s1 : Shared) (H1 : Hp),Room k (A.deeper (PySem.W.envX (X.env.qual ++ "<lambda>") scope s1.heap.objs.size f cd cl))→PE (zk5 X.prog X.w X.K X.mg (zdd X s H) (ps ++ caps) (X.env.qual ++ "<lambda>") scope f cd cl A outer s1 H1) body tb) :
  FV X.prog X.w X.K X.mg (zdd X s H) (k + 1) f ps (zo9 ps.length tb vcs c' (X.env.qual ++ "<lambda>")):=by
 have nf : f∉frs X.stack:=fun z=>absurd (yau (hfr f z) hge) (yaX _)
 have hbf:=zfp (X:=X) ho hn nf
 have cellB : ∀ x a v,X.env.cells.lookup x = some a→s.heap.IsCell a v→(zdd X s H).IsCell a v:=fun x a v e ⟨o,h1,h2⟩=>by
  refine ⟨o,zfp h1 (I.freeC x a e) fun z=>?_,h2⟩
  rcases yap.mp (I.stkSub a z) with y | y
  ·exact I.cne x a e y
  ·obtain ⟨_,o2,h3,_⟩:=I.ok.funs.mem y
   exact absurd (yau (yaf h3) (I.ok.cab x a (L.own x) e)) (yaX _)
 refine ⟨_,zqP L.sc hbf hv (fun j x v h1 h2=>?_) (fun x a e=>?_) (fun x y a h1 h2=>I.ok.inj x y a (hcl.sub x a h1) (hcl.sub y a h2)) (fun x e=>?_) (fun A outer s H hr=>hb f _ cl A outer s H hr),.all (L.binds cl pm (.ref c') ctv),⟨_,_,_,_,hbf⟩⟩
 ·obtain ⟨i,e1,e2,e3⟩:=L.capAt j x h1
  obtain ⟨m,hm,hl⟩:=I.loc
  obtain ⟨u,ru,lk⟩:=hl i x v e2 (hvs j i v e1 h2) (by
   rcases e3 with z | z
   ·exact .inr (.inl z)
   ·exact .inr (.inr z))
  rcases lk with ⟨z,_⟩ | ⟨_,a,e4,e5⟩
  ·rcases e3 with y | y
   ·rw [y] at z; cases z
   ·rw [y] at z; cases z
  ·obtain ⟨a',e6⟩:=hcl.has x (PySem.mem_of_lookup (L.sc.cap x (yaK h1)))
   have e7:=hcl.sub x a' e6
   rw [e4] at e7
   cases e7
   exact ⟨a,u,e6,cellB x a _ e4 e5,ru⟩
 ·obtain ⟨v,z⟩:=I.cell x a (hcl.sub x a e)
  exact ⟨v,cellB x a v (hcl.sub x a e) z⟩
 ·exact hcl.has x (PySem.mem_of_lookup e)
theorem zkb {params : Arguments} {body : Expr} {scope : Scope} {lpos : Pos} {tb : Heap→TE} {kf : Nat} {c Pt : Addr} {ps caps : List Str} {cap : List Nat} {q : Heap→Addr→Hp→Prop} {Qv : List Value→Shared→Prop} (I : Inv X pins σ H s)
  (L : znd X params body scope ps caps cap) (hcode : X.env.code = .ref c) (hC : codeHdIn X.K c Pt = true) (hBM : BMAt X.mg X.base)
  (hb : ∀ (base : Heap) (f : Addr) (cd : Value) (cl : List (Str×Addr)) (A : Around) (outer : List Env) (s : Shared) (H : Hp),Sub X.K X.mg X.base base→Room kf (A.deeper (PySem.W.envX (X.env.qual ++ "<lambda>") scope s.heap.objs.size f cd cl))→PE (zk5 X.prog X.w X.K X.mg base (ps ++ caps) (X.env.qual ++ "<lambda>") scope f cd cl A outer s H) body (tb base))
  (hg : zne X caps.length (kf + 1) ps cap Pt lpos tb σ H q) (h : ∀ f H2 s2,Inv X pins σ H2 s2→q (zdd X s2 H2) f H2→Qv [.ref f] s2) : wpAny (model X.prog X.w) X.A (spliced [(false,eval (.Lambda params body scope lpos) X.env)]) Qv X.xe s:=by
 obtain ⟨hT,vcs,hv,hvs,q⟩:=hg
 refine Calls.spliced_cons (znY I L.dflt L.frees hcode hC hBM hT fun f c' cl pm ctv H2 s2 hcl I2 ho hn hge hgr hT2 hca=>?_)
 have S:=zfq I2
 have hF:=zq0 (k:=kf) (n:=s.heap.objs.size) (tb:=tb (zdd X s2 H2)) I2 L hcl ho hn (fun b hb=>by
  obtain ⟨_,o,e,_⟩:=I.stack.mem hb
  exact yaf e) hge hv hvs (fun f cd cl A outer s H hr=>hb _ f cd cl A outer s H S hr)
 exact Calls.spliced_nil (h f H2 s2 I2 (q _ f c' H2 hgr hT2 hca S hF))
theorem zoM {x : Str} {qs : List Str} {sp : Sp} {j k : Nat} {g : Addr} {Q : VK} {us : List Value} {vs : List V} (I : Inv X pins σ H s) (m : X.mg x = some (.ref g)) (F : FC X.prog X.w X.K X.mg (zdd X s H) j x qs sp) (hr : Room k X.A) (hjk : j≤k) (r : Vals vs us) (h : sp vs H Q E0) :
  wpAny (model X.prog X.w) X.A (call (.ref g) us) (EP X pins σ Q) X.xe s:=by
 obtain ⟨g2,fd2,ok,bd,_,m2,_⟩:=F.ex
 rw [m] at m2
 cases m2
 refine wpAny_call (codeAny_mono (ok.run X.A X.stack s H ⟨us,[]⟩ us vs Q E0 (hr.mono hjk) (zjj I) (by simpa using bd s us I.kIn (by rw [yaE,← r.length]; exact ok.len _ _ _ _ h)) r h) fun r s' hq=>?_)
 cases r with
 | error e=>exact False.elim hq
 | ok fl=>
  cases fl with
  | ret u=>exact I.after hq
  | next=>exact False.elim hq
  | brk=>exact False.elim hq
  | cont=>exact False.elim hq
end
section
variable {X : Cx}
def zlx (X : Cx) (n kf : Nat) (ps : List Str) (cap : List Nat) (Pt : Addr) (lpos : Pos) (tb : Heap→TE) (te : TE) (spH : Heap→Sp) : TE:=fun σ H Q=>te σ H fun x1 H1=>zne X n kf ps cap Pt lpos tb σ H1 fun base f H2=>spH base [x1,.ref f] H2 Q E0
theorem ziT {x : Str} {qs : List Str} {e1 : Expr} {params : Arguments} {body : Expr} {scope : Scope} {lpos p pos : Pos} {te : TE} {tb : Heap→TE} {spH : Heap→Sp} {j k kf : Nat} {c Pt : Addr} {ps caps : List Str} {cap : List Nat}
  (F : ∀ base,Sub X.K X.mg X.base base→FC X.prog X.w X.K X.mg base j x qs (spH base)) (hr : Room k X.A) (h1 : PE X e1 te) (L : znd X params body scope ps caps cap) (hcode : X.env.code = .ref c) (hC : codeHdIn X.K c Pt = true) (hBM : BMAt X.mg X.base)
  (hb : ∀ (base : Heap) (f : Addr) (cd : Value) (cl : List (Str×Addr)) (A : Around) (outer : List Env) (s : Shared) (H : Hp),Sub X.K X.mg X.base base→Room kf (A.deeper (PySem.W.envX (X.env.qual ++ "<lambda>") scope s.heap.objs.size f cd cl))→PE (zk5 X.prog X.w X.K X.mg base (ps ++ caps) (X.env.qual ++ "<lambda>") scope f cd cl A outer s H) body (tb base))
  (hjk : j≤k:=by decide) (hg : Gl X x:=by rfl) (hdb : (x == ("__debug__" : Str)) = false:=by decide) (he : starEach [e1,.Lambda params body scope lpos] X.env = (false,eval e1 X.env) :: starEach [.Lambda params body scope lpos] X.env:=by rfl)
  (he2 : starEach [.Lambda params body scope lpos] X.env = [(false,eval (.Lambda params body scope lpos) X.env)]:=by rfl) (hpl : (backTo pos (starEach [.Lambda params body scope lpos] X.env)).any (·.1) = false:=by rfl) :
  PE X (.Call (.Name x p) [e1,.Lambda params body scope lpos] [] pos) (zlx X caps.length (kf + 1) ps cap Pt lpos tb te spH):=by
 intro pins s σ H Q I h
 obtain ⟨g,fd,_,_,kp,m,oc,od,osl,lk⟩:=(F X.base ⟨I.ok.mod,fun _ _ e=>e,yaa _⟩).ex
 refine wpAny_Call_Name_kw (zhC I hg m ?_ hdb)
 refine PySem.W.callWith_K (h₀:=X.base) I.ok.mod.kin kp ?_ he hpl
 rw [he]
 show wpAny _ _ (spliced ((false,eval e1 X.env) :: backTo pos (starEach [.Lambda params body scope lpos] X.env))) _ _ s
 refine Calls.spliced_cons (thn (h1 pins s σ H _ I h) fun u s1 ⟨x1,H1,I1,r1,q1⟩=>?_)
 rw [he2]
 show wpAny _ _ (spliced [(false,eval (.Lambda params body scope lpos) X.env)]) _ _ s1
 exact zkb I1 L hcode hC hBM hb q1 fun f H2 s2 I2 hsp=>⟨I2.kIn,zoM I2 m (F _ (zfq I2)) hr hjk (vs:=[x1,.ref f]) (.cons r1 (.cons rfl .nil)) hsp⟩
def zkC (X : Cx) (n kf : Nat) (ps : List Str) (cap : List Nat) (Pt : Addr) (lpos : Pos) (tb : Heap→TE) (te te2 : TE) (spH : Heap→Sp) : TE:=fun σ H Q=>te σ H fun x1 H1=>te2 σ H1 fun x2 H2=>zne X n kf ps cap Pt lpos tb σ H2 fun base f H3=>spH base [x1,x2,.ref f] H3 Q E0
theorem zh8 {x : Str} {qs : List Str} {e1 e2 : Expr} {params : Arguments} {body : Expr} {scope : Scope} {lpos p pos : Pos} {te te2 : TE} {tb : Heap→TE} {spH : Heap→Sp} {j k kf : Nat} {c Pt : Addr} {ps caps : List Str} {cap : List Nat}
  (F : ∀ base,Sub X.K X.mg X.base base→FC X.prog X.w X.K X.mg base j x qs (spH base)) (hr : Room k X.A) (h1 : PE X e1 te) (h2 : PE X e2 te2) (L : znd X params body scope ps caps cap) (hcode : X.env.code = .ref c) (hC : codeHdIn X.K c Pt = true) (hBM : BMAt X.mg X.base)
  (hb : ∀ (base : Heap) (f : Addr) (cd : Value) (cl : List (Str×Addr)) (A : Around) (outer : List Env) (s : Shared) (H : Hp),Sub X.K X.mg X.base base→Room kf (A.deeper (PySem.W.envX (X.env.qual ++ "<lambda>") scope s.heap.objs.size f cd cl))→PE (zk5 X.prog X.w X.K X.mg base (ps ++ caps) (X.env.qual ++ "<lambda>") scope f cd cl A outer s H) body (tb base))
  (hjk : j≤k:=by decide) (hg : Gl X x:=by rfl) (hdb : (x == ("__debug__" : Str)) = false:=by decide) (he : starEach [e1,e2,.Lambda params body scope lpos] X.env = (false,eval e1 X.env) :: starEach [e2,.Lambda params body scope lpos] X.env:=by rfl)
  (he2 : starEach [e2,.Lambda params body scope lpos] X.env = [(false,eval e2 X.env),(false,eval (.Lambda params body scope lpos) X.env)]:=by rfl) (hpl : (backTo pos (starEach [e2,.Lambda params body scope lpos] X.env)).any (·.1) = false:=by rfl) :
  PE X (.Call (.Name x p) [e1,e2,.Lambda params body scope lpos] [] pos) (zkC X caps.length (kf + 1) ps cap Pt lpos tb te te2 spH):=by
 intro pins s σ H Q I h
 obtain ⟨g,fd,_,_,kp,m,oc,od,osl,lk⟩:=(F X.base ⟨I.ok.mod,fun _ _ e=>e,yaa _⟩).ex
 refine wpAny_Call_Name_kw (zhC I hg m ?_ hdb)
 refine PySem.W.callWith_K (h₀:=X.base) I.ok.mod.kin kp ?_ he hpl
 rw [he]
 show wpAny _ _ (spliced ((false,eval e1 X.env) :: backTo pos (starEach [e2,.Lambda params body scope lpos] X.env))) _ _ s
 refine Calls.spliced_cons (thn (h1 pins s σ H _ I h) fun u s1 ⟨x1,H1,I1,r1,q1⟩=>?_)
 rw [he2]
 show wpAny _ _ (spliced ((false,eval e2 X.env) :: [(false,eval (.Lambda params body scope lpos) X.env)])) _ _ s1
 refine Calls.spliced_cons (thn (h2 pins s1 σ H1 _ I1 q1) fun u2 s2 ⟨x2,H2,I2,r2,q2⟩=>?_)
 exact zkb I2 L hcode hC hBM hb q2 fun f H3 s3 I3 hsp=>⟨I3.kIn,zoM I3 m (F _ (zfq I3)) hr hjk (vs:=[x1,x2,.ref f]) (.cons r1 (.cons r2 (.cons rfl .nil))) hsp⟩
end
theorem zoa {K : Frag} {a b : Addr} {xs ys : List V} {g : TG} {tb : TS} {D : Ends} {σ : St} {H : Hp} (hlen : ys.length≤xs.length) (Pv : Nat→St→Hp→Prop) (h0 : Pv 0 σ H) (hl : ∀ i σ H,i≤ys.length→Pv i σ H→SqL K H a xs∧SqL K H b ys)
  (hs : ∀ i x y σ H p,xs[i]? = some x→ys[i]? = some y→Pv i σ H→H p = none→g (.ref p) σ (upd H p (.tup [x,y])) fun σ2 H2=>tb { D with nx:=Pv (i + 1),ct:=Pv (i + 1),bk:=D.nx } σ2 H2) (hd : ∀ σ H,Pv ys.length σ H→D.nx σ H) :
  ∃ W : Nat→Nat→St→Hp→Prop,(∃ m,W 0 m σ H)∧∀ i m σ H,W i m σ H→((Itz K a b).stop i H∧D.nx σ H)∨((Itz K a b).go i H∧∃ N : St→Hp→Prop,(∀ σ' H',N σ' H'→∃ m',m' < m∧W (i + 1) m' σ' H')∧∀ x H',(Itz K a b).yld i H x H'→g x σ H' fun σ2 H2=>tb { D with nx:=N,ct:=N,bk:=D.nx } σ2 H2):=by
 refine ⟨fun i m σ H=>i + m = ys.length∧Pv i σ H,⟨ys.length,by omega,h0⟩,fun i m σ H ⟨e,pv⟩=>?_⟩
 obtain ⟨hS,hS'⟩:=hl i σ H (by omega) pv
 by_cases hi : i < ys.length
 ·refine .inr ⟨⟨xs,ys,xs[i]'(by omega),ys[i],hS,hS',yac (by omega),yac hi⟩,Pv (i + 1),fun σ' H' q=>⟨m - 1,by omega,by omega,q⟩,fun x H' y=>?_⟩
  obtain ⟨p,z,z',rfl,hp,hz,hz',rfl⟩:=y
  exact hs i z z' σ H p (hz xs hS) (hz' ys hS') pv hp
 ·have : i = ys.length:=by omega
  subst this
  exact .inl ⟨⟨xs,ys,hS,hS',.inr (yaa _)⟩,hd σ H pv⟩
end L2
namespace DictP
open PySem PySem.Spec PyProof.Rows
set_option autoImplicit false
set_option maxRecDepth 100000
theorem zin : typeLookup (.type "list") "keys" = pure none:=by rw [typeLookup_type,builtinLookup_eq_fast]; kernel_rfl
section
variable {prog : Program} {w : World} {A : Around} {E : Value→Shared→Prop} {a : Addr} {o : Obj} {h : Heap} {g : Array GenState} {d : Drawn} {t : Nat} {os : OsState} {xs : Array Value} {n : Nat} {sl : Array (Option Value)}
theorem zkZ {tk : Tok} {Q : Fin→Shared→Prop} (hh : A.handled = none) (hx : h.get? a = some { cls:=.type "list",dict:=none,data:=.seq xs n,slots:=sl })
  (q : ∀ h' t' e,(∀ b u,h.get? b = some u→h'.get? b = some u)→(⟨h',g,d,t',os⟩ : Shared).TypeIs (.ref e) "AttributeError"→E (.ref e) ⟨h',g,d,t',os⟩) :
  wpAny (model prog w) A (Builtin.«object.__getattribute__» ⟨[.ref a,.str "keys" tk],[]⟩) Q E ⟨h,g,d,t,os⟩:=by
 have hT : (⟨h,g,d,t,os⟩ : Shared).TypeIs (.ref a) "list":=⟨_,hx,rfl⟩
 have f4:=zin
 repeat (any_goals (first | assumption | wp_step))
 have hm : (Str.ofString (toString "'" ++ toString ((Manifest.find? "list").elim "list" fun x=>x.tpName) ++ toString "' object has no attribute '") ++ Str.ofString "keys" ++ Str.ofString "'").length≤sizeLine:=by decide +kernel
 generalize (Str.ofString (toString "'" ++ toString ((Manifest.find? "list").elim "list" fun x=>x.tpName) ++ toString "' object has no attribute '") ++ Str.ofString "keys" ++ Str.ofString "'") = msg at hm ⊢
 unfold raiseAttrError
 refine wpAny_bind (wpAny_mkStr (wpAny_bind ?_) hm)
 unfold newExc newTuple
 refine wpAny_bind (wpAny_newObj_type ?_)
 refine wpAny_bind (m:=firstArgMember _ _) (wpAny_of_eq (a:=Value.none) (by rfl) ?_)
 refine wpAny_newObj_type ?_
 refine wpAny_bind (wpAny_mkText ?_)
 have hX:=yaH (h.push { cls:=.type "tuple",data:=.seq #[Value.str msg t] }) (o:={ cls:=.type "AttributeError",data:=.fields (#[.ref h.objs.size,.none,.none,.none,.bool false,.none] ++ #[unsetMember,unsetMember]) }) rfl
 have hk : ∀ b u,h.get? b = some u→((h.push { cls:=.type "tuple",data:=.seq #[Value.str msg t] }).push { cls:=.type "AttributeError",data:=.fields (#[.ref h.objs.size,.none,.none,.none,.bool false,.none] ++ #[unsetMember,unsetMember]) }).get? b = some u:=fun b u e=>yai _ (yai _ e)
 have hne : h.get? (h.push { cls:=.type "tuple",data:=.seq #[Value.str msg t] }).objs.size = none:=Heap.get?_none_of_le (by simp)
 show wpAny (model prog w) A (noteAttr (.ref (h.push { cls:=.type "tuple",data:=.seq #[Value.str msg t] }).objs.size) (.ref a) (.str "keys" (t + 1)) >>= fun _=>raiseNew (.ref (h.push { cls:=.type "tuple",data:=.seq #[Value.str msg t] }).objs.size)) Q E ⟨(h.push { cls:=.type "tuple",data:=.seq #[Value.str msg t] }).push { cls:=.type "AttributeError",data:=.fields (#[.ref h.objs.size,.none,.none,.none,.bool false,.none] ++ #[unsetMember,unsetMember]) },g,d,t + 2,os⟩
 generalize (h.push { cls:=.type "tuple",data:=.seq #[Value.str msg t] }).push { cls:=.type "AttributeError",data:=.fields (#[.ref h.objs.size,.none,.none,.none,.bool false,.none] ++ #[unsetMember,unsetMember]) } = h2 at hX hk ⊢
 generalize (h.push { cls:=.type "tuple",data:=.seq #[Value.str msg t] }).objs.size = e at hX hne ⊢
 generalize (Value.ref h.objs.size) = r0 at hX
 unfold noteAttr
 dsimp only
 have hTe : (⟨h2,g,d,t + 2,os⟩ : Shared).TypeIs (.ref e) "AttributeError":=⟨_,hX,rfl⟩
 refine wpAny_bind (wpAny_bind ?_)
 unfold lacksNameAndObj
 dsimp only
 refine wpAny_bind (wpAny_isInstance (T := "AttributeError") (b:=true) hTe (by rw [isSubtype_type]; kernel_rfl) ?_)
 simp only [yb0,yaU,if_false]
 refine wpAny_bind (wpAny_load hX ?_)
 dsimp only
 have i6 : (#[r0,Value.none,Value.none,Value.none,Value.bool false,Value.none] ++ #[unsetMember,unsetMember])[6]? = some unsetMember:=by simp
 have i7 : (#[r0,Value.none,Value.none,Value.none,Value.bool false,Value.none] ++ #[unsetMember,unsetMember])[7]? = some unsetMember:=by simp
 refine wpAny_ite_split (fun z=>absurd z (by rw [i6,i7]; decide)) (fun _=>?_)
 refine wpAny_ite_split (fun z=>absurd z (by rw [i6,i7]; decide)) (fun _=>?_)
 refine wpAny_pure ?_
 rw [if_pos rfl]
 refine wpAny_bind (wpAny_rule (wpAny_bind (wpAny_typeOf hTe ?_)))
 dsimp only
 unfold layMembers
 refine wpAny_bind (wpAny_load hX ?_)
 dsimp only
 refine wpAny_update (s:=⟨h2,g,d,t + 2,os⟩) hX ?_
 unfold raiseNew
 refine wpAny_bind (wpAny_handled ?_)
 rw [hh]
 first
  | refine wpAny_throw ?_
  | refine wpAny_bind (wpAny_pure (wpAny_throw ?_))
 refine q _ _ e (fun b u eb=>?_) ⟨_,Heap.get?_update_self _ hX (Obj.isFreed_of_fields (Obj.data_mapFields rfl _)),rfl⟩
 have nb : b≠e:=fun z=>by
  rw [z,hne] at eb
  cases eb
 exact (ybw _ _ (Ne.symm nb)).trans (hk b u eb)
theorem zmx {tk : Tok} {R : Result→Shared→Prop} (hh : A.handled = none) (hx : h.get? a = some { cls:=.type "list",dict:=none,data:=.seq xs n,slots:=sl })
  (q : ∀ h' t' e,(∀ b u,h.get? b = some u→h'.get? b = some u)→(⟨h',g,d,t',os⟩ : Shared).TypeIs (.ref e) "AttributeError"→R (.error (.ref e)) ⟨h',g,d,t',os⟩) :
  codeAny (model prog w) A (.call (.builtin "list.__getattribute__") ⟨[.ref a,.str "keys" tk],[]⟩) R ⟨h,g,d,t,os⟩:=
 codeAny_call_builtin F.slot_list_getattribute.plain F.entry_list_ga (F.slot_list_getattribute.check _ _ _ _ _ _ _ _ (show (⟨h,g,d,t,os⟩ : Shared).TypeIs (.ref a) "list" from ⟨_,hx,rfl⟩) (F.args_list_getattribute_2 _ _) (zkZ (A:=A.in1) hh hx q))
theorem zmv {Q : Option Value→Shared→Prop} (hh : A.handled = none) (hx : h.get? a = some { cls:=.type "list",dict:=none,data:=.seq xs n,slots:=sl })
  (q : ∀ h' t',(∀ b u,h.get? b = some u→h'.get? b = some u)→Q none ⟨h',g,d,t',os⟩) : wpAny (model prog w) A (getAttr? (.ref a) "keys") Q E ⟨h,g,d,t,os⟩:=by
 have hT : (⟨h,g,d,t,os⟩ : Shared).TypeIs (.ref a) "list":=⟨_,hx,rfl⟩
 have f2:=F.slot_list_getattribute.lookup
 have f3:=F.slot_list_getattribute.bind (.ref a)
 have f5 : typeLookup (.type "list") "__getattr__" = pure none:=by rw [typeLookup_type,builtinLookup_eq_fast]; kernel_rfl
 unfold getAttr? getAttrBy?
 repeat (any_goals (first | assumption | wp_step))
 refine zmx hh hx fun h' t' e k ty=>?_
 have su : isSubtype (.type "AttributeError") (.type "AttributeError") = pure true:=by rw [isSubtype_type]; kernel_rfl
 show wpAny (model prog w) A (getattributeRaised (.ref a) (.str "keys" t) (.type "list") (.ref e) none false false) _ _ _
 unfold getattributeRaised
 refine wpAny_bind (wpAny_isInstance ty su ?_)
 rw [if_pos rfl]
 refine wpAny_bind (?_ : wpAny _ _ (typeLookup (.type "list") "__getattr__") _ _ _)
 rw [f5]
 refine wpAny_pure ?_
 show wpAny _ _ (throw (Value.ref e)) _ _ _
 refine wpAny_throw ?_
 show wpAny _ _ (do let b ← isInstance (.ref e) (.type "AttributeError"); if b = true then pure none else throw (Value.ref e)) _ _ _
 refine wpAny_bind (wpAny_isInstance ty su ?_)
 exact wpAny_pure (q h' t' k)
end
end DictP
namespace DictP
open PySem PySem.Spec PyProof.Rows L2
set_option autoImplicit false
set_option maxRecDepth 100000
theorem ziz : entryFor table "dict.update.loop" = some Builtin.«dict.update.loop»:=entryFor_of_tree (by kernel_rfl)
theorem zeP : plainId "dict.update.loop" = true:=by decide +kernel
theorem zkD {K : Type} [DecidableEq K] {kvs : List (K×Value)} {k : K} {v : Value} (h : k∉kvs.map (·.1)) : stored kvs k v = kvs ++ [(k,v)]:=by
 unfold stored
 rw [if_neg fun z=>?_]
 obtain ⟨kv,h1,h2⟩:=List.any_eq_true.mp z
 exact h (yaI.mpr ⟨kv,h1,yaC h2⟩)
section
variable {prog : Program} {w : World} {A : Around} {R : Result→Shared→Prop} {I : Addr} {fp wr : List Addr} {G : Array GenState→Array GenState→Prop} {n : Nat} {P : Nat→Value→Prop} {St : Nat→Shared→Prop}
theorem zkK {h0 : Heap} (W : WalksS prog w A.in1 I fp wr G n P St) (d : Addr) (hdf : d∉fp) (res : Value) (kvs : List (Key×Value)) (hn : n = kvs.length) (hnd : (kvs.map (·.1)).Nodup)
  (hP : ∀ i v,P i v→∃ tp key k val,v = .ref tp∧tp≠d∧tp∉wr∧h0.IsTuple tp #[key,val]∧(zaF prog w).is k key = true∧kvs[i]? = some (k,val)) (hz : kvs.length≤sizeLine) :
  ∀ (j i : Nat) (s : Shared) (tk : Tok),n - i = j→i≤n→St i s→(∀ b o,b≠d→b∉wr→h0.get? b = some o→s.heap.get? b = some o)→s.heap.DictOf (zaF prog w) d (kvs.take i)→
   (∀ s',Moved (d :: wr) G s s'→s'.heap.DictOf (zaF prog w) d kvs→R (.ok (.ret res)) s')→codeAny (model prog w) A (.builtin "dict.update.loop" ⟨[.ref d,.ref I,.int i tk,res],[]⟩) R s:=by
 have hdw : d∉wr:=fun h=>hdf (W.sub _ h)
 have up : ∀ b∈wr,b∈d :: wr:=fun b hb=>yaG _ hb
 intro j
 induction j with
 | zero=>
  intro i s tk hj hi st hk hd q
  have e : i = n:=by omega
  subst e
  refine codeAny_builtin ziz ?_
  rw [Around.under_plainId zeP _]
  show wpAny _ A.in1 (pyNext (.ref I) >>= _) _ _ s
  refine wpAny_bind (W.done s _ _ st fun s' hm=>?_)
  refine wpAny_bind (?_ : wpAny _ A.in1 (Builtin.Dict.addKeywords d []) _ _ s')
  refine wpAny_pure (wpAny_pure (q s' (hm.mono up) ?_))
  obtain ⟨o,es,ep,ho,r⟩:=hd
  rw [hn,List.take_length] at r
  exact ⟨o,es,ep,hm.heap d o hdw ho,r⟩
 | succ j ih=>
  intro i s tk hj hi st hk hd q
  have hlt : i < n:=by omega
  refine codeAny_builtin ziz ?_
  rw [Around.under_plainId zeP _]
  show wpAny _ A.in1 (pyNext (.ref I) >>= _) _ _ s
  refine wpAny_bind (W.item i s _ _ hlt st fun v s' hPi st' hm=>?_)
  obtain ⟨tp,key,k,val,rfl,ntd,ntw,ht,hkey,hkv⟩:=hP i v hPi
  obtain ⟨ot,o1,o2,nt,o3⟩:=ht
  have g1:=hm.heap tp ot ntw (hk tp ot ntd ntw o1)
  have hd' : s'.heap.DictOf (zaF prog w) d (kvs.take i):=by
   obtain ⟨o,es,ep,ho,r⟩:=hd
   exact ⟨o,es,ep,hm.heap d o hdw ho,r⟩
  obtain ⟨hik,hek⟩:=yag.mp hkv
  have hnew : k∉(kvs.take i).map (·.1):=fun z=>by
   rw [ybL] at z
   obtain ⟨m,hm1,hm2⟩:=List.mem_take_iff_getElem.mp z
   have h2 : m < (kvs.map (·.1)).length:=by omega
   have h3 : i < (kvs.map (·.1)).length:=by rw [yab]; exact hik
   have:=yaO.mp hnd m i h2 h3 (by omega)
   apply this
   rw [hm2,List.getElem_map,hek]
  refine wpAny_bind (wpAny_holding (wpAny_bind (wpAny_tryCatch ?_)))
  unfold Builtin.Dict.pairItems
  refine wpAny_bind (wpAny_typeOf (T := "tuple") ⟨_,g1,o2⟩ ?_)
  rw [if_pos (by decide)]
  unfold seqItems?
  refine wpAny_bind (wpAny_bind (wpAny_load g1 ?_))
  rw [o3]
  refine wpAny_pure (wpAny_pure ?_)
  show wpAny _ A.in1 (holding [key,val] (dictSet d key val)) _ _ s'
  refine wpAny_holding (wpAny_dictSet_pairs hkey hd' (fun h' hd2 sb=>?_) (by rw [yak]; omega))
  rw [zkD hnew] at hd2
  have tk1 : kvs.take (i + 1) = kvs.take i ++ [(k,val)]:=by
   rw [yaF hik,hek]
  rw [← tk1] at hd2
  refine wpAny_pure ⟨plainId_quiet zeP _,ih (i + 1) _ 0 (by omega) hlt (W.frame _ s' _ _ st' (ya5 _) fun b hb o e=>?_) (fun b o n1 n2 e=>?_) hd2 fun s'' hm'' x3=>?_⟩
  ·rw [sb.2 b (fun h : b = d=>hdf (by rw [← h]; exact hb))]
   exact e
  ·rw [sb.2 b n1]
   exact hm.heap b o n2 (hk b o n1 n2 e)
  ·refine q s'' (Moved.trans W.gtrans ((hm.mono up).then_heap (ya5 _) fun b o hb e=>?_) hm'') x3
   rw [sb.2 b (fun h : b = d=>hb (by rw [h]; exact yaz))]
   exact e
end
end DictP
namespace DictP
open PySem PySem.Spec PyProof.Rows L2
set_option autoImplicit false
set_option maxRecDepth 100000
section
variable {prog : Program} {w : World} {A : Around} {E : Value→Shared→Prop} {s : Shared}
theorem of_pairs {l : Addr} {items : Array Value} {nl : Nat} {sl : Array (Option Value)} {kvs : List (Key×Value)} {Q : Value→Shared→Prop} (hh : A.handled = none) (hl : s.heap.get? l = some { cls:=.type "list",dict:=none,data:=.seq items nl,slots:=sl })
  (hnd : (kvs.map (·.1)).Nodup) (hlen : items.size = kvs.length) (hz : kvs.length≤sizeLine)
  (hit : ∀ (i : Nat) v,items[i]? = some v→∃ tp key k val,v = .ref tp∧s.heap.IsTuple tp #[key,val]∧(zaF prog w).is k key = true∧kvs[i]? = some (k,val))
  (q : ∀ h' tk,h'.DictOf (zaF prog w) s.heap.objs.size kvs→(∀ b o,s.heap.get? b = some o→h'.get? b = some o)→Q (.ref s.heap.objs.size) { s with heap:=h',toks:=tk }) :
  wpAny (model prog w) A (call (.type "dict") [.ref l]) Q E s:=by
 refine callType_codes (Q₁:=fun obj s₁=>obj = .ref s.heap.objs.size∧s₁ = { s with heap:=s.heap.push { cls:=.type "dict",data:=.dict #[] } }) F.kt_called_dict (F.kt_typeCall_dict_1 _) F.entry_dict_init (kt_code_dict_new _ ⟨rfl,rfl⟩) ?_
 rintro obj s₁ ⟨rfl,rfl⟩
 have hnew : (s.heap.push { cls:=.type "dict",data:=.dict #[] }).DictOf (zaF prog w) s.heap.objs.size []:=Heap.DictOf.new s.heap
 have hl1:=yai { cls:=.type "dict",data:=.dict #[] } hl
 have hkp : ∀ b o,s.heap.get? b = some o→(s.heap.push { cls:=.type "dict",data:=.dict #[] }).get? b = some o:=fun b o e=>yai _ e
 have hds : s.heap.objs.size < (s.heap.push { cls:=.type "dict",data:=.dict #[] }).objs.size:=by
  rw [yb3]
  exact ycj _
 have hlS : l < s.heap.objs.size:=yaf hl
 refine ⟨hnew.typeIs,F.args_dict_init_2 _ _,?_⟩
 generalize s.heap.push { cls:=.type "dict",data:=.dict #[] } = h1 at hnew hl1 hkp hds ⊢
 unfold Builtin.«dict.__init__»
 refine wpAny_bind ?_
 unfold Builtin.Dict.selfAndRest
 refine wpAny_bind (wpAny_notOrdered_dict hnew.typeIs ?_)
 show wpAny _ _ (pure (s.heap.objs.size,[Value.ref l])) _ _ _
 refine wpAny_pure ?_
 show wpAny _ _ (Builtin.Dict.updateFrom "dict.__init__" s.heap.objs.size (.ref l) [] .none) _ _ _
 unfold Builtin.Dict.updateFrom
 refine wpAny_bind (wpAny_typeOf (T := "list") ⟨_,hl1,rfl⟩ ?_)
 rw [if_pos (by decide)]
 refine wpAny_bind (zmv (A:=_) hh hl1 fun h2 t2 k2=>?_)
 rw [if_pos (show (none : Option Value).isNone = true from rfl)]
 refine wpAny_bind (wpAny_rule (wpAny_bind ?_))
 have hl2:=k2 _ _ hl1
 have hL2 : h2.IsList l items:=⟨_,hl2,rfl,nl,rfl⟩
 refine wpAny_pyIter_list (s:=⟨h2,s.gens,s.drawn,t2,s.os⟩) hL2 ?_
 refine wpAny_pure ⟨plainId_quiet zeP _,?_⟩
 have hd2 : h2.DictOf (zaF prog w) s.heap.objs.size []:=by
  obtain ⟨o,es,ep,ho,r⟩:=hnew
  exact ⟨o,es,ep,k2 _ _ ho,r⟩
 have hdlt : s.heap.objs.size < h2.objs.size:=by
  obtain ⟨o,es,ep,ho,r⟩:=hd2
  exact yaf ho
 have hne : l≠h2.objs.size:=yar (Nat.lt_trans hlS hdlt)
 have h3 : A.in1.in1.handled = none:=by simp [hh]
 refine zkK (h0:=s.heap) ((Walks.list h3 _ l hne items).toS) s.heap.objs.size (fun z=>?_) .none kvs hlen hnd (fun i v hv=>?_) hz items.size 0 _ 0 (by omega) (yaD _) ⟨⟨_,yaH _ rfl,rfl,rfl⟩,hL2.push _⟩ (fun b o n1 n2 e=>yai _ (k2 _ _ (hkp _ _ e))) ?_ fun s' hm hd'=>?_
 ·simp only [yap,ya6,or_false] at z
  rcases z with z | z
  ·exact absurd hdlt (by rw [← z]; exact yaX _)
  ·exact absurd hlS (by rw [← z]; exact yaX _)
 ·obtain ⟨tp,key,k,val,e1,e2,e3,e4⟩:=hit i v hv
  have htp : tp < s.heap.objs.size:=by
   obtain ⟨ot,o1,_⟩:=e2
   exact yaf o1
  refine ⟨tp,key,k,val,e1,yar htp,fun z=>?_,e2,e3,e4⟩
  rw [yao.mp z] at htp
  exact absurd (Nat.lt_trans htp hdlt) (yaX _)
 ·rw [ybA]
  exact hd2.push _
 ·refine ⟨rfl,?_⟩
  rw [Moved.eq_with hm]
  refine q s'.heap s'.toks hd' fun b o e=>hm.heap b o (fun z=>?_) (yai _ (k2 _ _ (hkp _ _ e)))
  have hb:=yaf e
  simp only [yap,ya6,or_false] at z
  rcases z with z | z
  ·rw [z] at hb
   exact absurd hb (yaX _)
  ·rw [z] at hb
   exact absurd (Nat.lt_trans hb hdlt) (yaX _)
end
end DictP
namespace L2
open PySem PySem.Spec PyProof.Rows
def zqs (K : Frag) : List V→Hp→VK→Prop:=fun xs H Q=>∃ (p : Addr) (zs : List V) (kvs : List (Key×V)),xs = [.ref p]∧SqL K H p zs∧Paired (fun (z : V) (kv : Key×V)=>∃ b,z = .ref b∧H b = some (.tup [kV kv.1,kv.2])) zs kvs∧(kvs.map (·.1)).Nodup∧
 ∀ d,H d = none→Q (.ref d) (upd H d (.dK kvs))
section
variable {X : Cx}
theorem zjW {pins : List (Addr×Obj)} {σ : St} {H : Hp} {s : Shared} (I : Inv X pins σ H s) : ∀ {zs : List V} {kvs : List (Key×V)} {us : List Value},Paired (fun (z : V) (kv : Key×V)=>∃ b,z = .ref b∧H b = some (.tup [kV kv.1,kv.2])) zs kvs→Vals zs us→
  ∃ ks : List (Key×Value),KV kvs ks∧∀ (i : Nat) v,us[i]? = some v→∃ tp key k val,v = .ref tp∧s.heap.IsTuple tp #[key,val]∧(zaF X.prog X.w).is k key = true∧ks[i]? = some (k,val)
 | _,_,_,.nil,.nil=>⟨[],.nil,fun i v h=>by simp at h⟩
 | _ :: _,kv :: _,_ :: _,.cons ⟨b,e1,e2⟩ t,.cons r q=>by
  subst e1
  obtain ⟨ks,h1,h2⟩:=zjW I t q
  cases r
  obtain ⟨its,rv,p,_⟩:=I.tuple (SqT.of e2)
  cases rv with
  | cons r1 rv=>
   cases rv with
   | cons r2 rv=>
    cases rv
    refine ⟨(kv.1,_) :: ks,.cons ⟨rfl,r2⟩ h1,fun i v hv=>?_⟩
    cases i with
    | zero=>
     simp only [List.getElem?_cons_zero,Option.some.injEq] at hv
     subst hv
     exact ⟨b,_,kv.1,_,rfl,p,zk0 r1,rfl⟩
    | succ i=>
     rw [ycg] at hv ⊢
     exact h2 i v hv
theorem zms : ∀ {kvs : List (Key×V)} {ks : List (Key×Value)},KV kvs ks→ks.map (·.1) = kvs.map (·.1)
 | _,_,.nil=>rfl
 | _,_,.cons r t=>by
  rw [yay,yay,zms t,r.1]
theorem zla (hc : X.calm = true) : ze8 X (.type "dict") (zqs X.K):=by
 intro pins s σ H xs us Q I r h
 obtain ⟨p,zs,kvs,rfl,hq,hp,hn,q⟩:=h
 obtain ⟨u,rfl,rx⟩:=zhV r
 cases rx
 obtain ⟨its,rv,pl,hz⟩:=I.list hq
 obtain ⟨ks,hk,hit⟩:=zjW I hp rv
 have l1:=Paired.length hp
 have l2:=rv.length
 have l3:=Paired.length hk
 obtain ⟨⟨oc,od,oda,osl⟩,n,e,e1,e2,e3⟩:=pl
 simp only at e1 e2 e3
 subst e1 e2 e3
 refine DictP.of_pairs (kvs:=ks) (I.ok.hd hc) e (by rw [zms hk]; exact hn) (by rw [yaw]; omega) (by omega) (fun i v hv=>hit i v (by simpa using hv)) fun h' tk hd k=>?_
 exact ⟨.ref s.heap.objs.size,_,I.laid (a:=s.heap.objs.size) (o:=.dK kvs) (t':=tk) k (yaa _) ⟨by omega,beq_eq_false_iff_ne.mpr (Ne.symm (yar I.big)),ks,hk,hd⟩,rfl,q _ (I.hok.fresh (yaa _))⟩
end
end L2
set_option maxHeartbeats 4000000
namespace My
open PySem PySem.Spec PyProof.Rows L2
local macro_rules | `(tactic| walk_at "side")=>`(tactic| first | omega | (dsimp only; omega) | (simp only [CDiv,zrA,CPow,CMul]; omega) | decide)
local macro_rules | `(tactic| walk_at "rd")=>`(tactic| repeat (first | (refine ⟨_,rfl,?_⟩) | (refine ⟨_,_,rfl,rfl,?_⟩) | (refine ⟨rfl,?_⟩) | (refine ⟨(by walk_at "side"),?_⟩)))
def top (i : Nat) : Stmt:=PySem.Challenge.pw_bridgefind_k34_papers_told.main.body.getD i (.Pass ⟨0,0,0,0⟩)
abbrev zdG : Stmt:=top 5
abbrev zjP : Stmt:=top 6
abbrev zbu : Stmt:=top 7
abbrev zcS : Stmt:=top 8
abbrev zbA : Stmt:=top 11
abbrev zfG : Stmt:=top 12
abbrev zfI : Stmt:=top 13
abbrev zcr : Stmt:=top 15
abbrev zcs : Stmt:=top 16
abbrev zeC : Stmt:=top 17
abbrev zhb : Stmt:=top 18
abbrev zfO : Stmt:=top 19
abbrev zbi : Stmt:=top 21
abbrev zdH : Stmt:=top 22
abbrev zeD : Stmt:=top 23
abbrev zfN : Stmt:=top 24
abbrev zdE : Stmt:=top 25
abbrev zbZ : Stmt:=top 27
abbrev za5 : Stmt:=top 28
abbrev zcT : Stmt:=top 29
abbrev zer : Stmt:=top 31
abbrev zcQ : Stmt:=top 32
abbrev zcu : Stmt:=top 33
abbrev zbj : Stmt:=top 36
abbrev zdC : Stmt:=top 37
abbrev zcq : Stmt:=top 38
abbrev zfH : Stmt:=top 39
abbrev zaT : Stmt:=top 40
abbrev zdD : Stmt:=top 42
abbrev zez : Stmt:=top 44
abbrev zeB : Stmt:=top 45
abbrev zew : Stmt:=top 46
abbrev zfK : Stmt:=top 47
abbrev zhe : Stmt:=top 48
abbrev zfJ : Stmt:=top 49
abbrev zhd : Stmt:=top 50
abbrev zfL : Stmt:=top 51
abbrev zct : Stmt:=top 52
abbrev zhc : Stmt:=top 53
abbrev zfM : Stmt:=top 54
abbrev zdF : Stmt:=top 55
abbrev zcR : Stmt:=top 56
abbrev zex : Stmt:=top 57
abbrev zey : Stmt:=top 58
abbrev zet : Stmt:=top 59
abbrev zb0 : Stmt:=top 60
abbrev zeA : Stmt:=top 61
abbrev zes : Stmt:=top 62
abbrev zev : Stmt:=top 63
abbrev zeu : Stmt:=top 64
abbrev zns : Stmt:=top 65
theorem sc_is_whole : zao ["thing"] ["thing"] (zak zdG):=⟨rfl,rfl,rfl,by decide +kernel,rfl,by decide +kernel,by decide +kernel⟩
theorem sc_code : zao ["entry","key","z"] ["entry"] (zak zjP):=⟨rfl,rfl,rfl,by decide +kernel,rfl,by decide +kernel,by decide +kernel⟩
theorem sc_how_many_below : zao ["length","is_below","low","high","middle"] ["length","is_below"] (zak zbu):=⟨rfl,rfl,rfl,by decide +kernel,rfl,by decide +kernel,by decide +kernel⟩
theorem sc_joined_up : zao ["lists","together","entries"] ["lists"] (zak zcS):=⟨rfl,rfl,rfl,by decide +kernel,rfl,by decide +kernel,by decide +kernel⟩
theorem sc_lowest_unlike : zao ["one","other","unlike"] ["one","other"] (zak zbA):=⟨rfl,rfl,rfl,by decide +kernel,rfl,by decide +kernel,by decide +kernel⟩
theorem sc_turned : zao ["numbers","told","at","number","figure"] ["numbers"] (zak zfG):=⟨rfl,rfl,rfl,by decide +kernel,rfl,by decide +kernel,by decide +kernel⟩
theorem sc_labels : zao ["entries","numbers","turn"] ["entries"] (zak zfI):=⟨rfl,rfl,rfl,by decide +kernel,rfl,by decide +kernel,by decide +kernel⟩
theorem sc_neighbours : zao ["things","at"] ["things","at"] (zak zcr):=⟨rfl,rfl,rfl,by decide +kernel,rfl,by decide +kernel,by decide +kernel⟩
theorem sc_least_free : zao ["taken"] ["taken"] (zak zcs):=⟨rfl,rfl,rfl,by decide +kernel,rfl,by decide +kernel,by decide +kernel⟩
theorem sc_colours : zao ["numbers","told","label","at"] ["numbers"] (zak zeC):=⟨rfl,rfl,rfl,by decide +kernel,rfl,by decide +kernel,by decide +kernel⟩
theorem sc_marks : zao ["entries","tints","told","colour","at"] ["entries"] (zak zhb):=⟨rfl,rfl,rfl,by decide +kernel,rfl,by decide +kernel,by decide +kernel⟩
theorem sc_handed : zao ["entries"] ["entries"] (zak zfO):=⟨rfl,rfl,rfl,by decide +kernel,rfl,by decide +kernel,by decide +kernel⟩
theorem sc_is_one_of_first : zao ["many","thing"] ["many","thing"] (zak zbi):=⟨rfl,rfl,rfl,by decide +kernel,rfl,by decide +kernel,by decide +kernel⟩
theorem sc_children : zao ["tree","knot"] ["tree","knot"] (zak zdH):=⟨rfl,rfl,rfl,by decide +kernel,rfl,by decide +kernel,by decide +kernel⟩
theorem sc_beneath : zao ["tree","knot","told","other"] ["tree","knot"] (zak zeD):=⟨rfl,rfl,rfl,by decide +kernel,rfl,by decide +kernel,by decide +kernel⟩
theorem sc_is_way : zao ["tree","thing","knot","at"] ["tree","thing"] (zak zfN):=⟨rfl,rfl,rfl,by decide +kernel,rfl,by decide +kernel,by decide +kernel⟩
theorem sc_need_way : zao ["tree","thing"] ["tree","thing"] (zak zdE):=⟨rfl,rfl,rfl,by decide +kernel,rfl,by decide +kernel,by decide +kernel⟩
theorem sc_own_entries : zao ["stand","knot"] ["stand","knot"] (zak zbZ):=⟨rfl,rfl,rfl,by decide +kernel,rfl,by decide +kernel,by decide +kernel⟩
theorem sc_full_rows_beneath : zao ["stand","knot","tree","told","at","parts"] ["stand","knot"] (zak za5):=⟨rfl,rfl,rfl,by decide +kernel,rfl,by decide +kernel,by decide +kernel⟩
theorem sc_full_rows : zao ["stand","told"] ["stand"] (zak zcT):=⟨rfl,rfl,rfl,by decide +kernel,rfl,by decide +kernel,by decide +kernel⟩
theorem sc_owns_of : zao ["full","knot","told","entry"] ["full","knot"] (zak zer):=⟨rfl,rfl,rfl,by decide +kernel,rfl,by decide +kernel,by decide +kernel⟩
theorem sc_starts_of : zao ["full","child_full","behind","at","entry","told"] ["full","child_full"] (zak zcQ):=⟨rfl,rfl,rfl,by decide +kernel,rfl,by decide +kernel,by decide +kernel⟩
theorem sc_bridges_of : zao ["tree","fulls","told","knot","full","jumps"] ["tree","fulls"] (zak zcu):=⟨rfl,rfl,rfl,by decide +kernel,rfl,by decide +kernel,by decide +kernel⟩
theorem sc_first_place : zao ["bridges","knot","is_below"] ["bridges","knot","is_below"] (zak zbj):=⟨rfl,rfl,rfl,by decide +kernel,rfl,by decide +kernel,by decide +kernel⟩
theorem sc_start_in : zao ["bridges","knot","at","child"] ["bridges","knot","at","child"] (zak zdC):=⟨rfl,rfl,rfl,by decide +kernel,rfl,by decide +kernel,by decide +kernel⟩
theorem sc_next_place : zao ["bridges","knot","start","is_below","beyond","at"] ["bridges","knot","start","is_below"] (zak zcq):=⟨rfl,rfl,rfl,by decide +kernel,rfl,by decide +kernel,by decide +kernel⟩
theorem sc_search : zao ["bridges","way","is_below","at","told","parent","knot"] ["bridges","way","is_below"] (zak zfH):=⟨rfl,rfl,rfl,by decide +kernel,rfl,by decide +kernel,by decide +kernel⟩
theorem sc_search_for_key : zao ["tree","fulls","way","key"] ["tree","fulls","way","key"] (zak zaT):=⟨rfl,rfl,rfl,by decide +kernel,rfl,by decide +kernel,by decide +kernel⟩
theorem sc_paper_of : zao ["stand","way","key","found"] ["stand","way","key"] (zak zdD):=⟨rfl,rfl,rfl,by decide +kernel,rfl,by decide +kernel,by decide +kernel⟩
theorem sc_l_every : zao ["_law_rows_here","_law_found","_law_row_here"] ["_law_rows_here"] (zak zez):=⟨rfl,rfl,rfl,by decide +kernel,rfl,by decide +kernel,by decide +kernel⟩
theorem sc_l_begin : zao ["_law_script"] ["_law_script"] (zak zeB):=⟨rfl,rfl,rfl,by decide +kernel,rfl,by decide +kernel,by decide +kernel⟩
theorem sc_l_mixed : zao ["_law_cell","_law_k","_law_one","_law_two"] ["_law_cell","_law_k"] (zak zew):=⟨rfl,rfl,rfl,by decide +kernel,rfl,by decide +kernel,by decide +kernel⟩
theorem sc_l_take : zao ["_law_state","_law_most","_law_k","_law_script","_law_cell","_law_found"] ["_law_state","_law_most"] (zak zfK):=⟨rfl,rfl,rfl,by decide +kernel,rfl,by decide +kernel,by decide +kernel⟩
theorem sc_l_key : zao ["_law_state","_law_way_here"] ["_law_state"] (zak zhe):=⟨rfl,rfl,rfl,by decide +kernel,rfl,by decide +kernel,by decide +kernel⟩
theorem sc_l_tree : zao ["_law_state","_law_most","_law_way_here","_law_parents","_law_k"] ["_law_state","_law_most"] (zak zfJ):=⟨rfl,rfl,rfl,by decide +kernel,rfl,by decide +kernel,by decide +kernel⟩
theorem sc_l_row : zao ["_law_state","_law_most","_law_found","_law_k"] ["_law_state","_law_most"] (zak zhd):=⟨rfl,rfl,rfl,by decide +kernel,rfl,by decide +kernel,by decide +kernel⟩
theorem sc_l_rows : zao ["_law_state","_law_many","_law_most","_law_rows_here","_law_k","_law_row_here"] ["_law_state","_law_many","_law_most"] (zak zfL):=⟨rfl,rfl,rfl,by decide +kernel,rfl,by decide +kernel,by decide +kernel⟩
theorem sc_l_children : zao ["_law_tree_here","_law_knot"] ["_law_tree_here","_law_knot"] (zak zct):=⟨rfl,rfl,rfl,by decide +kernel,rfl,by decide +kernel,by decide +kernel⟩
theorem sc_l_way : zao ["_law_state","_law_tree_here","_law_way_here","_law_some"] ["_law_state","_law_tree_here"] (zak zhc):=⟨rfl,rfl,rfl,by decide +kernel,rfl,by decide +kernel,by decide +kernel⟩
theorem sc_l_code : zao ["_law_entry","_law_key_here","_law_knot"] ["_law_entry"] (zak zfM):=⟨rfl,rfl,rfl,by decide +kernel,rfl,by decide +kernel,by decide +kernel⟩
theorem sc_l_turned : zao ["_law_numbers","_law_found","_law_k","_law_one","_law_other","_law_b"] ["_law_numbers"] (zak zdF):=⟨rfl,rfl,rfl,by decide +kernel,rfl,by decide +kernel,by decide +kernel⟩
theorem sc_l_colours : zao ["_law_numbers","_law_found","_law_high","_law_at","_law_k","_law_beside"] ["_law_numbers"] (zak zcR):=⟨rfl,rfl,rfl,by decide +kernel,rfl,by decide +kernel,by decide +kernel⟩
theorem sc_l_marks : zao ["_law_entries","_law_numbers","_law_k","_law_shades","_law_found","_law_shade"] ["_law_entries"] (zak zex):=⟨rfl,rfl,rfl,by decide +kernel,rfl,by decide +kernel,by decide +kernel⟩
theorem sc_l_fulls : zao ["_law_tree_here","_law_rows_here","_law_found","_law_k","_law_up","_law_entry","_law_is_on"] ["_law_tree_here","_law_rows_here"] (zak zey):=⟨rfl,rfl,rfl,by decide +kernel,rfl,by decide +kernel,by decide +kernel⟩
theorem sc_l_stand : zao ["_law_state","_law_most","_law_keys","_law_tree_here"] ["_law_state"] (zak zet):=⟨rfl,rfl,rfl,by decide +kernel,rfl,by decide +kernel,by decide +kernel⟩
theorem sc_l_asked_key : zao ["_law_state","_law_stand_here","_law_every_here","_law_key_here"] ["_law_state","_law_stand_here"] (zak zb0):=⟨rfl,rfl,rfl,by decide +kernel,rfl,by decide +kernel,by decide +kernel⟩
theorem sc_l_below : zao ["_law_keys","_law_key_here"] ["_law_keys","_law_key_here"] (zak zeA):=⟨rfl,rfl,rfl,by decide +kernel,rfl,by decide +kernel,by decide +kernel⟩
theorem sc_l_whole : zao ["_law_thing"] ["_law_thing"] (zak zes):=⟨rfl,rfl,rfl,by decide +kernel,rfl,by decide +kernel,by decide +kernel⟩
theorem sc_l_paper : zao ["_law_stand_here","_law_fulls_here","_law_way_here","_law_key_here","_law_found","_law_knot","_law_spot"] ["_law_stand_here","_law_fulls_here","_law_way_here","_law_key_here"] (zak zev):=⟨rfl,rfl,rfl,by decide +kernel,rfl,by decide +kernel,by decide +kernel⟩
theorem sc_l_right : zao ["_law_stand_here","_law_way_here","_law_key_here","_law_due","_law_given","_law_again","_law_found","_law_line"] ["_law_stand_here","_law_way_here","_law_key_here","_law_due"] (zak zeu):=⟨rfl,rfl,rfl,by decide +kernel,rfl,by decide +kernel,by decide +kernel⟩
theorem sc_law : zao ["_law_script","_law_state","_law_stand_here","_law_other","_law_turn","_law_way_here","_law_key_here","_law_some","_law_due"] ["_law_script"] (zak zns):=⟨rfl,rfl,rfl,by decide +kernel,rfl,by decide +kernel,by decide +kernel⟩
abbrev zcY : List Str:=["thing"]
abbrev zhk : List Str:=["entry"]
abbrev zbm : List Str:=["length","is_below"]
abbrev zcx : List Str:=["lists"]
abbrev zbv : List Str:=["one","other"]
abbrev zeG : List Str:=["numbers"]
abbrev zeI : List Str:=["entries"]
abbrev zbB : List Str:=["things","at"]
abbrev zb2 : List Str:=["taken"]
abbrev zdT : List Str:=["numbers"]
abbrev zfR : List Str:=["entries"]
abbrev zeO : List Str:=["entries"]
abbrev zbb : List Str:=["many","thing"]
abbrev zch : List Str:=["tree","knot"]
abbrev zdU : List Str:=["tree","knot"]
abbrev zeN : List Str:=["tree","thing"]
abbrev zcW : List Str:=["tree","thing"]
abbrev zbM : List Str:=["stand","knot"]
abbrev za0 : List Str:=["stand","knot"]
abbrev zcy : List Str:=["stand"]
abbrev zdI : List Str:=["full","knot"]
abbrev zcv : List Str:=["full","child_full"]
abbrev zb4 : List Str:=["tree","fulls"]
abbrev zbO : List Str:=["bridges","knot","is_below"]
abbrev zcU : List Str:=["bridges","knot","at","child"]
abbrev zb1 : List Str:=["bridges","knot","start","is_below"]
abbrev zeH : List Str:=["bridges","way","is_below"]
abbrev zbl : List Str:=["tree","fulls","way","key"]
abbrev zcV : List Str:=["stand","way","key"]
abbrev zdQ : List Str:=["_law_rows_here"]
abbrev zdS : List Str:=["_law_script"]
abbrev zdN : List Str:=["_law_cell","_law_k"]
abbrev zbo : List Str:=["_law_state","_law_most"]
abbrev zeL : List Str:=["_law_state"]
abbrev zeJ : List Str:=["_law_state","_law_most"]
abbrev zfT : List Str:=["_law_state","_law_most"]
abbrev zeK : List Str:=["_law_state","_law_many","_law_most"]
abbrev zb3 : List Str:=["_law_tree_here","_law_knot"]
abbrev zfS : List Str:=["_law_state","_law_tree_here"]
abbrev zeM : List Str:=["_law_entry"]
abbrev zcX : List Str:=["_law_numbers"]
abbrev zcw : List Str:=["_law_numbers"]
abbrev zdO : List Str:=["_law_entries"]
abbrev zdP : List Str:=["_law_tree_here","_law_rows_here"]
abbrev zdK : List Str:=["_law_state"]
abbrev zbN : List Str:=["_law_state","_law_stand_here"]
abbrev zdR : List Str:=["_law_keys","_law_key_here"]
abbrev zdJ : List Str:=["_law_thing"]
abbrev zdM : List Str:=["_law_stand_here","_law_fulls_here","_law_way_here","_law_key_here"]
abbrev zdL : List Str:=["_law_stand_here","_law_way_here","_law_key_here","_law_due"]
abbrev zjS : List Str:=["_law_script"]
structure Txt (K : Frag) (mg : Str→Option Value) : Prop where
 m_abs : mg "abs" = none
 m_bool : mg "bool" = none
 m_dict : mg "dict" = none
 m_enumerate : mg "enumerate" = none
 m_int : mg "int" = none
 m_isinstance : mg "isinstance" = none
 m_len : mg "len" = none
 m_list : mg "list" = none
 m_max : mg "max" = none
 m_min : mg "min" = none
 m_range : mg "range" = none
 m_reversed : mg "reversed" = none
 m_sorted : mg "sorted" = none
 m_tuple : mg "tuple" = none
 m_zip : mg "zip" = none
 g_KNOT_NUMBERS : ∃ t,mg "KNOT_NUMBERS" = some (.int 64 t)
 g_TURNS : ∃ t,mg "TURNS" = some (.int 5 t)
 g_MOST_BEHIND_START : ∃ t,mg "MOST_BEHIND_START" = some (.int 2 t)
theorem zi1 (m n i j : Nat) (hi : i < 2) (hj : j < 2) : (2*m+i) &&& (2*n+j) = 2*(m &&& n) + (i &&& j):=by
 apply Nat.eq_of_testBit_eq
 intro k
 cases k with
 | zero=>
  have h1 : i = 0∨i = 1:=by omega
  have h2 : j = 0∨j = 1:=by omega
  rcases h1 with rfl | rfl <;> rcases h2 with rfl | rfl <;> simp [Nat.testBit_zero] <;> omega
 | succ k=>
  have h1 : i = 0∨i = 1:=by omega
  have h2 : j = 0∨j = 1:=by omega
  have e1 : (2*m+i)/2 = m:=by omega
  have e2 : (2*n+j)/2 = n:=by omega
  have e3 : (2*(m &&& n) + (i &&& j))/2 = m &&& n:=by
   rcases h1 with rfl | rfl <;> rcases h2 with rfl | rfl <;> simp <;> omega
  rw [Nat.testBit_and,ybM,ybM,ybM,e1,e2,e3,Nat.testBit_and]
theorem zqO (m n i j : Nat) (hi : i < 2) (hj : j < 2) : (2*m+i) ||| (2*n+j) = 2*(m ||| n) + (i ||| j):=by
 apply Nat.eq_of_testBit_eq
 intro k
 cases k with
 | zero=>
  have h1 : i = 0∨i = 1:=by omega
  have h2 : j = 0∨j = 1:=by omega
  rcases h1 with rfl | rfl <;> rcases h2 with rfl | rfl <;> simp [Nat.testBit_zero] <;> omega
 | succ k=>
  have h1 : i = 0∨i = 1:=by omega
  have h2 : j = 0∨j = 1:=by omega
  have e1 : (2*m+i)/2 = m:=by omega
  have e2 : (2*n+j)/2 = n:=by omega
  have e3 : (2*(m ||| n) + (i ||| j))/2 = m ||| n:=by
   rcases h1 with rfl | rfl <;> rcases h2 with rfl | rfl <;> simp <;> omega
  rw [Nat.testBit_or,ybM,ybM,ybM,e1,e2,e3,Nat.testBit_or]
def lu (a b : Nat) : Nat:=if a = b then 0 else if a % 2 = b % 2 then lu (a / 2) (b / 2) + 1 else 0
termination_by a + b
decreasing_by omega
theorem zhB {a b : Nat} (hab : a≠b) (h : a % 2 = b % 2) : lu a b = lu (a / 2) (b / 2) + 1:=by
 rw [lu,if_neg hab,if_pos h]
theorem zj8 {a b : Nat} (h : a % 2≠b % 2) : lu a b = 0:=by
 rw [lu]; split
 ·rfl
 ·rfl
def xr (a b : Nat) : Nat:=(a ||| b) - (a &&& b)
def zfz (n : Nat) : Nat:=n - (n &&& (n - 1))
theorem ziK (a b : Nat) : a &&& b≤a ||| b:=yat Nat.and_le_left Nat.left_le_or
theorem zrb (m n i j : Nat) (hi : i < 2) (hj : j < 2) : xr (2*m+i) (2*n+j) = 2 * xr m n + (if i = j then 0 else 1):=by
 unfold xr
 rw [zqO m n i j hi hj,zi1 m n i j hi hj]
 have q:=ziK m n
 have h1 : i = 0∨i = 1:=by omega
 have h2 : j = 0∨j = 1:=by omega
 rcases h1 with rfl | rfl <;> rcases h2 with rfl | rfl <;> simp <;> omega
theorem zld (a b : Nat) : xr a b = 2 * xr (a / 2) (b / 2) + (if a % 2 = b % 2 then 0 else 1):=by
 have e1 : 2 * (a / 2) + a % 2 = a:=by omega
 have e2 : 2 * (b / 2) + b % 2 = b:=by omega
 have q:=zrb (a / 2) (b / 2) (a % 2) (b % 2) (by omega) (by omega)
 rw [e1,e2] at q
 exact q
theorem zok : ∀ (n a b : Nat),a + b≤n→a≠b→0 < xr a b:=by
 intro n
 induction n with
 | zero=>intro a b h1 h2; omega
 | succ n ih=>
  intro a b h1 h2
  rw [zld]
  by_cases h : a % 2 = b % 2
  ·have:=ih (a / 2) (b / 2) (by omega) (by omega)
   omega
  ·rw [if_neg h]; omega
theorem zpA (m : Nat) : zfz (2 * m + 1) = 1:=by
 unfold zfz
 have q:=zi1 m m 1 0 (by omega) (by omega)
 have e : 2 * m + 1 - 1 = 2 * m + 0:=by omega
 rw [e,q]
 simp
theorem znX (m : Nat) (h : 0 < m) : zfz (2 * m) = 2 * zfz m:=by
 unfold zfz
 have q:=zi1 m (m - 1) 0 1 (by omega) (by omega)
 have e : 2 * m - 1 = 2 * (m - 1) + 1:=by omega
 have e' : 2 * m = 2 * m + 0:=by omega
 rw [e]
 have : (2 * m &&& 2 * (m - 1) + 1) = 2 * (m &&& m - 1) + (0 &&& 1):=q
 rw [this]
 have z : m &&& (m - 1)≤m:=Nat.and_le_left
 simp
 omega
theorem zqM : ∀ (n a b : Nat),a + b≤n→a≠b→zfz (xr a b) = 2 ^ lu a b:=by
 intro n
 induction n with
 | zero=>intro a b h1 h2; omega
 | succ n ih=>
  intro a b h1 h2
  rw [zld]
  by_cases h : a % 2 = b % 2
  ·rw [if_pos h,zhB h2 h,ybq,znX _ (zok n _ _ (by omega) (by omega)),ih _ _ (by omega) (by omega),ybN]
   omega
  ·rw [if_neg h,zj8 h,zpA,Nat.pow_zero]
theorem zpz : ∀ (n a b : Nat),a + b≤n→a≠b→a % 2 ^ lu a b = b % 2 ^ lu a b∧a % 2 ^ (lu a b + 1)≠b % 2 ^ (lu a b + 1):=by
 intro n
 induction n with
 | zero=>intro a b h1 h2; omega
 | succ n ih=>
  intro a b h1 h2
  by_cases h : a % 2 = b % 2
  ·rw [zhB h2 h]
   obtain ⟨q1,q2⟩:=ih (a / 2) (b / 2) (by omega) (by omega)
   have s : ∀ x k : Nat,x % 2 ^ (k + 1) = 2 * (x / 2 % 2 ^ k) + x % 2:=by
    intro x k
    rw [ybN,Nat.mul_comm,Nat.mod_mul]
    omega
   rw [s a,s b,s a,s b]
   constructor
   ·omega
   ·omega
  ·rw [zj8 h]
   simp [Nat.mod_one]
   omega
theorem zro : ∀ (k a b : Nat),a≠b→a < 2 ^ k→b < 2 ^ k→lu a b < k:=by
 intro k
 induction k with
 | zero=>intro a b h1 h2 h3; simp at h2 h3; omega
 | succ k ih=>
  intro a b h1 h2 h3
  by_cases h : a % 2 = b % 2
  ·rw [zhB h1 h]
   have:=ih (a / 2) (b / 2) (by omega) (by rw [ybN] at h2; omega) (by rw [ybN] at h3; omega)
   omega
  ·rw [zj8 h]; omega
def fig (a b : Nat) : Nat:=2 * lu a b + b / 2 ^ lu a b % 2
theorem zhG (a b : Nat) : fig a b / 2 = lu a b:=by
 unfold fig
 have:=Nat.mod_lt (b / 2 ^ lu a b) (by decide : 0 < 2)
 omega
theorem zjb (a b : Nat) : fig a b % 2 = b / 2 ^ lu a b % 2:=by
 unfold fig
 have:=Nat.mod_lt (b / 2 ^ lu a b) (by decide : 0 < 2)
 omega
theorem zfw (x k : Nat) : x % 2 ^ (k + 1) = x % 2 ^ k + 2 ^ k * (x / 2 ^ k % 2):=by
 rw [ybN,Nat.mod_mul]
theorem zoH {a b : Nat} (h : a≠b) : a / 2 ^ lu a b % 2≠b / 2 ^ lu a b % 2:=by
 obtain ⟨h1,h2⟩:=zpz _ a b (yaa _) h
 intro e
 apply h2
 rw [zfw,zfw,h1,e]
theorem zq2 {a b c : Nat} (h2 : b≠c) : fig a b≠fig b c:=by
 intro e
 have e1 : lu a b = lu b c:=by rw [← zhG,e,zhG]
 have e2 : b / 2 ^ lu a b % 2 = c / 2 ^ lu b c % 2:=by rw [← zjb,e,zjb]
 rw [e1] at e2
 exact zoH h2 e2
theorem zpP {a b : Nat} (h : a≠b) : a % 2≠fig a b:=by
 intro e
 have l : a % 2 < 2:=Nat.mod_lt _ (by decide)
 have e1 : lu a b = 0:=by
  have:=zhG a b
  omega
 have e2:=zjb a b
 have e3:=zoH h
 rw [e1] at e2 e3
 simp at e2 e3
 omega
theorem zq3 {a b k : Nat} (h : a≠b) (ha : a < 2 ^ k) (hb : b < 2 ^ k) : fig a b < 2 * k:=by
 have:=zro k a b h ha hb
 have:=Nat.mod_lt (b / 2 ^ lu a b) (by decide : 0 < 2)
 unfold fig
 omega
def zcF (xs : List Nat) (i : Nat) : Nat:=if i = 0 then xs.getD 0 0 % 2 else fig (xs.getD (i - 1) 0) (xs.getD i 0)
def zcf (xs : List Nat) : List Nat:=(List.range xs.length).map (zcF xs)
theorem za3 (xs : List Nat) : (zcf xs).length = xs.length:=by unfold zcf; rw [yab,ya1]
theorem zhX {xs : List Nat} {i : Nat} (h : i < xs.length) : (zcf xs)[i]? = some (zcF xs i):=by
 unfold zcf
 rw [yaj,ybs h]
 rfl
theorem ze9 {xs : List Nat} {i : Nat} (h : i < xs.length) : (zcf xs).getD i 0 = zcF xs i:=by
 rw [yad,zhX h]; rfl
theorem zgy {xs : List Nat} {i : Nat} (h : i < xs.length) : (zcf xs).take (i + 1) = (zcf xs).take i ++ [zcF xs i]:=by
 have h' : i < (zcf xs).length:=by rw [za3]; exact h
 rw [yaF h']
 have:=zhX h
 rw [yac h'] at this
 rw [yae this]
def Unl (xs : List Nat) : Prop:=∀ i,i + 1 < xs.length→xs.getD i 0≠xs.getD (i + 1) 0
theorem zlo {xs : List Nat} (h : Unl xs) : Unl (zcf xs):=by
 intro i hi
 rw [za3] at hi
 rw [ze9 (by omega),ze9 hi]
 unfold zcF
 rw [if_neg (by omega : ¬ i + 1 = 0),ybO]
 by_cases h0 : i = 0
 ·subst h0
  rw [if_pos rfl]
  exact zpP (h 0 hi)
 ·rw [if_neg h0]
  exact zq2 (h i hi)
def zde (m : Nat) (xs : List Nat) : Prop:=∀ i,i < xs.length→xs.getD i 0 < m
theorem zce {xs : List Nat} {k : Nat} (hk : 1≤k) (h : Unl xs) (hb : zde (2 ^ k) xs) : zde (2 * k) (zcf xs):=by
 intro i hi
 rw [za3] at hi
 rw [ze9 hi]
 unfold zcF
 split
 ·have : xs.getD 0 0 % 2 < 2:=Nat.mod_lt _ (by decide)
  omega
 ·have:=h (i - 1) (by omega)
  rw [show i - 1 + 1 = i by omega] at this
  exact zq3 this (hb _ (by omega)) (hb _ hi)
theorem zoS (a b : Nat) : Builtin.bitXor (a : Int) (b : Int) = ((xr a b : Nat) : Int):=by
 have h1 : Builtin.bitAnd (a : Int) (b : Int) = ((a &&& b : Nat) : Int):=by
  unfold Builtin.bitAnd
  rw [yam (ybv a),yam (ybv b)]
  rfl
 have n1 : ¬ (0 : Int)≤Builtin.bitNot (a : Int):=by unfold Builtin.bitNot; omega
 have n2 : ¬ (0 : Int)≤Builtin.bitNot (b : Int):=by unfold Builtin.bitNot; omega
 have h2 : Builtin.bitOr (a : Int) (b : Int) = ((a ||| b : Nat) : Int):=by
  unfold Builtin.bitOr Builtin.bitAnd
  rw [yas n1,yas n2]
  have e : ∀ x : Int,Builtin.bitNot (Builtin.bitNot x) = x:=fun x=>by unfold Builtin.bitNot; omega
  show Builtin.bitNot (Builtin.bitNot _) = _
  rw [e,e,e]
  rfl
 unfold Builtin.bitXor xr
 rw [h1,h2]
 have:=ziK a b
 omega
theorem zpZ (n : Nat) (h : 0 < n) : Builtin.bitAnd (n : Int) (-(n : Int)) = ((zfz n : Nat) : Int):=by
 have n2 : ¬ (0 : Int)≤-(n : Int):=by omega
 have e : (Builtin.bitNot (-(n : Int))).toNat = n - 1:=by unfold Builtin.bitNot; omega
 unfold Builtin.bitAnd zfz
 rw [yam (ybv n),yas n2]
 show (n : Int) - (((n : Int).toNat &&& (Builtin.bitNot (-(n : Int))).toNat : Nat) : Int) = _
 rw [e,yba]
 have : n &&& (n - 1)≤n:=Nat.and_le_left
 omega
theorem zqN (a b : Nat) (h : a≠b) : ((Builtin.Int.intBits (Builtin.bitAnd (Builtin.bitXor (a : Int) (b : Int)) (-(Builtin.bitXor (a : Int) (b : Int)))) : Nat) : Int) - 1 = ((lu a b : Nat) : Int):=by
 rw [zoS,zpZ _ (zok _ a b (yaa _) h),zqM _ a b (yaa _) h]
 unfold Builtin.Int.intBits
 have p : 0 < 2 ^ lu a b:=Nat.two_pow_pos _
 rw [if_neg (by
  intro z
  have z':=eq_of_beq z
  omega),Int.natAbs_natCast,Nat.log2_two_pow]
 omega
def atZ {α : Type} (l : List α) (i : Int) : Option α:=if 0≤i then l[i.toNat]? else none
theorem zc9 {α : Type} (l : List α) (i : Nat) : atZ l (i : Int) = l[i]?:=by
 unfold atZ
 rw [if_pos (ybv i),yba]
theorem zhL {α : Type} {l : List α} {i : Int} (h : i < 0) : atZ l i = none:=by
 unfold atZ
 rw [if_neg (by omega)]
theorem zhK {α : Type} {l : List α} {i : Int} {x : α} (h : atZ l i = some x) : 0≤i∧i < l.length:=by
 unfold atZ at h
 split at h
 ·have:=(yag.mp h).1
  omega
 ·cases h
theorem zoQ {α : Type} {l : List α} {i : Int} (h0 : 0≤i) (h : i < l.length) : ∃ x,atZ l i = some x:=by
 unfold atZ
 rw [if_pos h0]
 exact ⟨_,yac (by omega)⟩
def zkX {α β : Type} (f : Option α→α→Option α→β) : Option α→List α→List β
 | _,[]=>[]
 | p,x :: l=>f p x l.head? :: zkX f (some x) l
def mapW {α β : Type} (f : Option α→α→Option α→β) (l : List α) : List β:=zkX f none l
theorem zds {α β : Type} (f : Option α→α→Option α→β) : ∀ (l : List α) (p : Option α) (k : Nat),(zkX f p l)[k]? = l[k]?.map fun x=>f (if k = 0 then p else l[k - 1]?) x l[k + 1]?
 | [],_,_=>rfl
 | x :: l,p,0=>by
  show some (f p x l.head?) = some (f p x l[0]?)
  rw [List.head?_eq_getElem?]
 | x :: l,p,k + 1=>by
  show (zkX f (some x) l)[k]? = l[k]?.map fun y=>f (x :: l)[k]? y l[k + 1]?
  rw [zds f l (some x) k]
  cases k with
  | zero=>rfl
  | succ k=>rfl
theorem zfy {α β : Type} (f : Option α→α→Option α→β) : ∀ (l : List α) (p : Option α),(zkX f p l).length = l.length
 | [],_=>rfl
 | x :: l,p=>by
  show (zkX f (some x) l).length + 1 = l.length + 1
  rw [zfy f l]
theorem zck {α β : Type} (f : Option α→α→Option α→β) (l : List α) : (mapW f l).length = l.length:=zfy f l none
theorem zhA {α β : Type} (f : Option α→α→Option α→β) (l : List α) (i : Int) : atZ (mapW f l) i = (atZ l i).map fun x=>f (atZ l (i - 1)) x (atZ l (i + 1)):=by
 by_cases h : 0≤i
 ·obtain ⟨k,rfl⟩ : ∃ k : Nat,i = (k : Int):=⟨i.toNat,by omega⟩
  rw [zc9,zc9,mapW,zds,show ((k : Int) + 1) = ((k + 1 : Nat) : Int) by omega,zc9]
  have e : atZ l ((k : Int) - 1) = if k = 0 then none else l[k - 1]?:=by
   split
   ·rw [zhL (by omega)]
   ·rw [show ((k : Int) - 1) = ((k - 1 : Nat) : Int) by omega,zc9]
  rw [e]
 ·rw [zhL (l:=mapW f l) (by omega),zhL (l:=l) (i:=i) (by omega)]
  rfl
def UnlZ (xs : List Nat) : Prop:=∀ (i : Int) (x y : Nat),atZ xs i = some x→atZ xs (i + 1) = some y→x≠y
theorem unlZ {xs : List Nat} (h : Unl xs) : UnlZ xs:=by
 intro i x y hx hy
 obtain ⟨a,b⟩:=zhK hx
 obtain ⟨_,c⟩:=zhK hy
 obtain ⟨k,rfl⟩ : ∃ k : Nat,i = (k : Int):=⟨i.toNat,by omega⟩
 rw [zc9] at hx
 rw [show ((k : Int) + 1) = ((k + 1 : Nat) : Int) by omega,zc9] at hy
 have:=h k (by omega)
 rw [yad,yad,hx,hy] at this
 exact this
theorem zll {xs : List Nat} (h : UnlZ xs) : Unl xs:=by
 intro k hk
 have:=h k xs[k] xs[k + 1] (by rw [zc9]; exact yac (by omega)) (by rw [show ((k : Int) + 1) = ((k + 1 : Nat) : Int) by omega,zc9]; exact yac hk)
 rw [yad,yad,yac (show k < xs.length by omega),yac hk]
 exact this
def zfD (p n : Option Nat) : Nat:=if p≠some 0∧n≠some 0 then 0 else if p≠some 1∧n≠some 1 then 1 else 2
theorem zkn (p n : Option Nat) : zfD p n≤2:=by
 unfold zfD
 split
 ·omega
 ·split <;> omega
theorem zfk {p n : Option Nat} {x : Nat} (h : p = some x) : zfD p n≠x:=by
 subst h
 unfold zfD
 split
 ·rename_i c
  intro z
  exact c.1 (by rw [← z])
 ·split
  ·rename_i c
   intro z
   exact c.1 (by rw [← z])
  ·rename_i c d
   intro z
   subst z
   have c1 : n = some 0:=Decidable.byContradiction fun q=>c ⟨by decide,q⟩
   have d1 : n = some 1:=Decidable.byContradiction fun q=>d ⟨by decide,q⟩
   rw [c1] at d1
   cases d1
theorem zk3 (p n : Option Nat) : zfD p n = zfD n p:=by
 unfold zfD
 simp only [And.comm]
theorem zgR {p n : Option Nat} {x : Nat} (h : n = some x) : zfD p n≠x:=by
 rw [zk3]
 exact zfk h
def recF (v : Nat) (p : Option Nat) (x : Nat) (n : Option Nat) : Nat:=if x = v then zfD p n else x
def recL (v : Nat) (xs : List Nat) : List Nat:=mapW (recF v) xs
theorem za6 (v : Nat) (xs : List Nat) : (recL v xs).length = xs.length:=zck _ _
theorem zfP {v : Nat} {xs : List Nat} (h : UnlZ xs) : UnlZ (recL v xs):=by
 intro i x y hx hy
 unfold recL at hx hy
 rw [zhA] at hx hy
 cases ex : atZ xs i with
 | none=>rw [ex] at hx; cases hx
 | some x0=>
  cases ey : atZ xs (i + 1) with
  | none=>rw [ey] at hy; cases hy
  | some y0=>
   rw [ex] at hx
   rw [ey] at hy
   have hx : x = recF v (atZ xs (i - 1)) x0 (atZ xs (i + 1)):=(yae hx).symm
   have hy : y = recF v (atZ xs (i + 1 - 1)) y0 (atZ xs (i + 1 + 1)):=(yae hy).symm
   have n0:=h i x0 y0 ex ey
   have e1 : i + 1 - 1 = i:=by omega
   unfold recF at hx hy
   rw [e1,ex] at hy
   rw [ey] at hx
   split at hx
   ·rename_i c
    split at hy
    ·rename_i c'
     omega
    ·rw [hx,hy]
     exact zgR rfl
   ·split at hy
    ·rw [hx,hy]
     exact (zfk rfl).symm
    ·omega
theorem zhi {v : Nat} {P : Nat→Prop} {xs : List Nat} (hP : ∀ x,x≤2→P x) (h : ∀ i x,atZ xs i = some x→x = v∨P x) : ∀ i x,atZ (recL v xs) i = some x→P x:=by
 intro i x hx
 unfold recL at hx
 rw [zhA] at hx
 cases ex : atZ xs i with
 | none=>rw [ex] at hx; cases hx
 | some x0=>
  rw [ex] at hx
  have hx : x = recF v (atZ xs (i - 1)) x0 (atZ xs (i + 1)):=(yae hx).symm
  unfold recF at hx
  split at hx
  ·rw [hx]
   exact hP _ (zkn _ _)
  ·rw [hx]
   rcases h i x0 ex with q | q
   ·exact absurd q (by assumption)
   ·exact q
def colL (xs : List Nat) : List Nat:=recL 5 (recL 4 (recL 3 xs))
theorem zei (xs : List Nat) : (colL xs).length = xs.length:=by
 unfold colL
 rw [za6,za6,za6]
theorem zhI {xs : List Nat} (h : UnlZ xs) : UnlZ (colL xs):=zfP (zfP (zfP h))
theorem zpV {xs : List Nat} (h : ∀ i x,atZ xs i = some x→x≤5) : ∀ i x,atZ (colL xs) i = some x→x≤2:=by
 refine zhi (P:=fun x=>x≤2) (fun x h=>h) ?_
 refine zhi (P:=fun x=>x = 5∨x≤2) (fun x h=>.inr h) ?_
 refine zhi (P:=fun x=>x = 4∨x = 5∨x≤2) (fun x h=>.inr (.inr h)) ?_
 intro i x e
 have:=h i x e
 omega
def zpy (sh : Nat) (p : Option (Nat×Bool)) (x : Nat×Bool) (n : Option (Nat×Bool)) : Nat×Bool:=
 (x.1,x.2 || (decide (x.1 = sh) && p.isSome && !(p.map (·.2)).getD false && !(n.map (·.2)).getD false))
def zcK (sh : Nat) (l : List (Nat×Bool)) : List (Nat×Bool):=mapW (zpy sh) l
def zcP (c : List Nat) : List (Nat×Bool):=c.map fun x=>(x,false)
def marked (c : List Nat) : List (Nat×Bool):=zcK 0 (zcK 1 (zcK 2 (zcP c)))
def zeT (c : List Nat) : List Bool:=(marked c).map (·.2)
theorem zhx (c : List Nat) : (marked c).length = c.length:=by
 unfold marked zcK zcP
 rw [zck,zck,zck,yab]
theorem zeS (c : List Nat) : (zeT c).length = c.length:=by
 unfold zeT
 rw [yab,zhx]
theorem zjz (c : List Nat) (i : Int) : atZ (zcP c) i = (atZ c i).map fun x=>(x,false):=by
 unfold zcP atZ
 split
 ·rw [yaj]
 ·rfl
def mkZ (l : List (Nat×Bool)) (i : Int) : Bool:=((atZ l i).map (·.2)).getD false
def clZ (l : List (Nat×Bool)) (i : Int) : Option Nat:=(atZ l i).map (·.1)
theorem zpx (sh : Nat) (l : List (Nat×Bool)) (i : Int) : clZ (zcK sh l) i = clZ l i:=by
 unfold clZ zcK
 rw [zhA]
 cases atZ l i <;> rfl
theorem zhy (sh : Nat) (l : List (Nat×Bool)) (i : Int) : mkZ (zcK sh l) i = (mkZ l i || (decide (clZ l i = some sh) && (clZ l (i - 1)).isSome && !mkZ l (i - 1) && !mkZ l (i + 1))):=by
 unfold mkZ clZ zcK
 rw [zhA]
 cases atZ l i with
 | none=>simp
 | some x=>
  unfold zpy
  cases atZ l (i - 1) <;> cases atZ l (i + 1) <;> simp
structure MkOk (c : List Nat) (l : List (Nat×Bool)) : Prop where
 cl : ∀ i,clZ l i = atZ c i
 ind : ∀ i,mkZ l i = true→mkZ l (i + 1) = true→False
 fst : ∀ i,mkZ l i = true→(atZ c (i - 1)).isSome = true∧(atZ c i).isSome = true
theorem zfE (c : List Nat) : MkOk c (zcP c):=by
 have e : ∀ i,mkZ (zcP c) i = false:=fun i=>by
  unfold mkZ
  rw [zjz]
  cases atZ c i <;> rfl
 refine ⟨fun i=>?_,fun i h=>?_,fun i h=>?_⟩
 ·unfold clZ
  rw [zjz]
  cases atZ c i <;> rfl
 ·rw [e] at h
  cases h
 ·rw [e] at h
  cases h
theorem zfh {c : List Nat} {l : List (Nat×Bool)} {sh : Nat} (hu : UnlZ c) (h : MkOk c l) : MkOk c (zcK sh l):=by
 refine ⟨fun i=>by rw [zpx,h.cl],fun i h1 h2=>?_,fun i h1=>?_⟩
 ·rw [zhy] at h1 h2
  simp only [yb2,ybf,decide_eq_true_eq,ybp] at h1 h2
  rw [show i + 1 - 1 = i by omega] at h2
  rcases h1 with h1 | h1 <;> rcases h2 with h2 | h2
  ·exact h.ind i h1 h2
  ·rw [h1] at h2
   exact absurd h2.1.2 (by decide)
  ·rw [h2] at h1
   exact absurd h1.2 (by decide)
  ·have a:=h1.1.1.1
   have b:=h2.1.1.1
   rw [h.cl] at a b
   exact hu i sh sh a b rfl
 ·rw [zhy] at h1
  simp only [yb2,ybf,decide_eq_true_eq,ybp] at h1
  rcases h1 with h1 | h1
  ·exact h.fst i h1
  ·refine ⟨?_,?_⟩
   ·rw [← h.cl]
    exact h1.1.1.2
   ·rw [← h.cl,h1.1.1.1]
    rfl
theorem zbg {sh : Nat} {l : List (Nat×Bool)} {i : Int} (h : mkZ l i = true) : mkZ (zcK sh l) i = true:=by
 rw [zhy,h]
 rfl
theorem zhz {c : List Nat} {l : List (Nat×Bool)} {sh : Nat} {i : Int} (h : MkOk c l) (hc : atZ c i = some sh) (hp : (atZ c (i - 1)).isSome = true) : mkZ (zcK sh l) (i - 1) = true∨mkZ (zcK sh l) i = true∨mkZ (zcK sh l) (i + 1) = true:=by
 by_cases a : mkZ l (i - 1) = true
 ·exact .inl (zbg a)
 ·by_cases b : mkZ l (i + 1) = true
  ·exact .inr (.inr (zbg b))
  ·refine .inr (.inl ?_)
   rw [zhy,h.cl,h.cl,hc,hp,ybP.mpr a,ybP.mpr b]
   simp
theorem zik {c : List Nat} (hu : UnlZ c) : MkOk c (marked c):=zfh hu (zfh hu (zfh hu (zfE c)))
theorem zkW {c : List Nat} (hu : UnlZ c) (hc : ∀ i x,atZ c i = some x→x≤2) {i : Int} (h1 : (atZ c (i - 1)).isSome = true) (h2 : (atZ c i).isSome = true) : mkZ (marked c) (i - 1) = true∨mkZ (marked c) i = true∨mkZ (marked c) (i + 1) = true:=by
 obtain ⟨x,hx⟩:=Option.isSome_iff_exists.mp h2
 have hle:=hc i x hx
 have z : x = 2∨x = 1∨x = 0:=by omega
 rcases z with rfl | rfl | rfl
 ·rcases zhz (zfE c) hx h1 with q | q | q
  ·exact .inl (zbg (zbg q))
  ·exact .inr (.inl (zbg (zbg q)))
  ·exact .inr (.inr (zbg (zbg q)))
 ·rcases zhz (zfh (sh:=2) hu (zfE c)) hx h1 with q | q | q
  ·exact .inl (zbg q)
  ·exact .inr (.inl (zbg q))
  ·exact .inr (.inr (zbg q))
 ·exact zhz (zfh (sh:=1) hu (zfh (sh:=2) hu (zfE c))) hx h1
structure zdA (ms : List Bool) : Prop where
 fst : ms.getD 0 false = false
 ind : ∀ i,ms.getD i false = true→ms.getD (i + 1) false = true→False
 dom : ∀ i,1≤i→i < ms.length→ms.getD (i - 1) false = true∨ms.getD i false = true∨ms.getD (i + 1) false = true
theorem zcj (c : List Nat) (i : Nat) : (zeT c).getD i false = mkZ (marked c) (i : Int):=by
 unfold mkZ zeT
 rw [zc9,yad,yaj]
theorem zmm {c : List Nat} (hu : UnlZ c) (hc : ∀ i x,atZ c i = some x→x≤2) : zdA (zeT c):=by
 refine ⟨?_,fun i h1 h2=>?_,fun i h1 h2=>?_⟩
 ·rw [zcj]
  cases e : mkZ (marked c) ((0 : Nat) : Int) with
  | false=>rfl
  | true=>
   have:=((zik hu).fst _ e).1
   rw [zhL (by omega)] at this
   cases this
 ·rw [zcj] at h1 h2
  exact (zik hu).ind i h1 h2
 ·rw [zeS] at h2
  have a : (atZ c ((i : Int) - 1)).isSome = true:=by
   obtain ⟨x,hx⟩:=zoQ (l:=c) (i:=(i : Int) - 1) (by omega) (by omega)
   rw [hx]
   rfl
  have b : (atZ c (i : Int)).isSome = true:=by
   obtain ⟨x,hx⟩:=zoQ (l:=c) (i:=(i : Int)) (by omega) (by omega)
   rw [hx]
   rfl
  rcases zkW hu hc a b with q | q | q
  ·refine .inl ?_
   rw [zcj,show ((i - 1 : Nat) : Int) = (i : Int) - 1 by omega]
   exact q
  ·refine .inr (.inl ?_)
   rw [zcj]
   exact q
  ·refine .inr (.inr ?_)
   rw [zcj]
   exact q
theorem zi8 {p n : Option Nat} {y : Nat} (h : y < zfD p n) : p = some y∨n = some y:=by
 unfold zfD at h
 split at h
 ·omega
 ·rename_i c
  have c0 : p = some 0∨n = some 0:=Decidable.byContradiction fun q=>c ⟨fun z=>q (.inl z),fun z=>q (.inr z)⟩
  split at h
  ·have : y = 0:=by omega
   subst this
   exact c0
  ·rename_i d
   have d0 : p = some 1∨n = some 1:=Decidable.byContradiction fun q=>d ⟨fun z=>q (.inl z),fun z=>q (.inr z)⟩
   have : y = 0∨y = 1:=by omega
   rcases this with rfl | rfl
   ·exact c0
   ·exact d0
def zaE (xs : List Nat) (k : Nat) : List Nat:=(if k = 0 then none else xs[k - 1]?).toList ++ xs[k + 1]?.toList
theorem zgk {xs : List Nat} {k y : Nat} : y∈zaE xs k↔(if k = 0 then none else xs[k - 1]?) = some y∨xs[k + 1]? = some y:=by
 unfold zaE
 rw [yan,Option.mem_toList,Option.mem_toList]
def zcl (xs : List Nat) (k : Nat) : Nat:=zfD (if k = 0 then none else xs[k - 1]?) xs[k + 1]?
theorem zgQ {xs : List Nat} {k : Nat} : zcl xs k∉zaE xs k:=fun h=>by
 rcases zgk.mp h with q | q
 ·exact zfk q rfl
 ·exact zgR q rfl
theorem zfB {xs : List Nat} {k y : Nat} (h : y < zcl xs k) : y∈zaE xs k:=zgk.mpr (zi8 h)
theorem ziv (xs : List Nat) (k : Nat) : zcl xs k≤2:=zkn _ _
theorem ziw {xs : List Nat} {k : Nat} : ((List.range 3).filter fun c=>!decide (c∈zaE xs k)).head? = some (zcl xs k):=by
 have h1:=zgQ (xs:=xs) (k:=k)
 have h2:=fun y=>zfB (xs:=xs) (k:=k) (y:=y)
 have h3:=ziv xs k
 rw [show List.range 3 = [0,1,2] from rfl]
 generalize zcl xs k = f at h1 h2 h3 ⊢
 have z : f = 0∨f = 1∨f = 2:=by omega
 rcases z with rfl | rfl | rfl
 ·simp [List.filter,h1]
 ·simp [List.filter,h1,h2 0 (by omega)]
 ·simp [List.filter,h1,h2 0 (by omega),h2 1 (by omega)]
theorem zhh {v : Nat} {xs : List Nat} {k : Nat} (h : k < xs.length) : (recL v xs)[k]? = some (if xs.getD k 0 = v then zcl xs k else xs.getD k 0):=by
 unfold recL mapW
 rw [zds,yad,yac h]
 rfl
def mixL (v : Nat) (xs : List Nat) (k : Nat) : List Nat:=(recL v xs).take k ++ xs.drop k
theorem zj5 {v : Nat} {xs : List Nat} {k : Nat} (h : xs.length≤k) : mixL v xs k = recL v xs:=by
 unfold mixL
 rw [yaq (by rw [za6]; exact h),ya0 h,yaE]
theorem zed (v : Nat) (xs : List Nat) (k : Nat) : (mixL v xs k).length = xs.length:=by
 unfold mixL
 rw [yah,yak,yaT,za6]
 omega
theorem zdV (v : Nat) (xs : List Nat) (k j : Nat) : (mixL v xs k)[j]? = if j < k then (recL v xs)[j]? else xs[j]?:=by
 unfold mixL
 by_cases hk : k≤xs.length
 ·rw [List.getElem?_append,yak,za6,ybz hk]
  split
  ·rw [ybI]
   rw [if_pos (by assumption)]
  ·rw [ybZ]
   congr 1
   omega
 ·rw [ya0 (by omega),yaE,yaq (by rw [za6]; omega)]
  split
  ·rfl
  ·rw [yaW (by rw [za6]; omega),yaW (by omega)]
theorem zml {v : Nat} {xs : List Nat} {k j : Nat} (h : k≤j) : (mixL v xs k)[j]? = xs[j]?:=by
 rw [zdV,if_neg (by omega)]
theorem zih {v : Nat} {xs : List Nat} {k : Nat} (h : k < xs.length) (hv : xs.getD k 0≠v) : mixL v xs (k + 1) = mixL v xs k:=by
 apply ybi
 intro j
 rw [zdV,zdV]
 by_cases c : j < k
 ·rw [if_pos c,if_pos (by omega)]
 ·rw [if_neg c]
  split
  ·have : j = k:=by omega
   subst this
   rw [zhh h,if_neg hv,yad,yac h]
   rfl
  ·rfl
theorem zgI {v : Nat} {xs : List Nat} {k m : Nat} (hkm : k≤m) (hm : m≤xs.length) (hv : ∀ j,k≤j→j < m→xs.getD j 0≠v) : mixL v xs m = mixL v xs k:=by
 induction m with
 | zero=>
  have : k = 0:=by omega
  rw [this]
 | succ m ih=>
  by_cases c : k = m + 1
  ·rw [c]
  ·rw [zih (by omega) (hv m (by omega) (by omega)),ih (by omega) (by omega) (fun j a b=>hv j a (by omega))]
theorem zmk {v : Nat} {xs : List Nat} {k : Nat} (hu : Unl xs) (h : k < xs.length) (hv : xs.getD k 0 = v) : (if k = 0 then none else (mixL v xs k)[k - 1]?) = if k = 0 then none else xs[k - 1]?:=by
 cases k with
 | zero=>rfl
 | succ k=>
  show (mixL v xs (k + 1))[k]? = xs[k]?
  rw [zdV,if_pos (by omega),zhh (by omega)]
  have:=hu k h
  rw [hv] at this
  rw [if_neg this,yad,yac (show k < xs.length by omega)]
  rfl
theorem zf5 {v : Nat} {xs : List Nat} {k : Nat} (hu : Unl xs) (h : k < xs.length) (hv : xs.getD k 0 = v) : zaE (mixL v xs k) k = zaE xs k:=by
 unfold zaE
 rw [zmk hu h hv,zml (j:=k + 1) (by omega)]
theorem zj4 {v : Nat} {xs : List Nat} {k : Nat} (h : k < xs.length) (hv : xs.getD k 0 = v) : mixL v xs (k + 1) = (mixL v xs k).set k (zcl xs k):=by
 apply ybi
 intro j
 rw [yb5,zed,zdV,zdV]
 by_cases c : k = j
 ·subst c
  rw [if_pos rfl,if_pos h,if_pos (by omega),zhh h,if_pos hv]
 ·rw [if_neg c]
  by_cases c2 : j < k
  ·rw [if_pos c2,if_pos (by omega)]
  ·rw [if_neg c2,if_neg (by omega)]
def zbW (sh : Nat) (cs : List Nat) (ms : List Bool) : List Bool:=(zcK sh (cs.zip ms)).map (·.2)
theorem zaV {sh : Nat} {cs : List Nat} {ms : List Bool} (h : cs.length = ms.length) : (zbW sh cs ms).length = ms.length:=by
 unfold zbW zcK
 rw [yab,zck,ycl]
 omega
theorem ziN {cs : List Nat} : ∀ {ms : List Bool},cs.length = ms.length→(cs.zip ms).map (·.1) = cs:=by
 induction cs with
 | nil=>intro ms _; rfl
 | cons c cs ih=>
  intro ms h
  cases ms with
  | nil=>cases h
  | cons m ms=>
   show c :: (cs.zip ms).map (·.1) = c :: cs
   rw [ih (Nat.succ.inj h)]
theorem zjq : ∀ (l : List (Nat×Bool)),(l.map (·.1)).zip (l.map (·.2)) = l
 | []=>rfl
 | x :: l=>by
  show x :: (l.map (·.1)).zip (l.map (·.2)) = x :: l
  rw [zjq l]
theorem zmn (sh : Nat) (l : List (Nat×Bool)) : (zcK sh l).map (·.1) = l.map (·.1):=by
 apply ybi
 intro k
 unfold zcK mapW
 rw [yaj,yaj,zds]
 cases l[k]? <;> rfl
theorem zil {sh : Nat} {cs : List Nat} {ms : List Bool} (h : cs.length = ms.length) : zcK sh (cs.zip ms) = cs.zip (zbW sh cs ms):=by
 have e:=zjq (zcK sh (cs.zip ms))
 rw [zmn,ziN h] at e
 exact e.symm
theorem zlA (cs : List Nat) : zcP cs = cs.zip (cs.map fun _=>false):=by
 unfold zcP
 induction cs with
 | nil=>rfl
 | cons c cs ih=>
  show (c,false) :: cs.map (fun x=>(x,false)) = (c,false) :: cs.zip (cs.map fun _=>false)
  rw [ih]
theorem zij (cs : List Nat) : zeT cs = zbW 0 cs (zbW 1 cs (zbW 2 cs (cs.map fun _=>false))):=by
 have l1 : cs.length = (cs.map fun _=>false).length:=by rw [yab]
 have l2 : cs.length = (zbW 2 cs (cs.map fun _=>false)).length:=by rw [zaV l1,← l1]
 unfold zeT marked
 rw [zlA,zil l1,zil l2]
 rfl
theorem zb9 {sh : Nat} {cs : List Nat} {ms : List Bool} (hl : cs.length = ms.length) {k : Nat} (h : k < cs.length) : (zbW sh cs ms)[k]? = some (ms.getD k false || (decide (cs.getD k 0 = sh) && decide (1≤k) && !ms.getD (k - 1) false && !ms.getD (k + 1) false)):=by
 unfold zbW zcK mapW
 have gz : ∀ j,(cs.zip ms)[j]? = if h : j < cs.length then some (cs[j],ms[j]'(by omega)) else none:=fun j=>by
  split
  ·rename_i q
   rw [yac (by rw [ycl]; omega),List.getElem_zip]
  ·exact yaW (by rw [ycl]; omega)
 have gm : ∀ j,ms.getD j false = (((cs.zip ms)[j]?).map (·.2)).getD false:=fun j=>by
  rw [gz]
  split
  ·rw [yad,yac (by omega)]
   rfl
  ·rw [yad,yaW (by omega)]
   rfl
 rw [yaj,zds,gm k,gm (k + 1),gm (k - 1),yad,yac h]
 have e:=gz k
 rw [dif_pos h] at e
 rw [e]
 show some _ = some _
 unfold zpy
 cases k with
 | zero=>simp
 | succ k=>
  have e2:=gz k
  rw [dif_pos (by omega)] at e2
  simp [e2]
def mixM (sh : Nat) (cs : List Nat) (ms : List Bool) (k : Nat) : List Bool:=(zbW sh cs ms).take k ++ ms.drop k
theorem zj3 {sh : Nat} {cs : List Nat} {ms : List Bool} (hl : cs.length = ms.length) {k : Nat} (h : cs.length≤k) : mixM sh cs ms k = zbW sh cs ms:=by
 unfold mixM
 rw [yaq (by rw [zaV hl]; omega),ya0 (by omega),yaE]
theorem zc0 {sh : Nat} {cs : List Nat} {ms : List Bool} (hl : cs.length = ms.length) (k : Nat) : (mixM sh cs ms k).length = cs.length:=by
 unfold mixM
 rw [yah,yak,yaT,zaV hl]
 omega
theorem zbw {sh : Nat} {cs : List Nat} {ms : List Bool} (hl : cs.length = ms.length) (k j : Nat) : (mixM sh cs ms k)[j]? = if j < k then (zbW sh cs ms)[j]? else ms[j]?:=by
 unfold mixM
 by_cases hk : k≤ms.length
 ·rw [List.getElem?_append,yak,zaV hl,ybz hk]
  split
  ·rw [ybI]
   rw [if_pos (by assumption)]
  ·rw [ybZ]
   congr 1
   omega
 ·rw [ya0 (by omega),yaE,yaq (by rw [zaV hl]; omega)]
  split
  ·rfl
  ·rw [yaW (by rw [zaV hl]; omega),yaW (by omega)]
def zdx (ms : List Bool) (k : Nat) : Bool:=!ms.getD (k - 1) false && !ms.getD k false && !ms.getD (k + 1) false
theorem zkT {sh : Nat} {cs : List Nat} {ms : List Bool} (hu : Unl cs) (hl : cs.length = ms.length) {k : Nat} (h : k < cs.length) (h1 : 1≤k) (hs : cs.getD k 0 = sh) : zdx (mixM sh cs ms k) k = zdx ms k:=by
 unfold zdx
 have e : ∀ j,k≤j→(mixM sh cs ms k).getD j false = ms.getD j false:=fun j hj=>by
  rw [yad,yad,zbw hl,if_neg (by omega)]
 rw [e k (by omega),e (k + 1) (by omega)]
 have e2 : (mixM sh cs ms k).getD (k - 1) false = ms.getD (k - 1) false:=by
  rw [yad,zbw hl,if_pos (by omega),zb9 hl (by omega)]
  have:=hu (k - 1) (by omega)
  rw [show k - 1 + 1 = k by omega,hs] at this
  rw [yas this]
  simp
 rw [e2]
theorem zf4 {sh : Nat} {cs : List Nat} {ms : List Bool} (hl : cs.length = ms.length) {k : Nat} (h : k < cs.length) (hn : ¬ (1≤k∧cs.getD k 0 = sh∧zdx ms k = true)) : mixM sh cs ms (k + 1) = mixM sh cs ms k:=by
 apply ybi
 intro j
 rw [zbw hl,zbw hl]
 by_cases c : j < k
 ·rw [if_pos c,if_pos (by omega)]
 ·rw [if_neg c]
  split
  ·have : j = k:=by omega
   subst this
   rw [zb9 hl h]
   unfold zdx at hn
   rw [yac (by omega)]
   have e : ms.getD j false = ms[j]'(by omega):=by
    rw [yad,yac (by omega)]
    rfl
   rw [e] at hn ⊢
   congr 1
   generalize ms[j] = a at hn ⊢
   generalize ms.getD (j - 1) false = b at hn ⊢
   generalize ms.getD (j + 1) false = d at hn ⊢
   cases a <;> cases b <;> cases d <;> simp at hn ⊢
   intro q
   omega
  ·rfl
theorem znW {sh : Nat} {cs : List Nat} {ms : List Bool} (hl : cs.length = ms.length) {k : Nat} (h : k < cs.length) (hp : 1≤k∧cs.getD k 0 = sh∧zdx ms k = true) : mixM sh cs ms (k + 1) = (mixM sh cs ms k).set k true:=by
 apply ybi
 intro j
 rw [yb5,zc0 hl,zbw hl,zbw hl]
 by_cases c : k = j
 ·subst c
  rw [if_pos rfl,if_pos h,if_pos (by omega),zb9 hl h]
  obtain ⟨p1,p2,p3⟩:=hp
  unfold zdx at p3
  simp only [ybf,ybp] at p3
  rw [p2,p3.1.1,p3.1.2,p3.2,yam p1]
  simp
 ·rw [if_neg c]
  by_cases c2 : j < k
  ·rw [if_pos c2,if_pos (by omega)]
  ·rw [if_neg c2,if_neg (by omega)]
structure zdz (ms : List Bool) (sp : List Nat) : Prop where
 up : sp.Pairwise (· < ·)
 iff : ∀ j,j∈sp↔ms.getD j false = true
theorem zno (ms : List Bool) : zdz ms ((List.range ms.length).filter fun k=>ms.getD k false):=by
 refine ⟨List.Pairwise.filter _ ycm,fun j=>?_⟩
 rw [ya3,ya9]
 constructor
 ·exact fun h=>h.2
 ·intro h
  refine ⟨?_,h⟩
  rw [yad] at h
  cases e : ms[j]? with
  | none=>rw [e] at h; cases h
  | some x=>exact (yag.mp e).1
theorem zdz.lt {ms : List Bool} {sp : List Nat} (S : zdz ms sp) {j : Nat} (h : j∈sp) : j < ms.length:=by
 have h:=(S.iff j).mp h
 rw [yad] at h
 cases e : ms[j]? with
 | none=>rw [e] at h; cases h
 | some x=>exact (yag.mp e).1
theorem zdz.step {ms : List Bool} {sp : List Nat} (S : zdz ms sp) (M : zdA ms) {t : Nat} (h : t + 1 < sp.length) : sp[t] + 2≤sp[t + 1]∧sp[t + 1]≤sp[t] + 3:=by
 have up:=yaO.mp S.up
 have lt:=up t (t + 1) (by omega) h (by omega)
 have m0:=(S.iff _).mp (yaB (show t < sp.length by omega))
 have m1:=(S.iff _).mp (yaB h)
 have l1:=S.lt (yaB h)
 have no : ∀ j,sp[t] < j→j < sp[t + 1]→ms.getD j false = false:=fun j a b=>by
  cases e : ms.getD j false with
  | false=>rfl
  | true=>
   obtain ⟨u,hu,q⟩:=yaV ((S.iff j).mpr e)
   have c1 : ¬ u≤t:=fun z=>by
    by_cases z' : u = t
    ·subst z'; omega
    ·have:=up u t hu (by omega) (by omega)
     omega
   have c2 : ¬ t + 1≤u:=fun z=>by
    by_cases z' : u = t + 1
    ·subst z'; omega
    ·have:=up (t + 1) u h hu (by omega)
     omega
   omega
 refine ⟨?_,?_⟩
 ·by_cases c : sp[t + 1] = sp[t] + 1
  ·rw [c] at m1
   exact (M.ind _ m0 m1).elim
  ·omega
 ·refine yby fun c=>?_
  rcases M.dom (sp[t] + 2) (by omega) (by omega) with q | q | q
  ·rw [no (sp[t] + 2 - 1) (by omega) (by omega)] at q
   cases q
  ·rw [no (sp[t] + 2) (by omega) (by omega)] at q
   cases q
  ·rw [no (sp[t] + 2 + 1) (by omega) (by omega)] at q
   cases q
theorem zdz.first {ms : List Bool} {sp : List Nat} (S : zdz ms sp) (M : zdA ms) (h : 2≤ms.length) : ∃ hp : 0 < sp.length,1≤sp[0]∧sp[0]≤2:=by
 have ex : ∃ j,j≤2∧ms.getD j false = true:=by
  rcases M.dom 1 (by omega) (by omega) with q | q | q
  ·exact ⟨0,by omega,q⟩
  ·exact ⟨1,by omega,q⟩
  ·exact ⟨2,by omega,q⟩
 obtain ⟨j,hj,e⟩:=ex
 obtain ⟨u,hu,q⟩:=yaV ((S.iff j).mpr e)
 refine ⟨by omega,?_,?_⟩
 ·have m0:=(S.iff _).mp (yaB (show 0 < sp.length by omega))
  refine ycA fun z=>?_
  rw [z,M.fst] at m0
  cases m0
 ·by_cases c : u = 0
  ·subst c; omega
  ·have:=yaO.mp S.up 0 u (by omega) hu (by omega)
   omega
theorem zdz.last {ms : List Bool} {sp : List Nat} (S : zdz ms sp) (M : zdA ms) (h : 2≤ms.length) (hp : 0 < sp.length) : ms.length≤sp[sp.length - 1] + 2:=by
 have ex : ∃ j,ms.length - 2≤j∧ms.getD j false = true:=by
  rcases M.dom (ms.length - 1) (by omega) (by omega) with q | q | q
  ·exact ⟨_,by omega,q⟩
  ·exact ⟨_,by omega,q⟩
  ·exact ⟨_,by omega,q⟩
 obtain ⟨j,hj,e⟩:=ex
 obtain ⟨u,hu,q⟩:=yaV ((S.iff j).mpr e)
 by_cases c : u = sp.length - 1
 ·subst c; omega
 ·have:=yaO.mp S.up u (sp.length - 1) hu (by omega) (by omega)
  omega
theorem zdz.low {ms : List Bool} {sp : List Nat} (S : zdz ms sp) (M : zdA ms) : ∀ (t : Nat) (h : t < sp.length),2 * t + 1≤sp[t]
 | 0,h=>by
  have m0:=(S.iff _).mp (yaB h)
  refine ycA fun z=>?_
  rw [z,M.fst] at m0
  cases m0
 | t + 1,h=>by
  have a:=zdz.low S M t (by omega)
  have b:=(S.step M h).1
  omega
theorem zdz.half {ms : List Bool} {sp : List Nat} (S : zdz ms sp) (M : zdA ms) : 2 * sp.length≤ms.length:=by
 by_cases c : sp.length = 0
 ·omega
 ·have a:=S.low M (sp.length - 1) (by omega)
  have b:=S.lt (yaB (show sp.length - 1 < sp.length by omega))
  omega
theorem zdz.none {ms : List Bool} {sp : List Nat} (S : zdz ms sp) (M : zdA ms) (h : ms.length < 2) : sp = []:=by
 have:=S.half M
 exact yck (by omega)
def zb5 {α : Type} (es : List α) (ms : List Bool) : List α:=((es.zip ms).filter (·.2)).map (·.1)
structure Ats (P : Nat→Bool) (n : Nat) (l : List Nat) : Prop where
 up : l.Pairwise (· < ·)
 iff : ∀ j,j∈l↔j < n∧P j = true
theorem zq7 (P : Nat→Bool) (n : Nat) : Ats P n ((List.range n).filter P):=⟨List.Pairwise.filter _ ycm,fun j=>by rw [ya3,ya9]⟩
theorem Ats.get {P : Nat→Bool} {n : Nat} {l : List Nat} (A : Ats P n l) {j : Nat} (h : j < l.length) : l[j] < n∧P l[j] = true:=(A.iff _).mp (yaB h)
theorem Ats.first {P : Nat→Bool} {n : Nat} {l : List Nat} (A : Ats P n l) {i : Nat} (h : i < l.getD 0 n) (hn : i < n) : P i = false:=by
 cases e : P i with
 | false=>rfl
 | true=>
  obtain ⟨u,hu,q⟩:=yaV ((A.iff i).mpr ⟨hn,e⟩)
  have h0 : l.getD 0 n = l[0]'(by omega):=by
   rw [yad,yac (by omega)]
   rfl
  rw [h0] at h
  by_cases c : u = 0
  ·subst c; omega
  ·have:=yaO.mp A.up 0 u (by omega) hu (by omega)
   omega
theorem Ats.next {P : Nat→Bool} {n : Nat} {l : List Nat} (A : Ats P n l) {j : Nat} (hj : j < l.length) {i : Nat} (h1 : l[j] < i) (h : i < l.getD (j + 1) n) (hn : i < n) : P i = false:=by
 cases e : P i with
 | false=>rfl
 | true=>
  obtain ⟨u,hu,q⟩:=yaV ((A.iff i).mpr ⟨hn,e⟩)
  have up:=yaO.mp A.up
  have c1 : j < u:=by
   refine ycn fun z=>?_
   by_cases c : u = j
   ·subst c; omega
   ·have:=up u j hu hj (by omega)
    omega
  have h0 : l.getD (j + 1) n = l[j + 1]'(by omega):=by
   rw [yad,yac (by omega)]
   rfl
  rw [h0] at h
  by_cases c : u = j + 1
  ·subst c; omega
  ·have:=up (j + 1) u (by omega) hu (by omega)
   omega
theorem Ats.le {P : Nat→Bool} {n : Nat} {l : List Nat} (A : Ats P n l) (j : Nat) : l.getD j n≤n:=by
 rw [yad]
 by_cases h : j < l.length
 ·rw [yac h]
  exact ybm (A.get h).1
 ·rw [yaW (by omega)]
  exact yaa _
theorem Ats.step_le {P : Nat→Bool} {n : Nat} {l : List Nat} (A : Ats P n l) {j : Nat} (hj : j < l.length) : l[j] + 1≤l.getD (j + 1) n:=by
 rw [yad]
 by_cases h : j + 1 < l.length
 ·rw [yac h]
  exact yaO.mp A.up j (j + 1) hj h (by omega)
 ·rw [yaW (by omega)]
  exact (A.get hj).1
def atsL (v : Nat) (xs : List Nat) : List Nat:=(List.range xs.length).filter fun k=>decide (xs.getD k 0 = v)
theorem zgl (v : Nat) (xs : List Nat) : Ats (fun k=>decide (xs.getD k 0 = v)) xs.length (atsL v xs):=zq7 _ _
theorem zmi {v : Nat} {xs : List Nat} : mixL v xs ((atsL v xs).getD 0 xs.length) = xs:=by
 rw [zgI (k:=0) (yaD _) ((zgl v xs).le 0) (fun j _ h=>ybQ ((zgl v xs).first h (yau h ((zgl v xs).le 0))))]
 rfl
theorem znU {v : Nat} {xs : List Nat} {j : Nat} (hj : j < (atsL v xs).length) : mixL v xs ((atsL v xs).getD (j + 1) xs.length) = (mixL v xs (atsL v xs)[j]).set (atsL v xs)[j] (zcl xs (atsL v xs)[j]):=by
 have A:=zgl v xs
 have g:=A.get hj
 rw [zgI (k:=(atsL v xs)[j] + 1) (A.step_le hj) (A.le _) (fun i a b=>ybQ (A.next hj (by omega) b (yau b (A.le _)))),zj4 g.1 (yaC g.2)]
theorem znV {v : Nat} {xs : List Nat} : mixL v xs ((atsL v xs).getD (atsL v xs).length xs.length) = recL v xs:=by
 rw [yad,yaW (yaa _)]
 exact zj5 (yaa _)
def colN (xs : List Nat) : Nat→List Nat
 | 0=>xs
 | i + 1=>recL (3 + i) (colN xs i)
theorem zgf (xs : List Nat) (i : Nat) : (colN xs i).length = xs.length:=by
 induction i with
 | zero=>rfl
 | succ i ih=>rw [colN,za6,ih]
theorem zkr {xs : List Nat} (h : Unl xs) (i : Nat) : Unl (colN xs i):=by
 induction i with
 | zero=>exact h
 | succ i ih=>exact zll (zfP (unlZ ih))
def mkN (cs : List Nat) : Nat→List Bool
 | 0=>cs.map fun _=>false
 | i + 1=>zbW (2 - i) cs (mkN cs i)
theorem zig (cs : List Nat) : mkN cs 3 = zeT cs:=(zij cs).symm
theorem zgG (cs : List Nat) (i : Nat) : cs.length = (mkN cs i).length:=by
 induction i with
 | zero=>rw [mkN,yab]
 | succ i ih=>rw [mkN,zaV ih,ih]
theorem zj2 {sh : Nat} {cs : List Nat} {ms : List Bool} (hl : cs.length = ms.length) : mixM sh cs ms 1 = ms:=by
 by_cases h : 0 < cs.length
 ·rw [zf4 hl h (fun z=>by omega)]
  rfl
 ·have : ms = []:=yck (by omega)
  subst this
  unfold mixM
  rw [yck (show (zbW sh cs []).length = 0 by rw [zaV hl]; rfl)]
  rfl
def zaB (ps : List Nat) : Prop:=∀ i (h : i < ps.length),ps[i]≤i
def par (ps : List Nat) : Nat→Option Nat
 | 0=>none
 | k + 1=>ps[k]?
theorem zaL {ps : List Nat} (T : zaB ps) {k p : Nat} (h : par ps k = some p) : p < k∧k < ps.length + 1:=by
 cases k with
 | zero=>cases h
 | succ k=>
  obtain ⟨h1,rfl⟩:=yag.mp (show ps[k]? = some p from h)
  have:=T k h1
  omega
theorem zho {ps : List Nat} {k : Nat} (h1 : 1≤k) (h2 : k < ps.length + 1) : ∃ p,par ps k = some p:=by
 cases k with
 | zero=>omega
 | succ k=>exact ⟨_,yac (show k < ps.length by omega)⟩
theorem znC {ps : List Nat} {k : Nat} (h2 : k < ps.length + 1) (h : par ps k = none) : k = 0:=by
 cases k with
 | zero=>rfl
 | succ k=>
  have:=List.getElem?_eq_none_iff.mp (show ps[k]? = none from h)
  omega
def wayF (ps : List Nat) (one : Nat) : Nat→Nat→Option (List Nat)
 | 0,_=>none
 | f + 1,o=>if o = one then some [o] else match par ps o with
  | none=>none
  | some p=>(wayF ps one f p).map (· ++ [o])
theorem zhS {ps : List Nat} (T : zaB ps) {one : Nat} : ∀ f g o,o < f→o < g→wayF ps one f o = wayF ps one g o
 | 0,_,_,h,_=>absurd h (Nat.not_lt_zero _)
 | _,0,_,_,h=>absurd h (Nat.not_lt_zero _)
 | f + 1,g + 1,o,hf,hg=>by
  unfold wayF
  split
  ·rfl
  ·cases e : par ps o with
   | none=>rfl
   | some p=>
    have:=(zaL T e).1
    show (wayF ps one f p).map _ = (wayF ps one g p).map _
    rw [zhS T f g p (by omega) (by omega)]
def wayL (ps : List Nat) (one o : Nat) : Option (List Nat):=wayF ps one (o + 1) o
theorem zli {ps : List Nat} {o : Nat} : wayL ps o o = some [o]:=by
 unfold wayL wayF
 rw [if_pos rfl]
theorem zel {ps : List Nat} (T : zaB ps) {one o : Nat} (h : o≠one) : wayL ps one o = match par ps o with
  | none=>none
  | some p=>(wayL ps one p).map (· ++ [o]):=by
 unfold wayL
 rw [wayF,if_neg h]
 cases e : par ps o with
 | none=>rfl
 | some p=>
  show (wayF ps one o p).map _ = (wayF ps one (p + 1) p).map _
  rw [zhS T o (p + 1) p (zaL T e).1 (by omega)]
theorem zlj {ps : List Nat} (T : zaB ps) {one : Nat} : ∀ n o,o≤n→o < one→wayL ps one o = none
 | n,o,hn,h=>by
  rw [zel T (by omega)]
  cases e : par ps o with
  | none=>rfl
  | some p=>
   have hp:=(zaL T e).1
   show (wayL ps one p).map _ = none
   cases n with
   | zero=>omega
   | succ n=>rw [zlj T n p (by omega) (by omega)]; rfl
def zjp (ps : List Nat) (w : List Nat) : Prop:=∀ t,t + 1 < w.length→par ps (w.getD (t + 1) 0) = some (w.getD t 0)
theorem zk8 {ps : List Nat} {w : List Nat} {x : Nat} (h : zjp ps w) (hx : w≠[]→par ps x = some (w.getD (w.length - 1) 0)) : zjp ps (w ++ [x]):=by
 intro t ht
 rw [yah,yaL] at ht
 have e0 : (w ++ [x]).getD t 0 = w.getD t 0:=by
  rw [yad,yad,ybh (by omega)]
 rw [e0]
 by_cases c : t + 1 < w.length
 ·have e1 : (w ++ [x]).getD (t + 1) 0 = w.getD (t + 1) 0:=by
   rw [yad,yad,ybh c]
  rw [e1]
  exact h t c
 ·have et : t + 1 = w.length:=by omega
  have e1 : (w ++ [x]).getD (t + 1) 0 = x:=by
   rw [yad,et,yaY (yaa _),yb6]
   rfl
  rw [e1]
  have:=hx (fun z=>by rw [z] at et; simp at et)
  rw [← et,ybO] at this
  exact this
def isB (ps : List Nat) (k j : Nat) : Bool:=(wayL ps k j).isSome
def benL (ps : List Nat) (k n : Nat) : List Nat:=(List.range n).filter (isB ps k)
theorem zc4 {ps : List Nat} {k : Nat} : isB ps k k = true:=by
 unfold isB
 rw [zli]
 rfl
theorem zeX {ps : List Nat} (T : zaB ps) {k j : Nat} (h : j < k) : isB ps k j = false:=by
 unfold isB
 rw [zlj T j j (yaa _) h]
 rfl
theorem zbQ {ps : List Nat} (T : zaB ps) {k j p : Nat} (h : j≠k) (e : par ps j = some p) : isB ps k j = isB ps k p:=by
 unfold isB
 rw [zel T h,e]
 show ((wayL ps k p).map _).isSome = _
 cases wayL ps k p <;> rfl
theorem zoi {ps : List Nat} (T : zaB ps) (k : Nat) : benL ps k (k + 1) = [k]:=by
 unfold benL
 rw [ybt,ya2]
 have e1 : (List.range k).filter (isB ps k) = []:=by
  rw [yco]
  intro j hj z
  rw [zeX T (ya9.mp hj)] at z
  cases z
 rw [e1,ybW,ya8 zc4]
 rfl
theorem zb6 {ps : List Nat} {k n j : Nat} : j∈benL ps k n↔j < n∧isB ps k j = true:=by
 unfold benL
 rw [ya3,ya9]
theorem ziI {ps : List Nat} {k n : Nat} : benL ps k (n + 1) = benL ps k n ++ (if isB ps k n = true then [n] else []):=by
 unfold benL
 rw [ybt,ya2]
 congr 1
 by_cases h : isB ps k n = true
 ·rw [if_pos h,ya8 h]
  rfl
 ·rw [if_neg h,ybj h]
  rfl
theorem zku (ps : List Nat) (k n : Nat) : (benL ps k n).length≤n:=by
 have:=ybu (isB ps k) (List.range n)
 rw [ya1] at this
 exact this
theorem zji (ps : List Nat) (k n : Nat) : (benL ps k n).Pairwise (· < ·):=List.Pairwise.filter _ ycm
theorem zkh {ps : List Nat} (T : zaB ps) : ∀ n j,j≤n→j < ps.length + 1→isB ps 0 j = true
 | n,j,hn,h=>by
  by_cases c : j = 0
  ·rw [c]
   exact zc4
  ·obtain ⟨p,e⟩:=zho (by omega) h
   have:=(zaL T e).1
   rw [zbQ T c e]
   cases n with
   | zero=>omega
   | succ n=>exact zkh T n p (by omega) (by omega)
theorem zm5 {ps : List Nat} (T : zaB ps) : benL ps 0 (ps.length + 1) = List.range (ps.length + 1):=by
 unfold benL
 rw [ycB]
 exact fun j hj=>zkh T j j (yaa _) (ya9.mp hj)
def zaM (ps : List Nat) (k n : Nat) : List Nat:=(List.range n).filter fun j=>decide (par ps j = some k)
theorem zaC {ps : List Nat} {k n j : Nat} : j∈zaM ps k n↔j < n∧par ps j = some k:=by
 unfold zaM
 rw [ya3,ya9,decide_eq_true_eq]
theorem zc6 {ps : List Nat} {k n : Nat} : zaM ps k (n + 1) = zaM ps k n ++ (if par ps n = some k then [n] else []):=by
 unfold zaM
 rw [ybt,ya2]
 congr 1
 by_cases h : par ps n = some k
 ·rw [if_pos h,ya8 (by exact yam h)]
  rfl
 ·rw [if_neg h,ybj (by rw [yas h]; decide)]
  rfl
theorem zcM (ps : List Nat) (k n : Nat) : (zaM ps k n).length≤n:=by
 have:=ybu (fun j=>decide (par ps j = some k)) (List.range n)
 rw [ya1] at this
 exact this
theorem ziC (ps : List Nat) (k n : Nat) : (zaM ps k n).Pairwise (· < ·):=List.Pairwise.filter _ ycm
theorem zeY {ps : List Nat} (T : zaB ps) {k : Nat} : ∀ n j,j≤n→j < ps.length + 1→(isB ps k j = true↔j = k∨∃ c,par ps c = some k∧isB ps c j = true)
 | n,j,hn,h=>by
  by_cases c : j = k
  ·constructor
   ·exact fun _=>.inl c
   ·intro _
    rw [c]
    exact zc4
  ·cases e : par ps j with
   | none=>
    have j0:=znC h e
    have no : ∀ m,j≠m→isB ps m j = false:=fun m hm=>by
     unfold isB
     rw [zel T hm,e]
     rfl
    constructor
    ·intro z
     rw [no k c] at z
     cases z
    ·rintro (z | ⟨d,hd,z⟩)
     ·exact absurd z c
     ·by_cases y : j = d
      ·rw [← y,e] at hd
       cases hd
      ·rw [no d y] at z
       cases z
   | some p=>
    have hp:=(zaL T e).1
    cases n with
    | zero=>omega
    | succ n=>
     have ih:=zeY T (k:=k) n p (by omega) (by omega)
     rw [zbQ T c e,ih]
     constructor
     ·rintro (z | ⟨d,hd,z⟩)
      ·refine .inr ⟨j,?_,zc4⟩
       rw [e,z]
      ·by_cases y : j = d
       ·rw [← y] at z
        rw [zeX T hp] at z
        cases z
       ·exact .inr ⟨d,hd,by rw [zbQ T y e]; exact z⟩
     ·rintro (z | ⟨d,hd,z⟩)
      ·exact absurd z c
      ·by_cases y : j = d
       ·subst y
        rw [e] at hd
        exact .inl (yae hd)
       ·rw [zbQ T y e] at z
        exact .inr ⟨d,hd,z⟩
theorem zdu {ps : List Nat} (T : zaB ps) {k c d : Nat} (hc : par ps c = some k) (hd : par ps d = some k) (hcd : c≠d) : ∀ n j,j≤n→isB ps c j = true→isB ps d j = true→False
 | n,j,hn,h1,h2=>by
  by_cases e1 : j = c
  ·subst e1
   rw [zbQ T hcd hc,zeX T (zaL T hd).1] at h2
   cases h2
  ·by_cases e2 : j = d
   ·subst e2
    rw [zbQ T e1 hd,zeX T (zaL T hc).1] at h1
    cases h1
   ·cases e : par ps j with
    | none=>
     unfold isB at h1
     rw [zel T e1,e] at h1
     cases h1
    | some p=>
     have hp:=(zaL T e).1
     rw [zbQ T e1 e] at h1
     rw [zbQ T e2 e] at h2
     cases n with
     | zero=>omega
     | succ n=>exact zdu T hc hd hcd n p (by omega) h1 h2
theorem zkJ {ps : List Nat} (T : zaB ps) {k : Nat} (hk : k < ps.length + 1) : (k :: ((zaM ps k (ps.length + 1)).map fun c=>benL ps c (ps.length + 1)).flatten).Perm (benL ps k (ps.length + 1)):=by
 have lt : ∀ {l : List Nat},l.Pairwise (· < ·)→l.Nodup:=fun h=>List.Pairwise.imp (fun {a b} (q : a < b)=>yar q) h
 refine (List.perm_ext_iff_of_nodup ?_ (lt (zji ps k _))).mpr fun j=>?_
 ·rw [yaS]
  refine ⟨fun h=>?_,?_⟩
  ·obtain ⟨l,hl,hj⟩:=ycp.mp h
   obtain ⟨c,hc,rfl⟩:=yaI.mp hl
   have h1:=(zaC.mp hc).2
   have h2:=(zb6.mp hj).2
   rw [zeX T (zaL T h1).1] at h2
   cases h2
  ·show List.Pairwise _ _
   rw [List.pairwise_flatten]
   refine ⟨fun l hl=>?_,?_⟩
   ·obtain ⟨c,hc,rfl⟩:=yaI.mp hl
    exact lt (zji ps c _)
   ·rw [yb1]
    refine List.Pairwise.imp_of_mem (fun {c d} hc hd hcd=>?_) (ziC ps k _)
    intro x hx y hy z
    subst z
    exact zdu T (zaC.mp hc).2 (zaC.mp hd).2 (yar hcd) x x (yaa _) (zb6.mp hx).2 (zb6.mp hy).2
 ·rw [yap,ycp,zb6]
  constructor
  ·rintro (rfl | ⟨l,hl,hj⟩)
   ·exact ⟨hk,zc4⟩
   ·obtain ⟨c,hc,rfl⟩:=yaI.mp hl
    obtain ⟨h1,h2⟩:=zb6.mp hj
    exact ⟨h1,(zeY T j j (yaa _) h1).mpr (.inr ⟨c,(zaC.mp hc).2,h2⟩)⟩
  ·rintro ⟨h1,h2⟩
   rcases (zeY T j j (yaa _) h1).mp h2 with q | ⟨c,hc,q⟩
   ·exact .inl q
   ·exact .inr ⟨_,yaI.mpr ⟨c,zaC.mpr ⟨(zaL T hc).2,hc⟩,rfl⟩,zb6.mpr ⟨h1,q⟩⟩
seal PSs PS PE PT PW PA PI PG PO
section
variable {P : Program} {w : World} {K : Frag} {mg : Str→Option Value} {base : Heap}
theorem znI (T : Txt K mg) (D_l_mixed : DF K mg "_law_mixed" zew zdN) : FC P w K mg base 1 "_law_mixed" zdN zlF:=by
 refine D_l_mixed.ok sc_l_mixed (fun vs H Q E h=>?_) (fun f cdv A outer s H vs Q E hr h=>?_)
 ·obtain ⟨c,k,rfl,_⟩:=h
  rfl
 obtain ⟨c,k,rfl,q⟩:=h
 refine ⟨_,(zaf (zap (i:=2) sc_l_mixed.nd rfl (Or.inl rfl) (zas zdb (zas zbT (zas zaZ (zas zaZ (zas zdb (pv 0) zae) (zas zbT zae (pv 1))) zae) zae) zae))
   (zaf (zap (i:=3) sc_l_mixed.nd rfl (Or.inl rfl) (zas zdb (zas zaZ (zas zaZ (zas zbT (pv 2) (pv 2)) (zas zbT zae (pv 2))) (pv 1)) zae))
   (zah (zau (zas zf3 (zas zdb (zas zaZ (zas zaZ (zas zbT (pv 3) (pv 3)) (zas zbT zae (pv 3))) (zas zbT zae (pv 1))) zae) zae))))),?_⟩
 walk_at "rd"
 exact q _
theorem znR (T : Txt K mg) (D_l_begin : DF K mg "_law_begin" zeB zdS) : FC P w K mg base 1 "_law_begin" zdS (zlK K):=by
 refine D_l_begin.ok sc_l_begin (fun vs H Q E h=>?_) (fun f cdv A outer s H vs Q E hr h=>?_)
 ·obtain ⟨L,ns,rfl,_⟩:=h
  rfl
 obtain ⟨L,ns,rfl,hS,q⟩:=h
 refine ⟨_,(zah (zau (zpi (zhl zdm (pv 0) (zhl zdm zae (zhl zdm zae zpf))) rfl rfl (by simp) (by decide)))),?_⟩
 intro p hp
 refine ⟨_,rfl,zac,[(.inr "script",.ref L),(.inr "at",.int 0),(.inr "left",.int 0)],rfl,(by show 3≤15; decide),?_⟩
 have e : upd (upd H p (.dK [])) p (.dK (zfx [] [(.inr "script",.ref L),(.inr "at",.int 0),(.inr "left",.int 0)])) = upd H p (zc2 L 0 0):=by
  rw [zoV]
  have : zfx [] [((.inr "script" : Key),V.ref L),(.inr "at",.int 0),(.inr "left",.int 0)] = [(.inr "script",.ref L),(.inr "at",.int 0),(.inr "left",.int 0)]:=by
   have a1 : putK [] (.inr "script" : Key) (V.ref L) = [(.inr "script",.ref L)]:=zeF (kvs:=[]) _ rfl
   have a2 : putK [((.inr "script" : Key),V.ref L)] (.inr "at") (.int 0) = [(.inr "script",.ref L),(.inr "at",.int 0)]:=by
    rw [zeF _ (by rw [zbt (zd4 (show ("script" : Str) ≠ "at" by decide +kernel))]; rfl)]
    rfl
   have a3 : putK [((.inr "script" : Key),V.ref L),(.inr "at",.int 0)] (.inr "left") (.int 0) = [(.inr "script",.ref L),(.inr "at",.int 0),(.inr "left",.int 0)]:=by
    rw [zeF _ (by rw [zbt (zd4 (show ("script" : Str) ≠ "left" by decide +kernel)),zbt (zd4 (show ("at" : Str) ≠ "left" by decide +kernel))]; rfl)]
    rfl
   unfold zfx
   simp only [List.foldl_cons,List.foldl_nil]
   rw [a1,a2,a3]
  rw [this]
  rfl
 rw [e]
 exact q p _ hp (zai hp _) ⟨ns,0,0,zac,(zai hp _).seq hS⟩
theorem zpn (T : Txt K mg) (D_l_take : DF K mg "_law_take" zfK zbo) (F_l_mixed : FC P w K mg base 1 "_law_mixed" zdN zlF) : FC P w K mg base 2 "_law_take" zbo (zft K):=by
 refine D_l_take.ok sc_l_take (fun vs H Q E h=>?_) (fun f cdv A outer s H vs Q E hr h=>?_)
 ·obtain ⟨d,L,m,rfl,_⟩:=h
  rfl
 obtain ⟨d,L,m,rfl,⟨hm,hm'⟩,⟨ns,a,l,hd,hS⟩,q⟩:=h
 refine ⟨_,(zaf (zap (i:=2) sc_l_take.nd rfl (Or.inl rfl) (zdn (zef hr) (pv 0) zdm (fun _ _=>rfl)))
   (zaf (zap (i:=3) sc_l_take.nd rfl (Or.inl rfl) (zdn (zef hr) (pv 0) zdm (fun _ _=>rfl)))
   (zbk (zbS (zaw zdr (zdn (zef hr) (pv 0) zdm (fun _ _=>rfl)) zae (zaH _)) (zaf (zfg (zef hr) (pv 0) zdm (zas zaZ (pv 2) zae) rfl)
   (zaf (zap (i:=4) sc_l_take.nd rfl (Or.inl rfl) zae)
   (zbk (zbS (zaw zpk (zaq zar rfl T.m_len boot_len (zaa (pv 3) zad)) zae (zaH _)) (zah (zap (i:=4) sc_l_take.nd rfl (Or.inl rfl) (zaz zax (pv 3) (zas zdb (pv 2) (zaq zar rfl T.m_len boot_len (zaa (pv 3) zad))) (fun _ _=>rfl)))) zaO)
   (zbk (zbS (PW.pt (zkH (zaw zqD (pv 2) (zaq zar rfl T.m_len boot_len (zaa (pv 3) zad)) (zaH _)) (zh6 (zaw zhs (zaq zkt rfl T.m_abs boot_abs (zaa (pv 4) zad)) (zas zf2 zae zae) (zaH _))))) (zah (zau (zas zdb (zaA F_l_mixed hr (zaa (pv 4) (zaa (pv 2) zad))) (pv 1)))) zaO)
   (zah (zfg (zef hr) (pv 0) zdm (zaq zkt rfl T.m_abs boot_abs (zaa (pv 4) zad)) rfl)))))) zaO)
   (zaf (zap (i:=5) sc_l_take.nd rfl (Or.inl rfl) (zas zdb (zdn (zef hr) (pv 0) zdm (fun _ _=>rfl)) (pv 1)))
   (zaf (zfg (zef hr) (pv 0) zdm (zas zf3 (zdn (zef hr) (pv 0) zdm (fun _ _=>rfl)) (pv 1)) rfl)
   (zah (zau (pv 5)))))))),?_⟩
 refine ⟨_,rfl,_,_,rfl,zqZ hd,_,rfl,_,_,rfl,zk1 hd,?_⟩
 refine ⟨fun σ' H'=>∃ (x2 x3 x4 x5 : Option V) (a' l' : Int),σ' = [some (.ref d),some (.int m),x2,x3,x4,x5]∧H' d = some (zc2 L a' l')∧Keep d H H',?_,?_⟩
 ·refine ⟨_,rfl,_,_,rfl,zhE hd,rfl,_,rfl,?_⟩
  refine ite2 (fun _=>?_) (fun _=>?_)
  ·refine ⟨_,rfl,_,_,rfl,rfl,_,rfl,_,_,rfl,zqu hd,?_⟩
   have hd1 : upd H d (zc2 L (a + 1) l) d = some (zc2 L (a + 1) l):=zac
   obtain ⟨-,k1⟩:=LS.set (a':=a + 1) (l':=l) hd hS
   have hS1:=zg8 hd k1 hS
   generalize upd H d (zc2 L (a + 1) l) = H1 at hd1 k1 hS1 ⊢
   refine ⟨fun σ' H'=>∃ c : Int,σ' = [some (.ref d),some (.int m),some (.int a),some (.ref L),some (.int c),none]∧H1 = H',?_,?_⟩
   ·refine ⟨_,rfl,_,_,rfl,.inl hS1,_,_,rfl,rfl,_,rfl,?_⟩
    refine ite2 (fun c=>?_) (fun c=>?_)
    ·have c' : (0 : Int) < (((ns.map V.int).length : Nat) : Int):=yaC c
     obtain ⟨v,hv⟩:=zq8 (ns:=ns) (k:=a) (by rw [yab] at c'; omega)
     refine ⟨_,rfl,_,rfl,_,rfl,_,_,rfl,.inl hS1,_,_,rfl,rfl,c',_,_,_,_,rfl,rfl,hS1,hv,?_⟩
     exact ⟨v,rfl,rfl⟩
    ·exact ⟨0,rfl,rfl⟩
   rintro σ' H' ⟨c,rfl,rfl⟩
   refine ⟨fun σ' H'=>σ' = [some (.ref d),some (.int m),some (.int a),some (.ref L),some (.int c),none]∧H1 = H',?_,?_⟩
   ·refine ⟨_,rfl,_,rfl,_,_,rfl,.inl hS1,_,_,rfl,rfl,_,rfl,?_⟩
    refine ite2 (fun _=>?_) (fun _=>?_)
    ·refine iteT ?_
     refine ⟨_,rfl,_,rfl,c,a,rfl,fun v=>⟨_,rfl,_,_,rfl,rfl,hm,?_⟩⟩
     exact q _ _ (ych _ (by omega)) (yci _ hm) k1 ⟨ns,a + 1,l,hd1,hS1⟩
    ·refine ⟨_,rfl,_,rfl,_,_,rfl,rfl,⟨by decide,by decide,by decide⟩,_,_,rfl,rfl,_,rfl,?_⟩
     refine ite2 (fun _=>?_) (fun _=>?_)
     ·refine ⟨_,rfl,_,rfl,c,a,rfl,fun v=>⟨_,rfl,_,_,rfl,rfl,hm,?_⟩⟩
      exact q _ _ (ych _ (by omega)) (yci _ hm) k1 ⟨ns,a + 1,l,hd1,hS1⟩
     ·exact ⟨rfl,rfl⟩
   rintro σ' H' ⟨rfl,rfl⟩
   refine ⟨_,rfl,_,rfl,_,rfl,_,_,rfl,zjR hd1,?_⟩
   obtain ⟨-,k2⟩:=LS.set (a':=a + 1) (l':=if c < 0 then -c else c) hd1 hS1
   exact ⟨_,_,_,_,_,_,rfl,zac,k1.trans k2⟩
  ·exact ⟨_,_,_,_,a,l,rfl,hd,Keep.refl _ _⟩
 rintro σ' H' ⟨x2,x3,x4,x5,a',l',rfl,hd',k'⟩
 have hS':=zg8 hd k' hS
 refine ⟨_,rfl,_,_,rfl,zhE hd',_,rfl,_,_,rfl,rfl,hm,?_⟩
 refine ⟨_,rfl,_,_,rfl,zhE hd',_,rfl,_,_,rfl,rfl,⟨hm,hm'⟩,_,rfl,_,_,rfl,zjR hd',?_⟩
 obtain ⟨s1,k1⟩:=LS.set (a':=a') (l':=l' / m) hd' hS'
 refine ⟨_,rfl,?_⟩
 exact q _ _ (ych _ (by omega)) (yci _ hm) (k'.trans k1) s1
inductive zhN (K : Frag) (H : Hp) : V→Bool→Prop where
 | int (i : Int) : zhN K H (.int i) true
 | bl (b : Bool) : zhN K H (.bl b) false
 | oth (x : V) (t : String) (ty : TyOf K H x (.type t)) (h2 : kitO t "int" = some false) : zhN K H x false
def zlB (K : Frag) : Sp:=fun vs H Q _=>∃ (x : V) (b : Bool),vs = [x]∧zhN K H x b∧Q (.bl b) H
theorem znE (T : Txt K mg) (D_is_whole : DF K mg "is_whole" zdG zcY) : FC P w K mg base 1 "is_whole" zcY (zlB K):=by
 refine D_is_whole.ok sc_is_whole (fun vs H Q E h=>?_) (fun f cdv A outer s H vs Q E hr h=>?_)
 ·obtain ⟨x,b,rfl,_⟩:=h
  rfl
 obtain ⟨x,b,rfl,hk,q⟩:=h
 refine ⟨_,(zah (zau (zlZ (zaq zc7 rfl T.m_isinstance boot_isinstance (zaa (pv 0) (zaa (zd9 (v:=.ty "int") rfl T.m_int boot_int rfl) zad))) (zlX (zoC (zaq zc7 rfl T.m_isinstance boot_isinstance (zaa (pv 0) (zaa (zd9 (v:=.ty "bool") rfl T.m_bool boot_bool rfl) zad)))))))),?_⟩
 cases hk with
 | int i=>
  refine ⟨_,rfl,_,_,_,_,rfl,.int _,zoK,_,rfl,?_⟩
  refine iteT ?_
  refine ⟨_,rfl,_,_,_,_,rfl,.int _,zoL,_,rfl,?_⟩
  exact q
 | bl c=>
  refine ⟨_,rfl,_,_,_,_,rfl,.bl _,(show kitO "bool" "int" = some true by decide +kernel),_,rfl,?_⟩
  refine iteT ?_
  refine ⟨_,rfl,_,_,_,_,rfl,.bl _,zqR,_,rfl,?_⟩
  exact q
 | oth x t ty h2=>
  refine ⟨_,rfl,_,_,_,_,rfl,ty,h2,_,rfl,?_⟩
  refine iteF ?_
  exact q
def zqk : Sp:=fun vs H Q _=>∃ a b : Nat,vs = [.int a,.int b]∧a≠b∧Q (.int (lu a b : Nat)) H
theorem zqF (T : Txt K mg) (D_lowest_unlike : DF K mg "lowest_unlike" zbA zbv) : FC P w K mg base 1 "lowest_unlike" zbv zqk:=by
 refine D_lowest_unlike.ok sc_lowest_unlike (fun vs H Q E h=>?_) (fun f cdv A outer s H vs Q E hr h=>?_)
 ·obtain ⟨a,b,rfl,_⟩:=h
  rfl
 obtain ⟨a,b,rfl,hab,q⟩:=h
 refine ⟨_,(zaf (zap (i:=2) sc_lowest_unlike.nd rfl (Or.inl rfl) (zas zqB (pv 0) (pv 1)))
   (zah (zau (zas zbq (zoD F.plainAttrs_int F.slot_int_bit_length F.type_int_bit_length zhw (zas zoF (pv 2) (zgr zd2 (pv 2)))) zae)))),?_⟩
 refine ⟨_,rfl,_,rfl,_,_,rfl,rfl,_,rfl,_,rfl,_,rfl,_,_,rfl,rfl,rfl,_,rfl,rfl,_,_,rfl,rfl,?_⟩
 rw [← zqN a b hab] at q
 exact q
def znp (K : Frag) : Sp:=fun vs H Q _=>∃ d L : Addr,vs = [.ref d]∧LS K L d H∧∀ (v : Int) (H' : Hp),-(10 ^ 60) < v→v < 10 ^ 60→Keep d H H'→LS K L d H'→Q (.int v) H'
theorem zn0 {x m : Int} (h1 : -999≤x) (h2 : x≤999) (h3 : 0 < m) (h4 : m≤10 ^ 57) : -(10 ^ 60) < x * m∧x * m < 10 ^ 60:=by
 have a:=Int.mul_le_mul_of_nonneg_right h2 (Int.le_of_lt h3)
 have b:=Int.mul_le_mul_of_nonneg_right h1 (Int.le_of_lt h3)
 omega
theorem zqH (T : Txt K mg) (D_l_key : DF K mg "_law_key" zhe zeL) (F_l_take : FC P w K mg base 2 "_law_take" zbo (zft K)) : FC P w K mg base 3 "_law_key" zeL (znp K):=by
 refine D_l_key.ok sc_l_key (fun vs H Q E h=>?_) (fun f cdv A outer s H vs Q E hr h=>?_)
 ·obtain ⟨d,L,rfl,_⟩:=h
  rfl
 obtain ⟨d,L,rfl,hs,q⟩:=h
 refine ⟨_,(zaf (zap (i:=1) sc_l_key.nd rfl (Or.inl rfl) (zaA F_l_take hr (zaa (pv 0) (zaa zae zad))))
   (zbk (zbS (zaw zhs (pv 1) zae (zaH _)) (zah (zau (zaA F_l_take hr (zaa (pv 0) (zaa zae zad))))) zaO)
   (zbk (zbS (zaw zhs (pv 1) zae (zaH _)) (zah (zau (zas zbq (zaA F_l_take hr (zaa (pv 0) (zaa zae zad))) zae))) zaO)
   (zbk (zbS (zaw zdr (pv 1) zae (zaH _)) (zah (zau (zas zbT (zas zbq (zaA F_l_take hr (zaa (pv 0) (zaa zae zad))) zae) (zaz zax (zbp (zaa zae (zaa (zas zf2 zae zae) (zaa (zas zf2 zae zae) (zaa (zas zf2 zae zae) zad))))) (zaA F_l_take hr (zaa (pv 0) (zaa zae zad))) (fun _ _=>rfl))))) zaO)
   (zah (zau (zas zbT (zaz zax (zbp (zaa zae (zaa (zgr zd2 zae) zad))) (zaA F_l_take hr (zaa (pv 0) (zaa zae zad))) (fun _ _=>rfl)) (zas zbq (zas zbq (zas zf2 zae zae) zae) (zaA F_l_take hr (zaa (pv 0) (zaa zae zad))))))))))),?_⟩
 refine ⟨_,rfl,d,L,8,rfl,by decide,hs,fun w1 H1 w0 w8 k1 s1=>?_⟩
 have nd : ∀ {H' : Hp} {p : Addr},LS K L d H'→H' p = none→p≠d:=fun s hp z=>by
  obtain ⟨_,_,_,e,_⟩:=s.ex
  rw [← z,hp] at e
  cases e
 refine ⟨fun σ' H'=>σ' = [some (.ref d),some (.int w1)]∧H1 = H',?_,?_⟩
 ·refine ⟨_,rfl,_,_,rfl,rfl,_,rfl,?_⟩
  refine ite2 (fun c=>?_) (fun c=>?_)
  ·refine ⟨_,rfl,d,L,10,rfl,by decide,s1,fun u H2 u0 u1 k2 s2=>?_⟩
   exact q u H2 (by omega) (by omega) (k1.trans k2) s2
  ·exact ⟨rfl,rfl⟩
 rintro σ' H' ⟨rfl,rfl⟩
 refine ⟨fun σ' H'=>σ' = [some (.ref d),some (.int w1)]∧H1 = H',?_,?_⟩
 ·refine ⟨_,rfl,_,_,rfl,rfl,_,rfl,?_⟩
  refine ite2 (fun c=>?_) (fun c=>?_)
  ·refine ⟨_,rfl,d,L,60,rfl,by decide,s1,fun u H2 u0 u1 k2 s2=>⟨_,_,rfl,rfl,?_⟩⟩
   exact q (u - 30) H2 (by omega) (by omega) (k1.trans k2) s2
  ·exact ⟨rfl,rfl⟩
 rintro σ' H' ⟨rfl,rfl⟩
 refine ⟨fun σ' H'=>σ' = [some (.ref d),some (.int w1)]∧H1 = H',?_,?_⟩
 ·refine ⟨_,rfl,rfl,_,rfl,?_⟩
  refine ite2 (fun c=>?_) (fun c=>?_)
  ·refine ⟨_,rfl,d,L,1999,rfl,by decide,s1,fun u H2 u0 u1 k2 s2=>⟨_,_,rfl,rfl,?_⟩⟩
   refine ⟨_,_,rfl,rfl,⟨by decide,by decide,by decide⟩,_,_,rfl,rfl,⟨by decide,by decide,by decide⟩,_,_,rfl,rfl,⟨by decide,by decide,by decide⟩,(by show 4≤sizeLine; decide),fun p hp=>?_⟩
   refine ⟨_,rfl,d,L,4,rfl,by decide,s2.of_new hp _,fun b H3 b0 b1 k3 s3=>?_⟩
   obtain ⟨m,hat,m0,m1⟩ : ∃ m : Int,atI [V.int 1,V.int (10 ^ (19 : Int).toNat),V.int (10 ^ (38 : Int).toNat),V.int (10 ^ (57 : Int).toNat)] b = some (.int m)∧0 < m∧m≤10 ^ 57:=by
    have z : b = 0∨b = 1∨b = 2∨b = 3:=by omega
    rcases z with rfl | rfl | rfl | rfl
    ·exact ⟨_,rfl,by decide +kernel,by decide +kernel⟩
    ·exact ⟨_,rfl,by decide +kernel,by decide +kernel⟩
    ·exact ⟨_,rfl,by decide +kernel,by decide +kernel⟩
    ·exact ⟨_,rfl,by decide +kernel,by decide +kernel⟩
   refine ⟨_,_,_,_,rfl,rfl,SqL.of (k3 p _ (nd s2 hp) zac),hat,_,_,rfl,rfl,.inl ⟨by omega,by omega⟩,?_⟩
   obtain ⟨f1,f2⟩:=zn0 (x:=u - 999) (m:=m) (by omega) (by omega) m0 m1
   exact q _ H3 f1 f2 ((k1.trans k2).trans ((zai hp _).keep.trans k3)) s3
  ·exact ⟨rfl,rfl⟩
 rintro σ' H' ⟨rfl,rfl⟩
 refine ⟨_,rfl,(by show 2≤sizeLine; decide),fun p hp=>?_⟩
 refine ⟨_,rfl,d,L,2,rfl,by decide,s1.of_new hp _,fun b H2 b0 b1 k2 s2=>?_⟩
 obtain ⟨m,hat,hm⟩ : ∃ m : Int,atI [V.int 1,V.int (-1)] b = some (.int m)∧(m = 1∨m = -1):=by
  have z : b = 0∨b = 1:=by omega
  rcases z with rfl | rfl
  ·exact ⟨_,rfl,.inl rfl⟩
  ·exact ⟨_,rfl,.inr rfl⟩
 refine ⟨_,_,_,_,rfl,rfl,SqL.of (k2 p _ (nd s1 hp) zac),hat,_,_,rfl,rfl,⟨by decide,by decide,by decide⟩,_,_,rfl,rfl,_,rfl,d,L,3,rfl,by decide,s2,fun u H3 u0 u1 k3 s3=>⟨_,_,rfl,rfl,_,_,rfl,rfl,.inl ⟨by omega,by omega⟩,?_⟩⟩
 have e60 : (10 : Int) ^ (60 : Int).toNat = 10 ^ 60:=rfl
 rw [e60]
 have kk:=k1.trans ((zai hp _).keep.trans (k2.trans k3))
 rcases hm with rfl | rfl
 ·exact q _ H3 (by omega) (by omega) kk s3
 ·exact q _ H3 (by omega) (by omega) kk s3
def Rise (es : List (Int×Int)) : Prop:=es.Pairwise fun a b=>pLt a b = true
def zek (k : Int) (e : Int×Int) : Prop:=-(10 ^ 60) < e.1∧e.1 < 10 ^ 60∧0≤e.2∧e.2 < k
theorem zlT {κ : Type} [DecidableEq κ] (kvs : List (κ×V)) (k : κ) (v : V) : (putK kvs k v).map (·.1) = if (kvs.any fun kv=>decide (kv.1 = k)) = true then kvs.map (·.1) else kvs.map (·.1) ++ [k]:=by
 unfold putK
 split
 ·rw [ybB]
  apply ycC
  intro a ha
  show (if a.1 = k then (a.1,v) else a).1 = a.1
  split <;> rfl
 ·rw [yal]
  rfl
def zgu (e : Int×Int) : Int:=64 * (if 0≤e.1 then 2 * e.1 else -2 * e.1 - 1) + e.2
def zgt (e : Int×Int) : Nat:=(zgu e).toNat
theorem ze3 {e : Int×Int} (h : zek 64 e) : ((zgt e : Nat) : Int) = zgu e:=by
 obtain ⟨h1,h2,h3,h4⟩:=h
 unfold zgt zgu
 split <;> omega
theorem zog {e : Int×Int} (h : zek 64 e) : zgt e < 2 ^ 207:=by
 have z:=ze3 h
 obtain ⟨h1,h2,h3,h4⟩:=h
 unfold zgu at z
 split at z <;> omega
theorem zmZ {e f : Int×Int} (h : zek 64 e) (g : zek 64 f) (z : zgt e = zgt f) : e = f:=by
 have z1:=ze3 h
 have z2:=ze3 g
 obtain ⟨h1,h2,h3,h4⟩:=h
 obtain ⟨g1,g2,g3,g4⟩:=g
 obtain ⟨a,b⟩:=e
 obtain ⟨c,d⟩:=f
 rw [z,z2] at z1
 unfold zgu at z1
 dsimp only at *
 have : a = c∧b = d:=by
  split at z1 <;> split at z1 <;> omega
 rw [this.1,this.2]
def zjN (K : Frag) : Sp:=fun vs H Q _=>∃ (v : V) (e : Int×Int),vs = [v]∧Rep.has K H e v∧Q (.int (zgu e)) H
theorem zpt (T : Txt K mg) (D_code : DF K mg "code" zjP zhk) : FC P w K mg base 1 "code" zhk (zjN K):=by
 refine D_code.ok sc_code (fun vs H Q E h=>?_) (fun f cdv A outer s H vs Q E hr h=>?_)
 ·obtain ⟨v,e,rfl,_⟩:=h
  rfl
 obtain ⟨v,e,rfl,he,q⟩:=h
 obtain ⟨p,x1,x2,rfl,hT,e1,e2⟩:=(show hasP K H e v from he)
 have hT:=SqT.of (K:=K) hT
 have e1 : x1 = .int e.1:=e1
 have e2 : x2 = .int e.2:=e2
 subst e1 e2
 refine ⟨_,(zaf (zap (i:=1) sc_code.nd rfl (Or.inl rfl) (zaz zaW (pv 0) zae (fun _ _=>rfl)))
   (zaf (zap (i:=2) sc_code.nd rfl (Or.inl rfl) (zjU (zaw zqD (pv 1) zae (zaH _)) (zas zbT zae (pv 1)) (zas zbq (zas zbT (zgr zd2 zae) (pv 1)) zae)))
   (zah (zau (zas zaZ (zas zbT (zhm rfl T.g_KNOT_NUMBERS) (pv 2)) (zaz zaW (pv 0) zae (fun _ _=>rfl))))))),?_⟩
 refine ⟨_,rfl,_,_,_,_,rfl,rfl,hT,rfl,?_⟩
 refine ⟨_,rfl,_,_,rfl,rfl,_,rfl,?_⟩
 refine ite2 (fun c=>?_) (fun c=>?_)
 ·have c' : 0≤e.1:=yaC c
  refine ⟨_,rfl,_,_,rfl,rfl,.inl ⟨by decide,by decide⟩,?_⟩
  refine ⟨_,rfl,_,_,rfl,rfl,.inl ⟨by decide,by decide⟩,_,rfl,_,_,_,_,rfl,rfl,hT,rfl,_,_,rfl,rfl,?_⟩
  unfold zgu at q
  rw [if_pos c'] at q
  exact q
 ·have c' : ¬ 0≤e.1:=ybQ (ybP.mpr c)
  refine ⟨_,rfl,_,rfl,_,_,rfl,rfl,.inl ⟨by decide,by decide⟩,_,_,rfl,rfl,?_⟩
  refine ⟨_,rfl,_,_,rfl,rfl,.inl ⟨by decide,by decide⟩,_,rfl,_,_,_,_,rfl,rfl,hT,rfl,_,_,rfl,rfl,?_⟩
  unfold zgu at q
  rw [if_neg c'] at q
  exact q
abbrev nV (n : Nat) : V:=.int (n : Int)
theorem zj1 {v : Int} (h : 0≤v) : ∃ n : Nat,v = (n : Int):=⟨v.toNat,by omega⟩
theorem zd6 {xs : List Nat} {i : Nat} (h : i < xs.length) : atI (xs.map nV) (i : Int) = some (nV (xs.getD i 0)):=
 zbh (by rw [yaj,yac h,yad,yac h]; rfl)
theorem zm9 {xs : List Nat} {i : Nat} (h0 : i≠0) (h : i < xs.length) : atI (xs.map nV) ((i : Int) - 1) = some (nV (xs.getD (i - 1) 0)):=by
 have e : (i : Int) - 1 = ((i - 1 : Nat) : Int):=by omega
 rw [e]
 exact zd6 (by omega)
theorem zgN {xs : List Nat} {i : Nat} {x : V} (h : (xs.map nV)[i]? = some x) : i < xs.length∧x = nV (xs.getD i 0):=by
 rw [yaj] at h
 cases e : xs[i]? with
 | none=>rw [e] at h; cases h
 | some y=>
  rw [e] at h
  refine ⟨(yag.mp e).1,?_⟩
  rw [yad,e]
  exact (yae h).symm
theorem zpY (n : Nat) : Builtin.bitAnd (n : Int) 1 = ((n % 2 : Nat) : Int):=by
 unfold Builtin.bitAnd
 rw [yam (ybv n),yam (by decide : (0 : Int)≤1)]
 show ((n &&& 1 : Nat) : Int) = _
 rw [Nat.and_one_is_mod]
theorem zq4 (a b : Nat) : 2 * ((lu a b : Nat) : Int) + Builtin.bitAnd ((b : Int) / 2 ^ ((lu a b : Nat) : Int).toNat) 1 = ((fig a b : Nat) : Int):=by
 have e : (b : Int) / 2 ^ ((lu a b : Nat) : Int).toNat = ((b / 2 ^ lu a b : Nat) : Int):=by
  rw [yba,Int.natCast_ediv,Int.natCast_pow]
  rfl
 rw [e,zpY]
 unfold fig
 omega
theorem zhv {K : Frag} {H : Hp} {xs : List Nat} : zam K H (xs.map fun n : Nat=>(n : Int)) (xs.map nV):=by
 have e : xs.map nV = (xs.map fun n : Nat=>(n : Int)).map V.int:=by rw [ybB]; rfl
 rw [e]
 exact zam.ints
def But (p : Addr) (H H' : Hp) : Prop:=∀ b o,b≠p→H b = some o→H' b = some o
theorem But.sq {K : Frag} {p : Addr} {H H' : Hp} {a : Addr} {xs : List V} (k : But p H H') (h : SqL K H a xs) (n : H p = none) : SqL K H' a xs:=by
 rcases h with (h | ⟨o,h⟩) | h
 ·exact .inl (.inl (k _ _ (zab h n) h))
 ·exact .inl (.inr ⟨o,k _ _ (zab h n) h⟩)
 ·exact .inr h
theorem zi9 (xs : List Nat) : (xs.map nV).all zgs = true:=by
 rw [ya7]
 intro x hx
 obtain ⟨n,_,rfl⟩:=yaI.mp hx
 rfl
theorem zmE (n : Nat) (xs : List Nat) : inV (.int (n : Int)) (xs.map nV) = decide (n∈xs):=by
 unfold inV
 induction xs with
 | nil=>rfl
 | cons x xs ih=>
  rw [yay,ybn,ih]
  show ((x : Int) == (n : Int) || decide (n∈xs)) = decide (n∈x :: xs)
  by_cases h : x = n
  ·subst h
   simp
  ·have : ((x : Int) == (n : Int)) = false:=by
    rw [beq_eq_false_iff_ne]
    omega
   rw [this,Bool.false_or]
   have e : (n∈x :: xs) = (n∈xs):=propext (by simp [Ne.symm h])
   simp [Ne.symm h]
def zfF (K : Frag) : Sp:=fun vs H Q _=>∃ (a : Addr) (xs : List Nat),vs = [.ref a]∧SqL K H a (xs.map nV)∧Unl xs∧xs.length≤1000∧
 ∀ (p : Addr) (H' : Hp),H p = none→Same H H'→H' p = some (.lst ((zcf xs).map nV))→Q (.ref p) H'
theorem zl3 (T : Txt K mg) (D_turned : DF K mg "turned" zfG zeG) (F_lowest_unlike : FC P w K mg base 1 "lowest_unlike" zbv zqk) : FC P w K mg base 2 "turned" zeG (zfF K):=by
 refine D_turned.ok sc_turned (fun vs H Q E h=>?_) (fun f cdv A outer s H vs Q E hr h=>?_)
 ·obtain ⟨a,xs,rfl,_⟩:=h
  rfl
 obtain ⟨a,xs,rfl,hS,hu,hz,q⟩:=h
 refine ⟨_,(zaf (zap (i:=1) sc_turned.nd rfl (Or.inl rfl) (zbp zad))
   (zaf (zaK PassesOwn.never rfl (zdl rfl T.m_enumerate (zaa (pv 0) zad)) (zfv rfl (zaP (zal (i:=2) sc_turned.nd rfl (Or.inl rfl)) (zaP (zal (i:=3) sc_turned.nd rfl (Or.inl rfl)) zcZ))) (zah (zbS (zaw zdr (pv 2) zae (zaH _)) (zah (za7 (zdo F.plainAttrs_list F.slot_list_append F.type_list_append zaI (pv 1) (zaa (zas zdb (pv 3) zae) zad)))) (zaf (zap (i:=4) sc_turned.nd rfl (Or.inl rfl) (zaA F_lowest_unlike hr (zaa (zaz zax (pv 0) (zas zbq (pv 2) zae) (fun _ _=>rfl)) (zaa (pv 3) zad))))
   (zah (za7 (zdo F.plainAttrs_list F.slot_list_append F.type_list_append zaI (pv 1) (zaa (zas zaZ (zas zbT zae (pv 4)) (zas zoF (zas zqC (pv 3) (pv 4)) zae)) zad))))))))
   (zah (zau (pv 1))))),?_⟩
 refine ⟨(by show 0≤sizeLine; decide),fun p hp=>?_⟩
 have k0 : But p H (upd H p (.lst [])):=fun b o n e=>by rw [zag n]; exact e
 refine ⟨_,rfl,a,rfl,⟨_,k0.sq hS hp⟩,?_⟩
 refine zhF (xs:=xs.map nV) (fun i σ H2=>∃ x2 x3 x4 : Option V,σ = [some (.ref a),some (.ref p),x2,x3,x4]∧H2 p = some (.lst (((zcf xs).take i).map nV))∧But p H H2) ?_ ?_ ?_ ?_
 ·exact ⟨_,_,_,rfl,zac,k0⟩
 ·rintro i σ H2 _ ⟨x2,x3,x4,rfl,_,k2⟩
  exact k2.sq hS hp
 ·rintro i x σ H2 r hx ⟨x2,x3,x4,rfl,h2,k2⟩ hr
  obtain ⟨hi,rfl⟩:=zgN hx
  have hS2:=k2.sq hS hp
  have np : p≠r:=zab h2 hr
  have h3 : upd H2 r (.tup [.int i,nV (xs.getD i 0)]) p = some (.lst (((zcf xs).take i).map nV)):=by rw [zag np]; exact h2
  have k3 : But p H (upd H2 r (.tup [.int i,nV (xs.getD i 0)])):=fun b o n e=>(zai hr _) b o (k2 b o n e)
  have hS3:=k3.sq hS hp
  have hlen : (((zcf xs).take i).map nV).length < sizeLine:=zan (by rw [yab,yak,za3]; omega)
  refine ⟨r,_,rfl,SqT.of zac,rfl,_,_,rfl,_,_,rfl,rfl,?_⟩
  generalize upd H2 r (.tup [.int i,nV (xs.getD i 0)]) = H3 at h3 k3 hS3 ⊢
  have fin : ∀ v : V,v = nV (zcF xs i)→∃ y2 y3 y4 : Option V,[some (V.ref a),some (V.ref p),y2,y3,y4] = [some (V.ref a),some (V.ref p),y2,y3,y4]∧upd H3 p (.lst (((zcf xs).take i).map nV ++ [v])) p = some (.lst (((zcf xs).take (i + 1)).map nV))∧But p H (upd H3 p (.lst (((zcf xs).take i).map nV ++ [v]))):=by
   rintro v rfl
   refine ⟨none,none,none,rfl,?_,fun b o n e=>by rw [zag n]; exact k3 b o n e⟩
   rw [zac,zgy hi,yal]
   rfl
  refine ⟨_,rfl,rfl,_,rfl,?_⟩
  refine ite2 (fun c=>?_) (fun c=>?_)
  ·have c' : i = 0:=by
    have:=V.int.inj (yaC c)
    omega
   refine ⟨_,rfl,.inl ⟨rfl,_,SqL.of h3⟩,_,rfl,_,_,rfl,rfl,(by show (0 : Int) < 2; decide),_,_,_,rfl,rfl,h3,hlen,?_⟩
   obtain ⟨_,_,_,_,g2,g3⟩:=fin (.int (((xs.getD i 0 : Nat) : Int) % 2)) (by
    unfold zcF
    rw [if_pos c',c']
    show V.int _ = V.int _
    rw [Int.natCast_emod]
    rfl)
   exact ⟨_,_,_,rfl,g2,g3⟩
  ·have c' : i≠0:=fun z=>c (by subst z; decide)
   have hne : xs.getD (i - 1) 0≠xs.getD i 0:=by
    have:=hu (i - 1) (by omega)
    rw [show i - 1 + 1 = i by omega] at this
    exact this
   refine ⟨_,rfl,_,rfl,_,_,rfl,rfl,_,_,_,_,rfl,rfl,hS3,zm9 c' hi,_,rfl,_,_,rfl,hne,?_⟩
   refine ⟨_,rfl,.inl ⟨rfl,_,SqL.of h3⟩,_,rfl,_,_,rfl,rfl,.inl ⟨by decide,by decide⟩,_,rfl,_,rfl,_,_,rfl,rfl,ybv _,_,_,rfl,rfl,_,_,rfl,rfl,_,_,_,rfl,rfl,h3,hlen,?_⟩
   obtain ⟨_,_,_,_,g2,g3⟩:=fin (.int (2 * ((lu (xs.getD (i - 1) 0) (xs.getD i 0) : Nat) : Int) + Builtin.bitAnd (((xs.getD i 0 : Nat) : Int) / 2 ^ ((lu (xs.getD (i - 1) 0) (xs.getD i 0) : Nat) : Int).toNat) 1)) (by
    unfold zcF
    rw [if_neg c',zq4])
   exact ⟨_,_,_,rfl,g2,g3⟩
 ·rintro σ H2 ⟨x2,x3,x4,rfl,h2,k2⟩
  refine ⟨_,rfl,?_⟩
  refine q p H2 hp (fun b o e=>k2 b o (zab e hp) e) ?_
  rw [h2,yaq (by rw [za3,yab]; exact yaa _)]
def zcd : Nat→List Nat→List Nat
 | 0,xs=>xs
 | n + 1,xs=>zcf (zcd n xs)
theorem zbd (n : Nat) (xs : List Nat) : (zcd n xs).length = xs.length:=by
 induction n with
 | zero=>rfl
 | succ n ih=>rw [zcd,za3,ih]
theorem zcc {xs : List Nat} (h : Unl xs) (n : Nat) : Unl (zcd n xs):=by
 induction n with
 | zero=>exact h
 | succ n ih=>exact zlo ih
theorem zd1 {m k : Nat} {xs : List Nat} (h : zde m xs) (hk : m≤k) : zde k xs:=fun i hi=>yau (h i hi) hk
theorem zo0 {xs : List Nat} (h : Unl xs) (hb : zde (2 ^ 207) xs) : zde 414 (zcd 1 xs):=zce (k:=207) (by decide) h hb
theorem zoZ {xs : List Nat} (h : Unl xs) (hb : zde (2 ^ 207) xs) : zde 18 (zcd 2 xs):=zce (k:=9) (by decide) (zcc h 1) (zd1 (zo0 h hb) (by decide))
theorem zoY {xs : List Nat} (h : Unl xs) (hb : zde (2 ^ 207) xs) : zde 10 (zcd 3 xs):=zce (k:=5) (by decide) (zcc h 2) (zd1 (zoZ h hb) (by decide))
theorem zoX {xs : List Nat} (h : Unl xs) (hb : zde (2 ^ 207) xs) : zde 8 (zcd 4 xs):=zce (k:=4) (by decide) (zcc h 3) (zd1 (zoY h hb) (by decide))
theorem zoW {xs : List Nat} (h : Unl xs) (hb : zde (2 ^ 207) xs) : zde 6 (zcd 5 xs):=zce (k:=3) (by decide) (zcc h 4) (zd1 (zoX h hb) (by decide))
def zbL (es : List (Int×Int)) : List Nat:=es.map zgt
theorem zaD (es : List (Int×Int)) : (zbL es).length = es.length:=yab _
theorem zfo {es : List (Int×Int)} {i : Nat} (h : i < es.length) : (zbL es).getD i 0 = zgt es[i]:=by
 unfold zbL
 rw [yad,yaj,yac h]
 rfl
theorem zjf {es : List (Int×Int)} (h : ∀ e∈es,zek 64 e) : zde (2 ^ 207) (zbL es):=fun i hi=>by
 rw [zaD] at hi
 rw [zfo hi]
 exact zog (h _ (yaB hi))
theorem ze2 {es : List (Int×Int)} (h : ∀ e∈es,zek 64 e) (hr : Rise es) : Unl (zbL es):=fun i hi=>by
 rw [zaD] at hi
 rw [zfo (by omega),zfo hi]
 intro z
 have e:=zmZ (h _ (yaB (by omega))) (h _ (yaB hi)) z
 have:=yaO.mp hr i (i + 1) (by omega) hi (by omega)
 rw [e] at this
 have q:=zcC.mp this
 omega
theorem zgT {es : List (Int×Int)} {i : Nat} (h : i < es.length) : (zbL es).take (i + 1) = (zbL es).take i ++ [zgt es[i]]:=by
 have h' : i < (zbL es).length:=by rw [zaD]; exact h
 have z : (zbL es)[i]'h' = zgt es[i]:=List.getElem_map zgt
 rw [yaF h',z]
def zjD (K : Frag) : Sp:=fun vs H Q _=>∃ (a : Addr) (ws : List V) (es : List (Int×Int)),vs = [.ref a]∧SqL K H a ws∧zam K H es ws∧es.length≤1000∧(∀ e∈es,zek 64 e)∧Rise es∧
 ∀ (p : Addr) (H' : Hp),H p = none→Same H H'→H' p = some (.lst ((zcd 5 (zbL es)).map nV))→Q (.ref p) H'
theorem zgU {K : Frag} {H0 H2 : Hp} {D : Addr} {es : List (Int×Int)} {ws : List V} {i : Nat} {x : V} (hD : H0 D = none) (hw : zam K H0 es ws) (hx : ws[i]? = some x) (k : But D H0 H2) : ∃ h : i < es.length,Rep.has K H2 es[i] x:=by
 obtain ⟨e,h1,h2⟩:=hw.get hx
 have hi:=(yag.mp h1).1
 refine ⟨hi,?_⟩
 have z : es[i] = e:=(yag.mp h1).2
 rw [z]
 obtain ⟨a,x1,x2,rfl,q,e1,e2⟩:=(show hasP K H0 e x from h2)
 exact ⟨a,x1,x2,rfl,k _ _ (zab q hD) q,e1,e2⟩
theorem zmc (T : Txt K mg) (D_labels : DF K mg "labels" zfI zeI) (F_code : FC P w K mg base 1 "code" zhk (zjN K)) (F_turned : FC P w K mg base 2 "turned" zeG (zfF K)) : FC P w K mg base 3 "labels" zeI (zjD K):=by
 refine D_labels.ok sc_labels (fun vs H Q E h=>?_) (fun f cdv A outer s H vs Q E hr h=>?_)
 ·obtain ⟨a,ws,es,rfl,_⟩:=h
  rfl
 obtain ⟨a,ws,es,rfl,hS,hw,hz,he,hri,q⟩:=h
 have hlen:=hw.length
 refine ⟨_,(zaf (zd8 (i:=1) (N:=["entry"]) (own:=1) (cap:=[]) sc_labels.nd rfl rfl rfl (zbC (pv 0)) ⟨rfl,rfl,rfl,rfl,rfl,rfl⟩ (fun _ _ _ _ _=>(zal (i:=0) (show List.Nodup (["entry"] : List Str) by decide +kernel) rfl (Or.inl rfl))) (fun _ _ _ _ _=>zbH) (fun _ _ _ _ _=>(zaA F_code hr (zaa (pv 0) zad))))
   (zaf (zaK PassesOwn.never rfl (zaU rfl T.m_range (zaa (zhm rfl T.g_TURNS) zad)) (zal (i:=2) sc_labels.nd rfl (Or.inl rfl)) (zah (zap (i:=1) sc_labels.nd rfl (Or.inl rfl) (zaA F_turned hr (zaa (pv 1) zad)))))
   (zah (zau (pv 1))))),?_⟩
 refine ⟨_,rfl,a,rfl,⟨_,hS⟩,fun D hD=>?_⟩
 have k0 : But D H (upd H D (.lst [])):=fun b o n e=>by rw [zag n]; exact e
 refine zbU (xs:=ws) (fun i σ H2=>∃ x0 : Option V,σ = [x0]∧H2 D = some (.lst (((zbL es).take i).map nV))∧But D H H2) ?_ ?_ ?_ ?_
 ·exact ⟨_,rfl,zac,k0⟩
 ·rintro i σ H2 _ ⟨x0,rfl,_,k2⟩
  exact k2.sq hS hD
 ·rintro i m x σ H2 hx hm ⟨x0,rfl,h2,k2⟩
  obtain ⟨hi,hhas⟩:=zgU hD hw hx k2
  refine zdc ?_
  refine ⟨_,rfl,x,es[i],rfl,hhas,?_⟩
  refine ⟨_,h2,zan (by rw [yab,yak,zaD]; omega),m - 1,by omega,by omega,_,rfl,?_,fun b o n e=>by rw [zag n]; exact k2 b o n e⟩
  rw [zac,zgT hi,yal,← ze3 (he _ (yaB hi))]
  rfl
 ·rintro σ H2 ⟨x0,rfl,h2,k2⟩
  have e0 : H2 D = some (.lst ((zbL es).map nV)):=by
   rw [h2,yaq (by rw [zaD]; omega)]
  have same0 : Same H H2:=fun b o e=>k2 b o (zab e hD) e
  refine ⟨5,rfl,by decide,by decide,?_⟩
  refine za1 (n:=5) (fun i σ H3=>∃ (p : Addr) (x2 x3 : Option V),σ = [some (.ref a),some (.ref p),x2]∧H p = none∧Same H H3∧H3 p = some (.lst ((zcd i (zbL es)).map nV))) ?_ ?_ ?_
  ·exact ⟨D,_,none,rfl,hD,same0,e0⟩
  ·rintro i σ H3 hi ⟨p,x2,x3,rfl,hp,s3,h3⟩
   refine ⟨_,rfl,p,_,rfl,SqL.of h3,zcc (ze2 he hri) i,by rw [zbd,zaD]; exact hz,fun p4 H4 hp4 s4 h4=>?_⟩
   exact ⟨p4,_,none,rfl,s3.free hp4,s3.trans s4,h4⟩
  ·rintro σ H3 ⟨p,x2,x3,rfl,hp,s3,h3⟩
   refine ⟨_,rfl,?_⟩
   exact q p H3 hp s3 h3
theorem znM (T : Txt K mg) (D_l_code : DF K mg "_law_code" zfM zeM) : FC P w K mg base 1 "_law_code" zeM (zjN K):=by
 refine D_l_code.ok sc_l_code (fun vs H Q E h=>?_) (fun f cdv A outer s H vs Q E hr h=>?_)
 ·obtain ⟨v,e,rfl,_⟩:=h
  rfl
 obtain ⟨v,e,rfl,he,q⟩:=h
 obtain ⟨p,x1,x2,rfl,hT,e1,e2⟩:=(show hasP K H e v from he)
 have hT:=SqT.of (K:=K) hT
 have e1 : x1 = .int e.1:=e1
 have e2 : x2 = .int e.2:=e2
 subst e1 e2
 refine ⟨_,(zaf (zfu (pv 0) (zfv rfl (zaP (zal (i:=1) sc_l_code.nd rfl (Or.inl rfl)) (zaP (zal (i:=2) sc_l_code.nd rfl (Or.inl rfl)) zcZ))))
   (zbk (zbS (zaw zhs (pv 1) zae (zaH _)) (zah (zau (zas zaZ (zas zbT zae (zas zbq (zas zbT (zgr zd2 zae) (pv 1)) zae)) (pv 2)))) zaO)
   (zah (zau (zas zaZ (zas zbT zae (pv 1)) (pv 2)))))),?_⟩
 refine ⟨_,rfl,p,_,rfl,hT,rfl,_,_,rfl,_,_,rfl,rfl,?_⟩
 refine ⟨fun σ' H'=>σ' = [some (.ref p),some (.int e.1),some (.int e.2)]∧H = H'∧0≤e.1,?_,?_⟩
 ·refine ⟨_,rfl,_,_,rfl,rfl,_,rfl,?_⟩
  refine ite2 (fun c=>?_) (fun c=>?_)
  ·have c' : e.1 < 0:=yaC c
   refine ⟨_,rfl,_,rfl,_,_,rfl,rfl,.inl ⟨by decide,by decide⟩,_,_,rfl,rfl,_,_,rfl,rfl,.inl ⟨by decide,by decide⟩,_,rfl,_,_,rfl,rfl,?_⟩
   unfold zgu at q
   rw [if_neg (by omega)] at q
   exact q
  ·exact ⟨rfl,rfl,by have:=ybQ (ybP.mpr c); omega⟩
 rintro σ' H' ⟨rfl,rfl,c⟩
 refine ⟨_,rfl,_,_,rfl,rfl,.inl ⟨by decide,by decide⟩,_,rfl,_,_,rfl,rfl,?_⟩
 unfold zgu at q
 rw [if_pos c] at q
 have z : 64 * (2 * e.1) + e.2 = 128 * e.1 + e.2:=by omega
 rw [z] at q
 exact q
def wMes : L2.St→Hp→Nat:=fun σ _=>match σ with
 | [_,_,_,some (.int x),some (.int y),_]=>x.toNat + y.toNat
 | _=>0
theorem zkN (T : Txt K mg) (D_l_turned : DF K mg "_law_turned" zdF zcX) : FC P w K mg base 1 "_law_turned" zcX (zfF K):=by
 refine D_l_turned.ok sc_l_turned (fun vs H Q E h=>?_) (fun f cdv A outer s H vs Q E hr h=>?_)
 ·obtain ⟨a,xs,rfl,_⟩:=h
  rfl
 obtain ⟨a,xs,rfl,hS,hu,hz,q⟩:=h
 refine ⟨_,(zaf (zap (i:=1) sc_l_turned.nd rfl (Or.inl rfl) (zbp zad))
   (zaf (zaK PassesOwn.never rfl (zaU rfl T.m_range (zaa (zaq zar rfl T.m_len boot_len (zaa (pv 0) zad)) zad)) (zal (i:=2) sc_l_turned.nd rfl (Or.inl rfl)) (zah (zbS (zaw zdr (pv 2) zae (zaH _)) (zah (za7 (zdo F.plainAttrs_list F.slot_list_append F.type_list_append zaI (pv 1) (zaa (zas zdb (zaz zax (pv 0) zae (fun _ _=>rfl)) zae) zad)))) (zaf (zap (i:=3) sc_l_turned.nd rfl (Or.inl rfl) (zaz zax (pv 0) (pv 2) (fun _ _=>rfl)))
   (zaf (zap (i:=4) sc_l_turned.nd rfl (Or.inl rfl) (zaz zax (pv 0) (zas zbq (pv 2) zae) (fun _ _=>rfl)))
   (zaf (zap (i:=5) sc_l_turned.nd rfl (Or.inl rfl) zae)
   (zaf (zfQ PassesOwn.never (zaw zdr (zas zdb (pv 3) zae) (zas zdb (pv 4) zae) (zaH _)) (zaf (zap (i:=3) sc_l_turned.nd rfl (Or.inl rfl) (zas zf3 (pv 3) zae))
   (zaf (zap (i:=4) sc_l_turned.nd rfl (Or.inl rfl) (zas zf3 (pv 4) zae))
   (zah (zap (i:=5) sc_l_turned.nd rfl (Or.inl rfl) (zas zaZ (pv 5) zae))))))
   (zah (za7 (zdo F.plainAttrs_list F.slot_list_append F.type_list_append zaI (pv 1) (zaa (zas zaZ (zas zbT zae (pv 5)) (zas zdb (pv 3) zae)) zad)))))))))))
   (zah (zau (pv 1))))),?_⟩
 refine ⟨(by show 0≤sizeLine; decide),fun p hp=>?_⟩
 have k0 : But p H (upd H p (.lst [])):=fun b o n e=>by rw [zag n]; exact e
 refine ⟨_,rfl,_,_,rfl,.inl (k0.sq hS hp),_,rfl,by rw [yab]; omega,by rw [yab]; omega,?_⟩
 have el : ((((xs.map nV).length : Nat) : Int)).toNat = xs.length:=by rw [yab,yba]
 rw [el]
 refine za1 (n:=xs.length) (fun i σ H2=>∃ x2 x3 x4 x5 : Option V,σ = [some (.ref a),some (.ref p),x2,x3,x4,x5]∧H2 p = some (.lst (((zcf xs).take i).map nV))∧But p H H2) ?_ ?_ ?_
 ·exact ⟨_,_,_,_,rfl,zac,k0⟩
 ·rintro i σ H2 hi ⟨x2,x3,x4,x5,rfl,h2,k2⟩
  have hS2:=k2.sq hS hp
  have hlen : (((zcf xs).take i).map nV).length < sizeLine:=zan (by rw [yab,yak,za3]; omega)
  have fin : ∀ v : V,v = nV (zcF xs i)→upd H2 p (.lst (((zcf xs).take i).map nV ++ [v])) p = some (.lst (((zcf xs).take (i + 1)).map nV))∧But p H (upd H2 p (.lst (((zcf xs).take i).map nV ++ [v]))):=by
   rintro v rfl
   refine ⟨?_,fun b o n e=>by rw [zag n]; exact k2 b o n e⟩
   rw [zac,zgy hi,yal]
   rfl
  refine ⟨_,rfl,rfl,_,rfl,?_⟩
  refine ite2 (fun c=>?_) (fun c=>?_)
  ·have c' : i = 0:=by
    have:=V.int.inj (yaC c)
    omega
   have hat : atI (xs.map nV) 0 = some (nV (xs.getD 0 0)):=zd6 (i:=0) (by omega)
   refine ⟨_,rfl,.inl ⟨rfl,_,SqL.of h2⟩,_,rfl,_,_,_,_,rfl,rfl,hS2,hat,_,_,rfl,rfl,(by show (0 : Int) < 2; decide),_,_,_,rfl,rfl,h2,hlen,?_⟩
   obtain ⟨g2,g3⟩:=fin (.int (((xs.getD 0 0 : Nat) : Int) % 2)) (by
    unfold zcF
    rw [if_pos c']
    show V.int _ = V.int _
    rw [Int.natCast_emod]
    rfl)
   exact ⟨_,_,_,_,rfl,g2,g3⟩
  ·have c' : i≠0:=fun z=>c (by subst z; decide)
   have hne : xs.getD (i - 1) 0≠xs.getD i 0:=by
    have:=hu (i - 1) (by omega)
    rw [show i - 1 + 1 = i by omega] at this
    exact this
   have hat : atI (xs.map nV) (0 + (i : Int)) = some (nV (xs.getD i 0)):=by rw [ybd]; exact zd6 hi
   have hatp : atI (xs.map nV) (0 + (i : Int) - 1) = some (nV (xs.getD (i - 1) 0)):=by rw [ybd]; exact zm9 c' hi
   refine ⟨_,rfl,_,rfl,_,_,_,_,rfl,rfl,hS2,hat,?_⟩
   refine ⟨_,rfl,_,rfl,_,_,rfl,rfl,_,_,_,_,rfl,rfl,hS2,hatp,?_⟩
   have et : zcF xs i = fig (xs.getD (i - 1) 0) (xs.getD i 0):=by unfold zcF; rw [if_neg c']
   rw [et] at fin
   generalize xs.getD (i - 1) 0 = Y at *
   generalize xs.getD i 0 = X at *
   refine zjt (fun σ H'=>∃ x y j : Nat,σ = [some (.ref a),some (.ref p),some (.int (0 + i)),some (.int x),some (.int y),some (.int j)]∧H' = H2∧x≠y∧lu Y X = j + lu y x∧x = X / 2 ^ j) wMes ?_ ?_ ?_
   ·exact ⟨X,Y,0,rfl,rfl,Ne.symm hne,by omega,by rw [Nat.pow_zero,Nat.div_one]⟩
   ·rintro σ H' ⟨x,y,j,rfl,rfl,hxy,hl,hx⟩
    refine ⟨_,rfl,_,_,rfl,rfl,(by show (0 : Int) < 2; decide),_,rfl,_,_,rfl,rfl,(by show (0 : Int) < 2; decide),rfl,_,rfl,?_⟩
    refine ite2 (fun e=>?_) (fun e=>?_)
    ·have e' : x % 2 = y % 2:=by
      have:=V.int.inj (yaC e)
      omega
     refine ⟨_,rfl,_,_,rfl,rfl,⟨by decide,by decide⟩,_,rfl,_,_,rfl,rfl,⟨by decide,by decide⟩,_,rfl,_,_,rfl,rfl,?_⟩
     refine ⟨⟨x / 2,y / 2,j + 1,?_,rfl,by omega,?_,?_⟩,?_⟩
     ·rw [Int.natCast_ediv,Int.natCast_ediv,Int.natCast_add]
      rfl
     ·rw [hl,zhB (Ne.symm hxy) e'.symm]
      omega
     ·rw [hx,ybN,Nat.div_div_eq_div_mul]
     ·show ((x : Int) / 2).toNat + ((y : Int) / 2).toNat < (x : Int).toNat + (y : Int).toNat
      omega
    ·have e' : x % 2≠y % 2:=fun z=>e (by
      apply yam
      show V.int _ = V.int _
      have z' : (x : Int) % 2 = (y : Int) % 2:=by omega
      rw [z'])
     rw [zj8 (Ne.symm e')] at hl
     refine ⟨_,rfl,.inl ⟨rfl,_,SqL.of h2⟩,_,rfl,_,_,rfl,rfl,.inl ⟨by decide,by decide⟩,_,rfl,_,_,rfl,rfl,(by show (0 : Int) < 2; decide),_,_,rfl,rfl,_,_,_,rfl,rfl,h2,hlen,?_⟩
     obtain ⟨g2,g3⟩:=fin (.int (2 * (j : Int) + (x : Int) % 2)) (by
      show V.int _ = V.int _
      unfold fig
      rw [hl,ybq,← hx,Int.natCast_add,Int.natCast_mul,Int.natCast_emod]
      rfl)
     exact ⟨_,_,_,_,rfl,g2,g3⟩
   ·intro σ H Q Q' m h
    obtain ⟨x1,e1,i1,j1,f1,g1,c1,x2,e2,i2,j2,f2,g2,c2,r1,b,e,q⟩:=h
    exact ⟨x1,e1,i1,j1,f1,g1,c1,x2,e2,i2,j2,f2,g2,c2,r1,b,e,m _ _ q⟩
 ·rintro σ H2 ⟨x2,x3,x4,x5,rfl,h2,k2⟩
  refine ⟨_,rfl,?_⟩
  refine q p H2 hp (fun b o e=>k2 b o (zab e hp) e) ?_
  rw [h2,yaq (by rw [za3]; exact yaa _)]
theorem zhf {n d i : Nat} : HT.sIx n d (some (i : Int)) = min i n:=by
 unfold HT.sIx
 simp
 try omega
theorem zhH (xs : List V) (a b : Nat) : cutV xs (some (a : Int)) (some (b : Int)) = (xs.drop a).take (b - a):=by
 unfold cutV
 rw [zhf,zhf]
 by_cases h : a≤xs.length
 ·rw [ybz h]
  by_cases h2 : b≤xs.length
  ·rw [ybz h2]
  ·rw [Nat.min_eq_right (by omega),yaq (by rw [yaT]; exact yaa _),yaq (by rw [yaT]; omega)]
 ·rw [Nat.min_eq_right (show xs.length≤a by omega),ya0 (yaa _),ya0 (show xs.length≤a by omega)]
  simp
theorem zgz {α : Type} (xs : List α) (k : Nat) : (xs.drop k).take 1 = xs[k]?.toList:=by
 by_cases h : k < xs.length
 ·rw [ybU h,yac h]
  rfl
 ·rw [ya0 (by omega),yaW (by omega)]
  rfl
theorem ziA {xs : List V} {k : Nat} {i j : Int} (hi : i = if (k : Int) - 1 > 0 then (k : Int) - 1 else 0) (hj : j = (k : Int)) : cutV xs (some i) (some j) = (if k = 0 then none else xs[k - 1]?).toList:=by
 subst hj
 have e : i = ((k - 1 : Nat) : Int):=by
  rw [hi]
  split <;> omega
 subst e
 rw [zhH]
 split
 ·rename_i h
  subst h
  simp
 ·rw [show k - (k - 1) = 1 by omega,zgz]
theorem zgS {xs : List V} {k : Nat} {i j : Int} (hi : i = (k : Int) + 1) (hj : j = (k : Int) + 2) : cutV xs (some i) (some j) = xs[k + 1]?.toList:=by
 subst hi hj
 rw [show (k : Int) + 1 = ((k + 1 : Nat) : Int) by omega,show (k : Int) + 2 = ((k + 2 : Nat) : Int) by omega,zhH,show k + 2 - (k + 1) = 1 by omega,zgz]
theorem zgj (xs : List Nat) (k : Nat) : (if k = 0 then none else (xs.map nV)[k - 1]?).toList ++ (xs.map nV)[k + 1]?.toList = (zaE xs k).map nV:=by
 unfold zaE
 rw [yal,yaj,yaj]
 congr 1
 ·split
  ·rfl
  ·cases xs[k - 1]? <;> rfl
 ·cases xs[k + 1]? <;> rfl
theorem zgw (xs : List Nat) (k : Nat) : (zaE xs k).length≤2:=by
 have e : ∀ o : Option Nat,o.toList.length≤1:=fun o=>by cases o <;> simp
 unfold zaE
 rw [yah]
 have:=e (if k = 0 then none else xs[k - 1]?)
 have:=e xs[k + 1]?
 omega
theorem But.new {p b : Addr} {H H2 : Hp} (k : But p H H2) (hb : H2 b = none) (o : HO) : But p H (upd H2 b o):=fun x o' n e=>(zai hb o) x o' (k x o' n e)
theorem zo5 {K : Frag} {i j : Nat} {σ : L2.St} {H2 : Hp} {Q : VK} {a : Addr} {xs : List Nat} {k : Nat} {z : Int} (ez : z = (k : Int)) (e1 : σ[i]? = some (some (.ref a))) (e2 : σ[j]? = some (some (.int z))) (h2a : H2 a = some (.lst (xs.map nV)))
  (q : ∀ g H5,H2 g = none→Same H2 H5→H5 g = some (.lst ((zaE xs k).map nV))→Q (.ref g) H5) :
  tOp rCat (tSl (rSlL K) (tVar i) (zlv (tCB (fun xs H Q=>∃ i j,xs = [V.int i,V.int j]∧Q (V.int (if j > i then j else i)) H) (zo3 (tC (V.int 0)) (zo3 (tOp (rI0 fun i j=>V.int (i - j)) (tVar j) (tC (V.int 1))) tNil)))) (zlv (tVar j)))
   (tSl (rSlL K) (tVar i) (zlv (tOp (rI0 fun i j=>V.int (i + j)) (tVar j) (tC (V.int 1)))) (zlv (tOp (rI0 fun i j=>V.int (i + j)) (tVar j) (tC (V.int 2))))) σ H2 Q:=by
 subst ez
 refine ⟨_,e1,_,e2,_,_,rfl,rfl,_,_,rfl,_,rfl,_,e2,_,rfl,_,_,rfl,SqL.of h2a,fun b hb=>?_⟩
 have kb:=zai hb (.lst (cutV (xs.map nV) (some (if (k : Int) - 1 > 0 then (k : Int) - 1 else 0)) (some (k : Int))))
 have hbb : upd H2 b (.lst (cutV (xs.map nV) (some (if (k : Int) - 1 > 0 then (k : Int) - 1 else 0)) (some (k : Int)))) b = some (.lst (if k = 0 then none else (xs.map nV)[k - 1]?).toList):=by
  rw [zac,ziA (k:=k) rfl rfl]
 generalize upd H2 b (.lst (cutV (xs.map nV) (some (if (k : Int) - 1 > 0 then (k : Int) - 1 else 0)) (some (k : Int)))) = H3 at kb hbb ⊢
 refine ⟨_,e1,_,e2,_,_,rfl,rfl,_,rfl,_,e2,_,_,rfl,rfl,_,rfl,_,_,rfl,SqL.of (kb _ _ h2a),fun c hc=>?_⟩
 have kc:=zai hc (.lst (cutV (xs.map nV) (some ((k : Int) + 1)) (some ((k : Int) + 2))))
 have hcb:=kc _ _ hbb
 have hcc : upd H3 c (.lst (cutV (xs.map nV) (some ((k : Int) + 1)) (some ((k : Int) + 2)))) c = some (.lst (xs.map nV)[k + 1]?.toList):=by
  rw [zac,zgS (k:=k) rfl rfl]
 generalize upd H3 c (.lst (cutV (xs.map nV) (some ((k : Int) + 1)) (some ((k : Int) + 2)))) = H4 at kc hcb hcc ⊢
 refine ⟨b,c,_,_,rfl,rfl,hcb,hcc,?_,fun g hg=>?_⟩
 ·rw [← yah,zgj,yab]
  exact yat (zgw _ _) (by decide)
 rw [zgj]
 exact q g _ (kb.free (kc.free hg)) (kb.trans (kc.trans (zai hg _))) zac
def zep (K : Frag) : Sp:=fun vs H Q _=>∃ (a : Addr) (xs : List Nat),vs = [.ref a]∧SqL K H a (xs.map nV)∧Unl xs∧zde 6 xs∧xs.length≤1000∧
 ∀ (p : Addr) (H' : Hp),H p = none→Same H H'→H' p = some (.lst ((colL xs).map nV))→Q (.ref p) H'
def za4 (es : List (Int×Int)) : List Bool:=zeT (colL (zcd 5 (zbL es)))
theorem za8 (es : List (Int×Int)) : (za4 es).length = es.length:=by
 unfold za4
 rw [zeS,zei,zbd,zaD]
theorem zf7 {es : List (Int×Int)} (he : ∀ e∈es,zek 64 e) (hri : Rise es) : Unl (zcd 5 (zbL es)):=zcc (ze2 he hri) 5
theorem zf8 {es : List (Int×Int)} (he : ∀ e∈es,zek 64 e) (hri : Rise es) : zde 6 (zcd 5 (zbL es)):=zoW (ze2 he hri) (zjf he)
theorem zm6 {xs : List Nat} (h : zde 6 xs) : ∀ i x,atZ xs i = some x→x≤5:=fun i x e=>by
 obtain ⟨h0,h1⟩:=zhK e
 have:=h i.toNat (by omega)
 unfold atZ at e
 rw [if_pos h0] at e
 rw [yad,e] at this
 exact Nat.lt_succ_iff.mp this
theorem zii {es : List (Int×Int)} (he : ∀ e∈es,zek 64 e) (hri : Rise es) : zdA (za4 es):=zmm (zhI (unlZ (zf7 he hri))) (zpV (zm6 (zf8 he hri)))
def zg6 (K : Frag) : Sp:=fun vs H Q _=>∃ (a : Addr) (ws : List V) (es : List (Int×Int)),vs = [.ref a]∧H a = some (.lst ws)∧zam K H es ws∧es.length≤1000∧(∀ e∈es,zek 64 e)∧Rise es∧
 ∀ (p : Addr) (H' : Hp),H p = none→Same H H'→H' p = some (.lst ((za4 es).map V.bl))→Q (.ref p) H'
def zjL (K : Frag) : Sp:=fun vs H Q _=>∃ (a : Addr) (ws : List V) (es : List (Int×Int)),vs = [.ref a]∧H a = some (.lst ws)∧zam K H es ws∧es.length≤1000∧(∀ e∈es,zek 64 e)∧Rise es∧
 ∀ (p : Addr) (H' : Hp),H p = none→Same H H'→H' p = some (.lst (zb5 ws (za4 es)))→Q (.ref p) H'
theorem zfc {α : Type} (xs : List α) (m j : Nat) : (xs.drop m).take (j + 1) = xs[m]?.toList ++ (xs.drop (m + 1)).take j:=by
 by_cases h : m < xs.length
 ·rw [ybU h,yac h]
  rfl
 ·rw [ya0 (by omega),yaW (by omega),ya0 (by omega)]
  simp
theorem zcG (o : Option Bool) : o.toList.any id = o.getD false:=by
 cases o with
 | none=>rfl
 | some b=>cases b <;> rfl
theorem any3 (ms : List Bool) {k : Nat} (h : 1≤k) : ((ms.drop (k - 1)).take 3).any id = !zdx ms k:=by
 rw [zfc,zfc,zfc,ycq,ycq,ycq,zcG,zcG,zcG,show k - 1 + 1 = k by omega,ybA]
 unfold zdx
 rw [yad,yad,yad]
 generalize ms[k - 1]?.getD false = x
 generalize ms[k]?.getD false = y
 generalize ms[k + 1]?.getD false = z
 cases x <;> cases y <;> cases z <;> rfl
theorem zki (ms : List Bool) : inV (.bl true) (ms.map V.bl) = ms.any id:=by
 unfold inV
 induction ms with
 | nil=>rfl
 | cons m ms ih=>
  rw [yay,ybn,ih,ybn]
  cases m <;> rfl
theorem zmN (ms : List Bool) : (ms.map V.bl).all zgs = true:=by
 rw [ya7]
 intro x hx
 obtain ⟨n,_,rfl⟩:=yaI.mp hx
 rfl
theorem zpU {ms : List Bool} {k : Nat} {i j : Int} (h : 1≤k) (hi : i = (k : Int) - 1) (hj : j = (k : Int) + 2) : cutV (ms.map V.bl) (some i) (some j) = ((ms.drop (k - 1)).take 3).map V.bl:=by
 subst hi hj
 rw [show (k : Int) - 1 = ((k - 1 : Nat) : Int) by omega,show (k : Int) + 2 = ((k + 2 : Nat) : Int) by omega,zhH,show k + 2 - (k - 1) = 3 by omega,ybL,List.map_drop]
theorem zga {α : Type} {as : List α} {bs : List Bool} {a : α} {b : Bool} (h : as.length = bs.length) : zb5 (as ++ [a]) (bs ++ [b]) = zb5 as bs ++ (if b = true then [a] else []):=by
 unfold zb5
 rw [List.zip_append h,ya2,yal]
 congr 1
 cases b <;> rfl
theorem zgb {α : Type} (as : List α) (bs : List Bool) : (zb5 as bs).length≤as.length:=by
 unfold zb5
 rw [yab]
 refine yat (ybu _ _) ?_
 rw [ycl]
 omega
theorem zkl {α : Type} [Rep α] {K : Frag} {H : Hp} : ∀ {es : List α} {ws : List V} {ms : List Bool},zam K H es ws→zam K H (zb5 es ms) (zb5 ws ms)
 | _,_,_,.nil=>by
  unfold zb5
  exact .nil
 | e :: es,w :: ws,[],.cons h t=>by
  unfold zb5
  exact .nil
 | e :: es,w :: ws,m :: ms,.cons h t=>by
  have:=zkl (ms:=ms) t
  unfold zb5 at this ⊢
  cases m with
  | false=>exact this
  | true=>exact .cons h this
theorem zbR (bs : List Nat) (c : Nat) : ((List.range (c + 1)).filter fun c=>!decide (c∈bs)) = ((List.range c).filter fun c=>!decide (c∈bs)) ++ (if c∈bs then [] else [c]):=by
 rw [ybt,ya2]
 congr 1
 by_cases h : c∈bs
 ·rw [if_pos h]
  simp [List.filter,h]
 ·rw [if_neg h]
  simp [List.filter,h]
theorem zbP {H : Hp} {p t : Addr} {xs ys : List V} (h1 : H p = some (.lst xs)) (h2 : H t = some (.tup ys)) : p≠t:=fun z=>by
 rw [z,h2] at h1
 cases h1
theorem zfj {n k : Nat} (h : k < n) : ixN n (k : Int) = some k:=by
 unfold ixN
 simp
 omega
def besV (xs : List V) (k : Nat) : List V:=(if k = 0 then none else xs[k - 1]?).toList ++ xs[k + 1]?.toList
theorem zjg (xs : List V) (k : Nat) : (besV xs k).length≤2:=by
 have e : ∀ o : Option V,o.toList.length≤1:=fun o=>by cases o <;> simp
 unfold besV
 rw [yah]
 have:=e (if k = 0 then none else xs[k - 1]?)
 have:=e xs[k + 1]?
 omega
def spNb (K : Frag) : Sp:=fun vs H Q _=>∃ (a : Addr) (xs : List V) (k : Nat),vs = [.ref a,.int k]∧H a = some (.lst xs)∧
 ∀ (g : Addr) (H' : Hp),H g = none→Same H H'→H' g = some (.lst (besV xs k))→Q (.ref g) H'
theorem zht (T : Txt K mg) (D_neighbours : DF K mg "neighbours" zcr zbB) : FC P w K mg base 1 "neighbours" zbB (spNb K):=by
 refine D_neighbours.ok sc_neighbours (fun vs H Q E h=>?_) (fun f cdv A outer s H vs Q E hr h=>?_)
 ·obtain ⟨a,xs,k,rfl,_⟩:=h
  rfl
 obtain ⟨a,xs,k,rfl,ha,q⟩:=h
 refine ⟨_,(zah (zau (zas zl2 (zcz zfe (pv 0) (zbI (zaq (ze5 rfl) rfl T.m_max boot_max (zaa (zas zbq (pv 1) zae) (zaa zae zad)))) (zbI (pv 1))) (zcz zfe (pv 0) (zbI (zas zaZ (pv 1) zae)) (zbI (zas zaZ (pv 1) zae)))))),?_⟩
 refine ⟨_,rfl,_,rfl,_,_,rfl,rfl,_,_,rfl,_,rfl,_,rfl,_,rfl,_,_,rfl,SqL.of ha,fun b hb=>?_⟩
 have kb:=zai hb (.lst (cutV xs (some (if 0 > (k : Int) - 1 then 0 else (k : Int) - 1)) (some (k : Int))))
 have hbb : upd H b (.lst (cutV xs (some (if 0 > (k : Int) - 1 then 0 else (k : Int) - 1)) (some (k : Int)))) b = some (.lst (if k = 0 then none else xs[k - 1]?).toList):=by
  rw [zac,ziA (k:=k) (by split <;> split <;> omega) rfl]
 generalize upd H b (.lst (cutV xs (some (if 0 > (k : Int) - 1 then 0 else (k : Int) - 1)) (some (k : Int)))) = H3 at kb hbb ⊢
 refine ⟨_,rfl,_,rfl,_,_,rfl,rfl,_,rfl,_,rfl,_,_,rfl,rfl,_,rfl,_,_,rfl,SqL.of (kb _ _ ha),fun c hc=>?_⟩
 have kc:=zai hc (.lst (cutV xs (some ((k : Int) + 1)) (some ((k : Int) + 2))))
 have hcb:=kc _ _ hbb
 have hcc : upd H3 c (.lst (cutV xs (some ((k : Int) + 1)) (some ((k : Int) + 2)))) c = some (.lst xs[k + 1]?.toList):=by
  rw [zac,zgS (k:=k) rfl rfl]
 generalize upd H3 c (.lst (cutV xs (some ((k : Int) + 1)) (some ((k : Int) + 2)))) = H4 at kc hcb hcc ⊢
 refine ⟨b,c,_,_,rfl,rfl,hcb,hcc,?_,fun g hg=>?_⟩
 ·rw [← yah]
  exact yat (zjg xs k) (by decide)
 exact q g _ (kb.free (kc.free hg)) (kb.trans (kc.trans (zai hg _))) zac
def zox (K : Frag) : Sp:=fun vs H Q _=>∃ (a : Addr) (xs : List Nat) (k : Nat),vs = [.ref a]∧H a = some (.lst ((zaE xs k).map nV))∧
 ∀ H' : Hp,Same H H'→Q (.int (zcl xs k : Nat)) H'
theorem zhu (T : Txt K mg) (D_least_free : DF K mg "least_free" zcs zb2) : FC P w K mg base 1 "least_free" zb2 (zox K):=by
 refine D_least_free.ok sc_least_free (fun vs H Q E h=>?_) (fun f cdv A outer s H vs Q E hr h=>?_)
 ·obtain ⟨a,xs,k,rfl,_⟩:=h
  rfl
 obtain ⟨a,xs,k,rfl,ha,q⟩:=h
 refine ⟨_,(zah (zau (zaq (zm3 rfl) rfl T.m_min boot_min (zaa (zbJ (N:=["colour","taken"]) (own:=1) (cap:=[0]) rfl (zdj (zbe (zaa zae (zaa zae (zaa zae zad))))) ⟨rfl,rfl,rfl,rfl,rfl,rfl⟩ (fun _ _ _ _ _=>(zal (i:=0) (show List.Nodup (["colour","taken"] : List Str) by decide +kernel) rfl (Or.inl rfl))) (fun _ _ _ _ _=>(zdh (zaw (zeQ (K:=K)) (pv 0) (pv 1) (by with_unfolding_all rfl)))) (fun _ _ _ _ _=>(pv 0))) zad)))),?_⟩
 refine ⟨(by show 3≤sizeLine; decide),fun t ht=>?_⟩
 have st:=zai ht (.tup [V.int 0,V.int 1,V.int 2])
 have ht1 : upd H t (.tup [V.int 0,V.int 1,V.int 2]) t = some (.tup [V.int 0,V.int 1,V.int 2]):=zac
 generalize upd H t (.tup [V.int 0,V.int 1,V.int 2]) = H1 at st ht1 ⊢
 have h1a:=st _ _ ha
 refine ⟨t,rfl,⟨_,SqT.of ht1⟩,fun D hD=>?_⟩
 refine zdZ (xs:=[V.int 0,V.int 1,V.int 2]) (fun c σ H6=>∃ x0 : Option V,σ = [x0,some (.ref a)]∧H6 D = some (.lst (((List.range c).filter fun c=>!decide (c∈zaE xs k)).map nV))∧But D H1 H6) ?_ ?_ ?_ ?_
 ·exact ⟨_,rfl,zac,fun b o n e=>by rw [zag n]; exact e⟩
 ·rintro i σ H6 _ ⟨x0,rfl,_,k6⟩
  exact SqT.of (k6 _ _ (zab ht1 hD) ht1)
 ·rintro c m x σ H6 hx hm ⟨x0,rfl,h6,k6⟩
  obtain ⟨hi,rfl⟩ : c < 3∧x = V.int (c : Int):=by
   rcases c with _ | _ | _ | c
   ·exact ⟨by decide,(yae hx).symm⟩
   ·exact ⟨by decide,(yae hx).symm⟩
   ·exact ⟨by decide,(yae hx).symm⟩
   ·cases hx
  have h6g:=k6 _ _ (zab h1a hD) h1a
  have hlen:=ybu (fun c=>!decide (c∈zaE xs k)) (List.range c)
  rw [ya1] at hlen
  refine ⟨_,rfl,_,rfl,_,_,rfl,.inl (SqL.of h6g),rfl,zi9 _,_,rfl,?_⟩
  show if (!inV (.int (c : Int)) ((zaE xs k).map nV)) = true then _ else _
  rw [zmE]
  have hm3 : c + m = 3:=hm
  refine ite2 (fun e=>?_) (fun e=>?_)
  ·have e' : c∉zaE xs k:=fun z=>by
    rw [yam z] at e
    cases e
   refine ⟨_,rfl,_,h6,zan (by rw [yab]; omega),m - 1,by omega,(by show c + 1 + (m - 1) = 3; omega),_,rfl,?_,fun b o n e=>by rw [zag n]; exact k6 b o n e⟩
   rw [zac,zbR,if_neg e',yal]
   rfl
  ·have e' : c∈zaE xs k:=Decidable.byContradiction fun z=>e (by rw [yas z]; rfl)
   refine ⟨m - 1,by omega,(by show c + 1 + (m - 1) = 3; omega),_,rfl,?_,k6⟩
   rw [h6,zbR,if_pos e',yaE]
 ·rintro σ H6 ⟨x0,rfl,h6,k6⟩
  have h6 : H6 D = some (.lst (((List.range 3).filter fun c=>!decide (c∈zaE xs k)).map nV)):=h6
  have s6 : Same H1 H6:=fun b o e=>k6 b o (zab e hD) e
  have mem : ∀ c,c∈((List.range 3).filter fun c=>!decide (c∈zaE xs k))↔c < 3∧c∉zaE xs k:=fun c=>by
   rw [ya3,ya9]
   constructor
   ·rintro ⟨h1,h2⟩
    refine ⟨h1,fun z=>?_⟩
    rw [yam z] at h2
    cases h2
   ·rintro ⟨h1,h2⟩
    exact ⟨h1,by rw [yas h2]; rfl⟩
  have hf : zcl xs k∈((List.range 3).filter fun c=>!decide (c∈zaE xs k)):=(mem _).mpr ⟨Nat.lt_succ_of_le (ziv xs k),zgQ⟩
  refine ⟨D,((List.range 3).filter fun c=>!decide (c∈zaE xs k)).map fun n : Nat=>(n : Int),rfl,?_,?_,fun M hM hL=>?_⟩
  ·rw [ybB]
   exact SqL.of h6
  ·rw [yab]
   exact List.length_pos_of_mem hf
  have eM : M = (zcl xs k : Int):=by
   have h1:=hL _ (yaI.mpr ⟨_,hf,rfl⟩)
   obtain ⟨c,hc,rfl⟩:=yaI.mp hM
   have h2 : ¬ c < zcl xs k:=fun z=>((mem c).mp hc).2 (zfB z)
   omega
  rw [eM]
  exact q _ (st.trans s6)
theorem zpW (xs : List Nat) (k : Nat) : besV (xs.map nV) k = (zaE xs k).map nV:=zgj xs k
theorem zkP (T : Txt K mg) (D_colours : DF K mg "colours" zeC zdT) (F_neighbours : FC P w K mg base 1 "neighbours" zbB (spNb K)) (F_least_free : FC P w K mg base 1 "least_free" zb2 (zox K)) : FC P w K mg base 3 "colours" zdT (zep K):=by
 refine D_colours.ok sc_colours (fun vs H Q E h=>?_) (fun f cdv A outer s H vs Q E hr h=>?_)
 ·obtain ⟨a,xs,rfl,_⟩:=h
  rfl
 obtain ⟨a,xs,rfl,hS,hu,hb,hz,q⟩:=h
 refine ⟨_,(zaf (zap (i:=1) sc_colours.nd rfl (Or.inl rfl) (zbf zcB rfl T.m_list boot_list (zaa (pv 0) zad)))
   (zaf (zaK PassesOwn.never rfl (zdj (zbe (zaa zae (zaa zae (zaa zae zad))))) (zal (i:=2) sc_colours.nd rfl (Or.inl rfl)) (zah (zaK PassesOwn.never rfl (zaU rfl T.m_range (zaa (zaq zar rfl T.m_len boot_len (zaa (pv 0) zad)) zad)) (zal (i:=3) sc_colours.nd rfl (Or.inl rfl)) (zah (zbS (zaw zdr (zaz zax (pv 1) (pv 3) (fun _ _=>rfl)) (pv 2) (zaH _)) (zah (zfu (zaA F_least_free hr (zaa (zaA F_neighbours hr (zaa (pv 1) (zaa (pv 3) zad))) zad)) (zgF (pv 1) (pv 3) zdB))) zaO)))))
   (zah (zau (pv 1))))),?_⟩
 refine ⟨_,rfl,a,_,rfl,.inl hS,fun p hp=>?_⟩
 have k0 : But p H (upd H p (.lst (xs.map nV))):=fun b o n e=>by rw [zag n]; exact e
 refine ⟨(by show 3≤sizeLine; decide),fun t ht=>?_⟩
 have npt : p≠t:=zab zac ht
 refine ⟨t,rfl,⟨_,SqT.of zac⟩,?_⟩
 refine zfl (xs:=[V.int 3,V.int 4,V.int 5]) (fun i σ H2=>∃ x2 x3 : Option V,σ = [some (.ref a),some (.ref p),x2,x3]∧H2 p = some (.lst ((colN xs i).map nV))∧H2 t = some (.tup [V.int 3,V.int 4,V.int 5])∧But p H H2) ?_ ?_ ?_ ?_
 ·exact ⟨_,_,rfl,by rw [zag npt]; exact zac,zac,k0.new ht _⟩
 ·rintro i σ H2 _ ⟨x2,x3,rfl,_,h2t,_⟩
  exact SqT.of h2t
 ·rintro i x σ H2 hx ⟨x2,x3,rfl,h2,h2t,k2⟩
  obtain ⟨hi,rfl⟩ : i < 3∧x = V.int ((3 + i : Nat) : Int):=by
   rcases i with _ | _ | _ | i
   ·exact ⟨by decide,(yae hx).symm⟩
   ·exact ⟨by decide,(yae hx).symm⟩
   ·exact ⟨by decide,(yae hx).symm⟩
   ·cases hx
  have hyl:=zgf xs i
  have hyu:=zkr hu i
  have hnx : colN xs (i + 1) = recL (3 + i) (colN xs i):=rfl
  rw [hnx]
  generalize colN xs i = ys at h2 hyl hyu ⊢
  generalize 3 + i = v
  have hSa : SqL K H2 a (xs.map nV):=k2.sq hS hp
  refine ⟨_,rfl,_,_,rfl,.inl hSa,_,rfl,by rw [yab]; omega,by rw [yab]; omega,?_⟩
  have el : ((((xs.map nV).length : Nat) : Int)).toNat = ys.length:=by rw [yab,yba,hyl]
  rw [el]
  refine za1 (n:=ys.length) (fun k σ H3=>∃ x3 : Option V,σ = [some (.ref a),some (.ref p),some (.int v),x3]∧H3 p = some (.lst ((mixL v ys k).map nV))∧H3 t = some (.tup [V.int 3,V.int 4,V.int 5])∧But p H H3) ?_ ?_ ?_
  ·exact ⟨_,rfl,h2,h2t,k2⟩
  ·rintro k σ H3 hk ⟨x3,rfl,h3,h3t,k3⟩
   rw [ybd]
   have ml:=zed v ys k
   have eg : (mixL v ys k).getD k 0 = ys.getD k 0:=by
    rw [yad,zml (yaa k),← yad]
   have hat : atI ((mixL v ys k).map nV) (k : Int) = some (nV (ys.getD k 0)):=by
    rw [← eg]
    exact zd6 (by omega)
   refine ⟨_,rfl,_,rfl,_,_,_,_,rfl,rfl,SqL.of h3,hat,_,rfl,rfl,_,rfl,?_⟩
   refine ite2 (fun c=>?_) (fun c=>?_)
   ·have c' : ys.getD k 0 = v:=by
     have:=V.int.inj (yaC c)
     omega
    refine ⟨_,rfl,_,rfl,p,_,k,rfl,h3,fun g H4 hg s4 h4=>?_⟩
    rw [zpW,zf5 hyu hk c'] at h4
    refine ⟨g,ys,k,rfl,h4,fun H5 s5=>?_⟩
    have s35:=s4.trans s5
    have same : ∀ b o,b≠p→H3 b = some o→upd H5 p (.lst (((mixL v ys k).map nV).set k (nV (zcl ys k)))) b = some o:=fun b o n e=>by
     rw [zag n]
     exact s35 _ _ e
    refine ⟨_,rfl,_,rfl,_,_,_,k,rfl,rfl,s35 _ _ h3,zfj (by rw [yab,ml]; exact hk),?_⟩
    refine ⟨_,rfl,?_,same _ _ (Ne.symm (zbP h3 h3t)) h3t,fun b o n e=>same _ _ n (k3 b o n e)⟩
    rw [zac,zj4 hk c',yb7]
   ·have c' : ys.getD k 0≠v:=fun z=>c (by rw [z]; exact yam rfl)
    exact ⟨_,rfl,by rw [zih hk c']; exact h3,h3t,k3⟩
  ·rintro σ H3 ⟨x3,rfl,h3,h3t,k3⟩
   rw [zj5 (yaa _)] at h3
   exact ⟨_,_,rfl,h3,h3t,k3⟩
 ·rintro σ H2 ⟨x2,x3,rfl,h2,_,k2⟩
  refine ⟨_,rfl,?_⟩
  exact q p H2 hp (fun b o e=>k2 b o (zab e hp) e) h2
def zdy (ms : List Bool) (k : Nat) : Bool:=!ms.getD (k - 1) false && !ms.getD (k + 1) false
def besB (ms : List Bool) (k : Nat) : List Bool:=(if k = 0 then none else ms[k - 1]?).toList ++ ms[k + 1]?.toList
theorem zpX (ms : List Bool) (k : Nat) : besV (ms.map V.bl) k = (besB ms k).map V.bl:=by
 unfold besV besB
 rw [yal,yaj,yaj]
 congr 1
 ·split
  ·rfl
  ·cases ms[k - 1]? <;> rfl
 ·cases ms[k + 1]? <;> rfl
theorem zoh {ms : List Bool} {k : Nat} (h : 1≤k) : (besB ms k).any id = !zdy ms k:=by
 unfold besB zdy
 rw [if_neg (by omega),ycq,zcG,zcG,yad,yad]
 generalize ms[k - 1]?.getD false = x
 generalize ms[k + 1]?.getD false = z
 cases x <;> cases z <;> rfl
theorem ziX {sh : Nat} {cs : List Nat} {ms : List Bool} (hu : Unl cs) (hl : cs.length = ms.length) {k : Nat} (h : k < cs.length) (h1 : 1≤k) (hs : cs.getD k 0 = sh) : zdy (mixM sh cs ms k) k = zdy ms k:=by
 unfold zdy
 have e : ∀ j,k≤j→(mixM sh cs ms k).getD j false = ms.getD j false:=fun j hj=>by
  rw [yad,yad,zbw hl,if_neg (by omega)]
 rw [e (k + 1) (by omega)]
 have e2 : (mixM sh cs ms k).getD (k - 1) false = ms.getD (k - 1) false:=by
  rw [yad,zbw hl,if_pos (by omega),zb9 hl (by omega)]
  have:=hu (k - 1) (by omega)
  rw [show k - 1 + 1 = k by omega,hs] at this
  rw [yas this]
  simp
 rw [e2]
theorem zgH {sh : Nat} {cs : List Nat} {ms : List Bool} (hl : cs.length = ms.length) {k : Nat} (h : k < cs.length) (hn : ¬ (cs.getD k 0 = sh∧zdy ms k = true)) : mixM sh cs ms (k + 1) = mixM sh cs ms k:=by
 apply ybi
 intro j
 rw [zbw hl,zbw hl]
 by_cases c : j < k
 ·rw [if_pos c,if_pos (by omega)]
 ·rw [if_neg c]
  split
  ·have : j = k:=by omega
   subst this
   rw [zb9 hl h]
   unfold zdy at hn
   rw [yac (by omega)]
   have e : ms.getD j false = ms[j]'(by omega):=by
    rw [yad,yac (by omega)]
    rfl
   rw [e]
   congr 1
   generalize ms[j] = a
   generalize ms.getD (j - 1) false = b at hn ⊢
   generalize ms.getD (j + 1) false = d at hn ⊢
   by_cases z : cs.getD j 0 = sh
   ·have hn' : ¬ ((!b && !d) = true):=fun y=>hn ⟨z,y⟩
    cases b with
    | true=>simp
    | false=>
     cases d with
     | true=>simp
     | false=>exact absurd rfl hn'
   ·rw [yas z]
    simp
  ·rfl
theorem zmj {sh : Nat} {cs : List Nat} {ms : List Bool} (hl : cs.length = ms.length) {k : Nat} (h : k < cs.length) (hp : 1≤k∧cs.getD k 0 = sh∧zdy ms k = true) : mixM sh cs ms (k + 1) = (mixM sh cs ms k).set k true:=by
 apply ybi
 intro j
 rw [yb5,zc0 hl,zbw hl,zbw hl]
 by_cases c : k = j
 ·subst c
  rw [if_pos rfl,if_pos h,if_pos (by omega),zb9 hl h]
  obtain ⟨p1,p2,p3⟩:=hp
  unfold zdy at p3
  simp only [ybf,ybp] at p3
  rw [p2,p3.1,p3.2,yam p1]
  simp
 ·rw [if_neg c]
  by_cases c2 : j < k
  ·rw [if_pos c2,if_pos (by omega)]
  ·rw [if_neg c2,if_neg (by omega)]
theorem znJ (T : Txt K mg) (D_marks : DF K mg "marks" zhb zfR) (F_labels : FC P w K mg base 3 "labels" zeI (zjD K)) (F_colours : FC P w K mg base 3 "colours" zdT (zep K)) (F_neighbours : FC P w K mg base 1 "neighbours" zbB (spNb K)) : FC P w K mg base 5 "marks" zfR (zg6 K):=by
 refine D_marks.ok sc_marks (fun vs H Q E h=>?_) (fun f cdv A outer s H vs Q E hr h=>?_)
 ·obtain ⟨a,ws,es,rfl,_⟩:=h
  rfl
 obtain ⟨a,ws,es,rfl,ha,hw,hz,he,hri,q⟩:=h
 refine ⟨_,(zaf (zap (i:=1) sc_marks.nd rfl (Or.inl rfl) (zaA F_colours hr (zaa (zaA F_labels hr (zaa (pv 0) zad)) zad)))
   (zaf (zd8 (i:=2) (N:=["tint"]) (own:=1) (cap:=[]) sc_marks.nd rfl rfl rfl (zbC (pv 1)) ⟨rfl,rfl,rfl,rfl,rfl,rfl⟩ (fun _ _ _ _ _=>(zal (i:=0) (show List.Nodup (["tint"] : List Str) by decide +kernel) rfl (Or.inl rfl))) (fun _ _ _ _ _=>zbH) (fun _ _ _ _ _=>zea))
   (zaf (zaK PassesOwn.never rfl (zdj (zbe (zaa zae (zaa zae (zaa zae zad))))) (zal (i:=3) sc_marks.nd rfl (Or.inl rfl)) (zah (zaK PassesOwn.never rfl (zdk rfl T.m_range (zaa zae (zaa (zaq zar rfl T.m_len boot_len (zaa (pv 1) zad)) zad))) (zal (i:=4) sc_marks.nd rfl (Or.inl rfl)) (zah (zbS (PW.pt (zh7 (zaw zdr (zaz zax (pv 1) (pv 4) (fun _ _=>rfl)) (pv 3) (zaH _)) (zf0 (zaw zdq zea (zaA F_neighbours hr (zaa (pv 2) (zaa (pv 4) zad))) (by with_unfolding_all rfl))))) (zah (zfu zea (zgF (pv 2) (pv 4) zdB))) zaO)))))
   (zah (zau (pv 2)))))),?_⟩
 refine ⟨_,rfl,a,ws,es,rfl,SqL.of ha,hw,hz,he,hri,fun p H3 hp s3 h3=>?_⟩
 refine ⟨p,_,rfl,SqL.of h3,zf7 he hri,zf8 he hri,by rw [zbd,zaD]; exact hz,fun c H4 hc s4 h4=>?_⟩
 have cu : Unl (colL (zcd 5 (zbL es))):=zll (zhI (unlZ (zf7 he hri)))
 have cl : (colL (zcd 5 (zbL es))).length = es.length:=by rw [zei,zbd,zaD]
 have fin : za4 es = mkN (colL (zcd 5 (zbL es))) 3:=(zig _).symm
 generalize colL (zcd 5 (zbL es)) = cs at h4 cu cl fin
 have s04:=s3.trans s4
 refine ⟨_,rfl,c,rfl,⟨_,SqL.of h4⟩,fun F hF=>?_⟩
 refine zbU (xs:=cs.map nV) (fun i σ H5=>∃ x0 : Option V,σ = [x0]∧H5 F = some (.lst ((List.replicate i false).map V.bl))∧But F H4 H5) ?_ ?_ ?_ ?_
 ·exact ⟨_,rfl,zac,fun b o n e=>by rw [zag n]; exact e⟩
 ·rintro i σ H5 _ ⟨x0,rfl,_,k5⟩
  exact k5.sq (SqL.of h4) hF
 ·rintro i m x σ H5 hx hm ⟨x0,rfl,h5,k5⟩
  have hi:=(yag.mp hx).1
  rw [yab] at hi hm
  refine zdc ?_
  refine ⟨_,h5,zan (by rw [yab,ybe]; omega),m - 1,by omega,by rw [yab]; omega,_,rfl,?_,fun b o n e=>by rw [zag n]; exact k5 b o n e⟩
  rw [zac,List.replicate_succ',yal]
  rfl
 rintro σ H5 ⟨x0,rfl,h5,k5⟩
 have s45 : Same H4 H5:=fun b o e=>k5 b o (zab e hF) e
 have h5c:=s45 _ _ h4
 have nFc : c≠F:=zab h4 hF
 have hF0 : H F = none:=s04.free hF
 have k05 : But F H H5:=fun b o _ e=>s45 _ _ (s04 _ _ e)
 have e5 : H5 F = some (.lst ((mkN cs 0).map V.bl)):=by
  rw [h5,mkN,yab,show List.replicate cs.length false = cs.map (fun _=>false) from by rw [List.map_const']]
 refine ⟨(by show 3≤sizeLine; decide),fun t ht=>?_⟩
 have st:=zai ht (.tup [V.int 2,V.int 1,V.int 0])
 refine ⟨t,rfl,⟨_,SqT.of zac⟩,?_⟩
 refine zfl (xs:=[V.int 2,V.int 1,V.int 0]) (fun i σ H6=>∃ (x3 x4 : Option V),σ = [some (.ref a),some (.ref c),some (.ref F),x3,x4]∧H6 F = some (.lst ((mkN cs i).map V.bl))∧H6 c = some (.lst (cs.map nV))∧H6 t = some (.tup [V.int 2,V.int 1,V.int 0])∧But F H H6) ?_ ?_ ?_ ?_
 ·exact ⟨_,_,rfl,st _ _ e5,st _ _ h5c,zac,k05.new ht _⟩
 ·rintro i σ H6 _ ⟨x3,x4,rfl,_,_,h6t,_⟩
  exact SqT.of h6t
 ·rintro i x σ H6 hx ⟨x3,x4,rfl,h6,h6c,h6t,k6⟩
  obtain ⟨hi,rfl⟩ : i < 3∧x = V.int ((2 - i : Nat) : Int):=by
   rcases i with _ | _ | _ | i
   ·exact ⟨by decide,(yae hx).symm⟩
   ·exact ⟨by decide,(yae hx).symm⟩
   ·exact ⟨by decide,(yae hx).symm⟩
   ·cases hx
  have hml:=zgG cs i
  have hnx : mkN cs (i + 1) = zbW (2 - i) cs (mkN cs i):=rfl
  rw [hnx]
  generalize mkN cs i = ms at h6 hml ⊢
  generalize 2 - i = sh
  refine ⟨_,rfl,_,_,rfl,.inl (SqL.of h6c),1,_,rfl,⟨by omega,by omega,by rw [yab]; omega,by rw [yab]; omega⟩,?_⟩
  have en : ((((cs.map nV).length : Nat) : Int) - 1).toNat = cs.length - 1:=by rw [yab]; omega
  rw [en]
  have km : ∀ k,(mixM sh cs ms k).length = cs.length:=zc0 hml
  refine za1 (n:=cs.length - 1) (fun j σ H7=>∃ (x4 : Option V),σ = [some (.ref a),some (.ref c),some (.ref F),some (.int sh),x4]∧H7 F = some (.lst ((mixM sh cs ms (1 + j)).map V.bl))∧H7 c = some (.lst (cs.map nV))∧H7 t = some (.tup [V.int 2,V.int 1,V.int 0])∧But F H H7) ?_ ?_ ?_
  ·exact ⟨_,rfl,by rw [zj2 hml]; exact h6,h6c,h6t,k6⟩
  ·rintro j σ H7 hj ⟨x4,rfl,h7,h7c,h7t,k7⟩
   have ek : (1 : Int) + (j : Int) = ((1 + j : Nat) : Int):=by omega
   have hk1 : 1≤1 + j:=by omega
   have hkl : 1 + j < cs.length:=by omega
   rw [ek]
   have es1 : 1 + (j + 1) = 1 + j + 1:=by omega
   rw [es1]
   generalize 1 + j = k at h7 hk1 hkl ⊢
   have hat:=zd6 (xs:=cs) hkl
   have mc : cs.getD k 0 = sh→zdy (mixM sh cs ms k) k = zdy ms k:=fun z=>ziX cu hml hkl hk1 z
   refine ⟨_,rfl,_,rfl,_,_,_,_,rfl,rfl,SqL.of h7c,hat,_,rfl,rfl,_,rfl,?_⟩
   refine ite2 (fun e=>?_) (fun e=>?_)
   ·have e' : cs.getD k 0 = sh:=by
     have:=V.int.inj (yaC e)
     omega
    refine ⟨_,rfl,_,rfl,F,_,k,rfl,h7,fun b H8 hb sb hbb=>?_⟩
    rw [zpX] at hbb
    have kb : But F H H8:=fun x o n e=>sb _ _ (k7 x o n e)
    refine ⟨_,_,rfl,.inl (SqL.of hbb),rfl,zmN _,_,rfl,?_⟩
    show if (!inV (.bl true) ((besB (mixM sh cs ms k) k).map V.bl)) = true then _ else _
    rw [zki,zoh hk1,mc e',Bool.not_not]
    refine ite2 (fun y=>?_) (fun y=>?_)
    ·refine ⟨_,rfl,_,rfl,_,_,_,k,rfl,rfl,sb _ _ h7,zfj (by rw [yab,km]; exact hkl),?_⟩
     have same : ∀ b o,b≠F→H8 b = some o→upd H8 F (.lst (((mixM sh cs ms k).map V.bl).set k (.bl true))) b = some o:=fun b o n e=>by
      rw [zag n]
      exact e
     refine ⟨_,rfl,?_,same _ _ (fun z=>?_) (sb _ _ h7c),same _ _ (Ne.symm (zbP (sb _ _ h7) (sb _ _ h7t))) (sb _ _ h7t),fun b o n e=>same _ _ n (kb b o n e)⟩
     ·rw [zac,zmj hml hkl ⟨hk1,e',y⟩,yb7]
     ·exact nFc z
    ·exact ⟨_,rfl,by rw [zgH hml hkl (fun z=>y z.2)]; exact sb _ _ h7,sb _ _ h7c,sb _ _ h7t,kb⟩
   ·have e' : cs.getD k 0≠sh:=fun z=>e (by rw [z]; exact yam rfl)
    refine iteF ?_
    exact ⟨_,rfl,by rw [zgH hml hkl (fun z=>e' z.1)]; exact h7,h7c,h7t,k7⟩
  ·rintro σ H7 ⟨x4,rfl,h7,h7c,h7t,k7⟩
   rw [zj3 hml (by omega)] at h7
   exact ⟨_,_,rfl,h7,h7c,h7t,k7⟩
 ·rintro σ H6 ⟨x3,x4,rfl,h6,_,_,k6⟩
  refine ⟨_,rfl,?_⟩
  refine q F H6 hF0 (fun b o e=>k6 b o (zab e hF0) e) ?_
  rw [fin]
  exact h6
theorem zn8 {α : Type} : zb5 ([] : List α) [] = []:=rfl
theorem zqY {ms : List Bool} {i : Nat} {x : V} (h : (ms.map V.bl)[i]? = some x) : ∃ hi : i < ms.length,x = .bl ms[i]:=by
 rw [yaj] at h
 cases e : ms[i]? with
 | none=>rw [e] at h; cases h
 | some y=>
  rw [e] at h
  obtain ⟨hi,rfl⟩:=yag.mp e
  exact ⟨hi,(yae h).symm⟩
theorem zem {α : Type} {l : List α} {i : Nat} (h : i < l.length) : l.take (i + 1) = l.take i ++ [l[i]]:=yaF h
theorem zme (T : Txt K mg) (D_handed : DF K mg "handed" zfO zeO) (F_marks : FC P w K mg base 5 "marks" zfR (zg6 K)) : FC P w K mg base 6 "handed" zeO (zjL K):=by
 refine D_handed.ok sc_handed (fun vs H Q E h=>?_) (fun f cdv A outer s H vs Q E hr h=>?_)
 ·obtain ⟨a,ws,es,rfl,_⟩:=h
  rfl
 obtain ⟨a,ws,es,rfl,ha,hw,hz,he,hri,q⟩:=h
 have hwl:=hw.length
 have hml:=za8 es
 refine ⟨_,(zah (zau (zbJ (N:=["entry","mark"]) (own:=2) (cap:=[]) rfl (zjT rfl T.m_zip (zaa (pv 0) (zaa (zaA F_marks hr (zaa (pv 0) zad)) zad))) ⟨rfl,rfl,rfl,rfl,rfl,rfl⟩ (fun _ _ _ _ _=>(zlW (K:=K) (n:=2) rfl (zaP (zal (i:=0) (show List.Nodup (["entry","mark"] : List Str) by decide +kernel) rfl (Or.inl rfl)) (zaP (zal (i:=1) (show List.Nodup (["entry","mark"] : List Str) by decide +kernel) rfl (Or.inl rfl)) zcZ)))) (fun _ _ _ _ _=>(zdh (zdi (pv 1)))) (fun _ _ _ _ _=>(pv 0))))),?_⟩
 refine ⟨_,rfl,_,rfl,a,ws,es,rfl,ha,hw,hz,he,hri,fun u H6 hu g6 h6u=>?_⟩
 have h6p:=g6 _ _ ha
 generalize za4 es = ms at hml h6u q
 refine ⟨a,u,rfl,⟨_,SqL.of h6p⟩,⟨_,SqL.of h6u⟩,fun D hD=>?_⟩
 refine zkq (xs:=ws) (ys:=ms.map V.bl) (by rw [yab,hml]; exact hwl.symm) (fun j σ H7=>∃ x0 x1 : Option V,σ = [x0,x1]∧H7 D = some (.lst (zb5 (ws.take j) (ms.take j)))∧But D H6 H7) ?_ ?_ ?_ ?_
 ·exact ⟨_,_,rfl,by rw [ybA,ybA,zn8]; exact zac,fun b o n e=>by rw [zag n]; exact e⟩
 ·rintro j σ H7 _ ⟨x0,x1,rfl,_,k7⟩
  exact ⟨k7.sq (SqL.of h6p) hD,k7.sq (SqL.of h6u) hD⟩
 ·rintro j m' x y σ H7 r' hx hy hm' ⟨x0,x1,rfl,h7,k7⟩ hr'
  obtain ⟨hj,rfl⟩:=zqY hy
  obtain ⟨hjw,rfl⟩:=yag.mp hx
  have hsn:=zga (a:=ws[j]) (b:=ms[j]) (show (ws.take j).length = (ms.take j).length by rw [yak,yak]; omega)
  rw [← zem hjw,← zem hj] at hsn
  refine ⟨r',_,rfl,SqT.of zac,rfl,_,_,rfl,_,_,rfl,rfl,?_⟩
  have s7:=zai hr' (.tup [ws[j],.bl ms[j]])
  have h8:=s7 _ _ h7
  have k8:=k7.new hr' (.tup [ws[j],.bl ms[j]])
  generalize upd H7 r' (.tup [ws[j],.bl ms[j]]) = H8 at h8 k8 ⊢
  refine ⟨_,rfl,_,rfl,?_⟩
  have hl8:=zgb (ws.take j) (ms.take j)
  rw [yak] at hl8
  refine ite2 (fun e=>?_) (fun e=>?_)
  ·refine ⟨_,rfl,_,h8,zan (by omega),m' - 1,by omega,by omega,_,_,rfl,?_,fun b o n e=>by rw [zag n]; exact k8 b o n e⟩
   rw [zac,hsn,if_pos e]
  ·refine ⟨m' - 1,by omega,by omega,_,_,rfl,?_,k8⟩
   rw [h8,hsn,if_neg e,yaE]
 ·rintro σ H7 ⟨x0,x1,rfl,h7,k7⟩
  rw [yaq (yaa _),yaq (by omega)] at h7
  have s7 : Same H6 H7:=fun b o e=>k7 b o (zab e hD) e
  exact q D H7 (g6.free hD) (g6.trans s7) h7
theorem ziJ {v : Nat} {xs : List Nat} {k : Nat} : ((List.range (k + 1)).filter fun k=>decide (xs.getD k 0 = v)) = ((List.range k).filter fun k=>decide (xs.getD k 0 = v)) ++ (if xs.getD k 0 = v then [k] else []):=by
 rw [ybt,ya2]
 congr 1
 by_cases h : xs.getD k 0 = v
 ·rw [if_pos h,ya8 (by exact yam h)]
  rfl
 ·rw [if_neg h,ybj (by rw [yas h]; decide)]
  rfl
theorem ziV (T : Txt K mg) (D_l_colours : DF K mg "_law_colours" zcR zcw) : FC P w K mg base 1 "_law_colours" zcw (zep K):=by
 refine D_l_colours.ok sc_l_colours (fun vs H Q E h=>?_) (fun f cdv A outer s H vs Q E hr h=>?_)
 ·obtain ⟨a,xs,rfl,_⟩:=h
  rfl
 obtain ⟨a,xs,rfl,hS,hu,hb,hz,q⟩:=h
 refine ⟨_,(zaf (zap (i:=1) sc_l_colours.nd rfl (Or.inr rfl) (zbf zcB rfl T.m_list boot_list (zaa (pv 0) zad)))
   (zaf (zaK PassesOwn.never rfl (zdj (zbe (zaa zae (zaa zae (zaa zae zad))))) (zal (i:=2) sc_l_colours.nd rfl (Or.inr rfl)) (zaf (zd8 (i:=3) (N:=["_law_k","_law_found","_law_high"]) (own:=1) (cap:=[1,2]) sc_l_colours.nd rfl rfl rfl (zaU rfl T.m_range (zaa (zaq zar rfl T.m_len boot_len (zaa (pv 1) zad)) zad)) ⟨rfl,rfl,rfl,rfl,rfl,rfl⟩ (fun _ _ _ _ _=>(zal (i:=0) (show List.Nodup (["_law_k","_law_found","_law_high"] : List Str) by decide +kernel) rfl (Or.inl rfl))) (fun _ _ _ _ _=>(zdh (zaw zdr (zaz (zfU (K:=K)) (pv 1) (pv 0) (fun _ _=>rfl)) (pv 2) (zaH _)))) (fun _ _ _ _ _=>(pv 0)))
   (zah (zaK PassesOwn.never rfl (zbC (pv 3)) (zal (i:=4) sc_l_colours.nd rfl (Or.inl rfl)) (zaf (zap (i:=5) sc_l_colours.nd rfl (Or.inr rfl) (zas zl2 (zcz zfe (pv 1) (zbI (zaq (ze5 rfl) rfl T.m_max boot_max (zaa zae (zaa (zas zbq (pv 4) zae) zad)))) (zbI (pv 4))) (zcz zfe (pv 1) (zbI (zas zaZ (pv 4) zae)) (zbI (zas zaZ (pv 4) zae)))))
   (zah (zfu (zaz zax (zbJ (N:=["_law_colour","_law_beside"]) (own:=1) (cap:=[5]) rfl (zaU rfl T.m_range (zaa zae zad)) ⟨rfl,rfl,rfl,rfl,rfl,rfl⟩ (fun _ _ _ _ _=>(zal (i:=0) (show List.Nodup (["_law_colour","_law_beside"] : List Str) by decide +kernel) rfl (Or.inl rfl))) (fun _ _ _ _ _=>(zdh (zaw (zeQ (K:=K)) (pv 0) (pv 1) (by with_unfolding_all rfl)))) (fun _ _ _ _ _=>(pv 0))) zae (fun _ _=>rfl)) (zgF (pv 1) (pv 4) zdB))))))))
   (zah (zau (pv 1))))),?_⟩
 refine ⟨_,rfl,a,_,rfl,.inl hS,fun p hp=>?_⟩
 have k0 : But p H (upd H p (.lst (xs.map nV))):=fun b o n e=>by rw [zag n]; exact e
 refine ⟨(by show 3≤sizeLine; decide),fun t ht=>?_⟩
 have npt : p≠t:=zab zac ht
 refine ⟨t,rfl,⟨_,SqT.of zac⟩,?_⟩
 refine zfl (xs:=[V.int 3,V.int 4,V.int 5]) (fun i σ H2=>∃ x2 x3 x4 x5 : Option V,σ = [some (.ref a),some (.ref p),x2,x3,x4,x5]∧H2 p = some (.lst ((colN xs i).map nV))∧H2 t = some (.tup [V.int 3,V.int 4,V.int 5])∧But p H H2) ?_ ?_ ?_ ?_
 ·exact ⟨_,_,_,_,rfl,by rw [zag npt]; exact zac,zac,k0.new ht _⟩
 ·rintro i σ H2 _ ⟨x2,x3,x4,x5,rfl,_,h2t,_⟩
  exact SqT.of h2t
 ·rintro i x σ H2 hx ⟨x2,x3,x4,x5,rfl,h2,h2t,k2⟩
  obtain ⟨hi,rfl⟩ : i < 3∧x = V.int ((3 + i : Nat) : Int):=by
   rcases i with _ | _ | _ | i
   ·exact ⟨by decide,(yae hx).symm⟩
   ·exact ⟨by decide,(yae hx).symm⟩
   ·exact ⟨by decide,(yae hx).symm⟩
   ·cases hx
  have hyl:=zgf xs i
  have hyu:=zkr hu i
  have hnx : colN xs (i + 1) = recL (3 + i) (colN xs i):=rfl
  rw [hnx]
  generalize colN xs i = ys at h2 hyl hyu ⊢
  generalize 3 + i = v
  refine ⟨_,rfl,_,_,rfl,.inl (SqL.of h2),_,rfl,by rw [yab]; omega,by rw [yab]; omega,fun D hD=>?_⟩
  have el : ((((ys.map nV).length : Nat) : Int)).toNat = ys.length:=by rw [yab,yba]
  rw [el]
  refine zcb (n:=ys.length) (fun k σ H3=>∃ x0 : Option V,σ = [x0,some (.ref p),some (.int v)]∧H3 D = some (.lst (((List.range k).filter fun k=>decide (ys.getD k 0 = v)).map nV))∧But D H2 H3) ?_ ?_ ?_
  ·exact ⟨_,rfl,zac,fun b o n e=>by rw [zag n]; exact e⟩
  ·rintro k m σ H3 hm hk ⟨x0,rfl,h3,k3⟩
   have h3p : H3 p = some (.lst (ys.map nV)):=k3 _ _ (zab h2 hD) h2
   have hat : atI (ys.map nV) (0 + (k : Int)) = some (nV (ys.getD k 0)):=by
    rw [ybd]
    exact zd6 hk
   have hlen:=ybu (fun k=>decide (ys.getD k 0 = v)) (List.range k)
   rw [ya1] at hlen
   refine ⟨_,rfl,_,rfl,_,_,_,_,rfl,rfl,SqL.of h3p,hat,_,rfl,rfl,_,rfl,?_⟩
   refine ite2 (fun c=>?_) (fun c=>?_)
   ·have c' : ys.getD k 0 = v:=by
     have:=V.int.inj (yaC c)
     omega
    refine ⟨_,rfl,_,h3,zan (by rw [yab]; omega),m - 1,by omega,by omega,_,rfl,?_,fun b o n e=>by rw [zag n]; exact k3 b o n e⟩
    rw [zac,ziJ,if_pos c',yal,ybd]
    rfl
   ·have c' : ys.getD k 0≠v:=fun z=>c (by rw [z]; exact yam rfl)
    refine ⟨m - 1,by omega,by omega,_,rfl,?_,k3⟩
    rw [h3,ziJ,if_neg c',yaE]
  ·rintro σ H3 ⟨x0,rfl,h3,k3⟩
   have h3 : H3 D = some (.lst ((atsL v ys).map nV)):=h3
   have h3p : H3 p = some (.lst (ys.map nV)):=k3 _ _ (zab h2 hD) h2
   have h3t:=k3 _ _ (zab h2t hD) h2t
   have kk3 : But p H H3:=fun b o n e=>k3 b o (zab (k2 b o n e) hD) (k2 b o n e)
   have npD : p≠D:=zab h2 hD
   have A:=zgl v ys
   refine ⟨_,rfl,D,rfl,⟨_,SqL.of h3⟩,?_⟩
   refine zc5 (xs:=(atsL v ys).map nV) (fun j σ H4=>∃ x4 x5 : Option V,σ = [some (.ref a),some (.ref p),some (.int v),some (.ref D),x4,x5]∧H4 p = some (.lst ((mixL v ys ((atsL v ys).getD j ys.length)).map nV))∧H4 D = some (.lst ((atsL v ys).map nV))∧H4 t = some (.tup [V.int 3,V.int 4,V.int 5])∧But p H H4) ?_ ?_ ?_ ?_
   ·exact ⟨_,_,rfl,by rw [zmi]; exact h3p,h3,h3t,kk3⟩
   ·rintro j σ H4 _ ⟨x4,x5,rfl,_,h4D,_⟩
    exact SqL.of h4D
   ·rintro j x σ H4 hx ⟨x4,x5,rfl,h4,h4D,h4t,k4⟩
    obtain ⟨hj,rfl⟩:=zgN hx
    have eg : (atsL v ys).getD j 0 = (atsL v ys)[j]:=by
     rw [yad,yac hj]
     rfl
    have eg2 : (atsL v ys).getD j ys.length = (atsL v ys)[j]:=by
     rw [yad,yac hj]
     rfl
    obtain ⟨g1,g2⟩:=A.get hj
    have nx:=znU hj
    rw [eg2] at h4
    rw [eg]
    generalize (atsL v ys)[j] = k at h4 g1 g2 nx ⊢
    have g2 : ys.getD k 0 = v:=yaC g2
    have hb2:=zf5 hyu g1 g2
    have ml:=zed v ys k
    refine zo5 (k:=k) rfl rfl rfl h4 fun g H5 hg s5 h5=>?_
    rw [hb2] at h5
    have h5p:=s5 _ _ h4
    have npg : p≠g:=zab h4 hg
    refine ⟨3,rfl,by decide,by decide,fun D2 hD2=>?_⟩
    refine zcb (n:=3) (fun c σ H6=>∃ x0 : Option V,σ = [x0,some (.ref g)]∧H6 D2 = some (.lst (((List.range c).filter fun c=>!decide (c∈zaE ys k)).map nV))∧But D2 H5 H6) ?_ ?_ ?_
    ·exact ⟨_,rfl,zac,fun b o n e=>by rw [zag n]; exact e⟩
    ·rintro c m σ H6 hm hc ⟨x0,rfl,h6,k6⟩
     have h6g:=k6 _ _ (zab h5 hD2) h5
     have hlen:=ybu (fun c=>!decide (c∈zaE ys k)) (List.range c)
     rw [ya1] at hlen
     refine ⟨_,rfl,_,rfl,_,_,rfl,.inl (SqL.of h6g),rfl,zi9 _,_,rfl,?_⟩
     show if (!inV (.int (0 + (c : Int))) ((zaE ys k).map nV)) = true then _ else _
     rw [ybd,zmE]
     refine ite2 (fun e=>?_) (fun e=>?_)
     ·have e' : c∉zaE ys k:=fun z=>by
       rw [yam z] at e
       cases e
      refine ⟨_,rfl,_,h6,zan (by rw [yab]; omega),m - 1,by omega,by omega,_,rfl,?_,fun b o n e=>by rw [zag n]; exact k6 b o n e⟩
      rw [zac,zbR,if_neg e',yal]
      rfl
     ·have e' : c∈zaE ys k:=Decidable.byContradiction fun z=>e (by rw [yas z]; rfl)
      refine ⟨m - 1,by omega,by omega,_,rfl,?_,k6⟩
      rw [h6,zbR,if_pos e',yaE]
    ·rintro σ H6 ⟨x0,rfl,h6,k6⟩
     have h6p:=k6 _ _ (zab h5p hD2) h5p
     have hff:=ziw (xs:=ys) (k:=k)
     have hat0 : atI (((List.range 3).filter fun c=>!decide (c∈zaE ys k)).map nV) 0 = some (nV (zcl ys k)):=by
      rw [show (0 : Int) = ((0 : Nat) : Int) from rfl]
      refine zbh ?_
      rw [yaj,← List.head?_eq_getElem?,hff]
      rfl
     refine ⟨_,_,_,_,rfl,rfl,SqL.of h6,hat0,?_⟩
     refine ⟨_,rfl,_,rfl,_,_,_,k,rfl,rfl,h6p,zfj (by rw [yab,ml]; exact g1),?_⟩
     have same : ∀ b o,b≠p→H4 b = some o→upd H6 p (.lst (((mixL v ys k).map nV).set k (nV (zcl ys k)))) b = some o:=fun b o n e=>by
      rw [zag n]
      exact k6 _ _ (zab (s5 _ _ e) hD2) (s5 _ _ e)
     refine ⟨_,_,rfl,?_,same _ _ (Ne.symm npD) h4D,same _ _ (Ne.symm (zbP h4 h4t)) h4t,fun b o n e=>same _ _ n (k4 b o n e)⟩
     rw [zac,nx,yb7]
   ·rintro σ H4 ⟨x4,x5,rfl,h4,h4D,h4t,k4⟩
    rw [yab,znV] at h4
    exact ⟨_,_,_,_,rfl,h4,h4t,k4⟩
 ·rintro σ H2 ⟨x2,x3,x4,x5,rfl,h2,_,k2⟩
  refine ⟨_,rfl,?_⟩
  exact q p H2 hp (fun b o e=>k2 b o (zab e hp) e) h2
theorem zl9 (T : Txt K mg) (D_l_marks : DF K mg "_law_marks" zex zdO) (F_l_code : FC P w K mg base 1 "_law_code" zeM (zjN K)) (F_l_turned : FC P w K mg base 1 "_law_turned" zcX (zfF K)) (F_l_colours : FC P w K mg base 1 "_law_colours" zcw (zep K)) : FC P w K mg base 2 "_law_marks" zdO (zg6 K):=by
 refine D_l_marks.ok sc_l_marks (fun vs H Q E h=>?_) (fun f cdv A outer s H vs Q E hr h=>?_)
 ·obtain ⟨a,ws,es,rfl,_⟩:=h
  rfl
 obtain ⟨a,ws,es,rfl,ha,hw,hz,he,hri,q⟩:=h
 have hlen:=hw.length
 refine ⟨_,(zaf (zd8 (i:=1) (N:=["_law_entry"]) (own:=1) (cap:=[]) sc_l_marks.nd rfl rfl rfl (zbC (pv 0)) ⟨rfl,rfl,rfl,rfl,rfl,rfl⟩ (fun _ _ _ _ _=>(zal (i:=0) (show List.Nodup (["_law_entry"] : List Str) by decide +kernel) rfl (Or.inl rfl))) (fun _ _ _ _ _=>zbH) (fun _ _ _ _ _=>(zaA F_l_code hr (zaa (pv 0) zad))))
   (zaf (zaK PassesOwn.never rfl (zaU rfl T.m_range (zaa zae zad)) (zal (i:=2) sc_l_marks.nd rfl (Or.inl rfl)) (zah (zap (i:=1) sc_l_marks.nd rfl (Or.inl rfl) (zaA F_l_turned hr (zaa (pv 1) zad)))))
   (zaf (zap (i:=3) sc_l_marks.nd rfl (Or.inl rfl) (zaA F_l_colours hr (zaa (pv 1) zad)))
   (zaf (zd8 (i:=4) (N:=["_law_entry"]) (own:=1) (cap:=[]) sc_l_marks.nd rfl rfl rfl (zbC (pv 0)) ⟨rfl,rfl,rfl,rfl,rfl,rfl⟩ (fun _ _ _ _ _=>(zal (i:=0) (show List.Nodup (["_law_entry"] : List Str) by decide +kernel) rfl (Or.inl rfl))) (fun _ _ _ _ _=>zbH) (fun _ _ _ _ _=>zea))
   (zaf (zaK PassesOwn.never rfl (zdj (zbe (zaa zae (zaa zae (zaa zae zad))))) (zal (i:=5) sc_l_marks.nd rfl (Or.inl rfl)) (zah (zaK PassesOwn.never rfl (zdk rfl T.m_range (zaa zae (zaa (zaq zar rfl T.m_len boot_len (zaa (pv 0) zad)) zad))) (zal (i:=2) sc_l_marks.nd rfl (Or.inl rfl)) (zah (zbS (PW.pt (zh7 (zaw zdr (zaz zax (pv 3) (pv 2) (fun _ _=>rfl)) (pv 5) (zaH _)) (zf0 (zaw zdq zea (zcz zfe (pv 4) (zbI (zas zbq (pv 2) zae)) (zbI (zas zaZ (pv 2) zae))) (by with_unfolding_all rfl))))) (zah (zfu zea (zgF (pv 4) (pv 2) zdB))) zaO)))))
   (zah (zau (pv 4)))))))),?_⟩
 refine ⟨_,rfl,a,rfl,⟨_,SqL.of ha⟩,fun D hD=>?_⟩
 have k0 : But D H (upd H D (.lst [])):=fun b o n e=>by rw [zag n]; exact e
 refine zbU (xs:=ws) (fun i σ H2=>∃ x0 : Option V,σ = [x0]∧H2 D = some (.lst (((zbL es).take i).map nV))∧But D H H2) ?_ ?_ ?_ ?_
 ·exact ⟨_,rfl,zac,k0⟩
 ·rintro i σ H2 _ ⟨x0,rfl,_,k2⟩
  exact k2.sq (SqL.of ha) hD
 ·rintro i m x σ H2 hx hm ⟨x0,rfl,h2,k2⟩
  obtain ⟨hi,hhas⟩:=zgU hD hw hx k2
  refine zdc ?_
  refine ⟨_,rfl,x,es[i],rfl,hhas,?_⟩
  refine ⟨_,h2,zan (by rw [yab,yak,zaD]; omega),m - 1,by omega,by omega,_,rfl,?_,fun b o n e=>by rw [zag n]; exact k2 b o n e⟩
  rw [zac,zgT hi,yal,← ze3 (he _ (yaB hi))]
  rfl
 rintro σ H2 ⟨x0,rfl,h2,k2⟩
 have e0 : H2 D = some (.lst ((zbL es).map nV)):=by
  rw [h2,yaq (by rw [zaD]; omega)]
 have same0 : Same H H2:=fun b o e=>k2 b o (zab e hD) e
 refine ⟨5,rfl,by decide,by decide,?_⟩
 refine za1 (n:=5) (fun i σ H3=>∃ (p : Addr) (x2 : Option V),σ = [some (.ref a),some (.ref p),x2,none,none,none]∧Same H H3∧H3 p = some (.lst ((zcd i (zbL es)).map nV))) ?_ ?_ ?_
 ·exact ⟨D,_,rfl,same0,e0⟩
 ·rintro i σ H3 hi ⟨p,x2,rfl,s3,h3⟩
  refine ⟨_,rfl,p,_,rfl,SqL.of h3,zcc (ze2 he hri) i,by rw [zbd,zaD]; exact hz,fun p4 H4 hp4 s4 h4=>?_⟩
  exact ⟨p4,_,rfl,s3.trans s4,h4⟩
 rintro σ H3 ⟨p,x2,rfl,s3,h3⟩
 refine ⟨_,rfl,p,_,rfl,SqL.of h3,zf7 he hri,zf8 he hri,by rw [zbd,zaD]; exact hz,fun c H4 hc s4 h4=>?_⟩
 have cu : Unl (colL (zcd 5 (zbL es))):=zll (zhI (unlZ (zf7 he hri)))
 have cl : (colL (zcd 5 (zbL es))).length = es.length:=by rw [zei,zbd,zaD]
 have fin : za4 es = mkN (colL (zcd 5 (zbL es))) 3:=(zig _).symm
 generalize colL (zcd 5 (zbL es)) = cs at h4 cu cl fin
 have s04:=s3.trans s4
 have h4a:=s04 _ _ ha
 refine ⟨_,rfl,a,rfl,⟨_,SqL.of h4a⟩,fun F hF=>?_⟩
 refine zbU (xs:=ws) (fun i σ H5=>∃ x0 : Option V,σ = [x0]∧H5 F = some (.lst ((List.replicate i false).map V.bl))∧But F H4 H5) ?_ ?_ ?_ ?_
 ·exact ⟨_,rfl,zac,fun b o n e=>by rw [zag n]; exact e⟩
 ·rintro i σ H5 _ ⟨x0,rfl,_,k5⟩
  exact k5.sq (SqL.of h4a) hF
 ·rintro i m x σ H5 hx hm ⟨x0,rfl,h5,k5⟩
  have hi:=(yag.mp hx).1
  refine zdc ?_
  refine ⟨_,h5,zan (by rw [yab,ybe]; omega),m - 1,by omega,by omega,_,rfl,?_,fun b o n e=>by rw [zag n]; exact k5 b o n e⟩
  rw [zac,List.replicate_succ',yal]
  rfl
 rintro σ H5 ⟨x0,rfl,h5,k5⟩
 have s45 : Same H4 H5:=fun b o e=>k5 b o (zab e hF) e
 have h5c:=s45 _ _ h4
 have h5a:=s45 _ _ h4a
 have nFc : c≠F:=zab h4 hF
 have hF0 : H F = none:=s04.free hF
 have k05 : But F H H5:=fun b o _ e=>s45 _ _ (s04 _ _ e)
 have e5 : H5 F = some (.lst ((mkN cs 0).map V.bl)):=by
  rw [h5,mkN,show List.replicate ws.length false = cs.map (fun _=>false) from by rw [List.map_const',cl,hlen]]
 refine ⟨(by show 3≤sizeLine; decide),fun t ht=>?_⟩
 have st:=zai ht (.tup [V.int 2,V.int 1,V.int 0])
 refine ⟨t,rfl,⟨_,SqT.of zac⟩,?_⟩
 refine zfl (xs:=[V.int 2,V.int 1,V.int 0]) (fun i σ H6=>∃ (x1 x2 x5 : Option V),σ = [some (.ref a),x1,x2,some (.ref c),some (.ref F),x5]∧H6 F = some (.lst ((mkN cs i).map V.bl))∧H6 c = some (.lst (cs.map nV))∧H6 t = some (.tup [V.int 2,V.int 1,V.int 0])∧But F H H6) ?_ ?_ ?_ ?_
 ·exact ⟨_,_,_,rfl,st _ _ e5,st _ _ h5c,zac,k05.new ht _⟩
 ·rintro i σ H6 _ ⟨x1,x2,x5,rfl,_,_,h6t,_⟩
  exact SqT.of h6t
 ·rintro i x σ H6 hx ⟨x1,x2,x5,rfl,h6,h6c,h6t,k6⟩
  obtain ⟨hi,rfl⟩ : i < 3∧x = V.int ((2 - i : Nat) : Int):=by
   rcases i with _ | _ | _ | i
   ·exact ⟨by decide,(yae hx).symm⟩
   ·exact ⟨by decide,(yae hx).symm⟩
   ·exact ⟨by decide,(yae hx).symm⟩
   ·cases hx
  have hml:=zgG cs i
  have hnx : mkN cs (i + 1) = zbW (2 - i) cs (mkN cs i):=rfl
  rw [hnx]
  generalize mkN cs i = ms at h6 hml ⊢
  generalize 2 - i = sh
  have h6a:=k6 _ _ (zab ha hF0) ha
  refine ⟨_,rfl,_,_,rfl,.inl (SqL.of h6a),1,_,rfl,⟨by omega,by omega,by omega,by omega⟩,?_⟩
  have en : (((ws.length : Nat) : Int) - 1).toNat = cs.length - 1:=by omega
  rw [en]
  have km : ∀ k,(mixM sh cs ms k).length = cs.length:=zc0 hml
  refine za1 (n:=cs.length - 1) (fun j σ H7=>∃ (x2 : Option V),σ = [some (.ref a),x1,x2,some (.ref c),some (.ref F),some (.int sh)]∧H7 F = some (.lst ((mixM sh cs ms (1 + j)).map V.bl))∧H7 c = some (.lst (cs.map nV))∧H7 t = some (.tup [V.int 2,V.int 1,V.int 0])∧But F H H7) ?_ ?_ ?_
  ·exact ⟨_,rfl,by rw [zj2 hml]; exact h6,h6c,h6t,k6⟩
  ·rintro j σ H7 hj ⟨x2,rfl,h7,h7c,h7t,k7⟩
   have ek : (1 : Int) + (j : Int) = ((1 + j : Nat) : Int):=by omega
   have hk1 : 1≤1 + j:=by omega
   have hkl : 1 + j < cs.length:=by omega
   rw [ek]
   have es1 : 1 + (j + 1) = 1 + j + 1:=by omega
   rw [es1]
   generalize 1 + j = k at h7 hk1 hkl ⊢
   have hat:=zd6 (xs:=cs) hkl
   have mc : cs.getD k 0 = sh→zdx (mixM sh cs ms k) k = zdx ms k:=fun z=>zkT cu hml hkl hk1 z
   refine ⟨_,rfl,_,rfl,_,_,_,_,rfl,rfl,SqL.of h7c,hat,_,rfl,rfl,_,rfl,?_⟩
   refine ite2 (fun e=>?_) (fun e=>?_)
   ·have e' : cs.getD k 0 = sh:=by
     have:=V.int.inj (yaC e)
     omega
    refine ⟨_,rfl,_,rfl,_,_,rfl,rfl,_,rfl,_,rfl,_,_,rfl,rfl,_,rfl,_,_,rfl,SqL.of h7,fun b hb=>?_⟩
    have sb:=zai hb (.lst (cutV ((mixM sh cs ms k).map V.bl) (some ((k : Int) - 1)) (some ((k : Int) + 2))))
    have hbb : upd H7 b (.lst (cutV ((mixM sh cs ms k).map V.bl) (some ((k : Int) - 1)) (some ((k : Int) + 2)))) b = some (.lst ((((mixM sh cs ms k).drop (k - 1)).take 3).map V.bl)):=by
     rw [zac,zpU hk1 rfl rfl]
    have kb:=k7.new hb (.lst (cutV ((mixM sh cs ms k).map V.bl) (some ((k : Int) - 1)) (some ((k : Int) + 2))))
    generalize upd H7 b (.lst (cutV ((mixM sh cs ms k).map V.bl) (some ((k : Int) - 1)) (some ((k : Int) + 2)))) = H8 at sb hbb kb ⊢
    refine ⟨_,_,rfl,.inl (SqL.of hbb),rfl,zmN _,_,rfl,?_⟩
    show if (!inV (.bl true) ((((mixM sh cs ms k).drop (k - 1)).take 3).map V.bl)) = true then _ else _
    rw [zki,any3 _ hk1,mc e',Bool.not_not]
    refine ite2 (fun y=>?_) (fun y=>?_)
    ·refine ⟨_,rfl,_,rfl,_,_,_,k,rfl,rfl,sb _ _ h7,zfj (by rw [yab,km]; exact hkl),?_⟩
     have same : ∀ b o,b≠F→H8 b = some o→upd H8 F (.lst (((mixM sh cs ms k).map V.bl).set k (.bl true))) b = some o:=fun b o n e=>by
      rw [zag n]
      exact e
     refine ⟨_,rfl,?_,same _ _ (fun z=>?_) (sb _ _ h7c),same _ _ (Ne.symm (zbP (sb _ _ h7) (sb _ _ h7t))) (sb _ _ h7t),fun b o n e=>same _ _ n (kb b o n e)⟩
     ·rw [zac,znW hml hkl ⟨hk1,e',y⟩,yb7]
     ·exact nFc z
    ·exact ⟨_,rfl,by rw [zf4 hml hkl (fun z=>y z.2.2)]; exact sb _ _ h7,sb _ _ h7c,sb _ _ h7t,kb⟩
   ·have e' : cs.getD k 0≠sh:=fun z=>e (by rw [z]; exact yam rfl)
    refine iteF ?_
    exact ⟨_,rfl,by rw [zf4 hml hkl (fun z=>e' z.2.1)]; exact h7,h7c,h7t,k7⟩
  ·rintro σ H7 ⟨x2,rfl,h7,h7c,h7t,k7⟩
   rw [zj3 hml (by omega)] at h7
   exact ⟨_,_,_,rfl,h7,h7c,h7t,k7⟩
 ·rintro σ H6 ⟨x1,x2,x5,rfl,h6,_,_,k6⟩
  refine ⟨_,rfl,?_⟩
  refine q F H6 hF0 (fun b o e=>k6 b o (zab e hF0) e) ?_
  rw [fin]
  exact h6
set_option maxHeartbeats 1000000 in
theorem zaQ {K : Frag} {H : Hp} {q : Addr} {zs : List V} {o : HO} (hq : H q = some (.lst zs)) : ∀ {es : List (Int×Int)} {ws : List V},zam K H es ws→zam K (upd H q o) es ws
 | _,_,.nil=>.nil
 | _,_,.cons h t=>by
  refine .cons ?_ (zaQ hq t)
  obtain ⟨a,x1,x2,rfl,hT,e1,e2⟩:=(show hasP K H _ _ from h)
  exact ⟨a,x1,x2,rfl,by rw [zag (zqK hT hq (by intro z; cases z))]; exact hT,e1,e2⟩
def Own (K : Frag) (H : Hp) : List Addr→List (List (Int×Int))→Prop:=Paired fun q l=>∃ ws,H q = some (.lst ws)∧zam K H l ws
section
variable {K : Frag} {H H' : Hp}
theorem Own.length {qs : List Addr} {ls : List (List (Int×Int))} (h : Own K H qs ls) : qs.length = ls.length:=Paired.length h
theorem Own.ext (e : Ext H H') : ∀ {qs : List Addr} {ls : List (List (Int×Int))},Own K H qs ls→Own K H' qs ls
 | _,_,.nil=>.nil
 | _,_,.cons ⟨ws,h1,h2⟩ t=>.cons ⟨ws,e _ _ h1 (fun _ z=>nomatch z),zam.mono e h2⟩ (Own.ext e t)
theorem Own.get : ∀ {qs : List Addr} {ls : List (List (Int×Int))} {i : Nat} {x : V},Own K H qs ls→(qs.map V.ref)[i]? = some x→∃ q l ws,qs[i]? = some q∧x = .ref q∧ls[i]? = some l∧H q = some (.lst ws)∧zam K H l ws
 | _,_,_,_,.nil,e=>by simp at e
 | _,_,0,_,.cons ⟨ws,h1,h2⟩ _,e=>by
  simp at e
  exact ⟨_,_,ws,rfl,e.symm,rfl,h1,h2⟩
 | _,_,i + 1,x,.cons _ t,e=>by
  obtain ⟨q,l,ws,h1,h2,h3,h4,h5⟩:=Own.get (i:=i) (x:=x) t (by simpa using e)
  exact ⟨q,l,ws,by simpa using h1,h2,by simpa using h3,h4,h5⟩
theorem Own.append : ∀ {qs qs' : List Addr} {ls ls' : List (List (Int×Int))},Own K H qs ls→Own K H qs' ls'→Own K H (qs ++ qs') (ls ++ ls')
 | _,_,_,_,.nil,s=>s
 | _,_,_,_,.cons r t,s=>.cons r (Own.append t s)
theorem Own.other {q : Addr} {o : HO} {zs : List V} (hq : H q = some (.lst zs)) : ∀ {qs : List Addr} {ls : List (List (Int×Int))},Own K H qs ls→q∉qs→Own K (upd H q o) qs ls
 | _,_,.nil,_=>.nil
 | _,_,.cons ⟨ws,h1,h2⟩ t,hn=>by
  rw [yap,not_or] at hn
  exact .cons ⟨ws,by rw [zag (Ne.symm hn.1)]; exact h1,zaQ hq h2⟩ (Own.other hq t hn.2)
end
theorem zix {ls : List (List (Int×Int))} {i : Nat} {l : List (Int×Int)} (h : ls[i]? = some l) : (ls.take (i + 1)).flatten = (ls.take i).flatten ++ l:=by
 have hi:=(yag.mp h).1
 rw [yaF hi,ybR,(yag.mp h).2]
 simp
theorem zpO {ls : List (List (Int×Int))} (i : Nat) : (ls.take i).flatten.length≤ls.flatten.length:=by
 have e : ls.flatten = (ls.take i).flatten ++ (ls.drop i).flatten:=by rw [← ybR,yaZ]
 rw [e,yah]
 omega
def zov (K : Frag) : Sp:=fun vs H Q _=>∃ (a : Addr) (qs : List Addr) (ls : List (List (Int×Int))),vs = [.ref a]∧H a = some (.lst (qs.map V.ref))∧Own K H qs ls∧ls.flatten.length≤1000∧
 ∀ (p : Addr) (ws : List V) (H' : Hp),H p = none→Same H H'→H' p = some (.lst ws)→zam K H' (zdg ls.flatten) ws→Q (.ref p) H'
theorem zmd (T : Txt K mg) (D_joined_up : DF K mg "joined_up" zcS zcx) : FC P w K mg base 1 "joined_up" zcx (zov K):=by
 refine D_joined_up.ok sc_joined_up (fun vs H Q E h=>?_) (fun f cdv A outer s H vs Q E hr h=>?_)
 ·obtain ⟨a,qs,ls,rfl,_⟩:=h
  rfl
 obtain ⟨a,qs,ls,rfl,ha,ho,hz,q⟩:=h
 have hll:=ho.length
 refine ⟨_,(zaf (zap (i:=1) sc_joined_up.nd rfl (Or.inl rfl) (zbp zad))
   (zaf (zaK PassesOwn.never rfl (zbC (pv 0)) (zal (i:=2) sc_joined_up.nd rfl (Or.inl rfl)) (zah (za7 (zdo F.plainAttrs_list F.slot_list_extend F.type_list_extend zmh (pv 1) (zaa (pv 2) zad)))))
   (zah (zau (zaq (zd0 (Int×Int)) rfl T.m_sorted boot_sorted (zaa (pv 1) zad)))))),?_⟩
 refine ⟨(by show 0≤sizeLine; decide),fun t ht=>?_⟩
 have k0 : But t H (upd H t (.lst [])):=fun b o n e=>by rw [zag n]; exact e
 refine ⟨_,rfl,a,rfl,⟨_,SqL.of (k0 _ _ (zab ha ht) ha)⟩,?_⟩
 refine zc5 (xs:=qs.map V.ref) (fun i σ H2=>∃ (zs : List V) (x2 : Option V),σ = [some (.ref a),some (.ref t),x2]∧H2 t = some (.lst zs)∧zam K H2 (ls.take i).flatten zs∧But t H H2∧Own K H2 qs ls) ?_ ?_ ?_ ?_
 ·exact ⟨[],_,rfl,zac,.nil,k0,ho.ext (zai ht _).ext⟩
 ·rintro i σ H2 _ ⟨zs,x2,rfl,h2,_,k2,_⟩
  exact SqL.of (k2 _ _ (zab ha ht) ha)
 ·rintro i x σ H2 hx ⟨zs,x2,rfl,h2,hw,k2,o2⟩
  obtain ⟨g,l,ws,e1,rfl,e3,e4,e5⟩:=o2.get hx
  have hlen : zs.length + ws.length≤1000:=by
   have z1:=hw.length
   have z2:=e5.length
   have z3:=zpO (ls:=ls) (i + 1)
   rw [zix e3,yah] at z3
   omega
  have hgo : ∀ b∈qs,b≠t:=fun b hb z=>by
   obtain ⟨j,hj,rfl⟩:=yaV hb
   obtain ⟨_,_,ws0,f1,f2,_,f4,_⟩:=ho.get (i:=j) (x:=.ref qs[j]) (by rw [yaj,yac hj]; rfl)
   cases f2
   rw [z,ht] at f4
   cases f4
  refine ⟨_,rfl,.inl ⟨rfl,_,SqL.of h2⟩,_,rfl,t,g,zs,ws,rfl,rfl,h2,e4,ybm (zan hlen),?_⟩
  refine ⟨_,_,rfl,zac,?_,fun b o n e=>by rw [zag n]; exact k2 b o n e,o2.other h2 (fun z=>hgo t z rfl)⟩
  rw [zix e3]
  exact (zaQ h2 hw).append (zaQ h2 e5)
 ·rintro σ H2 ⟨zs,x2,rfl,h2,hw,k2,o2⟩
  rw [yaq (by rw [yab]; omega)] at hw
  refine ⟨_,rfl,t,zs,_,rfl,SqL.of h2,hw,fun l ws hl hs=>?_⟩
  have e2:=zai hl (.lst ws)
  have s2 : Same H H2:=fun b o e=>k2 b o (zab e ht) e
  exact q l ws _ (s2.free hl) (s2.trans e2) zac (zam.mono e2.ext hs)
def zbY (ps : List Nat) : List V:=.non :: ps.map nV
def parV (ps : List Nat) (k : Nat) : V:=match par ps k with
 | none=>.non
 | some p=>nV p
theorem zat (ps : List Nat) : (zbY ps).length = ps.length + 1:=by
 unfold zbY
 rw [yaN,yab]
theorem zgm {ps : List Nat} {k : Nat} (h : k < ps.length + 1) : atI (zbY ps) (k : Int) = some (parV ps k):=by
 refine zbh ?_
 unfold zbY parV
 cases k with
 | zero=>rfl
 | succ k=>
  show (ps.map nV)[k]? = some (match ps[k]? with | none=>_ | some p=>nV p)
  rw [yaj,yac (show k < ps.length by omega)]
  rfl
theorem zdp {ps : List Nat} {k p : Nat} (h : par ps k = some p) : parV ps k = nV p:=by
 unfold parV
 rw [h]
theorem zh9 {ps : List Nat} {k : Nat} (h : par ps k = none) : parV ps k = .non:=by
 unfold parV
 rw [h]
theorem zhp {ps : List Nat} {k m : Nat} : parV ps k = .int (m : Int)↔par ps k = some m:=by
 cases e : par ps k with
 | none=>
  rw [zh9 e]
  exact ⟨(fun z=>nomatch z),(fun z=>nomatch z)⟩
 | some p=>
  rw [zdp e]
  constructor
  ·intro z
   have:=Int.ofNat.inj (V.int.inj z)
   rw [this]
  ·intro z
   rw [yae z]
theorem zh5 (ps : List Nat) (k : Nat) (i : Int) : scal (parV ps k) (.int i) = true:=by
 cases e : par ps k with
 | none=>rw [zh9 e]; rfl
 | some p=>rw [zdp e]; rfl
theorem But.new' {p b : Addr} {H H2 : Hp} (k : But p H H2) (hb : H2 b = none) (o : HO) : But p H (upd H2 b o):=fun x o' n e=>(zai hb o) x o' (k x o' n e)
def zop (K : Frag) : Sp:=fun vs H Q _=>∃ (d L : Addr) (m : Int),vs = [.ref d,.int m]∧(0 < m∧m≤40)∧LS K L d H∧
 ∀ (t : Addr) (ps : List Nat) (H' : Hp),H t = none→zaB ps→(ps.length : Int) < m→H' t = some (.tup (zbY ps))→Keep d H H'→LS K L d H'→Q (.ref t) H'
theorem zls {ps : List Nat} {u : Nat} (T : zaB ps) (h : u≤ps.length) : zaB (ps ++ [u]):=by
 intro i hi
 rw [yah,yaL] at hi
 by_cases c : i < ps.length
 ·rw [List.getElem_append_left c]
  exact T i c
 ·have : i = ps.length:=by omega
  subst this
  rw [List.getElem_append_right (yaa _)]
  simp
  exact h
theorem znK (T : Txt K mg) (D_l_tree : DF K mg "_law_tree" zfJ zeJ) (F_l_take : FC P w K mg base 2 "_law_take" zbo (zft K)) : FC P w K mg base 3 "_law_tree" zeJ (zop K):=by
 refine D_l_tree.ok sc_l_tree (fun vs H Q E h=>?_) (fun f cdv A outer s H vs Q E hr h=>?_)
 ·obtain ⟨d,L,m,rfl,_⟩:=h
  rfl
 obtain ⟨d,L,m,rfl,⟨hm0,hm1⟩,hs,q⟩:=h
 refine ⟨_,(zaf (zap (i:=2) sc_l_tree.nd rfl (Or.inl rfl) (zaA F_l_take hr (zaa (pv 0) (zaa zae zad))))
   (zaf (zap (i:=3) sc_l_tree.nd rfl (Or.inl rfl) (zbp (zaa zqx zad)))
   (zaf (zaK PassesOwn.never rfl (zdk rfl T.m_range (zaa zae (zaa (zas zaZ zae (zaA F_l_take hr (zaa (pv 0) (zaa (pv 1) zad)))) zad))) (zal (i:=4) sc_l_tree.nd rfl (Or.inl rfl)) (zah (za7 (zdo F.plainAttrs_list F.slot_list_append F.type_list_append zaI (pv 3) (zaa (zaz zax (zbp (zaa (zas zbq (pv 4) zae) (zaa zae (zaa (zaA F_l_take hr (zaa (pv 0) (zaa (pv 4) zad))) (zaa (zaq (ze5 rfl) rfl T.m_max boot_max (zaa zae (zaa (zas zbq (zas zbq (pv 4) zae) (zaA F_l_take hr (zaa (pv 0) (zaa zae zad)))) zad))) zad))))) (pv 2) (fun _ _=>rfl)) zad)))))
   (zah (zau (zbf zbF rfl T.m_tuple boot_tuple (zaa (pv 3) zad))))))),?_⟩
 refine ⟨_,rfl,d,L,4,rfl,by decide,hs,fun w1 H1 w0 w4 k1 s1=>?_⟩
 refine ⟨(by show 1≤sizeLine; decide),fun p hp=>?_⟩
 have g0:=zai hp (.lst [V.non])
 have hpd : p≠d:=by
  obtain ⟨ns,a,l,e,_⟩:=s1.ex
  exact Ne.symm (zab e hp)
 have hp0 : H p = none:=by
  cases e : H p with
  | none=>rfl
  | some o=>
   have:=k1 p o hpd e
   rw [hp] at this
   cases this
 refine ⟨_,rfl,_,rfl,d,L,m,rfl,⟨hm0,by omega⟩,s1.same g0,fun n H2 n0 n1 k2 s2=>⟨_,_,rfl,rfl,1,_,rfl,⟨by omega,by omega,by omega,by omega⟩,?_⟩⟩
 have en : ((1 : Int) + n - 1).toNat = n.toNat:=by omega
 rw [en]
 refine za1 (n:=n.toNat) (fun i σ H3=>∃ (ps : List Nat) (x4 : Option V),σ = [some (.ref d),some (.int m),some (.int w1),some (.ref p),x4]∧H3 p = some (.lst (zbY ps))∧ps.length = i∧zaB ps∧(∀ b o,b≠d→b≠p→H b = some o→H3 b = some o)∧LS K L d H3) ?_ ?_ ?_
 ·exact ⟨[],_,rfl,k2 p _ hpd zac,rfl,fun i hi=>absurd hi (by simp),fun b o n1 n2 e=>k2 b o n1 (g0 b o (k1 b o n1 e)),s2⟩
 ·rintro i σ H3 hi ⟨ps,x4,rfl,h3,rfl,hT,k3,s3⟩
  have ek : (1 : Int) + ((ps.length : Nat) : Int) = ((ps.length + 1 : Nat) : Int):=by omega
  rw [ek]
  refine ⟨_,rfl,.inl ⟨rfl,_,SqL.of h3⟩,?_⟩
  refine ⟨_,rfl,_,_,rfl,rfl,_,rfl,_,rfl,d,L,_,rfl,⟨by omega,by omega⟩,s3,fun v1 H4 v10 v11 k4 s4=>?_⟩
  refine ⟨_,rfl,_,_,rfl,rfl,_,rfl,d,L,2,rfl,by decide,s4,fun v2 H5 v20 v21 k5 s5=>⟨_,_,rfl,rfl,_,_,rfl,(by show 4≤sizeLine; decide),fun l hl=>?_⟩⟩
  have h4:=k4 p _ hpd h3
  have h5:=k5 p _ hpd h4
  obtain ⟨u,hat,hu⟩ : ∃ u : Nat,atI [V.int (((ps.length + 1 : Nat) : Int) - 1),V.int 0,V.int v1,V.int (if ((ps.length + 1 : Nat) : Int) - 1 - v2 > 0 then ((ps.length + 1 : Nat) : Int) - 1 - v2 else 0)] w1 = some (nV u)∧u≤ps.length:=by
   have z : w1 = 0∨w1 = 1∨w1 = 2∨w1 = 3:=by omega
   rcases z with rfl | rfl | rfl | rfl
   ·refine ⟨ps.length,?_,yaa _⟩
    rw [show ((ps.length + 1 : Nat) : Int) - 1 = ((ps.length : Nat) : Int) by omega]
    rfl
   ·exact ⟨0,rfl,yaD _⟩
   ·obtain ⟨u,rfl⟩:=zj1 v10
    exact ⟨u,rfl,by omega⟩
   ·refine ⟨(if ((ps.length + 1 : Nat) : Int) - 1 - v2 > 0 then ((ps.length + 1 : Nat) : Int) - 1 - v2 else 0).toNat,?_,?_⟩
    ·show some (V.int _) = some (V.int _)
     rw [Int.toNat_of_nonneg (by split <;> omega)]
    ·split <;> omega
  refine ⟨_,rfl,_,_,_,_,rfl,rfl,SqL.of zac,hat,_,_,_,rfl,rfl,by rw [zag (zab h5 hl)]; exact h5,zan (by rw [zat]; omega),?_⟩
  refine ⟨ps ++ [u],_,rfl,?_,by rw [yah,yaL],zls hT hu,fun b o n1 n2 e=>?_,?_⟩
  ·rw [zac]
   unfold zbY
   rw [yal]
   rfl
  ·rw [zag n2]
   have e5:=k5 b o n1 (k4 b o n1 (k3 b o n1 n2 e))
   exact (zai hl _) _ _ e5
  ·exact LS.put hs hp0 (fun b o n1 n2 e=>(zai hl _) _ _ (k5 b o n1 (k4 b o n1 (k3 b o n1 n2 e)))) (s5.of_new hl _)
 ·rintro σ H3 ⟨ps,x4,rfl,h3,hl,hT,k3,s3⟩
  refine ⟨_,rfl,p,_,rfl,.inl ⟨SqL.of h3,fun t ht=>?_⟩⟩
  have sn:=zai ht (.tup (zbY ps))
  have htp : t≠p:=Ne.symm (zab h3 ht)
  have ht0 : H t = none:=by
   cases e : H t with
   | none=>rfl
   | some o=>
    have htd : t≠d:=by
     obtain ⟨ns,a,l,e,_⟩:=s3.ex
     exact Ne.symm (zab e ht)
    have:=k3 t o htd htp e
    rw [ht] at this
    cases this
  exact q t ps _ ht0 hT (by omega) zac (fun b o n e=>sn _ _ (k3 b o n (zab e hp0) e)) (s3.of_new ht _)
def zcH (K : Frag) : Sp:=fun vs H Q _=>∃ (t : Addr) (ps : List Nat) (k : Nat),vs = [.ref t,.int k]∧H t = some (.tup (zbY ps))∧ps.length≤900∧
 ∀ (p : Addr) (H' : Hp),H p = none→Same H H'→H' p = some (.lst ((zaM ps k (ps.length + 1)).map nV))→Q (.ref p) H'
theorem ziW (T : Txt K mg) (D_children : DF K mg "children" zdH zch) : FC P w K mg base 1 "children" zch (zcH K):=by
 refine D_children.ok sc_children (fun vs H Q E h=>?_) (fun f cdv A outer s H vs Q E hr h=>?_)
 ·obtain ⟨t,ps,k,rfl,_⟩:=h
  rfl
 obtain ⟨t,ps,k,rfl,ht,hz,q⟩:=h
 refine ⟨_,(zah (zau (zbJ (N:=["other","tree","knot"]) (own:=1) (cap:=[0,1]) rfl (zaU rfl T.m_range (zaa (zaq zar rfl T.m_len boot_len (zaa (pv 0) zad)) zad)) ⟨rfl,rfl,rfl,rfl,rfl,rfl⟩ (fun _ _ _ _ _=>(zal (i:=0) (show List.Nodup (["other","tree","knot"] : List Str) by decide +kernel) rfl (Or.inl rfl))) (fun _ _ _ _ _=>(zdh (zaw zdr (zaz (zee (K:=K)) (pv 1) (pv 0) (fun _ _=>rfl)) (pv 2) (zaH _)))) (fun _ _ _ _ _=>(pv 0))))),?_⟩
 refine ⟨_,rfl,_,_,rfl,.inr (SqT.of ht),_,rfl,by omega,by rw [zat]; omega,fun D hD=>?_⟩
 have el : ((((zbY ps).length : Nat) : Int)).toNat = ps.length + 1:=by rw [zat,yba]
 rw [el]
 refine zcb (n:=ps.length + 1) (fun j σ H3=>∃ x0 : Option V,σ = [x0,some (.ref t),some (.int k)]∧H3 D = some (.lst ((zaM ps k j).map nV))∧But D H H3) ?_ ?_ ?_
 ·exact ⟨_,rfl,zac,fun b o n e=>by rw [zag n]; exact e⟩
 ·rintro j m σ H3 hm hj ⟨x0,rfl,h3,k3⟩
  rw [ybd]
  have h3t:=k3 _ _ (zab ht hD) ht
  have hlen:=zcM ps k j
  refine ⟨_,rfl,_,rfl,_,_,_,_,rfl,rfl,SqT.of h3t,zgm hj,_,rfl,zh5 _ _ _,_,rfl,?_⟩
  refine ite2 (fun c=>?_) (fun c=>?_)
  ·have c' : par ps j = some k:=zhp.mp (yaC c)
   refine ⟨_,rfl,_,h3,zan (by rw [yab]; omega),m - 1,by omega,by omega,_,rfl,?_,fun b o n e=>by rw [zag n]; exact k3 b o n e⟩
   rw [zac,zc6,if_pos c',yal]
   rfl
  ·have c' : ¬ par ps j = some k:=fun z=>c (yam (zhp.mpr z))
   refine ⟨m - 1,by omega,by omega,_,rfl,?_,k3⟩
   rw [h3,zc6,if_neg c',yaE]
 ·rintro σ H3 ⟨x0,rfl,h3,k3⟩
  exact q D H3 hD (fun b o e=>k3 b o (zab e hD) e) h3
def zh1 (K : Frag) : Sp:=fun vs H Q _=>∃ (t : Addr) (ps : List Nat) (k : Nat),vs = [.ref t,.int k]∧H t = some (.tup (zbY ps))∧zaB ps∧k < ps.length + 1∧ps.length≤900∧
 ∀ (p : Addr) (H' : Hp),H p = none→Same H H'→H' p = some (.lst ((benL ps k (ps.length + 1)).map nV))→Q (.ref p) H'
theorem zkQ (T : Txt K mg) (D_beneath : DF K mg "beneath" zeD zdU) : FC P w K mg base 1 "beneath" zdU (zh1 K):=by
 refine D_beneath.ok sc_beneath (fun vs H Q E h=>?_) (fun f cdv A outer s H vs Q E hr h=>?_)
 ·obtain ⟨t,ps,k,rfl,_⟩:=h
  rfl
 obtain ⟨t,ps,k,rfl,ht,hT,hk,hz,q⟩:=h
 refine ⟨_,(zaf (zap (i:=2) sc_beneath.nd rfl (Or.inl rfl) (zbp (zaa (pv 1) zad)))
   (zaf (zaK PassesOwn.never rfl (zdk rfl T.m_range (zaa (zas zaZ (pv 1) zae) (zaa (zaq zar rfl T.m_len boot_len (zaa (pv 0) zad)) zad))) (zal (i:=3) sc_beneath.nd rfl (Or.inl rfl)) (zah (zbS (zaw zl1 (zaz zaW (pv 0) (pv 3) (fun _ _=>rfl)) (pv 2) (by with_unfolding_all rfl)) (zah (za7 (zdo F.plainAttrs_list F.slot_list_append F.type_list_append zaI (pv 2) (zaa (pv 3) zad)))) zaO)))
   (zah (zau (pv 2))))),?_⟩
 refine ⟨_,rfl,(by show 1≤sizeLine; decide),fun p hp=>?_⟩
 have k0 : But p H (upd H p (.lst [.int (k : Int)])):=fun b o n e=>by rw [zag n]; exact e
 have ntp : t≠p:=zab ht hp
 refine ⟨_,rfl,_,_,rfl,rfl,_,rfl,_,_,rfl,.inr (SqT.of (k0 _ _ ntp ht)),_,_,rfl,⟨by omega,by omega,by omega,by rw [zat]; omega⟩,?_⟩
 have en : ((((zbY ps).length : Nat) : Int) - ((k : Int) + 1)).toNat = ps.length - k:=by rw [zat]; omega
 rw [en]
 refine za1 (n:=ps.length - k) (fun i σ H3=>∃ x3 : Option V,σ = [some (.ref t),some (.int k),some (.ref p),x3]∧H3 p = some (.lst ((benL ps k (k + 1 + i)).map nV))∧But p H H3) ?_ ?_ ?_
 ·refine ⟨_,rfl,?_,k0⟩
  rw [zac,ybq,zoi hT]
  rfl
 ·rintro i σ H3 hi ⟨x3,rfl,h3,k3⟩
  have ek : (k : Int) + 1 + (i : Int) = ((k + 1 + i : Nat) : Int):=by omega
  rw [ek]
  have hj : k + 1 + i < ps.length + 1:=by omega
  have hj1 : 1≤k + 1 + i:=by omega
  have hjk : k + 1 + i≠k:=by omega
  have ei : k + 1 + (i + 1) = k + 1 + i + 1:=by omega
  rw [ei]
  generalize k + 1 + i = j at h3 hj hj1 hjk ⊢
  obtain ⟨u,hu⟩:=zho hj1 hj
  have h3t:=k3 _ _ ntp ht
  have hat:=zgm hj
  rw [zdp hu] at hat
  have hlen:=zku ps k j
  refine ⟨_,rfl,_,rfl,_,_,_,_,rfl,rfl,SqT.of h3t,hat,_,rfl,_,_,rfl,.inl (SqL.of h3),rfl,zi9 _,_,rfl,?_⟩
  show if inV (.int (u : Int)) ((benL ps k j).map nV) = true then _ else _
  rw [zmE]
  have hB : isB ps k j = isB ps k u:=zbQ hT hjk hu
  have hult:=(zaL hT hu).1
  refine ite2 (fun c=>?_) (fun c=>?_)
  ·have c' : isB ps k u = true:=(zb6.mp (yaC c)).2
   refine ⟨_,rfl,.inl ⟨rfl,_,SqL.of h3⟩,_,rfl,_,_,_,rfl,rfl,h3,zan (by rw [yab]; omega),?_⟩
   refine ⟨_,rfl,?_,fun b o n e=>by rw [zag n]; exact k3 b o n e⟩
   rw [zac,ziI,hB,if_pos c',yal]
   rfl
  ·have c' : ¬ isB ps k u = true:=fun z=>c (yam (zb6.mpr ⟨hult,z⟩))
   refine ⟨_,rfl,?_,k3⟩
   rw [h3,ziI,hB,if_neg c',yaE]
 ·rintro σ H3 ⟨x3,rfl,h3,k3⟩
  refine ⟨_,rfl,?_⟩
  rw [show k + 1 + (ps.length - k) = ps.length + 1 by omega] at h3
  exact q p H3 hp (fun b o e=>k3 b o (zab e hp) e) h3
def zbD (es : List (Int×Int)) : List (Int×Int):=zb5 es (za4 es)
def zbz (rows : List (List Int)) (k : Nat) : List Int:=rows.getD k []
def ownE (rows : List (List Int)) (k : Nat) : List (Int×Int):=(zbz rows k).map fun x=>(x,(k : Int))
def zk2 (ps : List Nat) (rows : List (List Int)) : Nat→Nat→List (Int×Int)
 | 0,_=>[]
 | f + 1,k=>zdg (((zaM ps k (ps.length + 1)).map fun c=>zbD (zk2 ps rows f c)).flatten ++ ownE rows k)
theorem zgP {ps : List Nat} (T : zaB ps) {rows : List (List Int)} : ∀ f g k,k < ps.length + 1→ps.length + 1 - k≤f→ps.length + 1 - k≤g→zk2 ps rows f k = zk2 ps rows g k
 | 0,_,k,hk,h,_=>by omega
 | _,0,k,hk,_,h=>by omega
 | f + 1,g + 1,k,hk,hf,hg=>by
  unfold zk2
  congr 3
  refine ycC fun c hc=>?_
  have h:=zaC.mp hc
  have:=zaL T h.2
  show zbD _ = zbD _
  rw [zgP T f g c h.1 (by omega) (by omega)]
def zaj (ps : List Nat) (rows : List (List Int)) (k : Nat) : List (Int×Int):=zk2 ps rows (ps.length + 1 - k) k
def zd3 (ps : List Nat) (rows : List (List Int)) (k : Nat) : List (List (Int×Int)):=((zaM ps k (ps.length + 1)).map fun c=>zbD (zaj ps rows c)) ++ [ownE rows k]
theorem zcA {ps : List Nat} (T : zaB ps) {rows : List (List Int)} {k : Nat} (hk : k < ps.length + 1) : zaj ps rows k = zdg (zd3 ps rows k).flatten:=by
 unfold zaj zd3
 obtain ⟨f,hf⟩ : ∃ f,ps.length + 1 - k = f + 1:=⟨ps.length - k,by omega⟩
 rw [hf,zk2,ybR,List.flatten_singleton]
 congr 3
 refine ycC fun c hc=>?_
 have h:=zaC.mp hc
 have:=zaL T h.2
 show zbD _ = zbD _
 rw [zgP T f (ps.length + 1 - c) c h.1 (by omega) (by omega)]
 rfl
structure zaS (rows : List (List Int)) : Prop where
 up : ∀ row∈rows,row.Pairwise (· < ·)
 key : ∀ row∈rows,∀ x∈row,-(10 ^ 60) < x∧x < 10 ^ 60
theorem zaS.at_up {rows : List (List Int)} (R : zaS rows) (k : Nat) : (zbz rows k).Pairwise (· < ·):=by
 unfold zbz
 rw [yad]
 cases e : rows[k]? with
 | none=>exact .nil
 | some row=>exact R.up row (yaK e)
theorem zaS.at_key {rows : List (List Int)} (R : zaS rows) (k : Nat) : ∀ x∈zbz rows k,-(10 ^ 60) < x∧x < 10 ^ 60:=by
 unfold zbz
 rw [yad]
 cases e : rows[k]? with
 | none=>exact fun x hx=>nomatch hx
 | some row=>exact R.key row (yaK e)
theorem zit {α : Type} : ∀ (es : List α) (ms : List Bool),(zb5 es ms).Sublist es
 | [],_=>by
  unfold zb5
  exact List.Sublist.refl _
 | e :: es,[]=>by
  unfold zb5
  exact List.nil_sublist _
 | e :: es,m :: ms=>by
  have ih:=zit es ms
  unfold zb5 at ih ⊢
  cases m with
  | false=>exact List.Sublist.cons e ih
  | true=>exact List.Sublist.cons₂ e ih
theorem zaX (es : List (Int×Int)) : (zbD es).Sublist es:=zit _ _
def Of (ps : List Nat) (rows : List (List Int)) (k : Nat) (e : Int×Int) : Prop:=∃ j,j < ps.length + 1∧isB ps k j = true∧e.2 = (j : Int)∧e.1∈zbz rows j
theorem zib {ps : List Nat} {rows : List (List Int)} {k : Nat} (hk : k < ps.length + 1) {e : Int×Int} (h : e∈ownE rows k) : Of ps rows k e∧e.2 = (k : Int):=by
 obtain ⟨x,hx,rfl⟩:=yaI.mp h
 exact ⟨⟨k,hk,zc4,rfl,hx⟩,rfl⟩
theorem zic {rows : List (List Int)} (R : zaS rows) (k : Nat) : (ownE rows k).Nodup:=by
 unfold ownE
 rw [List.nodup_iff_pairwise_ne,yb1]
 exact List.Pairwise.imp (fun {a b} (h : a < b) z=>by
  have:=congrArg Prod.fst z
  have : a = b:=this
  omega) (R.at_up k)
theorem zfW {ps : List Nat} (T : zaB ps) {rows : List (List Int)} (R : zaS rows) : ∀ (m k : Nat),ps.length + 1 - k≤m→k < ps.length + 1→(∀ e∈zaj ps rows k,Of ps rows k e)∧(zd3 ps rows k).flatten.Nodup
 | 0,k,hm,hk=>by omega
 | m + 1,k,hm,hk=>by
  have ih : ∀ c,par ps c = some k→(∀ e∈zaj ps rows c,Of ps rows c e)∧(zaj ps rows c).Nodup:=fun c hc=>by
   have:=zaL T hc
   have q:=zfW T R m c (by omega) this.2
   refine ⟨q.1,?_⟩
   rw [zcA T this.2]
   exact (zb7 _).nodup_iff.mpr q.2
  have up : ∀ {c : Nat} {e : Int×Int},par ps c = some k→Of ps rows c e→Of ps rows k e:=fun {c e} hc h=>by
   obtain ⟨j,h1,h2,h3,h4⟩:=h
   exact ⟨j,h1,(zeY T j j (yaa _) h1).mpr (.inr ⟨c,hc,h2⟩),h3,h4⟩
  refine ⟨fun e he=>?_,?_⟩
  ·rw [zcA T hk,zeq] at he
   obtain ⟨l,hl,he⟩:=ycp.mp he
   rcases yan.mp hl with q | q
   ·obtain ⟨c,hc,rfl⟩:=yaI.mp q
    have hp:=(zaC.mp hc).2
    exact up hp ((ih c hp).1 e ((zaX _).mem he))
   ·rw [yao.mp q] at he
    exact (zib hk he).1
  ·show List.Pairwise _ _
   unfold zd3
   rw [List.pairwise_flatten]
   refine ⟨fun l hl=>?_,?_⟩
   ·rcases yan.mp hl with q | q
    ·obtain ⟨c,hc,rfl⟩:=yaI.mp q
     exact (ih c (zaC.mp hc).2).2.sublist (zaX _)
    ·rw [yao.mp q]
     exact zic R k
   ·rw [yaM]
    refine ⟨?_,List.pairwise_singleton _ _,?_⟩
    ·rw [yb1]
     refine List.Pairwise.imp_of_mem (fun {c d} hc hd hcd=>?_) (ziC ps k _)
     intro x hx y hy z
     subst z
     have pc:=(zaC.mp hc).2
     have pd:=(zaC.mp hd).2
     obtain ⟨j,_,h2,h3,_⟩:=(ih c pc).1 x ((zaX _).mem hx)
     obtain ⟨i,_,g2,g3,_⟩:=(ih d pd).1 x ((zaX _).mem hy)
     have : j = i:=by omega
     subst this
     exact zdu T pc pd (yar hcd) j j (yaa _) h2 g2
    ·intro l hl l' hl' x hx y hy z
     subst z
     obtain ⟨c,hc,rfl⟩:=yaI.mp hl
     rw [yao.mp hl'] at hy
     have pc:=(zaC.mp hc).2
     obtain ⟨j,_,h2,h3,_⟩:=(ih c pc).1 x ((zaX _).mem hx)
     have h4:=(zib hk hy).2
     have : j = k:=by omega
     subst this
     rw [zeX T (zaL T pc).1] at h2
     cases h2
theorem zdX {ps : List Nat} (T : zaB ps) {rows : List (List Int)} (R : zaS rows) {k : Nat} (hk : k < ps.length + 1) : ∀ e∈zaj ps rows k,Of ps rows k e:=(zfW T R _ k (yaa _) hk).1
theorem zeg {ps : List Nat} (T : zaB ps) {rows : List (List Int)} (R : zaS rows) {k : Nat} (hk : k < ps.length + 1) : (zaj ps rows k).Nodup:=by
 rw [zcA T hk]
 exact (zb7 _).nodup_iff.mpr (zfW T R _ k (yaa _) hk).2
theorem zaN {ps : List Nat} (T : zaB ps) {rows : List (List Int)} (R : zaS rows) {k : Nat} (hk : k < ps.length + 1) : Rise (zaj ps rows k):=by
 rw [zcA T hk]
 exact zfd (zfW T R _ k (yaa _) hk).2
theorem ze0 {ps : List Nat} (T : zaB ps) {rows : List (List Int)} (R : zaS rows) (hz : ps.length≤40) {k : Nat} (hk : k < ps.length + 1) : ∀ e∈zaj ps rows k,zek 64 e:=fun e he=>by
 obtain ⟨j,h1,h2,h3,h4⟩:=zdX T R hk e he
 have:=R.at_key j _ h4
 exact ⟨this.1,this.2,by omega,by omega⟩
def wtR (ps : List Nat) (rows : List (List Int)) (k : Nat) : Nat:=((benL ps k (ps.length + 1)).map fun j=>(zbz rows j).length).sum
theorem znm {l m : List Nat} (h : l.Perm m) : l.sum = m.sum:=by
 induction h with
 | nil=>rfl
 | cons x _ ih=>rw [yaR,yaR,ih]
 | swap x y l=>rw [yaR,yaR,yaR,yaR]; omega
 | trans _ _ h1 h2=>rw [h1,h2]
theorem zjx (f : Nat→Nat) : ∀ (ls : List (List Nat)),(ls.flatten.map f).sum = (ls.map fun l=>(l.map f).sum).sum
 | []=>rfl
 | l :: ls=>by
  rw [List.flatten_cons,yal,List.sum_append,zjx f ls,yay,yaR]
theorem zle {ps : List Nat} (T : zaB ps) (f : Nat→Nat) {k : Nat} (hk : k < ps.length + 1) : ((benL ps k (ps.length + 1)).map f).sum = f k + ((zaM ps k (ps.length + 1)).map fun c=>((benL ps c (ps.length + 1)).map f).sum).sum:=by
 have h:=znm ((zkJ T hk).map f)
 rw [yay,yaR,zjx,ybB] at h
 exact h.symm
theorem zoo {f g : Nat→Nat} : ∀ {l : List Nat},(∀ x∈l,f x≤g x)→(l.map f).sum≤(l.map g).sum
 | [],_=>yaa _
 | x :: l,h=>by
  rw [yay,yaR,yay,yaR]
  have h1:=h x yaz
  have h2:=zoo (f:=f) (g:=g) (l:=l) fun y hy=>h y (yaG _ hy)
  omega
theorem zka {α : Type} : ∀ (ls : List (List α)),ls.flatten.length = (ls.map List.length).sum
 | []=>rfl
 | l :: ls=>by
  rw [List.flatten_cons,yah,zka ls,yay,yaR]
theorem zmM {ps : List Nat} (T : zaB ps) {rows : List (List Int)} {k : Nat} (hk : k < ps.length + 1) : (zaj ps rows k).length = (zbz rows k).length + ((zaM ps k (ps.length + 1)).map fun c=>(zbD (zaj ps rows c)).length).sum:=by
 rw [zcA T hk,zcp]
 unfold zd3
 rw [ybR,yah,List.flatten_singleton,zka,ybB]
 unfold ownE
 rw [yab,Nat.add_comm]
 rfl
theorem zgO {ps : List Nat} (T : zaB ps) {rows : List (List Int)} : ∀ (m k : Nat),ps.length + 1 - k≤m→k < ps.length + 1→(zaj ps rows k).length≤wtR ps rows k
 | 0,k,hm,hk=>by omega
 | m + 1,k,hm,hk=>by
  unfold wtR
  rw [zmM T hk,zle T _ hk]
  refine ycu (zoo fun c hc=>?_) _
  have h:=zaC.mp hc
  have:=zaL T h.2
  exact yat (zaX _).length_le (zgO T m c (by omega) h.1)
theorem zgA (f : Nat→Nat) (P : Nat→Bool) : ∀ (l : List Nat),((l.filter P).map f).sum≤(l.map f).sum
 | []=>yaa _
 | x :: l=>by
  have ih:=zgA f P l
  rw [yay,yaR]
  by_cases h : P x = true
  ·rw [ya8 h,yay,yaR]
   omega
  ·rw [ybj h]
   omega
def zcm (rows : List (List Int)) : Nat:=(rows.map List.length).sum
theorem zlz (rows : List (List Int)) : ((List.range rows.length).map fun j=>(zbz rows j).length).sum = zcm rows:=by
 unfold zcm
 congr 1
 apply ybi
 intro i
 rw [yaj,yaj]
 by_cases h : i < rows.length
 ·rw [ybs h,yac h]
  show some (zbz rows i).length = some rows[i].length
  unfold zbz
  rw [yad,yac h]
  rfl
 ·rw [yaW (by rw [ya1]; omega),yaW (by omega)]
  rfl
theorem zol {ps : List Nat} {rows : List (List Int)} (hl : rows.length = ps.length + 1) (k : Nat) : wtR ps rows k≤zcm rows:=by
 unfold wtR benL
 refine yat (zgA _ _ _) ?_
 rw [← hl,zlz]
 exact yaa _
theorem zdv {ps : List Nat} (T : zaB ps) {rows : List (List Int)} (hl : rows.length = ps.length + 1) {k : Nat} (hk : k < ps.length + 1) : (zaj ps rows k).length≤zcm rows:=yat (zgO T _ k (yaa _) hk) (zol hl k)
def zaJ (H : Hp) (as : List Addr) (rows : List (List Int)) : Prop:=Paired (fun a row=>H a = some (.tup (row.map V.int))) as rows
theorem zaJ.ext {H H' : Hp} (e : ∀ b o,H b = some o→H' b = some o) : ∀ {as : List Addr} {rows : List (List Int)},zaJ H as rows→zaJ H' as rows
 | _,_,.nil=>.nil
 | _,_,.cons h t=>.cons (e _ _ h) (zaJ.ext e t)
theorem zaJ.keep {d p : Addr} {H H' : Hp} (hd : ∀ a row,H a = some (.tup row)→a≠d) (e : ∀ b o,b≠d→H b = some o→H' b = some o) : ∀ {as : List Addr} {rows : List (List Int)},zaJ H as rows→zaJ H' as rows
 | _,_,.nil=>.nil
 | _,_,.cons h t=>.cons (e _ _ (hd _ _ h) h) (zaJ.keep (p:=p) hd e t)
theorem zaJ.length {H : Hp} {as : List Addr} {rows : List (List Int)} (h : zaJ H as rows) : as.length = rows.length:=Paired.length h
theorem zaJ.get {H : Hp} : ∀ {as : List Addr} {rows : List (List Int)} {k : Nat},zaJ H as rows→k < rows.length→∃ a,as[k]? = some a∧H a = some (.tup ((zbz rows k).map V.int))
 | _,_,_,.nil,hk=>by simp at hk
 | a :: as,row :: rows,0,.cons h t,_=>⟨a,rfl,h⟩
 | a :: as,row :: rows,k + 1,.cons h t,hk=>by
  obtain ⟨b,h1,h2⟩:=zaJ.get (k:=k) t (by simpa using hk)
  refine ⟨b,by rw [ycg]; exact h1,?_⟩
  have : zbz (row :: rows) (k + 1) = zbz rows k:=by
   unfold zbz
   rw [yad,yad,ycg]
  rw [this]
  exact h2
theorem zaJ.snoc {H : Hp} {a : Addr} {row : List Int} : ∀ {as : List Addr} {rows : List (List Int)},zaJ H as rows→H a = some (.tup (row.map V.int))→zaJ H (as ++ [a]) (rows ++ [row])
 | _,_,.nil,h=>.cons h .nil
 | _,_,.cons h t,h2=>.cons h (zaJ.snoc t h2)
structure za2 (H : Hp) (st : Addr) (ps : List Nat) (rows : List (List Int)) (t rs : Addr) (as : List Addr) : Prop where
 st : H st = some (.tup [.ref t,.ref rs])
 tr : H t = some (.tup (zbY ps))
 rs : H rs = some (.tup (as.map V.ref))
 at_ : zaJ H as rows
 len : rows.length = ps.length + 1
 T : zaB ps
 R : zaS rows
 few : ps.length≤40
 keys : zcm rows≤400
theorem za2.same {H H' : Hp} {st t rs : Addr} {ps : List Nat} {rows : List (List Int)} {as : List Addr} (S : za2 H st ps rows t rs as) (e : Same H H') : za2 H' st ps rows t rs as:=
 ⟨e _ _ S.st,e _ _ S.tr,e _ _ S.rs,S.at_.ext e,S.len,S.T,S.R,S.few,S.keys⟩
theorem zd5 {as : List Addr} {k : Nat} {a : Addr} (h : as[k]? = some a) : atI (as.map V.ref) (k : Int) = some (.ref a):=zbh (by rw [yaj,h]; rfl)
theorem zif {α : Type} {l : List α} (h : l.Nodup) : l.reverse.Nodup:=(List.reverse_perm l).nodup_iff.mpr h
def zgp (K : Frag) (H : Hp) (ps : List Nat) (rows : List (List Int)) (j : Nat) (q : Addr) : Prop:=∃ ws,H q = some (.lst ws)∧zam K H (zaj ps rows j) ws
def zay (K : Frag) (H : Hp) (ps : List Nat) (rows : List (List Int)) : List Nat→List Addr→Prop:=Paired (zgp K H ps rows)
theorem zgp.same {K : Frag} {H H' : Hp} {ps : List Nat} {rows : List (List Int)} {j : Nat} {q : Addr} (h : zgp K H ps rows j q) (e : Same H H') : zgp K H' ps rows j q:=by
 obtain ⟨ws,h1,h2⟩:=h
 exact ⟨ws,e _ _ h1,h2.mono e.ext⟩
theorem zay.same {K : Frag} {H H' : Hp} {ps : List Nat} {rows : List (List Int)} (e : Same H H') : ∀ {js : List Nat} {qs : List Addr},zay K H ps rows js qs→zay K H' ps rows js qs
 | _,_,.nil=>.nil
 | _,_,.cons h t=>.cons (zgp.same h e) (zay.same e t)
theorem zay.ext {K : Frag} {H H' : Hp} {ps : List Nat} {rows : List (List Int)} (e : Ext H H') : ∀ {js : List Nat} {qs : List Addr},zay K H ps rows js qs→zay K H' ps rows js qs
 | _,_,.nil=>.nil
 | _,_,.cons h t=>by
  obtain ⟨ws,a1,a2⟩:=h
  exact .cons ⟨ws,e _ _ a1 (fun _ z=>nomatch z),a2.mono e⟩ (zay.ext e t)
theorem zay.length {K : Frag} {H : Hp} {ps : List Nat} {rows : List (List Int)} {js : List Nat} {qs : List Addr} (h : zay K H ps rows js qs) : js.length = qs.length:=Paired.length h
theorem zay.snoc {K : Frag} {H : Hp} {ps : List Nat} {rows : List (List Int)} {j : Nat} {q : Addr} : ∀ {js : List Nat} {qs : List Addr},zay K H ps rows js qs→zgp K H ps rows j q→zay K H ps rows (js ++ [j]) (qs ++ [q])
 | _,_,.nil,h=>.cons h .nil
 | _,_,.cons h t,h2=>.cons h (zay.snoc t h2)
theorem zay.get {K : Frag} {H : Hp} {ps : List Nat} {rows : List (List Int)} : ∀ {js : List Nat} {qs : List Addr} {i j : Nat},zay K H ps rows js qs→js[i]? = some j→∃ q,qs[i]? = some q∧zgp K H ps rows j q
 | _,_,i,j,.nil,h=>by simp at h
 | _ :: _,q :: _,0,j,.cons h t,e=>by
  have:=yae (show some _ = some j from e)
  subst this
  exact ⟨q,rfl,h⟩
 | _ :: _,_ :: _,i + 1,j,.cons h t,e=>by
  obtain ⟨q,h1,h2⟩:=zay.get (i:=i) t (by simpa using e)
  exact ⟨q,by simpa using h1,h2⟩
theorem zay.rev {K : Frag} {H : Hp} {ps : List Nat} {rows : List (List Int)} : ∀ {js : List Nat} {qs : List Addr},zay K H ps rows js qs→zay K H ps rows js.reverse qs.reverse
 | _,_,.nil=>.nil
 | j :: js,q :: qs,.cons h t=>by
  rw [ybD,ybD]
  exact zay.snoc (zay.rev t) h
theorem zay.alloc {K : Frag} {H : Hp} {ps : List Nat} {rows : List (List Int)} : ∀ {js : List Nat} {qs : List Addr},zay K H ps rows js qs→∀ q∈qs,∃ ws,H q = some (.lst ws)
 | _,_,.nil=>fun q hq=>nomatch hq
 | _ :: _,_ :: _,.cons h t=>fun q hq=>by
  rcases yap.mp hq with e | e
  ·obtain ⟨ws,h1,_⟩:=h
   exact ⟨ws,e ▸ h1⟩
  ·exact zay.alloc t q e
abbrev kN (j : Nat) : Key:=Sum.inl (j : Int)
def zdt : List Nat→List Addr→List (Key×V)
 | j :: js,q :: qs=>(kN j,.ref q) :: zdt js qs
 | _,_=>[]
theorem zkd {j : Nat} : ∀ {js : List Nat} {qs : List Addr},j∉js→valV (zdt js qs) (kN j) = none
 | [],_,_=>rfl
 | _ :: _,[],_=>rfl
 | i :: js,q :: qs,h=>by
  have h1 : ¬ kN i = kN j:=fun z=>h (by
   have:=Int.ofNat.inj (Sum.inl.inj z)
   rw [this]
   exact yaz)
  show valV ((kN i,V.ref q) :: zdt js qs) (kN j) = none
  rw [zbt h1]
  exact zkd fun z=>h (yaG _ z)
theorem zi2 {j : Nat} {q : Addr} : ∀ {js : List Nat} {qs : List Addr} {i : Nat},js.Nodup→js[i]? = some j→qs[i]? = some q→valV (zdt js qs) (kN j) = some (.ref q)
 | [],_,_,_,h,_=>by simp at h
 | _ :: _,[],_,_,_,h=>by simp at h
 | a :: js,b :: qs,0,_,h1,h2=>by
  have:=yae (show some a = some j from h1)
  subst this
  have:=yae (show some b = some q from h2)
  subst this
  exact zco (p:=(kN a,V.ref b)) rfl
 | a :: js,b :: qs,i + 1,hn,h1,h2=>by
  have g1 : js[i]? = some j:=by simpa using h1
  have hne : ¬ kN a = kN j:=fun z=>by
   have e:=Int.ofNat.inj (Sum.inl.inj z)
   exact (yaS.mp hn).1 (e ▸ yaK g1)
  show valV ((kN a,V.ref b) :: zdt js qs) (kN j) = _
  rw [zbt hne]
  exact zi2 (yaS.mp hn).2 g1 (by simpa using h2)
theorem zkc {j : Nat} {q : Addr} : ∀ {js : List Nat} {qs : List Addr},js.length = qs.length→zdt (js ++ [j]) (qs ++ [q]) = zdt js qs ++ [(kN j,.ref q)]
 | [],[],_=>rfl
 | [],_ :: _,h=>by cases h
 | _ :: _,[],h=>by cases h
 | a :: js,b :: qs,h=>by
  show (kN a,V.ref b) :: zdt (js ++ [j]) (qs ++ [q]) = (kN a,V.ref b) :: (zdt js qs ++ [(kN j,V.ref q)])
  rw [zkc (Nat.succ.inj h)]
theorem zpD {j : Nat} {q : Addr} {js : List Nat} {qs : List Addr} (hl : js.length = qs.length) (h : j∉js) : putK (zdt js qs) (kN j) (.ref q) = zdt (js ++ [j]) (qs ++ [q]):=by
 rw [zeF _ (zkd h),zkc hl]
theorem zmr : ∀ {js : List Nat} {qs : List Addr},js.length = qs.length→(zdt js qs).length = js.length
 | [],[],_=>rfl
 | [],_ :: _,h=>by cases h
 | _ :: _,[],h=>by cases h
 | a :: js,b :: qs,h=>by
  show (zdt js qs).length + 1 = js.length + 1
  rw [zmr (Nat.succ.inj h)]
theorem zoj {l : List Nat} (h : l.Pairwise (· > ·)) {i j c : Nat} (hj : l[i]? = some j) (hc : c∈l) (hcj : j < c) : c∈l.take i:=by
 obtain ⟨u,hu,rfl⟩:=yaV hc
 obtain ⟨hi,rfl⟩:=yag.mp hj
 have : u < i:=by
  refine ycn fun z=>?_
  by_cases e : i = u
  ·subst e
   omega
  ·have:=yaO.mp h i u hi hu (by omega)
   omega
 rw [List.mem_iff_getElem?]
 exact ⟨u,by rw [ybI,if_pos this,yac hu]⟩
theorem zn3 {ps : List Nat} (T : zaB ps) {k j c : Nat} (h : isB ps k j = true) (hc : par ps c = some j) : isB ps k c = true:=by
 by_cases e : c = k
 ·rw [e]
  exact zc4
 ·rw [zbQ T e hc]
  exact h
def zqj (K : Frag) : Sp:=fun vs H Q _=>∃ (st : Addr) (ps : List Nat) (rows : List (List Int)) (t rs : Addr) (as : List Addr) (j : Nat),vs = [.ref st,.int j]∧za2 H st ps rows t rs as∧j < ps.length + 1∧
 ∀ (D : Addr) (us : List V) (H' : Hp),H D = none→Same H H'→H' D = some (.lst us)→zam K H' (ownE rows j) us→Q (.ref D) H'
theorem zqE (T : Txt K mg) (D_own_entries : DF K mg "own_entries" zbZ zbM) : FC P w K mg base 1 "own_entries" zbM (zqj K):=by
 refine D_own_entries.ok sc_own_entries (fun vs H Q E h=>?_) (fun f cdv A outer s H vs Q E hr h=>?_)
 ·obtain ⟨st,ps,rows,t,rs,as,k,rfl,_⟩:=h
  rfl
 obtain ⟨st,ps,rows,t,rs,as,j,rfl,S4,hjn,q⟩:=h
 refine ⟨_,(zah (zau (zbJ (N:=["key","knot"]) (own:=1) (cap:=[1]) rfl (zdj (zaz zaW (zaz zaW (pv 0) zae (fun _ _=>rfl)) (pv 1) (fun _ _=>rfl))) ⟨rfl,rfl,rfl,rfl,rfl,rfl⟩ (fun _ _ _ _ _=>(zal (i:=0) (show List.Nodup (["key","knot"] : List Str) by decide +kernel) rfl (Or.inl rfl))) (fun _ _ _ _ _=>zbH) (fun _ _ _ _ _=>(zbe (zaa (pv 0) (zaa (pv 1) zad))))))),?_⟩
 obtain ⟨a,ha1,ha4⟩:=S4.at_.get (k:=j) (by rw [S4.len]; exact hjn)
 have hkeys:=S4.keys
 refine ⟨_,rfl,_,_,_,_,rfl,rfl,SqT.of S4.st,rfl,_,rfl,_,_,_,_,rfl,rfl,SqT.of S4.rs,zd5 ha1,a,rfl,⟨_,SqT.of ha4⟩,fun D3 hD3=>?_⟩
 refine zdZ (xs:=(zbz rows j).map V.int) (fun m σ H5=>∃ (us : List V) (x0 : Option V),σ = [x0,some (.int j)]∧H5 D3 = some (.lst us)∧zam K H5 ((ownE rows j).take m) us∧But D3 H H5) ?_ ?_ ?_ ?_
 ·exact ⟨[],_,rfl,zac,.nil,fun b o n e=>by rw [zag n]; exact e⟩
 ·rintro m σ H5 _ ⟨us,x0,rfl,_,_,k5⟩
  exact SqT.of (k5 _ _ (zab ha4 hD3) ha4)
 ·rintro m r x σ H5 hx hm ⟨us,x0,rfl,h5,hw5,k5⟩
  rw [yaj] at hx
  obtain ⟨y,hy,rfl⟩:=ybk.mp hx
  have hlow:=(yag.mp hy).1
  have htk3 : (ownE rows j).take (m + 1) = (ownE rows j).take m ++ [(y,(j : Int))]:=by
   unfold ownE
   rw [← ybL,← ybL,yaF hlow,yal]
   rw [(yag.mp hy).2]
   rfl
  have hul:=hw5.length
  rw [yak] at hul
  rw [yab] at hm
  have hrl : (zbz rows j).length≤zcm rows:=by
   have:=zol S4.len (k:=j) (ps:=ps)
   have e2 : wtR ps rows j = (zbz rows j).length + _:=zle S4.T _ hjn
   omega
  refine zdc ?_
  refine ⟨_,rfl,_,rfl,(by show 2≤sizeLine; decide),fun u hu=>?_⟩
  have su:=zai hu (.tup [.int y,.int (j : Int)])
  have h6:=su _ _ h5
  have hut : upd H5 u (.tup [.int y,.int (j : Int)]) u = some (.tup [.int y,.int (j : Int)]):=zac
  have k6:=k5.new' hu (.tup [.int y,.int (j : Int)])
  have hw6:=hw5.mono su.ext
  generalize upd H5 u (.tup [.int y,.int (j : Int)]) = H6 at su h6 hut k6 hw6 ⊢
  refine ⟨_,h6,zan (by omega),r - 1,by omega,by rw [yab]; omega,us ++ [.ref u],_,rfl,zac,?_,fun b o n e=>by rw [zag n]; exact k6 b o n e⟩
  rw [htk3]
  exact (zaQ h6 hw6).append (zaQ h6 (.cons ⟨u,.int y,.int (j : Int),rfl,hut,rfl,rfl⟩ .nil))
 ·rintro σ H5 ⟨us,x0,rfl,h5,hw5,k5⟩
  rw [yab,yaq (by unfold ownE; rw [yab]; exact yaa _)] at hw5
  exact q D3 us H5 hD3 (fun x o e=>k5 x o (zab e hD3) e) h5 hw5
def zql (K : Frag) : Sp:=fun vs H Q _=>∃ (st : Addr) (ps : List Nat) (rows : List (List Int)) (t rs : Addr) (as : List Addr) (k : Nat),vs = [.ref st,.int k]∧za2 H st ps rows t rs as∧k < ps.length + 1∧
 ∀ (D : Addr) (qs : List Addr) (H' : Hp),H D = none→Same H H'→H' D = some (.dK (zdt (benL ps k (ps.length + 1)).reverse qs))→qs.Nodup→(∀ q∈qs,H q = none)→zay K H' ps rows (benL ps k (ps.length + 1)).reverse qs→Q (.ref D) H'
theorem zqJ (T : Txt K mg) (D_full_rows_beneath : DF K mg "full_rows_beneath" za5 za0) (F_beneath : FC P w K mg base 1 "beneath" zdU (zh1 K)) (F_children : FC P w K mg base 1 "children" zch (zcH K)) (F_handed : FC P w K mg base 6 "handed" zeO (zjL K)) (F_own_entries : FC P w K mg base 1 "own_entries" zbM (zqj K)) (F_joined_up : FC P w K mg base 1 "joined_up" zcx (zov K)) : FC P w K mg base 7 "full_rows_beneath" za0 (zql K):=by
 refine D_full_rows_beneath.ok sc_full_rows_beneath (fun vs H Q E h=>?_) (fun f cdv A outer s H vs Q E hr h=>?_)
 ·obtain ⟨st,ps,rows,t,rs,as,k,rfl,_⟩:=h
  rfl
 obtain ⟨st,ps,rows,t,rs,as,k,rfl,S,hk,q⟩:=h
 refine ⟨_,(zaf (zap (i:=2) sc_full_rows_beneath.nd rfl (Or.inl rfl) (zaz zaW (pv 0) zae (fun _ _=>rfl)))
   (zaf (zap (i:=3) sc_full_rows_beneath.nd rfl (Or.inr rfl) zjV)
   (zaf (zaK PassesOwn.never rfl (ziS rfl T.m_reversed (zaa (zaA F_beneath hr (zaa (pv 2) (zaa (pv 1) zad))) zad)) (zal (i:=4) sc_full_rows_beneath.nd rfl (Or.inl rfl)) (zaf (zd8 (i:=5) (N:=["child","told"]) (own:=1) (cap:=[3]) sc_full_rows_beneath.nd rfl rfl rfl (zbC (zaA F_children hr (zaa (pv 2) (zaa (pv 4) zad)))) ⟨rfl,rfl,rfl,rfl,rfl,rfl⟩ (fun _ _ _ _ _=>(zal (i:=0) (show List.Nodup (["child","told"] : List Str) by decide +kernel) rfl (Or.inl rfl))) (fun _ _ _ _ _=>zbH) (fun _ _ _ _ _=>(zaA F_handed hr (zaa (zdn (zef hr) (pv 1) (pv 0) (fun _ _=>rfl)) zad))))
   (zaf (za7 (zdo F.plainAttrs_list F.slot_list_append F.type_list_append zaI (pv 5) (zaa (zaA F_own_entries hr (zaa (pv 0) (zaa (pv 4) zad))) zad)))
   (zah (zfg (zef hr) (pv 3) (pv 4) (zaA F_joined_up hr (zaa (pv 5) zad)) rfl)))))
   (zah (zau (pv 3)))))),?_⟩
 refine ⟨_,rfl,_,_,_,_,rfl,rfl,SqT.of S.st,rfl,fun D hD=>?_⟩
 have s0:=zai hD (.dK [])
 have hD0 : upd H D (.dK []) D = some (.dK []):=zac
 generalize upd H D (.dK []) = H0 at s0 hD0 ⊢
 refine ⟨_,rfl,_,rfl,t,ps,k,rfl,s0 _ _ S.tr,S.T,hk,by have:=S.few; omega,fun b H1 hb s1 h1=>?_⟩
 refine ⟨b,_,rfl,SqL.of h1,?_⟩
 have hup:=zji ps k (ps.length + 1)
 have hmem:=fun j=>zb6 (ps:=ps) (k:=k) (n:=ps.length + 1) (j:=j)
 have hbl:=zku ps k (ps.length + 1)
 generalize benL ps k (ps.length + 1) = bs at h1 q hup hmem hbl ⊢
 have hdn : bs.reverse.Pairwise (· > ·):=by
  rw [List.pairwise_reverse]
  exact hup
 have hnd : bs.reverse.Nodup:=List.Pairwise.imp (fun {a b} (q : a > b)=>ybC q) hdn
 refine zpN (xs:=bs.map nV) (fun i σ H2=>∃ (qs : List Addr) (x5 x6 : Option V),σ = [some (.ref st),some (.int k),some (.ref t),some (.ref D),x5,x6]∧H2 D = some (.dK (zdt (bs.reverse.take i) qs))∧qs.Nodup∧(∀ q∈qs,H q = none)∧zay K H2 ps rows (bs.reverse.take i) qs∧H2 b = some (.lst (bs.map nV))∧But D H H2) ?_ ?_ ?_ ?_
 ·exact ⟨[],_,_,rfl,s1 _ _ hD0,ybo,(fun q hq=>nomatch hq),.nil,h1,fun x o _ e=>s1 _ _ (s0 _ _ e)⟩
 ·rintro i σ H2 _ ⟨qs,x5,x6,rfl,_,_,_,_,h2b,_⟩
  exact SqL.of h2b
 ·rintro i x σ H2 hx ⟨qs,x5,x6,rfl,h2,hqn,hqf,hF,h2b,k2⟩
  rw [← List.map_reverse] at hx
  obtain ⟨hi,hxe⟩:=zgN hx
  have hji : bs.reverse[i]? = some (bs.reverse.getD i 0):=by
   rw [yad,yac hi]
   rfl
  subst hxe
  have htk : bs.reverse.take (i + 1) = bs.reverse.take i ++ [bs.reverse.getD i 0]:=by
   rw [yaF hi,yad,yac hi]
   rfl
  rw [htk]
  generalize bs.reverse.getD i 0 = j at hji htk ⊢
  have hjm : j∈bs:=yb4.mp (yaK hji)
  obtain ⟨hjn,hjB⟩:=(hmem j).mp hjm
  have hjnot : j∉bs.reverse.take i:=fun z=>by
   have hnd':=hnd
   rw [← yaZ (i + 1) bs.reverse,htk] at hnd'
   have:=(ybl.mp hnd').1
   exact (ybl.mp this).2.2 j z j (yao.mpr rfl) rfl
  have noD : ∀ {p : Addr} {o : HO},H p = some o→p≠D:=fun {p o} e=>zab e hD
  have S2 : za2 H2 st ps rows t rs as:=⟨k2 _ _ (noD S.st) S.st,k2 _ _ (noD S.tr) S.tr,k2 _ _ (noD S.rs) S.rs,zaJ.keep (p:=D) (d:=D) (fun a row e=>noD e) k2 S.at_,S.len,S.T,S.R,S.few,S.keys⟩
  have hkeys:=S.keys
  have hfew:=S.few
  refine ⟨_,rfl,_,rfl,t,ps,j,rfl,S2.tr,by omega,fun c H3 hc s3 h3=>?_⟩
  refine ⟨c,rfl,⟨_,SqL.of h3⟩,fun D2 hD2=>?_⟩
  have hcmem:=fun m=>zaC (ps:=ps) (k:=j) (n:=ps.length + 1) (j:=m)
  have hcl:=zcM ps j (ps.length + 1)
  have hparts : zd3 ps rows j = ((zaM ps j (ps.length + 1)).map fun c=>zbD (zaj ps rows c)) ++ [ownE rows j]:=rfl
  generalize zaM ps j (ps.length + 1) = cs at h3 hcmem hcl hparts ⊢
  have h3D:=s3 _ _ h2
  have nDD2 : D≠D2:=zab h3D hD2
  have F3 : zay K H3 ps rows (bs.reverse.take i) qs:=hF.same s3
  refine zbU (xs:=cs.map nV) (fun m σ H4=>∃ (gs : List Addr) (x0 : Option V),σ = [x0,some (.ref D)]∧H4 D2 = some (.lst (gs.map V.ref))∧Own K H4 gs ((cs.take m).map fun c=>zbD (zaj ps rows c))∧D2∉gs∧But D2 H3 H4) ?_ ?_ ?_ ?_
  ·exact ⟨[],_,rfl,zac,.nil,(fun z=>nomatch z),fun b o n e=>by rw [zag n]; exact e⟩
  ·rintro m σ H4 _ ⟨gs,x0,rfl,_,_,_,k4⟩
   exact k4.sq (SqL.of h3) hD2
  ·rintro m r x σ H4 hx hm ⟨gs,x0,rfl,h4,hO,hg,k4⟩
   obtain ⟨hmi,rfl⟩:=zgN hx
   have hcm : cs[m]? = some (cs.getD m 0):=by
    rw [yad,yac hmi]
    rfl
   have htk2 : cs.take (m + 1) = cs.take m ++ [cs.getD m 0]:=by
    rw [yaF hmi,yad,yac hmi]
    rfl
   rw [htk2]
   generalize cs.getD m 0 = ch at hcm ⊢
   obtain ⟨hchn,hchp⟩:=(hcmem ch).mp (yaK hcm)
   have hlt:=(zaL S.T hchp).1
   have hin : ch∈bs.reverse.take i:=zoj hdn hji (yb4.mpr ((hmem ch).mpr ⟨hchn,zn3 S.T hjB hchp⟩)) hlt
   obtain ⟨u,hu,hue⟩:=yaV hin
   have hu2 : (bs.reverse.take i)[u]? = some ch:=by rw [yac hu,hue]
   obtain ⟨qq,hq1,ws,hq2,hq3⟩:=F3.get hu2
   have hnd2 : (bs.reverse.take i).Nodup:=hnd.sublist (List.take_sublist _ _)
   have hv:=zi2 hnd2 hu2 hq1
   have k4D:=k4 _ _ nDD2 h3D
   have hq4:=k4 _ _ (zab hq2 hD2) hq2
   have hq5 : zam K H4 (zaj ps rows ch) ws:=by
    have key : ∀ {es : List (Int×Int)} {vs : List V},zam K H3 es vs→zam K H4 es vs:=by
     intro es vs hh
     induction hh with
     | nil=>exact .nil
     | cons a _ ih=>
      obtain ⟨b,x1,x2,rfl,q,e1,e2⟩:=(show hasP K H3 _ _ from a)
      exact .cons ⟨b,x1,x2,rfl,k4 _ _ (zab q hD2) q,e1,e2⟩ ih
    exact key hq3
   have hlen:=zdv S.T S.len (rows:=rows) hchn
   refine zdc ?_
   have hdg : DGet H4 D (.int (ch : Int)) (some (.ref qq)):=by
    rw [← hv]
    exact DGet.k (k:=kN ch) k4D
   refine ⟨_,rfl,_,rfl,D,_,rfl,hdg,?_⟩
   refine ⟨qq,ws,zaj ps rows ch,rfl,hq4,hq5,by omega,ze0 S.T S.R hfew hchn,zaN S.T S.R hchn,fun g H5 hg5 s5 h5=>?_⟩
   have hgl:=hO.length
   rw [yab,yak] at hgl
   have h5D2:=s5 _ _ h4
   have ngD2 : D2≠g:=zab h4 hg5
   rw [yab] at hm
   refine ⟨_,h5D2,zan (by rw [yab]; omega),r - 1,by omega,by rw [yab]; omega,gs ++ [g],_,rfl,?_,?_,?_,fun x o n e=>by rw [zag n]; exact s5 _ _ (k4 x o n e)⟩
   ·rw [zac,yal]
    rfl
   ·rw [yal]
    refine Own.other h5D2 (Own.append (hO.ext s5.ext) (.cons ⟨_,h5,?_⟩ .nil)) ?_
    ·exact zkl (hq5.mono s5.ext)
    ·intro z
     rcases yan.mp z with z | z
     ·exact hg z
     ·exact ngD2 (yao.mp z)
   ·intro z
    rcases yan.mp z with z | z
    ·exact hg z
    ·exact ngD2 (yao.mp z)
  ·rintro σ H4 ⟨gs,x0,rfl,h4,hO,hg,k4⟩
   rw [yab,yaq (yaa _)] at hO
   have hgl:=hO.length
   rw [yab] at hgl
   have s34 : Same H3 H4:=fun x o e=>k4 x o (zab e hD2) e
   have s24 : Same H2 H4:=s3.trans s34
   have S4:=S2.same s24
   refine ⟨_,rfl,.inl ⟨rfl,_,SqL.of h4⟩,_,rfl,_,rfl,st,ps,rows,t,rs,as,j,rfl,S4,hjn,fun D3 us H5 hD3 s45 h5 hw5=>?_⟩
   have h5D2:=s45 _ _ h4
   have n23 : D2≠D3:=zab h4 hD3
   refine ⟨_,_,_,rfl,rfl,h5D2,zan (by rw [yab]; omega),?_⟩
   have O5 : Own K H5 (gs ++ [D3]) (zd3 ps rows j):=by
    rw [hparts]
    exact Own.append (hO.ext s45.ext) (.cons ⟨us,h5,hw5⟩ .nil)
   have nin : D2∉gs ++ [D3]:=fun z=>by
    rcases yan.mp z with z | z
    ·exact hg z
    ·exact n23 (yao.mp z)
   have O6:=O5.other (o:=.lst (gs.map V.ref ++ [.ref D3])) h5D2 nin
   have h6 : upd H5 D2 (.lst (gs.map V.ref ++ [.ref D3])) D2 = some (.lst ((gs ++ [D3]).map V.ref)):=by
    rw [zac,yal]
    rfl
   have k26 : ∀ x o,H2 x = some o→upd H5 D2 (.lst (gs.map V.ref ++ [.ref D3])) x = some o:=fun x o e=>by
    rw [zag (zab (s3 _ _ e) hD2)]
    exact s45 _ _ (s24 _ _ e)
   generalize upd H5 D2 (.lst (gs.map V.ref ++ [.ref D3])) = H6 at O6 h6 k26 ⊢
   have hfl : (zd3 ps rows j).flatten.length≤1000:=by
    have:=zdv S.T S.len (rows:=rows) hjn
    rw [zcA S.T hjn,zcp] at this
    omega
   refine ⟨_,rfl,D2,gs ++ [D3],zd3 ps rows j,rfl,h6,O6,hfl,fun p ws H7 hp s7 h7 hw7=>?_⟩
   rw [← zcA S.T hjn] at hw7
   have s27 : Same H2 H7:=fun x o e=>s7 _ _ (k26 x o e)
   have h7D:=s27 _ _ h2
   have hql:=hF.length
   have hpD : p≠D:=Ne.symm (zab (k26 _ _ h2) hp)
   refine ⟨_,rfl,_,rfl,D,_,rfl,DPut.k (k:=kN j) h7D (zan (by rw [zmr hql,yak,ybE]; omega)),?_⟩
   rw [zpD hql hjnot]
   have e78 : Ext H7 (upd H7 D (.dK (zdt (bs.reverse.take i ++ [j]) (qs ++ [p])))):=fun x o e n=>by
    rw [zag (fun z=>by
     rw [z,h7D] at e
     cases e
     exact n _ rfl)]
    exact e
   have F8 : zay K (upd H7 D (.dK (zdt (bs.reverse.take i ++ [j]) (qs ++ [p])))) ps rows (bs.reverse.take i ++ [j]) (qs ++ [p]):=by
    exact zay.ext e78 (zay.snoc (hF.same s27) ⟨ws,h7,hw7⟩)
   refine ⟨qs ++ [p],_,_,rfl,zac,?_,?_,F8,?_,fun x o n e=>?_⟩
   ·rw [ybl]
    refine ⟨hqn,yaS.mpr ⟨(fun z=>nomatch z),ybo⟩,fun a ha b hb z=>?_⟩
    rw [yao.mp hb] at z
    subst z
    obtain ⟨ws',hws⟩:=hF.alloc a ha
    have:=k26 _ _ hws
    rw [hp] at this
    cases this
   ·intro x hx
    rcases yan.mp hx with z | z
    ·exact hqf x z
    ·rw [yao.mp z]
     cases e : H p with
     | none=>rfl
     | some o=>
      have:=k26 _ _ (k2 p o hpD e)
      rw [hp] at this
      cases this
   ·rw [zag (fun z=>by rw [z,h2] at h2b; cases h2b)]
    exact s27 _ _ h2b
   ·rw [zag n]
    exact s27 _ _ (k2 x o n e)
 ·rintro σ H2 ⟨qs,x5,x6,rfl,h2,hqn,hqf,hF,h2b,k2⟩
  refine ⟨_,rfl,?_⟩
  rw [yab,yaq (by rw [ybE]; exact yaa _)] at h2 hF
  exact q D qs H2 hD (fun x o e=>k2 x o (zab e hD) e) h2 hqn hqf hF
def zlH (K : Frag) : Sp:=fun vs H Q _=>∃ (st : Addr) (ps : List Nat) (rows : List (List Int)) (t rs : Addr) (as : List Addr),vs = [.ref st]∧za2 H st ps rows t rs as∧
 ∀ (p : Addr) (qs : List Addr) (H' : Hp),H p = none→Same H H'→H' p = some (.lst (qs.map V.ref))→qs.Nodup→(∀ q∈qs,H q = none)→p∉qs→zay K H' ps rows (List.range (ps.length + 1)) qs→Q (.ref p) H'
theorem zhj {n i : Nat} (h : i < n) : (List.range n).reverse[n - 1 - i]? = some i:=by
 rw [ycz (by rw [ya1]; omega),ya1,ybs (by omega)]
 congr 1
 omega
theorem znO (T : Txt K mg) (D_full_rows : DF K mg "full_rows" zcT zcy) (F_full_rows_beneath : FC P w K mg base 7 "full_rows_beneath" za0 (zql K)) : FC P w K mg base 8 "full_rows" zcy (zlH K):=by
 refine D_full_rows.ok sc_full_rows (fun vs H Q E h=>?_) (fun f cdv A outer s H vs Q E hr h=>?_)
 ·obtain ⟨st,ps,rows,t,rs,as,rfl,_⟩:=h
  rfl
 obtain ⟨st,ps,rows,t,rs,as,rfl,S,q⟩:=h
 refine ⟨_,(zaf (zap (i:=1) sc_full_rows.nd rfl (Or.inr rfl) (zaA F_full_rows_beneath hr (zaa (pv 0) (zaa zae zad))))
   (zah (zau (zbJ (N:=["knot","told"]) (own:=1) (cap:=[1]) rfl (zaU rfl T.m_range (zaa (zaq zar rfl T.m_len boot_len (zaa (zaz zaW (pv 0) zae (fun _ _=>rfl)) zad)) zad)) ⟨rfl,rfl,rfl,rfl,rfl,rfl⟩ (fun _ _ _ _ _=>(zal (i:=0) (show List.Nodup (["knot","told"] : List Str) by decide +kernel) rfl (Or.inl rfl))) (fun _ _ _ _ _=>zbH) (fun _ _ _ _ _=>(zdn (zef hr) (pv 1) (pv 0) (fun _ _=>rfl))))))),?_⟩
 refine ⟨_,rfl,st,ps,rows,t,rs,as,0,rfl,S,by omega,fun D qs H1 hD s1 h1 hqn hqf hF=>?_⟩
 rw [zm5 S.T] at h1 hF
 have S1:=S.same s1
 have hfew:=S.few
 have hql:=hF.length
 rw [ybE,ya1] at hql
 refine ⟨_,rfl,_,_,_,_,rfl,rfl,SqT.of S1.st,rfl,_,_,rfl,.inr (SqT.of S1.tr),_,rfl,by omega,by rw [zat]; omega,fun p hp=>?_⟩
 have el : ((((zbY ps).length : Nat) : Int)).toNat = ps.length + 1:=by rw [zat,yba]
 rw [el]
 refine zcb (n:=ps.length + 1) (fun i σ H2=>∃ x0 : Option V,σ = [x0,some (.ref D)]∧H2 p = some (.lst ((qs.reverse.take i).map V.ref))∧But p H1 H2) ?_ ?_ ?_
 ·exact ⟨_,rfl,zac,fun b o n e=>by rw [zag n]; exact e⟩
 ·rintro i m σ H2 hm hi ⟨x0,rfl,h2,k2⟩
  rw [ybd]
  have hi2 : i < qs.reverse.length:=by rw [ybE]; omega
  have hq1 : qs[ps.length + 1 - 1 - i]? = some qs.reverse[i]:=by
   have:=ycz (l:=qs) (i:=i) (by omega)
   rw [yac hi2] at this
   rw [this]
   congr 1
   omega
  have hv:=zi2 (zif List.nodup_range) (zhj hi) hq1
  have h2D:=k2 _ _ (zab h1 hp) h1
  have hdg : DGet H2 D (.int (i : Int)) (some (.ref qs.reverse[i])):=by
   rw [← hv]
   exact DGet.k (k:=kN i) h2D
  refine zdc ?_
  refine ⟨_,rfl,_,rfl,D,_,rfl,hdg,?_⟩
  refine ⟨_,h2,zan (by rw [yab,yak]; omega),m - 1,by omega,by omega,_,rfl,?_,fun b o n e=>by rw [zag n]; exact k2 b o n e⟩
  rw [zac,yaF hi2,yal]
  rfl
 ·rintro σ H2 ⟨x0,rfl,h2,k2⟩
  rw [yaq (by rw [ybE]; omega)] at h2
  have s2 : Same H1 H2:=fun b o e=>k2 b o (zab e hp) e
  have F2:=(hF.same s2).rev
  rw [ycx] at F2
  refine q p qs.reverse H2 ?_ (s1.trans s2) h2 (zif hqn) (fun x hx=>hqf x (yb4.mp hx)) (fun z=>?_) F2
  ·cases e : H p with
   | none=>rfl
   | some o=>
    have:=s1 _ _ e
    rw [hp] at this
    cases this
  ·obtain ⟨ws,hws⟩:=hF.alloc p (yb4.mp z)
   rw [hp] at hws
   cases hws
def zgY (x : Key) : Prop:=∃ a : Int,x = .inl a∧-(10 ^ 60) < a∧a < 10 ^ 60
def toI : Key→Int
 | .inl a=>a
 | _=>0
theorem zpe {kvs : List (Key×V)} {x : Key} {v : V} (h1 : (kvs.map (·.1)).Nodup) (h2 : ∀ y∈kvs.map (·.1),zgY y) (hx : zgY x) : ((putK kvs x v).map (·.1)).Nodup∧∀ y∈(putK kvs x v).map (·.1),zgY y:=by
 rw [zlT]
 split
 ·exact ⟨h1,h2⟩
 ·rename_i c
  refine ⟨?_,fun y hy=>?_⟩
  ·rw [ybl]
   refine ⟨h1,yaS.mpr ⟨(fun z=>nomatch z),ybo⟩,fun a ha b hb z=>?_⟩
   rw [yao.mp hb] at z
   subst z
   obtain ⟨p,hp,e⟩:=yaI.mp ha
   exact c (List.any_eq_true.mpr ⟨p,hp,yam e⟩)
  ·rcases yan.mp hy with z | z
   ·exact h2 y z
   ·rw [yao.mp z]
    exact hx
theorem zfA : ∀ {l : List Key},(∀ y∈l,zgY y)→l.map kV = (l.map toI).map V.int
 | [],_=>rfl
 | x :: l,h=>by
  obtain ⟨a,rfl,_⟩:=h x yaz
  show V.int a :: l.map kV = V.int a :: (l.map toI).map V.int
  rw [zfA fun y hy=>h y (yaG _ hy)]
theorem zhZ : ∀ {l : List Key},l.Nodup→(∀ y∈l,zgY y)→(l.map toI).Nodup
 | [],_,_=>ybo
 | x :: l,hn,h=>by
  rw [yay,yaS]
  have hc:=yaS.mp hn
  refine ⟨fun z=>?_,zhZ hc.2 fun y hy=>h y (yaG _ hy)⟩
  obtain ⟨y,hy,e⟩:=yaI.mp z
  obtain ⟨a,rfl,_⟩:=h x yaz
  obtain ⟨b,rfl,_⟩:=h y (yaG _ hy)
  have : b = a:=e
  subst this
  exact hc.1 hy
def zqi (K : Frag) : Sp:=fun vs H Q _=>∃ (d L : Addr) (m : Int),vs = [.ref d,.int m]∧(0≤m∧m≤40)∧LS K L d H∧
 ∀ (a : Addr) (row : List Int) (H' : Hp),H a = none→row.Pairwise (· < ·)→(∀ x∈row,-(10 ^ 60) < x∧x < 10 ^ 60)→(row.length : Int)≤m→H' a = some (.tup (row.map V.int))→Keep d H H'→LS K L d H'→Q (.ref a) H'
theorem zps (T : Txt K mg) (D_l_row : DF K mg "_law_row" zhd zfT) (F_l_take : FC P w K mg base 2 "_law_take" zbo (zft K)) (F_l_key : FC P w K mg base 3 "_law_key" zeL (znp K)) : FC P w K mg base 4 "_law_row" zfT (zqi K):=by
 refine D_l_row.ok sc_l_row (fun vs H Q E h=>?_) (fun f cdv A outer s H vs Q E hr h=>?_)
 ·obtain ⟨d,L,m,rfl,_⟩:=h
  rfl
 obtain ⟨d,L,m,rfl,⟨hm0,hm1⟩,hs,q⟩:=h
 refine ⟨_,(zaf (zap (i:=2) sc_l_row.nd rfl (Or.inl rfl) zjV)
   (zaf (zaK PassesOwn.never rfl (zaU rfl T.m_range (zaa (zaA F_l_take hr (zaa (pv 0) (zaa (zas zaZ (pv 1) zae) zad))) zad)) (zal (i:=3) sc_l_row.nd rfl (Or.inl rfl)) (zah (zfg (zef hr) (pv 2) (zaA F_l_key hr (zaa (pv 0) zad)) zea rfl)))
   (zah (zau (zbf zbF rfl T.m_tuple boot_tuple (zaa (zaq (zd0 Int) rfl T.m_sorted boot_sorted (zaa (zbf (zk9 rfl) rfl T.m_list boot_list (zaa (pv 2) zad)) zad)) zad)))))),?_⟩
 intro g hg
 have ngd : g≠d:=fun z=>by
  obtain ⟨_,_,_,e,_⟩:=hs.ex
  rw [← z,hg] at e
  cases e
 refine ⟨_,rfl,_,rfl,_,_,rfl,rfl,d,L,m + 1,rfl,⟨by omega,by omega⟩,hs.of_new hg _,fun n H1 n0 n1 k1 s1=>⟨_,rfl,by omega,by omega,?_⟩⟩
 refine za1 (n:=n.toNat) (fun i σ H2=>∃ (kvs : List (Key×V)) (x3 : Option V),σ = [some (.ref d),some (.int m),some (.ref g),x3]∧H2 g = some (.dK kvs)∧kvs.length≤i∧(kvs.map (·.1)).Nodup∧(∀ y∈kvs.map (·.1),zgY y)∧(∀ b o,b≠d→b≠g→H b = some o→H2 b = some o)∧LS K L d H2) ?_ ?_ ?_
 ·exact ⟨[],_,rfl,k1 g _ ngd zac,yaa _,ybo,fun y hy=>(by simp at hy),fun b o b1 b2 e=>k1 b o b1 (by rw [zag b2]; exact e),s1⟩
 ·rintro i σ H2 hi ⟨kvs,x3,rfl,h2,hl,hn,hy,kk,s2⟩
  refine ⟨_,rfl,_,rfl,d,L,rfl,s2,fun v H3 v0 v1 k3 s3=>?_⟩
  have h3 : H3 g = some (.dK kvs):=k3 g _ ngd h2
  obtain ⟨p1,p2⟩:=zpe (v:=.bl true) hn hy (x:=.inl v) ⟨v,rfl,v0,v1⟩
  refine ⟨g,_,rfl,DPut.k (k:=.inl v) (kvs:=kvs) h3 (zan (by omega)),?_⟩
  refine ⟨putK kvs (.inl v) (.bl true),_,rfl,zac,?_,p1,p2,?_,?_⟩
  ·have:=zc1 kvs (Sum.inl v : Key) (.bl true)
   omega
  ·intro b o b1 b2 e
   rw [zag b2]
   exact k3 b o b1 (kk b o b1 b2 e)
  ·exact LS.put hs hg (fun b o b1 b2 e=>k3 b o b1 (kk b o b1 b2 e)) s3
 ·rintro σ H2 ⟨kvs,x3,rfl,h2,hl,hn,hy,kk,s2⟩
  refine ⟨_,rfl,g,kvs,rfl,h2,fun l hl1=>?_⟩
  have ei : kvs.map (fun kv=>kV kv.1) = ((kvs.map (·.1)).map toI).map V.int:=by
   rw [← zfA hy,ybB]
   rfl
  rw [ei]
  have e1:=zai hl1 (.lst (((kvs.map (·.1)).map toI).map V.int))
  refine ⟨l,_,_,rfl,SqL.of zac,zam.ints,fun l2 ws hl2 hw=>?_⟩
  rw [hw.toInts]
  have e2:=zai hl2 (.lst ((zdg ((kvs.map (·.1)).map toI)).map V.int))
  refine ⟨l2,_,rfl,.inl ⟨SqL.of zac,fun a ha=>?_⟩⟩
  have e3:=zai ha (.tup ((zdg ((kvs.map (·.1)).map toI)).map V.int))
  have e13:=e1.trans (e2.trans e3)
  have free : H a = none:=by
   have z2 : H2 a = none:=e1.free (e2.free ha)
   cases z : H a with
   | none=>rfl
   | some o=>
    by_cases c1 : a = d
    ·obtain ⟨_,_,_,e,_⟩:=s2.ex
     rw [← c1,z2] at e
     cases e
    ·by_cases c2 : a = g
     ·rw [c2,h2] at z2
      cases z2
     ·rw [kk a o c1 c2 z] at z2
      cases z2
  refine q a _ _ free ?_ (fun x hx=>?_) ?_ zac (fun b o b1 e=>e13 _ _ (kk b o b1 (zab e hg) e)) (s2.same e13)
  ·exact List.Pairwise.imp (fun {a b} (h : Srt.blt a b = true)=>yaC h) (zfd (zhZ hn hy))
  ·rw [zeq] at hx
   obtain ⟨y,hy2,rfl⟩:=yaI.mp hx
   obtain ⟨a,rfl,h1,h2⟩:=hy y hy2
   exact ⟨h1,h2⟩
  ·rw [zcp,yab,yab]
   omega
def zoq (K : Frag) : Sp:=fun vs H Q _=>∃ (d L : Addr) (n m : Nat),vs = [.ref d,.int n,.int m]∧n≤40∧m≤40∧LS K L d H∧
 ∀ (r : Addr) (as : List Addr) (rows : List (List Int)) (H' : Hp),H r = none→zaJ H' as rows→rows.length = n→zaS rows→(∀ row∈rows,row.length≤m)→H' r = some (.tup (as.map V.ref))→Keep d H H'→LS K L d H'→Q (.ref r) H'
theorem zaS.snoc {rows : List (List Int)} {row : List Int} (R : zaS rows) (h1 : row.Pairwise (· < ·)) (h2 : ∀ x∈row,-(10 ^ 60) < x∧x < 10 ^ 60) : zaS (rows ++ [row]):=by
 refine ⟨fun r hr=>?_,fun r hr=>?_⟩
 ·rcases yan.mp hr with z | z
  ·exact R.up r z
  ·rw [yao.mp z]
   exact h1
 ·rcases yan.mp hr with z | z
  ·exact R.key r z
  ·rw [yao.mp z]
   exact h2
theorem znL (T : Txt K mg) (D_l_rows : DF K mg "_law_rows" zfL zeK) (F_l_take : FC P w K mg base 2 "_law_take" zbo (zft K)) (F_l_row : FC P w K mg base 4 "_law_row" zfT (zqi K)) : FC P w K mg base 5 "_law_rows" zeK (zoq K):=by
 refine D_l_rows.ok sc_l_rows (fun vs H Q E h=>?_) (fun f cdv A outer s H vs Q E hr h=>?_)
 ·obtain ⟨d,L,n,m,rfl,_⟩:=h
  rfl
 obtain ⟨d,L,n,m,rfl,hn,hm,hs,q⟩:=h
 refine ⟨_,(zaf (zap (i:=3) sc_l_rows.nd rfl (Or.inl rfl) (zbp zad))
   (zaf (zaK PassesOwn.never rfl (zaU rfl T.m_range (zaa (pv 1) zad)) (zal (i:=4) sc_l_rows.nd rfl (Or.inl rfl)) (zaf (zap (i:=5) sc_l_rows.nd rfl (Or.inl rfl) (zaA F_l_row hr (zaa (pv 0) (zaa (pv 2) zad))))
   (zbk (zbS (zaw zdr (zaA F_l_take hr (zaa (pv 0) (zaa zae zad))) zae (zaH _)) (zah (zap (i:=5) sc_l_rows.nd rfl (Or.inl rfl) (zbe zad))) zaO)
   (zbk (zbS (PW.pt (zh7 (zaw zpk (pv 4) zae (zaH _)) (zf0 (zaw zdr (zaA F_l_take hr (zaa (pv 0) (zaa zae zad))) zae (zaH _))))) (zah (zap (i:=5) sc_l_rows.nd rfl (Or.inl rfl) (zaz zax (pv 3) (zas zbq (pv 4) zae) (fun _ _=>rfl)))) zaO)
   (zah (za7 (zdo F.plainAttrs_list F.slot_list_append F.type_list_append zaI (pv 3) (zaa (pv 5) zad))))))))
   (zah (zau (zbf zbF rfl T.m_tuple boot_tuple (zaa (pv 3) zad)))))),?_⟩
 refine ⟨(by show 0≤sizeLine; decide),fun p hp=>?_⟩
 have g0:=zai hp (.lst [])
 have ndT : ∀ {H' : Hp} {a : Addr} {o : List V},LS K L d H'→H' a = some (.tup o)→a≠d:=fun {H' a o} s e z=>by
  obtain ⟨_,_,_,e2,_⟩:=s.ex
  rw [← z,e] at e2
  cases e2
 have nd : ∀ {H' : Hp} {a : Addr},LS K L d H'→H' a = none→a≠d:=fun {H' a} s e z=>by
  obtain ⟨_,_,_,e2,_⟩:=s.ex
  rw [← z,e] at e2
  cases e2
 have hpd : p≠d:=nd hs hp
 refine ⟨_,rfl,_,rfl,by omega,by omega,?_⟩
 rw [yba]
 refine za1 (n:=n) (fun i σ H2=>∃ (as : List Addr) (rows : List (List Int)) (x4 x5 : Option V),σ = [some (.ref d),some (.int n),some (.int m),some (.ref p),x4,x5]∧H2 p = some (.lst (as.map V.ref))∧zaJ H2 as rows∧rows.length = i∧zaS rows∧(∀ row∈rows,row.length≤m)∧(∀ b o,b≠d→b≠p→H b = some o→H2 b = some o)∧LS K L d H2) ?_ ?_ ?_
 ·exact ⟨[],[],_,_,rfl,zac,.nil,rfl,⟨(fun r hr=>nomatch hr),(fun r hr=>nomatch hr)⟩,(fun r hr=>nomatch hr),fun b o _ n e=>g0 b o e,hs.same g0⟩
 ·rintro i σ H2 hi ⟨as,rows,x4,x5,rfl,h2,hA,hl,hR,hlen,k2,s2⟩
  rw [ybd]
  have hal:=hA.length
  have old : ∀ {H3 : Hp} {b : Addr} {o : HO},(∀ b o,b≠d→H2 b = some o→H3 b = some o)→b≠d→b≠p→H b = some o→H3 b = some o:=fun k n1 n2 e=>k _ _ n1 (k2 _ _ n1 n2 e)
  refine ⟨_,rfl,_,rfl,d,L,m,rfl,⟨by omega,by omega⟩,s2,fun a row H3 ha hup hky hlr h3 k3 s3=>?_⟩
  refine ⟨fun σ' H'=>∃ (a : Addr) (row : List Int),σ' = [some (.ref d),some (.int n),some (.int m),some (.ref p),some (.int i),some (.ref a)]∧H' a = some (.tup (row.map V.int))∧row.Pairwise (· < ·)∧(∀ x∈row,-(10 ^ 60) < x∧x < 10 ^ 60)∧row.length≤m∧(∀ b o,b≠d→H2 b = some o→H' b = some o)∧LS K L d H',?_,?_⟩
  ·refine ⟨_,rfl,d,L,4,rfl,by decide,s3,fun v H4 _ _ k4 s4=>⟨rfl,_,rfl,?_⟩⟩
   have h4:=k4 _ _ (ndT s3 h3) h3
   refine ite2 (fun _=>?_) (fun _=>?_)
   ·refine ⟨(by show 0≤sizeLine; decide),fun u hu=>?_⟩
    have su:=zai hu (.tup [])
    exact ⟨u,[],rfl,zac,.nil,(fun x hx=>nomatch hx),yaD _,fun b o n1 e=>su _ _ (k4 _ _ n1 (k3 _ _ n1 e)),s4.same su⟩
   ·exact ⟨a,row,rfl,h4,hup,hky,by omega,fun b o n1 e=>k4 _ _ n1 (k3 _ _ n1 e),s4⟩
  rintro σ' H4 ⟨a,row,rfl,h4,hup,hky,hlr,k4,s4⟩
  refine ⟨fun σ' H'=>∃ (a : Addr) (row : List Int),σ' = [some (.ref d),some (.int n),some (.int m),some (.ref p),some (.int i),some (.ref a)]∧H' a = some (.tup (row.map V.int))∧row.Pairwise (· < ·)∧(∀ x∈row,-(10 ^ 60) < x∧x < 10 ^ 60)∧row.length≤m∧(∀ b o,b≠d→H2 b = some o→H' b = some o)∧LS K L d H',?_,?_⟩
  ·refine ⟨_,rfl,_,_,rfl,rfl,_,rfl,?_⟩
   refine ite2 (fun c=>?_) (fun c=>?_)
   ·have c' : (0 : Int) < (i : Int):=yaC c
    refine ⟨_,rfl,d,L,4,rfl,by decide,s4,fun v H5 _ _ k5 s5=>⟨rfl,_,rfl,?_⟩⟩
    have h5:=k5 _ _ (ndT s4 h4) h4
    refine ite2 (fun _=>?_) (fun _=>?_)
    ·have h5p : H5 p = some (.lst (as.map V.ref)):=k5 _ _ hpd (k4 _ _ hpd h2)
     obtain ⟨b,hb1,hb2⟩:=hA.get (k:=i - 1) (by omega)
     have hb5:=k5 _ _ (ndT s4 (k4 _ _ (ndT s2 hb2) hb2)) (k4 _ _ (ndT s2 hb2) hb2)
     have hat : atI (as.map V.ref) ((i : Int) - 1) = some (.ref b):=by
      rw [show (i : Int) - 1 = ((i - 1 : Nat) : Int) by omega]
      exact zd5 hb1
     refine ⟨_,rfl,_,rfl,_,_,rfl,rfl,_,_,_,_,rfl,rfl,SqL.of h5p,hat,?_⟩
     have hmem : zbz rows (i - 1)∈rows:=by
      unfold zbz
      rw [yad,yac (show i - 1 < rows.length by omega)]
      exact yaB _
     exact ⟨b,zbz rows (i - 1),rfl,hb5,hR.up _ hmem,hR.key _ hmem,hlen _ hmem,fun b o n1 e=>k5 _ _ n1 (k4 _ _ n1 e),s5⟩
    ·exact ⟨a,row,rfl,h5,hup,hky,hlr,fun b o n1 e=>k5 _ _ n1 (k4 _ _ n1 e),s5⟩
   ·refine iteF ?_
    exact ⟨a,row,rfl,h4,hup,hky,hlr,k4,s4⟩
  rintro σ' H5 ⟨a,row,rfl,h5,hup,hky,hlr,k5,s5⟩
  have h5p : H5 p = some (.lst (as.map V.ref)):=k5 _ _ hpd h2
  have keep : ∀ b o,b≠p→H5 b = some o→upd H5 p (.lst (as.map V.ref ++ [.ref a])) b = some o:=fun b o n e=>by rw [zag n]; exact e
  have ntp : ∀ {b : Addr} {o : List V},H5 b = some (.tup o)→b≠p:=fun {b o} e z=>by
   rw [z,h5p] at e
   cases e
  refine ⟨_,rfl,.inl ⟨rfl,_,SqL.of h5p⟩,_,rfl,_,_,_,rfl,rfl,h5p,zan (by rw [yab]; omega),?_⟩
  refine ⟨as ++ [a],rows ++ [row],_,_,rfl,?_,?_,by rw [yah,yaL,hl],hR.snoc hup hky,fun r hr=>?_,fun b o n1 n2 e=>keep _ _ n2 (k5 _ _ n1 (k2 _ _ n1 n2 e)),?_⟩
  ·rw [zac,yal]
   rfl
  ·refine zaJ.snoc ?_ (keep _ _ (ntp h5) h5)
   have hA5 : zaJ H5 as rows:=zaJ.keep (p:=d) (fun a row e=>ndT s2 e) k5 hA
   exact zaJ.keep (p:=p) (d:=p) (fun a row e=>ntp e) keep hA5
  ·rcases yan.mp hr with z | z
   ·exact hlen r z
   ·rw [yao.mp z]
    exact hlr
  ·exact LS.put hs hp (fun b o n1 n2 e=>k5 _ _ n1 (k2 _ _ n1 n2 e)) s5
 ·rintro σ H2 ⟨as,rows,x4,x5,rfl,h2,hA,hl,hR,hlen,k2,s2⟩
  refine ⟨_,rfl,p,_,rfl,.inl ⟨SqL.of h2,fun t ht=>?_⟩⟩
  have sn:=zai ht (.tup (as.map V.ref))
  have ht0 : H t = none:=by
   cases e : H t with
   | none=>rfl
   | some o=>
    have:=k2 t o (nd s2 ht) (Ne.symm (zab h2 ht)) e
    rw [ht] at this
    cases this
  exact q t as rows _ ht0 (hA.ext sn) hl hR hlen zac (fun b o n e=>sn _ _ (k2 b o n (zab e hp) e)) (s2.same sn)
abbrev En:=Int×Int
def zec (k : Nat) (es : List En) : Nat:=(es.filter fun e=>decide (e.2 = (k : Int))).length
def znD (k : Nat) (es : List En) : List Nat:=(List.range (es.length + 1)).map fun p=>zec k (es.take p)
def zqh (cs : List En) (s : Nat) (e : En) : Nat:=if e∈cs then cs.idxOf e + 1 else s
def stN (cs es : List En) : Nat:=es.foldl (zqh cs) 0
def zg5 (es cs : List En) : List Nat:=(List.range (es.length + 1)).map fun p=>stN cs (es.take p)
def inN (cs es : List En) : Nat:=(es.filter fun e=>decide (e∈cs)).length
theorem zgC {l : List En} (h : Rise l) : l.Nodup:=List.Pairwise.imp (fun {a b} (q : pLt a b = true) z=>by
 subst z
 have:=zcC.mp q
 omega) h
theorem ziQ {l m : List En} (h1 : Rise l) (h2 : Rise m) (h : ∀ e,e∈l↔e∈m) : l = m:=by
 refine List.Perm.eq_of_pairwise (le:=fun a b=>pLt a b = true) (fun a b _ _ q1 q2=>?_) h1 h2 ((List.perm_ext_iff_of_nodup (zgC h1) (zgC h2)).mpr h)
 have:=zcC.mp q1
 have:=zcC.mp q2
 omega
theorem zeZ {ps : List Nat} (T : zaB ps) {rows : List (List Int)} {k : Nat} (hk : k < ps.length + 1) {e : En} : e∈zaj ps rows k↔e∈ownE rows k∨∃ c,par ps c = some k∧e∈zbD (zaj ps rows c):=by
 rw [zcA T hk,zeq,ycp]
 unfold zd3
 constructor
 ·rintro ⟨l,hl,he⟩
  rcases yan.mp hl with q | q
  ·obtain ⟨c,hc,rfl⟩:=yaI.mp q
   exact .inr ⟨c,(zaC.mp hc).2,he⟩
  ·rw [yao.mp q] at he
   exact .inl he
 ·rintro (h | ⟨c,hc,h⟩)
  ·exact ⟨_,yan.mpr (.inr (yao.mpr rfl)),h⟩
  ·exact ⟨_,yan.mpr (.inl (yaI.mpr ⟨c,zaC.mpr ⟨(zaL T hc).2,hc⟩,rfl⟩)),h⟩
theorem zof {ps : List Nat} (T : zaB ps) {rows : List (List Int)} (R : zaS rows) {k c : Nat} (hk : k < ps.length + 1) (hc : par ps c = some k) {e : En} : (e∈zaj ps rows k∧e∈zaj ps rows c)↔e∈zbD (zaj ps rows c):=by
 have hcn:=(zaL T hc).2
 constructor
 ·rintro ⟨h1,h2⟩
  obtain ⟨j,g1,g2,g3,_⟩:=zdX T R hcn e h2
  rcases (zeZ T hk).mp h1 with h | ⟨d,hd,h⟩
  ·have h4:=(zib hk h).2
   have : j = k:=by omega
   subst this
   rw [zeX T (zaL T hc).1] at g2
   cases g2
  ·by_cases z : d = c
   ·rw [z] at h
    exact h
   ·obtain ⟨i,_,f2,f3,_⟩:=zdX T R (zaL T hd).2 e ((zaX _).mem h)
    have : i = j:=by omega
    subst this
    exact (zdu T hd hc z i i (yaa _) f2 g2).elim
 ·intro h
  exact ⟨(zeZ T hk).mpr (.inr ⟨c,hc,h⟩),(zaX _).mem h⟩
theorem zmY {ps : List Nat} (T : zaB ps) {rows : List (List Int)} (R : zaS rows) {k c : Nat} (hk : k < ps.length + 1) (hc : par ps c = some k) : ((zaj ps rows k).filter fun e=>decide (e∈zaj ps rows c)) = zbD (zaj ps rows c):=by
 refine ziQ (List.Pairwise.filter _ (zaN T R hk)) ((zaN T R (zaL T hc).2).sublist (zaX _)) fun e=>?_
 rw [ya3,decide_eq_true_eq]
 exact zof T R hk hc
theorem zkB {l : List En} {p : Nat} (h : p < l.length) : l.take (p + 1) = l.take p ++ [l[p]]:=yaF h
theorem zkL (k : Nat) (es : List En) (e : En) : zec k (es ++ [e]) = zec k es + if e.2 = (k : Int) then 1 else 0:=by
 unfold zec
 rw [ya2,yah]
 congr 1
 by_cases h : e.2 = (k : Int)
 ·rw [if_pos h,ya8 (by exact yam h)]
  rfl
 ·rw [if_neg h,ybj (by rw [yas h]; decide)]
  rfl
theorem zn5 (cs es : List En) (e : En) : inN cs (es ++ [e]) = inN cs es + if e∈cs then 1 else 0:=by
 unfold inN
 rw [ya2,yah]
 congr 1
 by_cases h : e∈cs
 ·rw [if_pos h,ya8 (by exact yam h)]
  rfl
 ·rw [if_neg h,ybj (by rw [yas h]; decide)]
  rfl
theorem zjA (cs es : List En) (e : En) : stN cs (es ++ [e]) = if e∈cs then cs.idxOf e + 1 else stN cs es:=by
 unfold stN
 rw [List.foldl_append]
 rfl
def spL (es : List En) : List Nat:=(List.range es.length).filter fun j=>(za4 es).getD j false
theorem zjE (es : List En) : zdz (za4 es) (spL es):=by
 have:=zno (za4 es)
 rw [za8] at this
 exact this
theorem zgL {es : List En} {ms : List Bool} (hl : es.length = ms.length) : ∀ i,i≤ms.length→zb5 (es.take i) (ms.take i) = ((List.range i).filter fun j=>ms.getD j false).map fun j=>es.getD j (0,0)
 | 0,_=>rfl
 | i + 1,h=>by
  have ft : ((List.range (i + 1)).filter fun j=>ms.getD j false) = ((List.range i).filter fun j=>ms.getD j false) ++ (if ms.getD i false = true then [i] else []):=by
   rw [ybt,ya2]
   congr 1
   by_cases h : ms.getD i false = true
   ·rw [if_pos h,ya8 (p:=fun j=>ms.getD j false) (a:=i) h]
    rfl
   ·rw [if_neg h,ybj (p:=fun j=>ms.getD j false) (a:=i) h]
    rfl
  rw [zem (show i < es.length by omega),zem (show i < ms.length by omega),zga (by rw [yak,yak]; omega),zgL hl i (by omega),ft,yal]
  congr 1
  have e : ms.getD i false = ms[i]'(by omega):=by
   rw [yad,yac (show i < ms.length by omega)]
   rfl
  rw [e]
  split
  ·rw [List.map_singleton,yad,yac (show i < es.length by omega)]
   rfl
  ·rfl
theorem zgM (es : List En) : zbD es = (spL es).map fun j=>es.getD j (0,0):=by
 have hl:=za8 es
 have:=zgL (es:=es) (ms:=za4 es) hl.symm (za4 es).length (yaa _)
 rw [yaq (yaa _),yaq (by omega),hl] at this
 exact this
def stAt (sp : List Nat) (t : Nat) : Nat:=if t = 0 then 0 else sp.getD (t - 1) 0 + 1
theorem zmF {l : List En} (h : l.Nodup) {j : Nat} (hj : j < l.length) : l.idxOf (l.getD j (0,0)) = j:=by
 rw [yad,yac hj]
 exact List.Nodup.idxOf_getElem h j hj
theorem zja {P : En→Bool} : ∀ (l : List En) (p : Nat),(l.take p).filter P = (l.filter P).take ((l.take p).filter P).length:=by
 intro l p
 have e : l.filter P = (l.take p).filter P ++ (l.drop p).filter P:=by rw [← ya2,yaZ]
 rw [e,List.take_append_of_le_length (yaa _),yaq (yaa _)]
theorem zqg {ps : List Nat} (T : zaB ps) {rows : List (List Int)} (R : zaS rows) {k c : Nat} (hk : k < ps.length + 1) (hc : par ps c = some k) : ∀ p,p≤(zaj ps rows k).length→stN (zaj ps rows c) ((zaj ps rows k).take p) = stAt (spL (zaj ps rows c)) (inN (zaj ps rows c) ((zaj ps rows k).take p))
 | 0,_=>rfl
 | p + 1,h=>by
  have ih:=zqg T R hk hc p (by omega)
  have hp : p < (zaj ps rows k).length:=by omega
  have hft:=zja (P:=fun e=>decide (e∈zaj ps rows c)) (zaj ps rows k) (p + 1)
  rw [zmY T R hk hc] at hft
  rw [zkB hp] at hft ⊢
  rw [zjA,zn5]
  by_cases z : (zaj ps rows k)[p]∈zaj ps rows c
  ·rw [if_pos z,if_pos z]
   unfold stAt
   rw [if_neg (by omega),ybO]
   congr 1
   rw [ya2,ya8 (by exact yam z),List.filter_nil,yah,yaL] at hft
   have hin : ((zaj ps rows k).take p |>.filter fun e=>decide (e∈zaj ps rows c)).length = inN (zaj ps rows c) ((zaj ps rows k).take p):=rfl
   generalize inN (zaj ps rows c) ((zaj ps rows k).take p) = t at hin ⊢
   have hg : (zbD (zaj ps rows c))[t]? = some (zaj ps rows k)[p]:=by
    have h2 : (((zaj ps rows k).take p |>.filter fun e=>decide (e∈zaj ps rows c)) ++ [(zaj ps rows k)[p]])[t]? = some (zaj ps rows k)[p]:=by
     rw [yaY (by omega),hin,yb6]
     rfl
    rw [hft,ybI] at h2
    split at h2
    ·exact h2
    ·cases h2
   rw [zgM,yaj] at hg
   obtain ⟨j,hj,he⟩:=ybk.mp hg
   have hjl : j < (zaj ps rows c).length:=by
    have:=(zjE (zaj ps rows c)).lt (yaK hj)
    rw [za8] at this
    exact this
   rw [← he,zmF (zeg T R (zaL T hc).2) hjl,yad,hj]
   rfl
  ·rw [if_neg z,if_neg z,ybq]
   exact ih
theorem zo8 {es : List En} (he : ∀ e∈es,zek 64 e) (hri : Rise es) {t : Nat} (ht : t < (spL es).length) : stAt (spL es) (t + 1) = stAt (spL es) t + 2∨stAt (spL es) (t + 1) = stAt (spL es) t + 3:=by
 have M:=zii he hri
 have S:=zjE es
 have g : ∀ i (h : i < (spL es).length),(spL es).getD i 0 = (spL es)[i]:=fun i h=>by
  rw [yad,yac h]
  rfl
 unfold stAt
 rw [if_neg (by omega),ybO]
 by_cases z : t = 0
 ·subst z
  rw [if_pos rfl,g 0 ht]
  have hlen : 2≤(za4 es).length:=by
   refine yby fun y=>?_
   have:=S.none M (by omega)
   rw [this] at ht
   simp at ht
  obtain ⟨_,h1,h2⟩:=S.first M hlen
  omega
 ·rw [if_neg z,g t ht,g (t - 1) (by omega)]
  have:=S.step M (t:=t - 1) (by omega)
  have e : t - 1 + 1 = t:=by omega
  have e2 : (spL es)[t - 1 + 1]'(by omega) = (spL es)[t]:=by congr 1
  rw [e2] at this
  omega
theorem zo7 {es : List En} (he : ∀ e∈es,zek 64 e) (hri : Rise es) : stAt (spL es) (spL es).length≤es.length∧es.length≤stAt (spL es) (spL es).length + 1:=by
 have M:=zii he hri
 have S:=zjE es
 have hl:=za8 es
 unfold stAt
 by_cases z : (spL es).length = 0
 ·rw [if_pos z]
  refine ⟨yaD _,?_⟩
  refine yby fun y=>?_
  obtain ⟨h,_⟩:=S.first M (by omega)
  omega
 ·have g : (spL es).getD ((spL es).length - 1) 0 = (spL es)[(spL es).length - 1]'(by omega):=by
   rw [yad,yac (by omega)]
   rfl
  rw [if_neg z,g]
  have h1:=S.lt (yaB (show (spL es).length - 1 < (spL es).length by omega))
  refine ⟨by omega,?_⟩
  have hlen : 2≤(za4 es).length:=yby fun y=>z (by rw [S.none M y]; rfl)
  have h2:=S.last M hlen (by omega)
  omega
theorem zdW {f : Nat→Nat} {i : Nat} : ((List.range (i + 1)).map f).map nV = (((List.range i).map f) ++ [f i]).map nV:=by
 rw [ybt,yal]
 rfl
theorem zjl {us : List Nat} {c : Nat} : atI ((us ++ [c]).map nV) (-1) = some (nV c):=by
 unfold atI ixN
 rw [yal]
 simp
 rw [if_pos (by omega)]
 show (List.map nV us ++ [nV c])[(-1 + ((us.length : Int) + 1)).toNat]? = _
 rw [show (-1 + ((us.length : Int) + 1)).toNat = us.length by omega,yaY (by rw [yab]; exact yaa _),yab,yb6]
 rfl
def zor (K : Frag) : Sp:=fun vs H Q _=>∃ (a : Addr) (ws : List V) (es : List En) (k : Nat),vs = [.ref a,.int k]∧H a = some (.lst ws)∧zam K H es ws∧es.length≤900∧
 ∀ (p : Addr) (H' : Hp),H p = none→Same H H'→H' p = some (.lst ((znD k es).map nV))→Q (.ref p) H'
theorem zpo (T : Txt K mg) (D_owns_of : DF K mg "owns_of" zer zdI) : FC P w K mg base 1 "owns_of" zdI (zor K):=by
 refine D_owns_of.ok sc_owns_of (fun vs H Q E h=>?_) (fun f cdv A outer s H vs Q E hr h=>?_)
 ·obtain ⟨a,ws,es,k,rfl,_⟩:=h
  rfl
 obtain ⟨a,ws,es,k,rfl,ha,hw,hz,q⟩:=h
 have hwl:=hw.length
 refine ⟨_,(zaf (zap (i:=2) sc_owns_of.nd rfl (Or.inl rfl) (zbp (zaa zae zad)))
   (zaf (zaK PassesOwn.never rfl (zbC (pv 0)) (zal (i:=3) sc_owns_of.nd rfl (Or.inl rfl)) (zah (za7 (zdo F.plainAttrs_list F.slot_list_append F.type_list_append zaI (pv 2) (zaa (zjU (zaw zdr (zaz zaW (pv 3) zae (fun _ _=>rfl)) (pv 1) (zaH _)) (zas zaZ (zaz zax (pv 2) (zgr zd2 zae) (fun _ _=>rfl)) zae) (zaz zax (pv 2) (zgr zd2 zae) (fun _ _=>rfl))) zad)))))
   (zah (zau (pv 2))))),?_⟩
 refine ⟨(by show 1≤sizeLine; decide),fun p hp=>?_⟩
 have k0 : But p H (upd H p (.lst [V.int 0])):=fun b o n e=>by rw [zag n]; exact e
 have nap : a≠p:=zab ha hp
 refine ⟨_,rfl,a,rfl,⟨_,SqL.of (k0 _ _ nap ha)⟩,?_⟩
 refine zc5 (xs:=ws) (fun i σ H2=>∃ x3 : Option V,σ = [some (.ref a),some (.int k),some (.ref p),x3]∧H2 p = some (.lst (((List.range (i + 1)).map fun p=>zec k (es.take p)).map nV))∧But p H H2) ?_ ?_ ?_ ?_
 ·exact ⟨_,rfl,zac,k0⟩
 ·rintro i σ H2 _ ⟨x3,rfl,_,k2⟩
  exact SqL.of (k2 _ _ nap ha)
 ·rintro i x σ H2 hx ⟨x3,rfl,h2,k2⟩
  obtain ⟨e,he,hhas⟩:=hw.get hx
  obtain ⟨b,y1,y2,rfl,hb,hy1,hy2⟩:=(show hasP K H e x from hhas)
  have hy1 : y1 = .int e.1:=hy1
  have hy2 : y2 = .int e.2:=hy2
  subst hy1 hy2
  have h2b:=k2 _ _ (zab hb hp) hb
  have hi:=(yag.mp he).1
  have htk : es.take (i + 1) = es.take i ++ [e]:=by
   rw [yaF hi,(yag.mp he).2]
  have hon:=zkL k (es.take i) e
  rw [← htk] at hon
  rw [zdW] at h2
  have hlen : ((((List.range i).map fun p=>zec k (es.take p)) ++ [zec k (es.take i)]).map nV).length < sizeLine:=zan (by
   rw [yab,yah,yab,ya1,yaL]
   omega)
  have fin : ∀ v : Nat,v = zec k (es.take (i + 1))→upd H2 p (.lst ((((List.range i).map fun p=>zec k (es.take p)) ++ [zec k (es.take i)]).map nV ++ [nV v])) p = some (.lst (((List.range (i + 1 + 1)).map fun p=>zec k (es.take p)).map nV)):=fun v hv=>by
   rw [zac,zdW,yal (l₂:=[zec k (es.take (i + 1))]),zdW,hv]
   rfl
  refine ⟨_,rfl,.inl ⟨rfl,_,SqL.of h2⟩,?_⟩
  refine ⟨_,rfl,_,_,_,_,rfl,rfl,SqT.of h2b,rfl,_,rfl,rfl,_,rfl,?_⟩
  refine ite2 (fun c=>?_) (fun c=>?_)
  ·have c' : e.2 = (k : Int):=V.int.inj (yaC c)
   rw [if_pos c'] at hon
   refine ⟨_,rfl,_,rfl,_,_,_,_,rfl,rfl,SqL.of h2,zjl,_,_,rfl,rfl,_,_,_,rfl,rfl,h2,hlen,?_⟩
   refine ⟨_,rfl,?_,fun b o n e=>by rw [zag n]; exact k2 b o n e⟩
   have:=fin (zec k (es.take i) + 1) hon.symm
   rw [← this]
   rfl
  ·have c' : ¬ e.2 = (k : Int):=fun z=>c (by rw [z]; exact yam rfl)
   rw [if_neg c',ybq] at hon
   refine ⟨_,rfl,_,rfl,_,_,_,_,rfl,rfl,SqL.of h2,zjl,_,_,_,rfl,rfl,h2,hlen,?_⟩
   exact ⟨_,rfl,fin _ hon.symm,fun b o n e=>by rw [zag n]; exact k2 b o n e⟩
 ·rintro σ H2 ⟨x3,rfl,h2,k2⟩
  refine ⟨_,rfl,?_⟩
  rw [← hwl] at h2
  exact q p H2 hp (fun b o e=>k2 b o (zab e hp) e) h2
def kvT : Nat→List En→List (List Key×V)
 | _,[]=>[]
 | o,e :: es=>([.inl e.1,.inl e.2],nV (o + 1)) :: kvT (o + 1) es
abbrev kE (e : En) : List Key:=[.inl e.1,.inl e.2]
theorem zqW {e f : En} (h : kE e = kE f) : e = f:=by
 obtain ⟨a,b⟩:=e
 obtain ⟨c,d⟩:=f
 injection h with h1 h2
 injection h2 with h2 _
 have h1 : a = c:=Sum.inl.inj h1
 have h2 : b = d:=Sum.inl.inj h2
 rw [h1,h2]
theorem zi3 (e : En) : ∀ (o : Nat) (es : List En),valV (kvT o es) (kE e) = if e∈es then some (nV (o + es.idxOf e + 1)) else none
 | _,[]=>rfl
 | o,f :: es=>by
  show valV ((kE f,nV (o + 1)) :: kvT (o + 1) es) (kE e) = _
  by_cases z : f = e
  ·subst z
   rw [zco rfl,if_pos yaz,List.idxOf_cons_self]
  ·rw [zbt (fun y=>z (zqW y)),zi3 e (o + 1) es]
   have hm : (e∈f :: es) = (e∈es):=propext ⟨fun h=>(yap.mp h).resolve_left fun y=>z y.symm,fun h=>yaG _ h⟩
   by_cases y : e∈es
   ·have ei : (f :: es).idxOf e = es.idxOf e + 1:=by
     rw [List.idxOf_cons,beq_false_of_ne z]
     rfl
    rw [if_pos y,if_pos (by rw [hm]; exact y),ei]
    congr 2
    have : o + 1 + es.idxOf e + 1 = o + (es.idxOf e + 1) + 1:=by omega
    rw [this]
   ·rw [if_neg y,if_neg (by rw [hm]; exact y)]
theorem zke (e : En) : ∀ (o : Nat) (es : List En),kvT o (es ++ [e]) = kvT o es ++ [(kE e,nV (o + es.length + 1))]
 | _,[]=>rfl
 | o,f :: es=>by
  show (kE f,nV (o + 1)) :: kvT (o + 1) (es ++ [e]) = (kE f,nV (o + 1)) :: (kvT (o + 1) es ++ _)
  rw [zke e (o + 1) es,yaN,show o + 1 + es.length + 1 = o + (es.length + 1) + 1 by omega]
theorem zmt : ∀ (o : Nat) (es : List En),(kvT o es).length = es.length
 | _,[]=>rfl
 | o,e :: es=>by
  show (kvT (o + 1) es).length + 1 = es.length + 1
  rw [zmt (o + 1) es]
def zjB (K : Frag) : Sp:=fun vs H Q _=>∃ (a c : Addr) (ws vs' : List V) (es cs : List En),vs = [.ref a,.ref c]∧H a = some (.lst ws)∧zam K H es ws∧es.length≤900∧H c = some (.lst vs')∧zam K H cs vs'∧cs.length≤900∧cs.Nodup∧
 ∀ (p : Addr) (H' : Hp),H p = none→Same H H'→H' p = some (.lst ((zg5 es cs).map nV))→Q (.ref p) H'
theorem zl4 (T : Txt K mg) (D_starts_of : DF K mg "starts_of" zcQ zcv) : FC P w K mg base 1 "starts_of" zcv (zjB K):=by
 refine D_starts_of.ok sc_starts_of (fun vs H Q E h=>?_) (fun f cdv A outer s H vs Q E hr h=>?_)
 ·obtain ⟨a,c,ws,us,es,cs,rfl,_⟩:=h
  rfl
 obtain ⟨a,c,ws,us,es,cs,rfl,ha,hw,hz,hc,hu,hzc,hnd,q⟩:=h
 have hwl:=hw.length
 have hul:=hu.length
 refine ⟨_,(zaf (zap (i:=2) sc_starts_of.nd rfl (Or.inl rfl) zny)
   (zaf (zaK PassesOwn.never rfl (zdl rfl T.m_enumerate (zaa (pv 1) zad)) (zfv rfl (zaP (zal (i:=3) sc_starts_of.nd rfl (Or.inl rfl)) (zaP (zal (i:=4) sc_starts_of.nd rfl (Or.inl rfl)) zcZ))) (zah (zfg (zef hr) (pv 2) (pv 4) (zas zaZ (pv 3) zae) rfl)))
   (zaf (zap (i:=5) sc_starts_of.nd rfl (Or.inl rfl) (zbp (zaa zae zad)))
   (zaf (zaK PassesOwn.never rfl (zbC (pv 0)) (zal (i:=4) sc_starts_of.nd rfl (Or.inl rfl)) (zah (za7 (zdo F.plainAttrs_list F.slot_list_append F.type_list_append zaI (pv 5) (zaa (znz (zef hr) (pv 2) (pv 4) (zaz zax (pv 5) (zgr zd2 zae) (fun _ _=>rfl)) ⟨rfl,rfl,rfl,rfl⟩) zad)))))
   (zah (zau (pv 5))))))),?_⟩
 intro D hD
 have k0 : But D H (upd H D (.dT [])):=fun b o n e=>by rw [zag n]; exact e
 have naD : a≠D:=zab ha hD
 have ncD : c≠D:=zab hc hD
 refine ⟨_,rfl,c,rfl,⟨_,SqL.of (k0 _ _ ncD hc)⟩,?_⟩
 refine zhF (xs:=us) (fun i σ H2=>∃ x3 x4 : Option V,σ = [some (.ref a),some (.ref c),some (.ref D),x3,x4,none]∧H2 D = some (.dT (kvT 0 (cs.take i)))∧But D H H2) ?_ ?_ ?_ ?_
 ·exact ⟨_,_,rfl,zac,k0⟩
 ·rintro i σ H2 _ ⟨x3,x4,rfl,_,k2⟩
  exact SqL.of (k2 _ _ ncD hc)
 ·rintro i x σ H2 r hx ⟨x3,x4,rfl,h2,k2⟩ hr
  obtain ⟨e,he,hhas⟩:=hu.get hx
  obtain ⟨b,y1,y2,rfl,hb,hy1,hy2⟩:=(show hasP K H e x from hhas)
  have hy1 : y1 = .int e.1:=hy1
  have hy2 : y2 = .int e.2:=hy2
  subst hy1 hy2
  have hi:=(yag.mp he).1
  have htk : cs.take (i + 1) = cs.take i ++ [e]:=by
   rw [yaF hi,(yag.mp he).2]
  refine ⟨r,_,rfl,SqT.of zac,rfl,_,_,rfl,_,_,rfl,rfl,?_⟩
  have sr:=zai hr (.tup [.int (i : Int),.ref b])
  have h3:=sr _ _ h2
  have k3 : But D H (upd H2 r (.tup [.int (i : Int),.ref b])):=fun b o n e=>sr b o (k2 b o n e)
  clear sr
  generalize upd H2 r (.tup [.int (i : Int),.ref b]) = H3 at h3 k3 ⊢
  have h3b:=k3 _ _ (zab hb hD) hb
  have hnot : e∉cs.take i:=fun z=>by
   have hn2:=hnd
   rw [← yaZ (i + 1) cs,htk] at hn2
   have:=(ybl.mp (ybl.mp hn2).1).2.2 e z e (yao.mpr rfl)
   exact this rfl
  refine ⟨_,rfl,_,_,rfl,rfl,_,rfl,_,rfl,D,_,rfl,DPut.t (k:=kE e) h3 h3b (zan (by rw [zmt,yak]; omega)),?_⟩
  refine ⟨_,_,rfl,?_,fun b o n e=>by rw [zag n]; exact k3 b o n e⟩
  rw [zac,zeF _ (by rw [zi3,if_neg hnot]),htk,zke,yak,ybz (by omega),ybr]
  rfl
 ·rintro σ H2 ⟨x3,x4,rfl,h2,k2⟩
  rw [yaq (by omega)] at h2
  refine ⟨(by show 1≤sizeLine; decide),fun p hp=>?_⟩
  have nDp : D≠p:=zab h2 hp
  have s2 : Same H H2:=fun b o e=>k2 b o (zab e hD) e
  have k3 : But p H2 (upd H2 p (.lst [V.int 0])):=fun b o n e=>by rw [zag n]; exact e
  have h2a:=s2 _ _ ha
  refine ⟨_,rfl,a,rfl,⟨_,SqL.of (k3 _ _ (zab h2a hp) h2a)⟩,?_⟩
  refine zc5 (xs:=ws) (fun i σ H4=>∃ x4 : Option V,σ = [some (.ref a),some (.ref c),some (.ref D),x3,x4,some (.ref p)]∧H4 p = some (.lst (((List.range (i + 1)).map fun p=>stN cs (es.take p)).map nV))∧But p H2 H4) ?_ ?_ ?_ ?_
  ·exact ⟨_,rfl,zac,k3⟩
  ·rintro i σ H4 _ ⟨x4,rfl,_,k4⟩
   exact SqL.of (k4 _ _ (zab h2a hp) h2a)
  ·rintro i x σ H4 hx ⟨x4,rfl,h4,k4⟩
   obtain ⟨e,he,hhas⟩:=hw.get hx
   obtain ⟨b,y1,y2,rfl,hb,hy1,hy2⟩:=(show hasP K H e x from hhas)
   have hy1 : y1 = .int e.1:=hy1
   have hy2 : y2 = .int e.2:=hy2
   subst hy1 hy2
   have h2b:=s2 _ _ hb
   have h4b:=k4 _ _ (zab h2b hp) h2b
   have h4D:=k4 _ _ nDp h2
   have hi:=(yag.mp he).1
   have htk : es.take (i + 1) = es.take i ++ [e]:=by
    rw [yaF hi,(yag.mp he).2]
   have hon:=zjA cs (es.take i) e
   rw [← htk] at hon
   rw [zdW] at h4
   have hlen : ((((List.range i).map fun p=>stN cs (es.take p)) ++ [stN cs (es.take i)]).map nV).length < sizeLine:=zan (by
    rw [yab,yah,yab,ya1,yaL]
    omega)
   refine ⟨_,rfl,.inl ⟨rfl,_,SqL.of h4⟩,?_⟩
   refine ⟨_,rfl,D,rfl,.inr ⟨_,.inl h4D⟩,_,rfl,_,rfl,_,rfl,_,_,_,_,rfl,rfl,SqL.of h4,zjl,_,DGet.t (k:=kE e) h4D h4b,?_⟩
   have ev : (valV (kvT 0 cs) (kE e)).getD (nV (stN cs (es.take i))) = nV (stN cs (es.take (i + 1))):=by
    rw [zi3,hon]
    by_cases z : e∈cs
    ·rw [if_pos z,if_pos z,ybr]
     rfl
    ·rw [if_neg z,if_neg z]
     rfl
   rw [ev]
   refine ⟨_,_,_,rfl,rfl,h4,hlen,?_⟩
   refine ⟨_,rfl,?_,fun b o n e=>by rw [zag n]; exact k4 b o n e⟩
   rw [zac,zdW,yal (l₂:=[stN cs (es.take (i + 1))]),zdW]
   rfl
  ·rintro σ H4 ⟨x4,rfl,h4,k4⟩
   refine ⟨_,rfl,?_⟩
   rw [← hwl] at h4
   refine q p H4 (s2.free hp) (s2.trans fun b o e=>k4 b o (zab e hp) e) h4
theorem zaG {α β : Type} {F G : α→β→Prop} (h : ∀ a b,F a b→G a b) : ∀ {l : List α} {m : List β},Paired F l m→Paired G l m
 | _,_,.nil=>.nil
 | _,_,.cons a t=>.cons (h _ _ a) (zaG h t)
theorem zci {α β : Type} {F : α→β→Prop} {a : α} {b : β} : ∀ {l : List α} {m : List β},Paired F l m→F a b→Paired F (l ++ [a]) (m ++ [b])
 | _,_,.nil,h=>.cons h .nil
 | _,_,.cons a t,h=>.cons a (zci t h)
theorem zcI {α β : Type} {F : α→β→Prop} : ∀ {l : List α} {m : List β} {i : Nat} {a : α},Paired F l m→l[i]? = some a→∃ b,m[i]? = some b∧F a b
 | _,_,i,a,.nil,h=>by simp at h
 | _ :: _,b :: _,0,a,.cons h t,e=>by
  have:=yae (show some _ = some a from e)
  subst this
  exact ⟨b,rfl,h⟩
 | _ :: _,_ :: _,i + 1,a,.cons h t,e=>by
  obtain ⟨q,h1,h2⟩:=zcI (i:=i) t (by simpa using e)
  exact ⟨q,by simpa using h1,h2⟩
theorem zeb {α β : Type} {F : α→β→Prop} : ∀ {l : List α} {m : List β} {i : Nat} {b : β},Paired F l m→m[i]? = some b→∃ a,l[i]? = some a∧F a b
 | _,_,i,a,.nil,h=>by simp at h
 | a :: _,_ :: _,0,b,.cons h t,e=>by
  have:=yae (show some _ = some b from e)
  subst this
  exact ⟨a,rfl,h⟩
 | _ :: _,_ :: _,i + 1,a,.cons h t,e=>by
  obtain ⟨q,h1,h2⟩:=zeb (i:=i) t (by simpa using e)
  exact ⟨q,by simpa using h1,h2⟩
def zby (Av : List Addr) (H : Hp) (es : List En) (ps : List Nat) (rows : List (List Int)) (c : Nat) (x : V) : Prop:=∃ j s,x = .ref j∧s∉Av∧H j = some (.tup [.int (c : Int),.ref s])∧H s = some (.lst ((zg5 es (zaj ps rows c)).map nV))
def BrAt (Av : List Addr) (H : Hp) (ps : List Nat) (rows : List (List Int)) (k : Nat) (x : V) : Prop:=∃ b o j xs,x = .ref b∧o∉Av∧j∉Av∧H b = some (.tup [.int ((zaj ps rows k).length : Nat),.ref o,.ref j])∧H o = some (.lst ((znD k (zaj ps rows k)).map nV))∧H j = some (.lst xs)∧Paired (zby Av H (zaj ps rows k) ps rows) (zaM ps k (ps.length + 1)) xs
theorem zby.same {Av : List Addr} {H H' : Hp} {es : List En} {ps : List Nat} {rows : List (List Int)} {c : Nat} {x : V} (e : Same H H') (h : zby Av H es ps rows c x) : zby Av H' es ps rows c x:=by
 obtain ⟨j,s,h1,h2,h3,h4⟩:=h
 exact ⟨j,s,h1,h2,e _ _ h3,e _ _ h4⟩
theorem zby.but {p : Addr} {Av : List Addr} {H H' : Hp} {es : List En} {ps : List Nat} {rows : List (List Int)} {c : Nat} {x : V} {zs : List V} (k : But p H H') (hp : p∈Av) (hz : H p = some (.lst zs)) (h : zby Av H es ps rows c x) : zby Av H' es ps rows c x:=by
 obtain ⟨j,s,h1,h2,h3,h4⟩:=h
 exact ⟨j,s,h1,h2,k _ _ (fun z=>by rw [z,hz] at h3; cases h3) h3,k _ _ (fun z=>h2 (z ▸ hp)) h4⟩
theorem zby.less {Av Av' : List Addr} {H : Hp} {es : List En} {ps : List Nat} {rows : List (List Int)} {c : Nat} {x : V} (s : ∀ a∈Av',a∈Av) (h : zby Av H es ps rows c x) : zby Av' H es ps rows c x:=by
 obtain ⟨j,q,h1,h2,h3,h4⟩:=h
 exact ⟨j,q,h1,fun z=>h2 (s _ z),h3,h4⟩
theorem BrAt.same {Av : List Addr} {H H' : Hp} {ps : List Nat} {rows : List (List Int)} {k : Nat} {x : V} (e : Same H H') (h : BrAt Av H ps rows k x) : BrAt Av H' ps rows k x:=by
 obtain ⟨b,o,j,xs,h1,h2,h3,h4,h5,h6,h7⟩:=h
 exact ⟨b,o,j,xs,h1,h2,h3,e _ _ h4,e _ _ h5,e _ _ h6,zaG (fun a b=>zby.same e) h7⟩
theorem BrAt.but {p : Addr} {Av : List Addr} {H H' : Hp} {ps : List Nat} {rows : List (List Int)} {k : Nat} {x : V} {zs : List V} (kk : But p H H') (hp : p∈Av) (hz : H p = some (.lst zs)) (h : BrAt Av H ps rows k x) : BrAt Av H' ps rows k x:=by
 obtain ⟨b,o,j,xs,h1,h2,h3,h4,h5,h6,h7⟩:=h
 exact ⟨b,o,j,xs,h1,h2,h3,kk _ _ (fun z=>by rw [z,hz] at h4; cases h4) h4,kk _ _ (fun z=>h2 (z ▸ hp)) h5,kk _ _ (fun z=>h3 (z ▸ hp)) h6,zaG (fun a b=>zby.but kk hp hz) h7⟩
theorem BrAt.less {Av : List Addr} {H : Hp} {ps : List Nat} {rows : List (List Int)} {k : Nat} {x : V} (h : BrAt Av H ps rows k x) : BrAt [] H ps rows k x:=by
 obtain ⟨b,o,j,xs,h1,h2,h3,h4,h5,h6,h7⟩:=h
 exact ⟨b,o,j,xs,h1,(fun z=>nomatch z),(fun z=>nomatch z),h4,h5,h6,zaG (fun a b=>zby.less (fun a z=>absurd z ya6)) h7⟩
def zoy (K : Frag) : Sp:=fun vs H Q _=>∃ (st : Addr) (ps : List Nat) (rows : List (List Int)) (t rs : Addr) (as : List Addr) (pf : Addr) (qs : List Addr),vs = [.ref t,.ref pf]∧za2 H st ps rows t rs as∧H pf = some (.lst (qs.map V.ref))∧zay K H ps rows (List.range (ps.length + 1)) qs∧
 ∀ (p : Addr) (xs : List V) (H' : Hp),H p = none→Same H H'→H' p = some (.lst xs)→Paired (BrAt [] H' ps rows) (List.range (ps.length + 1)) xs→Q (.ref p) H'
theorem zpu (T : Txt K mg) (D_bridges_of : DF K mg "bridges_of" zcu zb4) (F_children : FC P w K mg base 1 "children" zch (zcH K)) (F_starts_of : FC P w K mg base 1 "starts_of" zcv (zjB K)) (F_owns_of : FC P w K mg base 1 "owns_of" zdI (zor K)) : FC P w K mg base 2 "bridges_of" zb4 (zoy K):=by
 refine D_bridges_of.ok sc_bridges_of (fun vs H Q E h=>?_) (fun f cdv A outer s H vs Q E hr h=>?_)
 ·obtain ⟨st,ps,rows,t,rs,as,pf,qs,rfl,_⟩:=h
  rfl
 obtain ⟨st,ps,rows,t,rs,as,pf,qs,rfl,S,h1,hF,q⟩:=h
 refine ⟨_,(zaf (zap (i:=2) sc_bridges_of.nd rfl (Or.inl rfl) (zbp zad))
   (zaf (zaK PassesOwn.never rfl (zdl rfl T.m_enumerate (zaa (pv 1) zad)) (zfv rfl (zaP (zal (i:=3) sc_bridges_of.nd rfl (Or.inl rfl)) (zaP (zal (i:=4) sc_bridges_of.nd rfl (Or.inr rfl)) zcZ))) (zaf (zd8 (i:=5) (N:=["child","full","fulls"]) (own:=1) (cap:=[4,1]) sc_bridges_of.nd rfl rfl rfl (zbC (zaA F_children hr (zaa (pv 0) (zaa (pv 3) zad)))) ⟨rfl,rfl,rfl,rfl,rfl,rfl⟩ (fun _ _ _ _ _=>(zal (i:=0) (show List.Nodup (["child","full","fulls"] : List Str) by decide +kernel) rfl (Or.inl rfl))) (fun _ _ _ _ _=>zbH) (fun _ _ _ _ _=>(zbe (zaa (pv 0) (zaa (zaA F_starts_of hr (zaa (pv 1) (zaa (zaz (zfU (K:=K)) (pv 2) (pv 0) (fun _ _=>rfl)) zad))) zad)))))
   (zah (za7 (zdo F.plainAttrs_list F.slot_list_append F.type_list_append zaI (pv 2) (zaa (zbe (zaa (zaq zar rfl T.m_len boot_len (zaa (pv 4) zad)) (zaa (zaA F_owns_of hr (zaa (pv 4) (zaa (pv 3) zad))) (zaa (pv 5) zad)))) zad))))))
   (zah (zau (pv 2))))),?_⟩
 have hfew:=S.few
 have hkeys:=S.keys
 have hql:=hF.length
 rw [ya1] at hql
 refine ⟨(by show 0≤sizeLine; decide),fun p hp=>?_⟩
 have k0 : But p H (upd H p (.lst [])):=fun b o n e=>by rw [zag n]; exact e
 have npf : pf≠p:=zab h1 hp
 refine ⟨_,rfl,pf,rfl,⟨_,SqL.of (k0 _ _ npf h1)⟩,?_⟩
 refine zhF (xs:=qs.map V.ref) (fun i σ H2=>∃ (xs : List V) (x4 x5 x6 : Option V),σ = [some (.ref t),some (.ref pf),some (.ref p),x4,x5,x6]∧H2 p = some (.lst xs)∧Paired (BrAt [p] H2 ps rows) (List.range i) xs∧But p H H2) ?_ ?_ ?_ ?_
 ·exact ⟨[],_,_,_,rfl,zac,.nil,k0⟩
 ·rintro i σ H2 _ ⟨xs,x4,x5,x6,rfl,_,_,k2⟩
  exact SqL.of (k2 _ _ npf h1)
 ·rintro i x σ H2 r hx ⟨xs,x4,x5,x6,rfl,h2,hB,k2⟩ hr
  rw [yaj] at hx
  obtain ⟨qq,hqi,rfl⟩:=ybk.mp hx
  have hi : i < ps.length + 1:=by
   have:=(yag.mp hqi).1
   omega
  have hxl : xs.length = i:=by
   have:=Paired.length hB
   rw [ya1] at this
   exact this.symm
  have noP : ∀ {b : Addr} {o : HO},H b = some o→b≠p:=fun e=>zab e hp
  have s12 : Same H H2:=fun b o e=>k2 b o (noP e) e
  have S2:=S.same s12
  have F2:=hF.same s12
  have h2f:=s12 _ _ h1
  obtain ⟨q2,hq2,ws,hq3,hw3⟩:=F2.get (i:=i) (j:=i) (ybs hi)
  rw [hqi] at hq2
  have:=yae hq2
  subst this
  refine ⟨r,_,rfl,SqT.of zac,rfl,_,_,rfl,_,_,rfl,rfl,?_⟩
  have sr:=zai hr (.tup [.int (i : Int),.ref qq])
  generalize upd H2 r (.tup [.int (i : Int),.ref qq]) = H3 at sr ⊢
  refine ⟨_,rfl,_,rfl,t,ps,i,rfl,sr _ _ S2.tr,by omega,fun c H4 hc s4 h4=>?_⟩
  have s24 : Same H2 H4:=sr.trans s4
  refine ⟨c,rfl,⟨_,SqL.of h4⟩,fun D hD=>?_⟩
  have hpD : p≠D:=zab (s24 _ _ h2) hD
  have F4:=F2.same s24
  have h4q:=s24 _ _ hq3
  have h4w:=hw3.mono s24.ext
  have hfl:=zdv S.T S.len (rows:=rows) hi
  refine zbU (xs:=(zaM ps i (ps.length + 1)).map nV) (fun m σ H5=>∃ (ys : List V) (x0 : Option V),σ = [x0,some (.ref qq),some (.ref pf)]∧H5 D = some (.lst ys)∧Paired (zby [p,D] H5 (zaj ps rows i) ps rows) ((zaM ps i (ps.length + 1)).take m) ys∧But D H4 H5) ?_ ?_ ?_ ?_
  ·exact ⟨[],_,rfl,zac,.nil,fun b o n e=>by rw [zag n]; exact e⟩
  ·rintro m σ H5 _ ⟨ys,x0,rfl,_,_,k5⟩
   exact k5.sq (SqL.of h4) hD
  ·rintro m u x σ H5 hx hm ⟨ys,x0,rfl,h5,hJ,k5⟩
   obtain ⟨hmi,rfl⟩:=zgN hx
   have hcl:=zcM ps i (ps.length + 1)
   have hyl:=Paired.length hJ
   rw [yak] at hyl
   rw [yab] at hm
   have hcm : (zaM ps i (ps.length + 1))[m]? = some ((zaM ps i (ps.length + 1)).getD m 0):=by
    rw [yad,yac hmi]
    rfl
   have htk2 : (zaM ps i (ps.length + 1)).take (m + 1) = (zaM ps i (ps.length + 1)).take m ++ [(zaM ps i (ps.length + 1)).getD m 0]:=by
    rw [yaF hmi,yad,yac hmi]
    rfl
   rw [htk2]
   generalize (zaM ps i (ps.length + 1)).getD m 0 = ch at hcm ⊢
   obtain ⟨hchn,hchp⟩:=zaC.mp (yaK hcm)
   have s45 : Same H4 H5:=fun b o e=>k5 b o (zab e hD) e
   have F5:=F4.same s45
   obtain ⟨qc,hqc,wc,hqc3,hwc⟩:=F5.get (i:=ch) (j:=ch) (ybs hchn)
   have hfc:=zdv S.T S.len (rows:=rows) hchn
   refine zdc ?_
   refine ⟨_,rfl,_,rfl,_,rfl,_,rfl,_,_,_,_,rfl,rfl,SqL.of (s45 _ _ (s24 _ _ h2f)),zd5 hqc,?_⟩
   refine ⟨qq,qc,ws,wc,zaj ps rows i,zaj ps rows ch,rfl,s45 _ _ h4q,h4w.mono s45.ext,by omega,hqc3,hwc,by omega,zeg S.T S.R hchn,fun sa H6 hsa s6 h6=>?_⟩
   refine ⟨(by show 2≤sizeLine; decide),fun j hj=>?_⟩
   have sj:=zai hj (.tup [.int (ch : Int),.ref sa])
   have hjj : upd H6 j (.tup [.int (ch : Int),.ref sa]) j = some (.tup [.int (ch : Int),.ref sa]):=zac
   generalize upd H6 j (.tup [.int (ch : Int),.ref sa]) = H7 at sj hjj ⊢
   have s57:=s6.trans sj
   have h7D:=s57 _ _ h5
   have nsaD : sa≠D:=Ne.symm (zab h5 hsa)
   have nsap : sa≠p:=Ne.symm (zab (s45 _ _ (s24 _ _ h2)) hsa)
   have kD : But D H7 (upd H7 D (.lst (ys ++ [.ref j]))):=fun b o n e=>by rw [zag n]; exact e
   refine ⟨_,h7D,zan (by omega),u - 1,by omega,by rw [yab]; omega,ys ++ [.ref j],_,rfl,zac,?_,fun b o n e=>by rw [zag n]; exact s57 _ _ (k5 b o n e)⟩
   refine zci (zaG (fun a b h=>zby.but kD (yaG _ yaz) h7D (zby.same s57 h)) hJ) ?_
   refine zby.but kD (yaG _ yaz) h7D ⟨j,sa,rfl,?_,hjj,sj _ _ h6⟩
   intro z
   rcases yap.mp z with z | z
   ·exact nsap z
   ·exact nsaD (yao.mp z)
  ·rintro σ H5 ⟨ys,x0,rfl,h5,hJ,k5⟩
   rw [yab,yaq (yaa _)] at hJ
   have s45 : Same H4 H5:=fun b o e=>k5 b o (zab e hD) e
   have s25:=s24.trans s45
   refine ⟨_,rfl,.inl ⟨rfl,_,SqL.of (s25 _ _ h2)⟩,_,rfl,_,_,rfl,.inl (SqL.of (s45 _ _ h4q)),?_⟩
   have hwl:=h4w.length
   refine ⟨_,rfl,_,rfl,qq,ws,zaj ps rows i,i,rfl,s45 _ _ h4q,h4w.mono s45.ext,by omega,fun o H6 ho s6 h6=>?_⟩
   refine ⟨_,rfl,(by show 3≤sizeLine; decide),fun b hb=>?_⟩
   have sb:=zai hb (.tup [.int ((ws.length : Nat) : Int),.ref o,.ref D])
   have hbb : upd H6 b (.tup [.int ((ws.length : Nat) : Int),.ref o,.ref D]) b = some (.tup [.int ((ws.length : Nat) : Int),.ref o,.ref D]):=zac
   generalize upd H6 b (.tup [.int ((ws.length : Nat) : Int),.ref o,.ref D]) = H7 at sb hbb ⊢
   have s57:=s6.trans sb
   have s27:=s25.trans s57
   have h7p:=s27 _ _ h2
   have kp : But p H7 (upd H7 p (.lst (xs ++ [.ref b]))):=fun b o n e=>by rw [zag n]; exact e
   have nop : o≠p:=Ne.symm (zab (s25 _ _ h2) ho)
   refine ⟨_,_,_,rfl,rfl,h7p,zan (by omega),?_⟩
   refine ⟨xs ++ [.ref b],_,_,_,rfl,zac,?_,fun b o n e=>by rw [zag n]; exact s27 _ _ (k2 b o n e)⟩
   rw [ybt]
   refine zci (zaG (fun a b h=>BrAt.but kp yaz h7p (BrAt.same s27 h)) hB) ?_
   refine BrAt.but kp yaz h7p ⟨b,o,D,ys,rfl,fun z=>nop (yao.mp z),fun z=>hpD (yao.mp z).symm,?_,sb _ _ h6,s57 _ _ h5,?_⟩
   ·rw [hbb,hwl]
   ·exact zaG (fun a b h=>zby.same s57 (zby.less (fun a z=>by rw [yao.mp z]; exact yaz) h)) hJ
 ·rintro σ H2 ⟨xs,x4,x5,x6,rfl,h2,hB,k2⟩
  refine ⟨_,rfl,?_⟩
  rw [yab,← hql] at hB
  refine q p xs H2 hp (fun b o e=>k2 b o (zab e hp) e) h2 (zaG (fun a b=>BrAt.less) hB)
theorem znZ {rows : List (List Int)} {row : List Int} (h : row∈rows) : row.length≤zcm rows:=by
 unfold zcm
 induction rows with
 | nil=>cases h
 | cons r rows ih=>
  rw [yay,yaR]
  rcases yap.mp h with e | e
  ·rw [e]
   omega
  ·have:=ih e
   omega
theorem zmw {m : Nat} : ∀ {rows : List (List Int)},(∀ row∈rows,row.length≤m)→zcm rows≤rows.length * m
 | [],_=>yaD _
 | r :: rows,h=>by
  have h1:=h r yaz
  have h2:=zmw (m:=m) (rows:=rows) fun x hx=>h x (yaG _ hx)
  unfold zcm at h2 ⊢
  rw [yay,yaR,yaN,Nat.succ_mul]
  omega
def accL (ps : List Nat) (rows : List (List Int)) : Nat→Nat→List En
 | 0,j=>ownE rows j
 | i + 1,j=>accL ps rows i j ++ (if par ps (ps.length - i) = some j then zbD (zaj ps rows (ps.length - i)) else [])
theorem zjm {ps : List Nat} (T : zaB ps) {rows : List (List Int)} {j : Nat} {e : En} : ∀ i,i≤ps.length→(e∈accL ps rows i j↔e∈ownE rows j∨∃ c,ps.length - i < c∧par ps c = some j∧e∈zbD (zaj ps rows c))
 | 0,_=>by
  unfold accL
  constructor
  ·exact .inl
  ·rintro (h | ⟨c,h1,h2,_⟩)
   ·exact h
   ·have:=(zaL T h2).2
    omega
 | i + 1,hi=>by
  unfold accL
  rw [yan,zjm T i (by omega)]
  constructor
  ·rintro ((h | ⟨c,h1,h2,h3⟩) | h)
   ·exact .inl h
   ·exact .inr ⟨c,by omega,h2,h3⟩
   ·by_cases z : par ps (ps.length - i) = some j
    ·rw [if_pos z] at h
     exact .inr ⟨_,by omega,z,h⟩
    ·rw [if_neg z] at h
     cases h
  ·rintro (h | ⟨c,h1,h2,h3⟩)
   ·exact .inl (.inl h)
   ·by_cases z : c = ps.length - i
    ·subst z
     rw [if_pos h2]
     exact .inr h3
    ·exact .inl (.inr ⟨c,by omega,h2,h3⟩)
theorem ziL {ps : List Nat} (T : zaB ps) {rows : List (List Int)} (R : zaS rows) {j : Nat} (hj : j < ps.length + 1) : ∀ i,i≤ps.length→(accL ps rows i j).Nodup
 | 0,_=>zic R j
 | i + 1,hi=>by
  unfold accL
  have ih:=ziL T R hj i (by omega)
  by_cases z : par ps (ps.length - i) = some j
  ·rw [if_pos z,ybl]
   have hc:=(zaL T z).2
   refine ⟨ih,(zeg T R hc).sublist (zaX _),fun a ha b hb hab=>?_⟩
   subst hab
   obtain ⟨u,_,g2,g3,_⟩:=zdX T R hc a ((zaX _).mem hb)
   rcases (zjm T i (by omega)).mp ha with h | ⟨c,h1,h2,h3⟩
   ·have:=(zib hj h).2
    have : u = j:=by omega
    subst this
    rw [zeX T (zaL T z).1] at g2
    cases g2
   ·obtain ⟨v,_,f2,f3,_⟩:=zdX T R (zaL T h2).2 a ((zaX _).mem h3)
    have : u = v:=by omega
    subst this
    exact zdu T h2 z (by omega) u u (yaa _) f2 g2
  ·rw [if_neg z,yaE]
   exact ih
theorem zhM {ps : List Nat} (T : zaB ps) {rows : List (List Int)} (R : zaS rows) {k : Nat} (hk : k < ps.length + 1) : zdg (accL ps rows (ps.length - k) k) = zaj ps rows k:=by
 refine ziQ (zfd (ziL T R hk _ (by omega))) (zaN T R hk) fun e=>?_
 rw [zeq,zjm T _ (by omega),zeZ T hk]
 constructor
 ·rintro (h | ⟨c,_,h2,h3⟩)
  ·exact .inl h
  ·exact .inr ⟨c,h2,h3⟩
 ·rintro (h | ⟨c,h2,h3⟩)
  ·exact .inl h
  ·exact .inr ⟨c,by have:=(zaL T h2).1; omega,h2,h3⟩
theorem zoR {ps : List Nat} {rows : List (List Int)} {j : Nat} (i : Nat) : ∀ d,(accL ps rows i j).length≤(accL ps rows (i + d) j).length
 | 0=>yaa _
 | d + 1=>by
  refine yat (zoR i d) ?_
  show _≤(accL ps rows (i + d) j ++ _).length
  rw [yah]
  omega
theorem zp1 {ps : List Nat} (T : zaB ps) {rows : List (List Int)} (R : zaS rows) (hl : rows.length = ps.length + 1) {i j : Nat} (hj : j < ps.length + 1) (hi : i≤ps.length - j) : (accL ps rows i j).length≤zcm rows:=by
 obtain ⟨d,hd⟩ : ∃ d,ps.length - j = i + d:=⟨ps.length - j - i,by omega⟩
 have h:=zhM T R hj
 rw [hd] at h
 have h2:=congrArg List.length h
 rw [zcp] at h2
 exact yat (zoR i d) (by rw [h2]; exact zdv T hl hj)
def valL (ps : List Nat) (rows : List (List Int)) (i j : Nat) : List En:=if ps.length - i < j then zaj ps rows j else accL ps rows i j
structure FA (K : Frag) (H : Hp) (p : Addr) (qs : List Addr) (n : Nat) (f : Nat→List En) : Prop where
 at_ : H p = some (.lst (qs.map V.ref))
 len : qs.length = n
 nd : qs.Nodup
 np : p∉qs
 get : ∀ (j : Nat) (q : Addr),qs[j]? = some q→∃ ws,H q = some (.lst ws)∧zam K H (f j) ws
section
variable {K : Frag} {H H' : Hp} {p : Addr} {qs : List Addr} {n : Nat} {f g : Nat→List En}
theorem FA.ext (h : FA K H p qs n f) (e : Ext H H') : FA K H' p qs n f:=
 ⟨e _ _ h.at_ (fun _ z=>nomatch z),h.len,h.nd,h.np,fun j q hq=>by
  obtain ⟨ws,h1,h2⟩:=h.get j q hq
  exact ⟨ws,e _ _ h1 (fun _ z=>nomatch z),h2.mono e⟩⟩
theorem FA.congr (h : FA K H p qs n f) (e : ∀ j,j < n→f j = g j) : FA K H p qs n g:=
 ⟨h.at_,h.len,h.nd,h.np,fun j q hq=>by
  rw [← e j (by have:=(yag.mp hq).1; have:=h.len; omega)]
  exact h.get j q hq⟩
theorem FA.set (h : FA K H p qs n f) {k : Nat} {q' : Addr} {l : List En} {ws : List V} (hq : H q' = some (.lst ws)) (hw : zam K H l ws) (hn : q'∉qs) (hp : q'≠p) : FA K (upd H p (.lst ((qs.map V.ref).set k (.ref q')))) p (qs.set k q') n (fun j=>if j = k then l else f j):=by
 refine ⟨?_,by rw [List.length_set]; exact h.len,?_,fun z=>?_,fun j q hj=>?_⟩
 ·rw [zac,yb7]
 ·show List.Pairwise _ _
  rw [yaO]
  intro i j hi hj hij
  rw [List.length_set] at hi hj
  rw [List.getElem_set,List.getElem_set]
  have old:=yaO.mp h.nd i j hi hj hij
  split
  ·rw [if_neg (by omega)]
   exact fun z=>hn (z ▸ yaB hj)
  ·split
   ·exact fun z=>hn (z ▸ yaB hi)
   ·exact old
 ·rcases ycD z with y | y
  ·exact h.np y
  ·exact hp y.symm
 ·rw [yb5] at hj
  show ∃ ws,_∧zam K _ (if j = k then l else f j) ws
  by_cases c : k = j
  ·rw [if_pos c] at hj
   by_cases c2 : k < qs.length
   ·rw [if_pos c2] at hj
    have:=yae hj
    subst this
    rw [if_pos c.symm]
    exact ⟨ws,by rw [zag hp]; exact hq,zaQ h.at_ hw⟩
   ·rw [if_neg c2] at hj
    cases hj
  ·rw [if_neg c] at hj
   rw [if_neg (fun z=>c z.symm)]
   obtain ⟨us,h1,h2⟩:=h.get j q hj
   have hqp : q≠p:=fun z=>h.np (by rw [← z]; exact yaK hj)
   exact ⟨us,by rw [zag hqp]; exact h1,zaQ h.at_ h2⟩
theorem FA.put (h : FA K H p qs n f) {k : Nat} {q : Addr} {ws : List V} {e : En} {x : V} (hk : qs[k]? = some q) (hq : H q = some (.lst ws)) (hx : Rep.has K H e x) : FA K (upd H q (.lst (ws ++ [x]))) p qs n (fun j=>if j = k then f j ++ [e] else f j):=by
 have hqp : p≠q:=fun z=>h.np (z ▸ yaK hk)
 refine ⟨by rw [zag hqp]; exact h.at_,h.len,h.nd,h.np,fun j q2 hj=>?_⟩
 obtain ⟨us,h1,h2⟩:=h.get j q2 hj
 show ∃ ws,_∧zam K _ (if j = k then f j ++ [e] else f j) ws
 by_cases c : j = k
 ·subst c
  rw [hk] at hj
  have:=yae hj
  subst this
  rw [hq] at h1
  cases h1
  rw [if_pos rfl]
  exact ⟨_,zac,(zaQ hq h2).append (zaQ hq (.one hx))⟩
 ·rw [if_neg c]
  have hne : q2≠q:=fun z=>by
   subst z
   obtain ⟨i1,e1⟩:=yag.mp hj
   obtain ⟨i2,e2⟩:=yag.mp hk
   have old:=yaO.mp h.nd
   rcases Nat.lt_or_gt_of_ne c with z | z
   ·exact old j k i1 i2 z (e1.trans e2.symm)
   ·exact old k j i2 i1 z (e2.trans e1.symm)
  exact ⟨us,by rw [zag hne]; exact h1,zaQ hq h2⟩
theorem FA.at (h : FA K H p qs n f) {k : Nat} (hk : k < n) : ∃ q ws,qs[k]? = some q∧H q = some (.lst ws)∧zam K H (f k) ws:=by
 have e : qs[k]? = some (qs[k]'(by have:=h.len; omega)):=yac _
 obtain ⟨ws,h1,h2⟩:=h.get k _ e
 exact ⟨_,ws,e,h1,h2⟩
end
def zjJ (K : Frag) : Sp:=fun vs H Q _=>∃ (t r : Addr) (ps : List Nat) (rows : List (List Int)) (as : List Addr),vs = [.ref t,.ref r]∧H t = some (.tup (zbY ps))∧H r = some (.tup (as.map V.ref))∧zaJ H as rows∧rows.length = ps.length + 1∧zaB ps∧zaS rows∧ps.length≤40∧zcm rows≤400∧
 ∀ (p : Addr) (qs : List Addr) (H' : Hp),H p = none→Same H H'→FA K H' p qs (ps.length + 1) (zaj ps rows)→(∀ q∈qs,H q = none)→Q (.ref p) H'
theorem zma (T : Txt K mg) (D_l_fulls : DF K mg "_law_fulls" zey zdP) (F_l_marks : FC P w K mg base 2 "_law_marks" zdO (zg6 K)) : FC P w K mg base 3 "_law_fulls" zdP (zjJ K):=by
 refine D_l_fulls.ok sc_l_fulls (fun vs H Q E h=>?_) (fun f cdv A outer s H vs Q E hr h=>?_)
 ·obtain ⟨t,r,ps,rows,as,rfl,_⟩:=h
  rfl
 obtain ⟨t,r,ps,rows,as,rfl,ht,hr0,hA,hlen,hT,hR,hfew,hkeys,q⟩:=h
 refine ⟨_,(zaf (znv "_law_k" (i:=2) (N:=["_law_k","_law_rows_here"]) (own:=1) (cap:=[1]) sc_l_fulls.nd rfl rfl rfl (zaU rfl T.m_range (zaa (zaq zar rfl T.m_len boot_len (zaa (pv 0) zad)) zad)) ⟨rfl,rfl,rfl,rfl,rfl,rfl,rfl⟩ (fun _ _ _ _ _=>(zal (i:=0) (show List.Nodup (["_law_k","_law_rows_here"] : List Str) by decide +kernel) rfl (Or.inr rfl))) (fun _ _ _ _ _=>zbH) (fun _ _ _ _ _=>(zbJ (N:=["_law_key_here","_law_k"]) (own:=1) (cap:=[0]) rfl (zpg (K:=K) (zaz (zee (K:=K)) (pv 1) (pv 0) (fun _ _=>rfl))) ⟨rfl,rfl,rfl,rfl,rfl,rfl⟩ (fun _ _ _ _ _=>(zal (i:=0) (show List.Nodup (["_law_key_here","_law_k"] : List Str) by decide +kernel) rfl (Or.inl rfl))) (fun _ _ _ _ _=>zbH) (fun _ _ _ _ _=>(zbe (zaa (pv 0) (zaa (pv 1) zad)))))))
   (zaf (zaK PassesOwn.never rfl (zlV rfl T.m_range (zaa (zas zbq (zaq zar rfl T.m_len boot_len (zaa (pv 0) zad)) zae) (zaa zae (zaa (zgr zd2 zae) zad)))) (zal (i:=3) sc_l_fulls.nd rfl (Or.inl rfl)) (zaf (zfu (zaq (zd0 (Int×Int)) rfl T.m_sorted boot_sorted (zaa (zaz zax (pv 2) (pv 3) (fun _ _=>rfl)) zad)) (zgF (pv 2) (pv 3) zdB))
   (zaf (zap (i:=4) sc_l_fulls.nd rfl (Or.inl rfl) (zaz zaW (pv 0) (pv 3) (fun _ _=>rfl)))
   (zah (zaK PassesOwn.never rfl (zjT rfl T.m_zip (zaa (zaz zax (pv 2) (pv 3) (fun _ _=>rfl)) (zaa (zaA F_l_marks hr (zaa (zaz zax (pv 2) (pv 3) (fun _ _=>rfl)) zad)) zad))) (zfv rfl (zaP (zal (i:=5) sc_l_fulls.nd rfl (Or.inl rfl)) (zaP (zal (i:=6) sc_l_fulls.nd rfl (Or.inl rfl)) zcZ))) (zah (zbS (zdi (pv 6)) (zah (za7 (zdo F.plainAttrs_list F.slot_list_append F.type_list_append zaI (zaz zax (pv 2) (pv 4) (fun _ _=>rfl)) (zaa (pv 5) zad)))) zaO)))))))
   (zaf (zfu (zaq (zd0 (Int×Int)) rfl T.m_sorted boot_sorted (zaa (zaz zax (pv 2) zae (fun _ _=>rfl)) zad)) (zgF (pv 2) zae zdB))
   (zah (zau (pv 2)))))),?_⟩
 have el : ((((zbY ps).length : Nat) : Int)).toNat = ps.length + 1:=by rw [zat,yba]
 refine ⟨_,rfl,_,_,rfl,.inr (SqT.of ht),_,rfl,by omega,by rw [zat]; omega,fun D hD=>?_⟩
 rw [el]
 refine zcb (n:=ps.length + 1) (fun i σ H2=>∃ (qs : List Addr) (x0 : Option V),σ = [x0,some (.ref r)]∧FA K H2 D qs i (ownE rows)∧(∀ q∈qs,H q = none)∧But D H H2) ?_ ?_ ?_
 ·exact ⟨[],_,rfl,⟨zac,rfl,ybo,(fun z=>nomatch z),fun j q e=>by simp at e⟩,(fun q z=>nomatch z),fun b o n e=>by rw [zag n]; exact e⟩
 ·rintro i m σ H2 hm hi ⟨qs,x0,rfl,h2,hqs,k2⟩
  rw [ybd]
  have s2 : Same H H2:=fun b o e=>k2 b o (zab e hD) e
  obtain ⟨b,hb1,hb2⟩:=(hA.ext s2).get (k:=i) (by rw [hlen]; exact hi)
  refine zdc ?_
  refine ⟨_,rfl,_,rfl,_,_,_,_,rfl,rfl,SqT.of (s2 _ _ hr0),zd5 hb1,b,rfl,⟨_,SqT.of hb2⟩,fun D3 hD3=>?_⟩
  refine zdZ (xs:=(zbz rows i).map V.int) (fun m σ H5=>∃ (us : List V) (x0 : Option V),σ = [x0,some (.int i)]∧H5 D3 = some (.lst us)∧zam K H5 ((ownE rows i).take m) us∧But D3 H2 H5) ?_ ?_ ?_ ?_
  ·exact ⟨[],_,rfl,zac,.nil,fun b o n e=>by rw [zag n]; exact e⟩
  ·rintro m σ H5 _ ⟨us,x0,rfl,_,_,k5⟩
   exact SqT.of (k5 _ _ (zab hb2 hD3) hb2)
  ·rintro j m' x σ H5 hx hm' ⟨us,x0,rfl,h5,hw5,k5⟩
   rw [yaj] at hx
   obtain ⟨y,hy,rfl⟩:=ybk.mp hx
   have hlow:=(yag.mp hy).1
   have htk3 : (ownE rows i).take (j + 1) = (ownE rows i).take j ++ [(y,(i : Int))]:=by
    unfold ownE
    rw [← ybL,← ybL,yaF hlow,yal]
    rw [(yag.mp hy).2]
    rfl
   have hul:=hw5.length
   rw [yak] at hul
   rw [yab] at hm'
   have hrl : (zbz rows i).length≤zcm rows:=by
    refine znZ ?_
    unfold zbz
    rw [yad,yac (show i < rows.length by omega)]
    exact yaB _
   refine zdc ?_
   refine ⟨_,rfl,_,rfl,(by show 2≤sizeLine; decide),fun u hu=>?_⟩
   have su:=zai hu (.tup [.int y,.int (i : Int)])
   have h6:=su _ _ h5
   have hut : upd H5 u (.tup [.int y,.int (i : Int)]) u = some (.tup [.int y,.int (i : Int)]):=zac
   have k6:=k5.new' hu (.tup [.int y,.int (i : Int)])
   have hw6:=hw5.mono su.ext
   generalize upd H5 u (.tup [.int y,.int (i : Int)]) = H6 at su h6 hut k6 hw6 ⊢
   refine ⟨_,h6,zan (by omega),m' - 1,by omega,by rw [yab]; omega,us ++ [.ref u],_,rfl,zac,?_,fun b o n e=>by rw [zag n]; exact k6 b o n e⟩
   rw [htk3]
   exact (zaQ h6 hw6).append (zaQ h6 (.cons ⟨u,.int y,.int (i : Int),rfl,hut,rfl,rfl⟩ .nil))
  rintro σ H5 ⟨us,x0,rfl,h5,hw5,k5⟩
  rw [yab,yaq (by unfold ownE; rw [yab]; exact yaa _)] at hw5
  have s5 : Same H2 H5:=fun x o e=>k5 x o (zab e hD3) e
  have F5:=h2.ext s5.ext
  have hqn : D3∉qs:=fun z=>by
   obtain ⟨j,hj,e⟩:=yaV z
   obtain ⟨ws,w1,_⟩:=h2.get j D3 (by rw [yac hj,e])
   rw [hD3] at w1
   cases w1
  have hDD : D3≠D:=fun z=>by
   have:=h2.at_
   rw [← z,hD3] at this
   cases this
  have hql:=h2.len
  refine ⟨_,F5.at_,zan (by rw [yab]; omega),m - 1,by omega,by omega,qs ++ [D3],_,rfl,⟨?_,by rw [yah,yaL,hql],?_,?_,?_⟩,?_,?_⟩
  ·rw [zac,yal]
   rfl
  ·rw [ybl]
   refine ⟨h2.nd,yaS.mpr ⟨(fun z=>nomatch z),ybo⟩,fun a ha b hb e=>?_⟩
   rw [yao.mp hb] at e
   exact hqn (e ▸ ha)
  ·intro z
   rcases yan.mp z with y | y
   ·exact h2.np y
   ·exact hDD (yao.mp y).symm
  ·intro j q0 hj
   by_cases c : j < qs.length
   ·rw [ybh c] at hj
    obtain ⟨ws,w1,w2⟩:=F5.get j q0 hj
    have hne : q0≠D:=fun z=>h2.np (by rw [← z]; exact yaK hj)
    exact ⟨ws,by rw [zag hne]; exact w1,zaQ F5.at_ w2⟩
   ·rw [yaY (by omega)] at hj
    have hj0 : j - qs.length = 0:=by
     have:=(yag.mp hj).1
     rw [yaL] at this
     omega
    rw [hj0] at hj
    have:=yae (show some D3 = some q0 from hj)
    subst this
    have : j = i:=by omega
    subst this
    exact ⟨us,by rw [zag hDD]; exact h5,zaQ F5.at_ hw5⟩
  ·intro q0 hq0
   rcases yan.mp hq0 with y | y
   ·exact hqs q0 y
   ·rw [yao.mp y]
    exact s2.free hD3
  ·exact fun b o n e=>by
    rw [zag n]
    exact s5 _ _ (k2 b o n e)
 rintro σ H2 ⟨qs,x0,rfl,F2,hqs2,k2⟩
 have s2 : Same H H2:=fun b o e=>k2 b o (zab e hD) e
 have hD0:=hD
 clear k2
 have F0 : FA K H2 D qs (ps.length + 1) (valL ps rows 0):=F2.congr fun j hj=>by
  unfold valL accL
  rw [if_neg (by omega)]
 clear F2
 have h2t:=s2 _ _ ht
 refine ⟨_,rfl,_,_,rfl,.inr (SqT.of h2t),_,_,rfl,rfl,?_⟩
 refine ⟨_,rfl,_,_,rfl,⟨by rw [zat]; omega,by rw [zat]; omega,by omega,by omega⟩,?_⟩
 have en : ((((zbY ps).length : Nat) : Int) - 1 - 0).toNat = ps.length:=by rw [zat]; omega
 rw [en]
 refine zob (n:=ps.length) (fun i σ H3=>∃ (qs : List Addr) (x3 x4 x5 x6 : Option V),σ = [some (.ref t),some (.ref r),some (.ref D),x3,x4,x5,x6]∧FA K H3 D qs (ps.length + 1) (valL ps rows i)∧(∀ q∈qs,H q = none)∧Same H H3) ?_ ?_ ?_
 ·exact ⟨qs,_,_,_,_,rfl,F0,hqs2,s2⟩
 ·rintro i σ H3 hi ⟨qs,x3,x4,x5,x6,rfl,F3,hqs,s3⟩
  have ek : (((zbY ps).length : Nat) : Int) - 1 - (i : Int) = ((ps.length - i : Nat) : Int):=by rw [zat]; omega
  rw [ek]
  have eI : i = ps.length - (ps.length - i):=by omega
  obtain ⟨k,hk⟩ : ∃ k,k = ps.length - i:=⟨_,rfl⟩
  rw [← hk] at eI ⊢
  have hkn : k < ps.length + 1:=by omega
  have hk1 : 1≤k:=by omega
  obtain ⟨q0,ws,hq0,hq1,hq2⟩:=F3.at hkn
  have ev : valL ps rows i k = accL ps rows i k:=by
   unfold valL
   rw [if_neg (by omega)]
  rw [ev] at hq2
  have hfl:=yat (zdv hT hlen hkn (rows:=rows)) hkeys
  refine ⟨_,rfl,_,rfl,_,_,_,_,rfl,rfl,SqL.of F3.at_,zd5 hq0,q0,ws,_,rfl,SqL.of hq1,hq2,fun l us hl hus=>?_⟩
  have hsort : zdg (accL ps rows i k) = zaj ps rows k:=by
   rw [eI]
   exact zhM hT hR hkn
  rw [hsort] at hus
  have sl:=zai hl (.lst us)
  have F4:=F3.ext sl.ext
  have hl4 : upd H3 l (.lst us) l = some (.lst us):=zac
  have hus4:=hus.mono sl.ext
  have s4:=s3.trans sl
  have hlq : l∉qs:=fun z=>by
   obtain ⟨j,hj,e⟩:=yaV z
   obtain ⟨ws,w1,_⟩:=F3.get j l (by rw [yac hj,e])
   rw [hl] at w1
   cases w1
  have hlD : l≠D:=fun z=>by
   have:=F3.at_
   rw [← z,hl] at this
   cases this
  have hl0 : H l = none:=s3.free hl
  clear sl
  generalize upd H3 l (.lst us) = H4 at F4 hl4 hus4 s4 ⊢
  refine ⟨_,rfl,_,rfl,_,_,_,k,rfl,rfl,F4.at_,zfj (by rw [yab,F4.len]; exact hkn),?_⟩
  have F5:=F4.set (k:=k) hl4 hus4 hlq hlD
  have hl5 : upd H4 D (.lst ((qs.map V.ref).set k (.ref l))) l = some (.lst us):=by rw [zag hlD]; exact hl4
  have hus5 : zam K (upd H4 D (.lst ((qs.map V.ref).set k (.ref l)))) (zaj ps rows k) us:=zaQ F4.at_ hus4
  have s5 : Same H (upd H4 D (.lst ((qs.map V.ref).set k (.ref l)))):=fun b o e=>by
   rw [zag (zab e hD)]
   exact s4 _ _ e
  have hqs5 : ∀ q∈qs.set k l,H q = none:=fun q hq=>by
   rcases ycD hq with y | y
   ·exact hqs q y
   ·rw [y]
    exact hl0
  have hqk : (qs.set k l)[k]? = some l:=by
   rw [yb5,if_pos rfl,if_pos (by rw [F4.len]; exact hkn)]
  generalize upd H4 D (.lst ((qs.map V.ref).set k (.ref l))) = H5 at F5 hl5 hus5 s5 ⊢
  generalize qs.set k l = qs' at F5 hqs5 hqk ⊢
  obtain ⟨u,hu⟩:=zho (ps:=ps) (k:=k) (by omega) hkn
  have hlt:=(zaL hT hu).1
  refine ⟨_,rfl,_,rfl,_,_,_,_,rfl,rfl,SqT.of (s5 _ _ ht),zgm hkn,?_⟩
  rw [zdp hu]
  refine ⟨_,rfl,_,rfl,_,_,_,_,rfl,rfl,SqL.of F5.at_,zd5 hqk,?_⟩
  refine ⟨_,rfl,_,rfl,_,_,_,_,rfl,rfl,SqL.of F5.at_,zd5 hqk,?_⟩
  refine ⟨l,us,zaj ps rows k,rfl,hl5,hus5,by omega,ze0 hT hR (by omega) hkn,zaN hT hR hkn,fun pm H6 hpm s6 h6=>?_⟩
  refine ⟨l,pm,rfl,⟨_,SqL.of (s6 _ _ hl5)⟩,⟨_,SqL.of h6⟩,?_⟩
  have hul:=hus5.length
  have hml:=za8 (zaj ps rows k)
  have F6:=F5.ext s6.ext
  have s06:=s5.trans s6
  have hl6:=s6 _ _ hl5
  have hus6:=hus5.mono s6.ext
  have hpmq : pm∉qs':=fun z=>by
   obtain ⟨j,hj,e⟩:=yaV z
   obtain ⟨ws,w1,_⟩:=F5.get j pm (by rw [yac hj,e])
   rw [hpm] at w1
   cases w1
  have F6' : FA K H6 D qs' (ps.length + 1) (fun j=>if j = u then accL ps rows i u ++ zb5 ((zaj ps rows k).take 0) ((za4 (zaj ps rows k)).take 0) else if j = k then zaj ps rows k else valL ps rows i j):=F6.congr fun j hj=>by
   show (if j = k then _ else _) = _
   by_cases c : j = u
   ·subst c
    rw [if_pos rfl,if_neg (by omega)]
    unfold valL
    rw [if_neg (by omega)]
    show _ = _ ++ []
    rw [yaE]
   ·rw [if_neg c]
  clear F5 F6
  refine zpM (xs:=us) (ys:=(za4 (zaj ps rows k)).map V.bl) (by rw [yab,hml]; exact hul.symm) (fun m σ H7=>∃ x5 x6 : Option V,σ = [some (.ref t),some (.ref r),some (.ref D),some (.int k),some (.int u),x5,x6]∧FA K H7 D qs' (ps.length + 1) (fun j=>if j = u then accL ps rows i u ++ zb5 ((zaj ps rows k).take m) ((za4 (zaj ps rows k)).take m) else if j = k then zaj ps rows k else valL ps rows i j)∧H7 l = some (.lst us)∧zam K H7 (zaj ps rows k) us∧H7 pm = some (.lst ((za4 (zaj ps rows k)).map V.bl))∧Same H H7) ?_ ?_ ?_ ?_
  ·exact ⟨_,_,rfl,F6',hl6,hus6,h6,s06⟩
  ·rintro m σ H7 _ ⟨x5,x6,rfl,F7,hl7,hus7,hm7,s7⟩
   exact ⟨SqL.of hl7,SqL.of hm7⟩
  ·rintro m x y σ H7 rr hx hy ⟨x5,x6,rfl,F7,hl7,hus7,hm7,s7⟩ hrr
   obtain ⟨e,he,hex⟩:=hus7.get hx
   rw [yaj] at hy
   obtain ⟨b,hb,rfl⟩:=ybk.mp hy
   have hme:=(yag.mp he).1
   have hmb:=(yag.mp hb).1
   have tke : (zaj ps rows k).take (m + 1) = (zaj ps rows k).take m ++ [e]:=by rw [yaF hme,(yag.mp he).2]
   have tkb : (za4 (zaj ps rows k)).take (m + 1) = (za4 (zaj ps rows k)).take m ++ [b]:=by rw [yaF hmb,(yag.mp hb).2]
   have hhs : zb5 ((zaj ps rows k).take (m + 1)) ((za4 (zaj ps rows k)).take (m + 1)) = zb5 ((zaj ps rows k).take m) ((za4 (zaj ps rows k)).take m) ++ (if b = true then [e] else []):=by
    rw [tke,tkb]
    exact zga (by rw [yak,yak]; omega)
   rw [hhs]
   have sr:=zai hrr (.tup [x,.bl b])
   refine ⟨rr,_,rfl,SqT.of zac,rfl,_,_,rfl,_,_,rfl,rfl,?_⟩
   have F8:=F7.ext sr.ext
   have hl8:=sr _ _ hl7
   have hus8:=hus7.mono sr.ext
   have hm8:=sr _ _ hm7
   have s8:=s7.trans sr
   have hex8:=Rep.mono sr.ext hex
   clear sr F7 hl7 hus7 hm7 s7 hex
   generalize upd H7 rr (.tup [x,.bl b]) = H8 at F8 hl8 hus8 hm8 s8 hex8 ⊢
   refine ⟨_,rfl,b,rfl,?_⟩
   cases b with
   | false=>
    refine iteF ?_
    refine ⟨_,_,rfl,?_,hl8,hus8,hm8,s8⟩
    rw [if_neg yaA,yaE]
    exact F8
   | true=>
    refine iteT ?_
    obtain ⟨qu,wu,hqu,hqu1,hqu2⟩:=F8.at (k:=u) (by omega)
    have hqu2 : zam K H8 (accL ps rows i u ++ zb5 ((zaj ps rows k).take m) ((za4 (zaj ps rows k)).take m)) wu:=by
     have z:=hqu2
     rw [if_pos rfl] at z
     exact z
    have hwl:=hqu2.length
    have hal:=yat (zp1 hT hR hlen (i:=i) (j:=u) (by omega) (by omega)) hkeys
    have hhl:=zgb ((zaj ps rows k).take m) ((za4 (zaj ps rows k)).take m)
    rw [yak] at hhl
    rw [yah] at hwl
    have hlu : l≠qu:=fun z=>by
     subst z
     obtain ⟨i1,e1⟩:=yag.mp hqk
     obtain ⟨i2,e2⟩:=yag.mp hqu
     exact yaO.mp F8.nd u k i2 i1 hlt (e2.trans e1.symm)
    have hpu : pm≠qu:=fun z=>hpmq (by rw [z]; exact yaK hqu)
    have hu0:=hqs5 qu (yaK hqu)
    have F9:=F8.put hqu hqu1 hex8
    refine ⟨_,rfl,_,rfl,_,_,_,_,rfl,rfl,SqL.of F8.at_,zd5 hqu,.inl ⟨rfl,_,SqL.of hqu1⟩,_,rfl,_,_,_,rfl,rfl,hqu1,zan (by omega),?_⟩
    refine ⟨_,_,rfl,F9.congr fun j hj=>?_,by rw [zag hlu]; exact hl8,zaQ hqu1 hus8,by rw [zag hpu]; exact hm8,fun b o e=>by rw [zag (zab e hu0)]; exact s8 _ _ e⟩
    show (if j = u then (if j = u then _ else _) ++ [e] else (if j = u then _ else _)) = _
    by_cases c : j = u
    ·rw [if_pos c,if_pos c,if_pos c,if_pos rfl,yaP]
    ·rw [if_neg c,if_neg c,if_neg c]
  rintro σ H7 ⟨x5,x6,rfl,F7,hl7,hus7,hm7,s7⟩
  refine ⟨qs',_,_,_,_,rfl,F7.congr fun j hj=>?_,hqs5,s7⟩
  rw [← hul,yaq (yaa _),yaq (by rw [hml]; exact yaa _)]
  unfold valL
  have e1 : ps.length - (i + 1) = k - 1:=by omega
  have e2 : ps.length - i = k:=by omega
  have eacc : accL ps rows (i + 1) j = accL ps rows i j ++ (if par ps k = some j then zbD (zaj ps rows k) else []):=by
   rw [accL,e2]
  rw [e1,e2,eacc,hu]
  by_cases c : j = u
  ·subst c
   rw [if_pos rfl,if_neg (by omega),if_pos rfl]
   rfl
  ·rw [if_neg c]
   by_cases c2 : j = k
   ·rw [if_pos c2,if_pos (by omega),c2]
   ·rw [if_neg c2]
    by_cases c3 : k < j
    ·rw [if_pos c3,if_pos (by omega)]
    ·rw [if_neg c3,if_neg (by omega),if_neg (fun z=>c (yae z).symm),yaE]
 rintro σ H3 ⟨qs,x3,x4,x5,x6,rfl,F3,hqs,s3⟩
 obtain ⟨q0,ws,hq0,hq1,hq2⟩:=F3.at (k:=0) (by omega)
 have ev : valL ps rows ps.length 0 = accL ps rows ps.length 0:=by
  unfold valL
  rw [if_neg (by omega)]
 rw [ev] at hq2
 refine ⟨_,rfl,_,_,_,_,rfl,rfl,SqL.of F3.at_,zd5 hq0,q0,ws,_,rfl,SqL.of hq1,hq2,fun l us hl hus=>?_⟩
 have hsort : zdg (accL ps rows ps.length 0) = zaj ps rows 0:=zhM hT hR (k:=0) (by omega)
 rw [hsort] at hus
 have sl:=zai hl (.lst us)
 have F4:=F3.ext sl.ext
 have hl4 : upd H3 l (.lst us) l = some (.lst us):=zac
 have hus4:=hus.mono sl.ext
 have s4:=s3.trans sl
 have hlq : l∉qs:=fun z=>by
  obtain ⟨j,hj,e⟩:=yaV z
  obtain ⟨ws,w1,_⟩:=F3.get j l (by rw [yac hj,e])
  rw [hl] at w1
  cases w1
 have hlD : l≠D:=fun z=>by
  have:=F3.at_
  rw [← z,hl] at this
  cases this
 have hl0 : H l = none:=s3.free hl
 clear sl
 generalize upd H3 l (.lst us) = H4 at F4 hl4 hus4 s4 ⊢
 refine ⟨_,rfl,_,_,_,0,rfl,rfl,F4.at_,zfj (k:=0) (by rw [yab,F4.len]; exact Nat.succ_pos _),?_⟩
 refine ⟨_,rfl,?_⟩
 refine q D (qs.set 0 l) _ hD0 (fun b o e=>by rw [zag (zab e hD)]; exact s4 _ _ e) ((F4.set (k:=0) hl4 hus4 hlq hlD).congr fun j hj=>?_) fun q hq=>?_
 ·show (if j = 0 then _ else _) = _
  by_cases c : j = 0
  ·rw [if_pos c,c]
  ·rw [if_neg c]
   unfold valL
   rw [if_pos (by omega)]
 ·rcases ycD hq with y | y
  ·exact hqs q y
  ·rw [y]
   exact hl0
def zav (es : List (Int×Int)) (key : Int) : Nat:=(es.filter fun e=>decide (e.1 < key)).length
theorem zm7 {es : List (Int×Int)} {key : Int} {m : Nat} (hm : m≤es.length) (h1 : ∀ i,i < m→decide ((es.getD i (0,0)).1 < key) = true) (h2 : ∀ i,m≤i→i < es.length→decide ((es.getD i (0,0)).1 < key) = false) : zav es key = m:=by
 unfold zav
 conv=>lhs; rw [← yaZ m es]
 rw [ya2,yah]
 have e1 : (es.take m).filter (fun e=>decide (e.1 < key)) = es.take m:=by
  rw [ycB]
  intro x hx
  obtain ⟨i,hi,rfl⟩:=yaV hx
  rw [yak] at hi
  have:=h1 i (by omega)
  rw [yad,yac (by omega)] at this
  rw [List.getElem_take]
  exact this
 have e2 : (es.drop m).filter (fun e=>decide (e.1 < key)) = []:=by
  rw [yco]
  intro x hx
  obtain ⟨i,hi,rfl⟩:=yaV hx
  rw [yaT] at hi
  have:=h2 (m + i) (by omega) (by omega)
  rw [yad,yac (by omega)] at this
  rw [List.getElem_drop]
  intro z
  rw [show decide (es[m + i].1 < key) = false from this] at z
  cases z
 rw [e1,e2,yak,ybx]
 omega
theorem zeE {es : List (Int×Int)} (h : Rise es) : es.Pairwise (fun a b=>a.1≤b.1):=h.imp fun {a b} h=>by
 have:=zcC.mp h
 omega
theorem zcN (es : List (Int×Int)) (key : Int) : zav es key≤es.length:=ybu _ _
theorem zc8 {key : Int} : ∀ {es : List (Int×Int)},es.Pairwise (fun a b=>a.1≤b.1)→(∀ e∈es.take (zav es key),e.1 < key)∧∀ e∈es.drop (zav es key),¬ e.1 < key
 | [],_=>⟨fun e he=>(by simp at he),fun e he=>(by simp at he)⟩
 | a :: es,h=>by
  rw [List.pairwise_cons] at h
  obtain ⟨h1,h2⟩:=zc8 (key:=key) h.2
  by_cases c : a.1 < key
  ·have e : zav (a :: es) key = zav es key + 1:=by
    unfold zav
    rw [ya8 (by simpa using c),yaN]
   rw [e,List.take_succ_cons,List.drop_succ_cons]
   refine ⟨fun x hx=>?_,h2⟩
   rcases yap.mp hx with z | z
   ·rw [z]
    exact c
   ·exact h1 x z
  ·have all : ∀ x∈a :: es,¬ x.1 < key:=fun x hx=>by
    rcases yap.mp hx with z | z
    ·rw [z]
     exact c
    ·have:=h.1 x z
     omega
   have e : zav (a :: es) key = 0:=by
    unfold zav
    rw [yco.mpr fun x hx=>by simpa using all x hx]
    rfl
   rw [e]
   exact ⟨fun x hx=>(by simp at hx),fun x hx=>all x (by simpa using hx)⟩
theorem zfC {es : List (Int×Int)} {key : Int} (h : es.Pairwise (fun a b=>a.1≤b.1)) : es.take (zav es key) = es.filter fun e=>decide (e.1 < key):=by
 obtain ⟨h1,h2⟩:=zc8 (key:=key) h
 conv=>rhs; rw [← yaZ (zav es key) es]
 rw [ya2,ycB.mpr fun e he=>yam (h1 e he),yco.mpr fun e he z=>h2 e he (yaC z),yaE]
theorem zhJ {es : List (Int×Int)} {key : Int} (h : es.Pairwise (fun a b=>a.1≤b.1)) {i : Nat} (hi : i < es.length) : (i < zav es key→es[i].1 < key)∧(zav es key≤i→¬ es[i].1 < key):=by
 obtain ⟨h1,h2⟩:=zc8 (key:=key) h
 refine ⟨fun z=>h1 _ ?_,fun z=>h2 _ ?_⟩
 ·exact List.mem_take_iff_getElem.mpr ⟨i,by omega,rfl⟩
 ·refine List.mem_drop_iff_getElem.mpr ⟨i - zav es key,by omega,?_⟩
  congr 1
  omega
structure zra (C F hd : List (Int×Int)) (key : Int) (st : Nat) : Prop where
 lo : st≤zav C key
 hi : zav C key≤st + 2
 none : st = 0→∀ e∈hd,¬ e.1 < key
 some : st≠0→∃ h : st - 1 < C.length,C[st - 1]∈hd∧C[st - 1].1 < key∧C[st - 1]∈F
theorem zpw {ps : List Nat} (T : zaB ps) {rows : List (List Int)} (R : zaS rows) (few : ps.length≤40) {k c : Nat} (hk : k < ps.length + 1) (hc : par ps c = some k) (key : Int) :
  zra (zaj ps rows c) (zaj ps rows k) (zbD (zaj ps rows c)) key (stN (zaj ps rows c) ((zaj ps rows k).take (zav (zaj ps rows k) key))):=by
 have hcn:=(zaL T hc).2
 have hst:=zqg T R hk hc (rows:=rows) (zav (zaj ps rows k) key) (zcN _ _)
 have hF:=zeE (zaN T R hk)
 have hC:=zeE (zaN T R hcn)
 have hcome:=zmY T R hk hc (rows:=rows)
 have hgr:=fun t=>zo8 (ze0 T R few hcn) (zaN T R hcn) (t:=t)
 have hla:=zo7 (ze0 T R few hcn) (zaN T R hcn)
 have hsub:=zaX (zaj ps rows c)
 have hpick:=zgM (zaj ps rows c)
 have hspl : ∀ j∈spL (zaj ps rows c),j < (zaj ps rows c).length:=fun j hj=>by
  have:=(zjE (zaj ps rows c)).lt hj
  rw [za8] at this
  exact this
 have ht : inN (zaj ps rows c) ((zaj ps rows k).take (zav (zaj ps rows k) key)) = zav (zbD (zaj ps rows c)) key:=by
  unfold inN
  rw [zfC hF,← hcome]
  unfold zav
  rw [ycr,ycr]
  congr 2
  funext e
  rw [Bool.and_comm]
 rw [hst,ht]
 have hmem : ∀ e∈zbD (zaj ps rows c),e∈zaj ps rows k:=fun e he=>by
  rw [← hcome] at he
  exact (ya3.mp he).1
 clear hst ht hcome hF
 generalize zaj ps rows k = F at hmem ⊢
 generalize zaj ps rows c = C at *
 have hhd : (zbD C).Pairwise (fun a b=>a.1≤b.1):=hC.sublist hsub
 have hlen : (zbD C).length = (spL C).length:=by rw [hpick,yab]
 have hti:=zcN (zbD C) key
 have hat : ∀ i (h : i < (spL C).length),∃ (h1 : (spL C)[i] < C.length) (h2 : i < (zbD C).length),(zbD C)[i] = C[(spL C)[i]]:=fun i h=>by
  have h1:=hspl _ (yaB h)
  refine ⟨h1,by omega,?_⟩
  have e : (zbD C)[i]? = some C[(spL C)[i]]:=by
   rw [hpick,yaj,yac h]
   show some (C.getD (spL C)[i] (0,0)) = _
   rw [yad,yac h1]
   rfl
  exact (yag.mp e).2
 have bat:=fun i h=>zhJ (key:=key) hhd (i:=i) h
 have cat:=fun i h=>zhJ (key:=key) hC (i:=i) h
 have hall:=zc8 (key:=key) hhd
 generalize zav (zbD C) key = t at *
 have hsp : ∀ i (h : i < (spL C).length),stAt (spL C) (i + 1) = (spL C)[i] + 1:=fun i h=>by
  unfold stAt
  rw [if_neg (by omega),ybO,yad,yac h]
  rfl
 have before : ∀ t',t = t' + 1→∃ (h : t' < (spL C).length) (h1 : (spL C)[t'] < C.length),stAt (spL C) t = (spL C)[t'] + 1∧C[(spL C)[t']]∈zbD C∧C[(spL C)[t']].1 < key:=fun t' e=>by
  have h : t' < (spL C).length:=by omega
  obtain ⟨h1,h2,h3⟩:=hat t' h
  refine ⟨h,h1,by rw [e]; exact hsp t' h,?_,?_⟩
  ·rw [← h3]
   exact yaB h2
  ·rw [← h3]
   exact (bat t' h2).1 (by omega)
 refine ⟨?_,?_,?_,?_⟩
 ·cases t with
  | zero=>exact yaD _
  | succ t'=>
   obtain ⟨h,h1,e,_,hlt⟩:=before t' rfl
   rw [e]
   refine Nat.succ_le_of_lt (ycn fun z=>(cat _ h1).2 z hlt)
 ·rcases Nat.lt_or_ge t (spL C).length with z | z
  ·obtain ⟨h1,h2,h3⟩:=hat t z
   have hge : ¬ C[(spL C)[t]].1 < key:=by
    rw [← h3]
    exact (bat t h2).2 (yaa _)
   have hle : zav C key≤(spL C)[t]:=yby fun y=>hge ((cat _ h1).1 y)
   have:=hgr t z
   rw [hsp t z] at this
   omega
  ·have e : t = (spL C).length:=by omega
   rw [e]
   have:=zcN C key
   omega
 ·intro z
  cases t with
  | zero=>exact fun e he=>hall.2 e (by simpa using he)
  | succ t'=>
   obtain ⟨_,_,e,_⟩:=before t' rfl
   omega
 ·intro z
  cases t with
  | zero=>exact absurd rfl z
  | succ t'=>
   obtain ⟨h,h1,e,hm,hlt⟩:=before t' rfl
   have e2 : stAt (spL C) (t' + 1) - 1 = (spL C)[t']:=by omega
   refine ⟨by omega,?_⟩
   have e3 : C[stAt (spL C) (t' + 1) - 1]'(by omega) = C[(spL C)[t']]:=by
    congr 1
   rw [e3]
   exact ⟨hm,hlt,hmem _ hm⟩
theorem zbG {β : Type} {F : Nat→β→Prop} {n : Nat} {l : List β} {k : Nat} (h : Paired F (List.range n) l) (hk : k < n) : ∃ b,l[k]? = some b∧F k b:=zcI h (ybs hk)
theorem zkg {Av : List Addr} {H : Hp} {es : List En} {ps : List Nat} {rows : List (List Int)} : ∀ {cs : List Nat} {xs : List V},Paired (zby Av H es ps rows) cs xs→∃ kvs : List (Key×V),Paired (fun (z : V) (kv : Key×V)=>∃ b,z = .ref b∧H b = some (.tup [kV kv.1,kv.2])) xs kvs∧kvs.map (·.1) = cs.map (fun c : Nat=>(Sum.inl (c : Int) : Key))∧
  ∀ c∈cs,cs.Nodup→∃ s,valV kvs (.inl (c : Int)) = some (.ref s)∧H s = some (.lst ((zg5 es (zaj ps rows c)).map nV))
 | _,_,.nil=>⟨[],.nil,rfl,fun c hc=>nomatch hc⟩
 | c0 :: cs,_,.cons ⟨j,s,e1,_,e3,e4⟩ t=>by
  obtain ⟨kvs,h1,h2,h3⟩:=zkg t
  refine ⟨(.inl (c0 : Int),.ref s) :: kvs,.cons ⟨j,e1,e3⟩ h1,by rw [yay,h2]; rfl,fun c hc hn=>?_⟩
  rw [yaS] at hn
  unfold valV
  by_cases z : c = c0
  ·subst z
   exact ⟨s,by rw [List.find?_cons_of_pos (by simp)]; rfl,e4⟩
  ·rw [List.find?_cons_of_neg (by simp; omega)]
   rcases yap.mp hc with y | y
   ·exact absurd y z
   ·exact h3 c y hn.2
theorem zgh (ps : List Nat) (k n : Nat) : (zaM ps k n).Nodup:=by
 unfold zaM
 exact List.Pairwise.filter _ List.nodup_range
def figN (n : Nat) : Nat:=if h : n = 0 then 0 else figN (n / 2) + 1
termination_by n
decreasing_by exact Nat.div_lt_self (ycA h) (by decide)
theorem zgc : figN 0 = 0:=by
 unfold figN
 rfl
theorem zfX {n : Nat} (h : n≠0) : figN n = figN (n / 2) + 1:=by
 rw [figN,dif_neg h]
theorem ziy : ∀ (n a b : Nat),b≤n→a≤b→figN a≤figN b
 | 0,a,b,hb,ha=>by
  have e1 : a = 0:=by omega
  have e2 : b = 0:=by omega
  rw [e1,e2]
  exact yaa _
 | n + 1,a,b,hb,ha=>by
  by_cases z : a = 0
  ·rw [z,zgc]
   exact yaD _
  ·rw [zfX z,zfX (show b≠0 by omega)]
   exact Nat.succ_le_succ (ziy n _ _ (by omega) (by omega))
theorem zjc : ∀ (n m : Nat),m≤n→figN m≤m
 | 0,m,h=>by
  rw [show m = 0 by omega,zgc]
  exact yaa _
 | n + 1,m,h=>by
  by_cases z : m = 0
  ·rw [z,zgc]
   exact yaa _
  ·rw [zfX z]
   have:=zjc n (m / 2) (by omega)
   omega
def zow (P : Program) (w : World) (K : Frag) (mg : Str→Option Value) (base : Heap) : Sp:=fun vs H Q _=>∃ (n : Nat) (f : Addr) (ps : List Str) (sp : Sp) (b : Nat→Bool) (R : List Nat→Hp→Prop),vs = [.int n,.ref f]∧FV P w K mg base 3 f ps sp∧R [] H∧
 (∀ (i : Nat) (L : List Nat) (H1 : Hp) (Q1 : VK),i < n→L.length≤figN n→R L H1→(∀ H2,R (L ++ [i]) H2→Q1 (.bl (b i)) H2)→sp [.int i] H1 Q1 E0)∧(∀ i j,i≤j→j < n→b j = true→b i = true)∧
 ∀ (m : Nat) (L : List Nat) (H' : Hp),m≤n→(∀ i,i < m→b i = true)→(∀ i,m≤i→i < n→b i = false)→L.length≤figN n→R L H'→Q (.int m) H'
def zp5 : L2.St→Hp→Nat:=fun σ _=>match σ with
 | [_,_,some (.int lo),some (.int hi),_]=>(hi - lo).toNat
 | _=>0
theorem zqI (T : Txt K mg) (D_how_many_below : DF K mg "how_many_below" zbu zbm) : FC P w K mg base 4 "how_many_below" zbm (zow P w K mg base):=by
 refine D_how_many_below.ok sc_how_many_below (fun vs H Q E h=>?_) (fun f cdv A outer s H vs Q E hr h=>?_)
 ·obtain ⟨n,f,ps,sp,b,R,rfl,_⟩:=h
  rfl
 obtain ⟨n,f,ps,sp,b,R,rfl,hF,hR,hask,hmono,q⟩:=h
 refine ⟨_,(zaf (zap (i:=2) sc_how_many_below.nd rfl (Or.inl rfl) zae)
   (zaf (zap (i:=3) sc_how_many_below.nd rfl (Or.inl rfl) (pv 0))
   (zaf (zfQ PassesOwn.never (zaw zhs (pv 2) (pv 3) (zaH _)) (zaf (zap (i:=4) sc_how_many_below.nd rfl (Or.inl rfl) (zas zf3 (zas zaZ (pv 2) (pv 3)) zae))
   (zah (zbS (zdi (zhn (kr:=3) hr (pv 1) (zaa (pv 4) zad))) (zah (zap (i:=2) sc_how_many_below.nd rfl (Or.inl rfl) (zas zaZ (pv 4) zae))) (zah (zap (i:=3) sc_how_many_below.nd rfl (Or.inl rfl) (pv 4)))))))
   (zah (zau (pv 2)))))),?_⟩
 refine ⟨_,rfl,?_⟩
 refine zhQ (fun σ H2=>∃ (lo hi : Nat) (x4 : Option V) (L : List Nat),σ = [some (.int n),some (.ref f),some (.int lo),some (.int hi),x4]∧lo≤hi∧hi≤n∧(∀ i,i < lo→b i = true)∧(∀ i,hi≤i→i < n→b i = false)∧L.length + figN (hi - lo)≤figN n∧R L H2) (fun σ H2=>∃ (lo : Nat) (x4 : Option V) (L : List Nat),σ = [some (.int n),some (.ref f),some (.int lo),some (.int lo),x4]∧lo≤n∧(∀ i,i < lo→b i = true)∧(∀ i,lo≤i→i < n→b i = false)∧L.length≤figN n∧R L H2) zp5 ?_ ?_ ?_ ?_
 ·exact ⟨0,n,_,[],rfl,yaD _,yaa _,fun i h=>absurd h (Nat.not_lt_zero _),fun i h1 h2=>absurd h2 (ybJ.mpr h1),by rw [ybx,Nat.sub_zero,ybr]; exact yaa _,hR⟩
 ·rintro σ H2 ⟨lo,hi,x4,L,rfl,h1,h2,hb1,hb2,hL,hR2⟩
  refine ⟨_,rfl,_,rfl,_,_,rfl,rfl,_,rfl,?_⟩
  refine ite2 (fun c=>?_) (fun c=>?_)
  ·have c1 : (lo : Int) < (hi : Int):=yaC c
   have em : ((lo : Int) + (hi : Int)) / 2 = (((lo + hi) / 2 : Nat) : Int):=by omega
   have m1 : lo≤(lo + hi) / 2:=by omega
   have m2 : (lo + hi) / 2 < hi:=by omega
   have fst : figN (hi - lo) = figN ((hi - lo) / 2) + 1:=zfX (by omega)
   have fle : ∀ d,d≤(hi - lo) / 2→(L ++ [(lo + hi) / 2]).length + figN d≤figN n:=fun d hd=>by
    have:=ziy _ d _ (yaa _) hd
    rw [yah,yaL]
    omega
   refine ⟨_,rfl,_,rfl,_,_,rfl,rfl,_,_,rfl,rfl,⟨by decide,by decide⟩,?_⟩
   refine ⟨_,rfl,f,3,ps,sp,rfl,hF,yaa _,_,rfl,?_⟩
   show sp [V.int (((lo : Int) + (hi : Int)) / 2)] H2 _ E0
   rw [em]
   refine hask ((lo + hi) / 2) L H2 _ (by omega) (by omega) hR2 fun H3 hR3=>⟨_,rfl,?_⟩
   cases hbm : b ((lo + hi) / 2) with
   | true=>
    refine iteT ?_
    refine ⟨_,rfl,_,_,rfl,rfl,⟨(lo + hi) / 2 + 1,hi,some (V.int (((lo : Int) + (hi : Int)) / 2)),_,?_,by omega,h2,fun i hi'=>hmono i ((lo + hi) / 2) (by omega) (by omega) hbm,hb2,fle _ (by omega),hR3⟩,?_⟩
    ·show [some (V.int n),some (V.ref f),some (V.int (((lo : Int) + (hi : Int)) / 2 + 1)),some (V.int hi),some (V.int (((lo : Int) + (hi : Int)) / 2))] = _
     rw [em,Int.natCast_add]
     rfl
    ·show ((hi : Int) - (((lo : Int) + (hi : Int)) / 2 + 1)).toNat < ((hi : Int) - (lo : Int)).toNat
     omega
   | false=>
    refine iteF ?_
    refine ⟨_,rfl,⟨lo,(lo + hi) / 2,some (V.int (((lo : Int) + (hi : Int)) / 2)),_,?_,m1,by omega,hb1,fun i hi' hin=>?_,fle _ (by omega),hR3⟩,?_⟩
    ·show [some (V.int n),some (V.ref f),some (V.int lo),some (V.int (((lo : Int) + (hi : Int)) / 2)),some (V.int (((lo : Int) + (hi : Int)) / 2))] = _
     rw [em]
    ·cases hbi : b i with
     | false=>rfl
     | true=>
      have:=hmono ((lo + hi) / 2) i hi' hin hbi
      rw [hbm] at this
      cases this
    ·show ((((lo : Int) + (hi : Int)) / 2) - (lo : Int)).toNat < ((hi : Int) - (lo : Int)).toNat
     omega
  ·have c1 : ¬ (lo : Int) < (hi : Int):=ybQ (ybP.mpr c)
   have e : hi = lo:=by omega
   subst e
   exact ⟨hi,_,L,rfl,h2,hb1,hb2,by omega,hR2⟩
 ·intro σ H Q Q' m h
  obtain ⟨y1,e3,y2,e4,i2,j2,f2,g2,b2,e5,q⟩:=h
  exact ⟨y1,e3,y2,e4,i2,j2,f2,g2,b2,e5,m _ _ q⟩
 rintro σ H2 ⟨lo,x4,L,rfl,h2,hb1,hb2,hL,hR2⟩
 refine ⟨_,rfl,?_⟩
 exact q lo L H2 h2 hb1 hb2 hL hR2
abbrev zmq : Str:=(envOfC ("first_place" : Str) (zak zbj) 0 0 .none).qual ++ "<lambda>"
abbrev zf6 : Pos:=⟨131,44,131,73⟩
structure zej (H : Hp) (wa : Addr) (ps w : List Nat) : Prop where
 at_ : H wa = some (.lst (w.map nV))
 len : w.length≤900
 ne : w≠[]
 ch : zjp ps w
 kn : ∀ x∈w,x < ps.length + 1
def zlE (K : Frag) : Sp:=fun vs H Q _=>∃ (m x : Int),vs = [.int m,.int x]∧0≤x∧x < m∧Q (.bl true) H
theorem znH (T : Txt K mg) (D_is_one_of_first : DF K mg "is_one_of_first" zbi zbb) (F_is_whole : FC P w K mg base 1 "is_whole" zcY (zlB K)) : FC P w K mg base 2 "is_one_of_first" zbb (zlE K):=by
 refine D_is_one_of_first.ok sc_is_one_of_first (fun vs H Q E h=>?_) (fun f cdv A outer s H vs Q E hr h=>?_)
 ·obtain ⟨m,x,rfl,_⟩:=h
  rfl
 obtain ⟨m,x,rfl,h0,h1,q⟩:=h
 refine ⟨_,(zah (zau (zlZ (zaA F_is_whole hr (zaa (pv 1) zad)) (zlX (znA zrn zhs zae (pv 1) (pv 0)))))),?_⟩
 refine ⟨_,rfl,_,true,rfl,.int x,_,rfl,?_⟩
 refine iteT ?_
 refine ⟨_,rfl,_,_,rfl,rfl,_,rfl,?_⟩
 refine zrq h0 ?_
 refine ⟨_,rfl,_,_,rfl,rfl,?_⟩
 show Q (.bl (decide (x < m))) H
 rw [yam h1]
 exact q
theorem zna {α : Type} {f : α→V} {us : List α} {c : α} : atI ((us ++ [c]).map f) (-1) = some (f c):=by
 unfold atI ixN
 rw [yal]
 simp
 rw [if_pos (by omega)]
 show (List.map f us ++ [f c])[(-1 + ((us.length : Int) + 1)).toNat]? = _
 rw [show (-1 + ((us.length : Int) + 1)).toNat = us.length by omega,yaY (by rw [yab]; exact yaa _),yab,yb6]
 rfl
def zlG (K : Frag) : Sp:=fun vs H Q _=>∃ (t a : Addr) (ps w : List Nat),vs = [.ref t,.ref a]∧H t = some (.tup (zbY ps))∧ps.length≤900∧H a = some (.lst (w.map nV))∧w.length≤1000∧w≠[]∧zjp ps w∧(∀ x∈w,x < ps.length + 1)∧Q (.bl true) H
theorem znN (T : Txt K mg) (D_is_way : DF K mg "is_way" zfN zeN) (F_is_one_of_first : FC P w K mg base 2 "is_one_of_first" zbb (zlE K)) : FC P w K mg base 3 "is_way" zeN (zlG K):=by
 refine D_is_way.ok sc_is_way (fun vs H Q E h=>?_) (fun f cdv A outer s H vs Q E hr h=>?_)
 ·obtain ⟨t,a,ps,w,rfl,_⟩:=h
  rfl
 obtain ⟨t,a,ps,w,rfl,ht,hz,ha,hwl,hne,hC,hlt,q⟩:=h
 have hpos : 0 < w.length:=ycs.mpr hne
 refine ⟨_,(zbk (zbS (PW.pt (zkH (zf1 (zdi (zaq zc7 rfl T.m_isinstance boot_isinstance (zaa (pv 1) (zaa (zd9 (v:=.ty "list") rfl T.m_list boot_list rfl) zad))))) (zh6 (zaw zdr (zaq zar rfl T.m_len boot_len (zaa (pv 1) zad)) zae (zaH _))))) (zah (zau zea)) zaO)
   (zaf (zaK PassesOwn.never rfl (zbC (pv 1)) (zal (i:=2) sc_is_way.nd rfl (Or.inl rfl)) (zah (zbS (zf1 (zdi (zaA F_is_one_of_first hr (zaa (zaq zar rfl T.m_len boot_len (zaa (pv 0) zad)) (zaa (pv 2) zad))))) (zah (zau zea)) zaO)))
   (zaf (zaK PassesOwn.never rfl (zdk rfl T.m_range (zaa zae (zaa (zaq zar rfl T.m_len boot_len (zaa (pv 1) zad)) zad))) (zal (i:=3) sc_is_way.nd rfl (Or.inl rfl)) (zah (zbS (zaw zrm (zaz zaW (pv 0) (zaz zax (pv 1) (pv 3) (fun _ _=>rfl)) (fun _ _=>rfl)) (zaz zax (pv 1) (zas zbq (pv 3) zae) (fun _ _=>rfl)) (zaH _)) (zah (zau zea)) zaO)))
   (zah (zau zea))))),?_⟩
 refine ⟨fun σ' H'=>σ' = [some (.ref t),some (.ref a),none,none]∧H = H',?_,?_⟩
 ·refine ⟨_,rfl,_,_,_,_,rfl,.lst ha,zoJ,_,rfl,?_⟩
  refine iteF ?_
  refine ⟨_,rfl,_,_,rfl,.inl (SqL.of ha),rfl,_,rfl,?_⟩
  refine zrr (fun z=>?_) ?_
  ·have:=V.int.inj z
   rw [yab] at this
   omega
  exact ⟨rfl,rfl⟩
 rintro σ' H' ⟨rfl,rfl⟩
 refine ⟨_,rfl,a,rfl,⟨_,SqL.of ha⟩,?_⟩
 refine zc5 (xs:=w.map nV) (fun i σ H2=>∃ x2 : Option V,σ = [some (.ref t),some (.ref a),x2,none]∧H2 = H) ?_ ?_ ?_ ?_
 ·exact ⟨_,rfl,rfl⟩
 ·rintro i σ H2 _ ⟨x2,rfl,rfl⟩
  exact SqL.of ha
 ·rintro i x σ H2 hx ⟨x2,rfl,rfl⟩
  obtain ⟨hi,rfl⟩:=zgN hx
  have hm:=hlt (w.getD i 0) (by rw [yad,yac hi]; exact yaB hi)
  refine ⟨_,rfl,_,_,rfl,.inr (SqT.of ht),_,rfl,_,_,rfl,by omega,by rw [zat]; omega,_,rfl,?_⟩
  refine iteF ?_
  exact ⟨_,rfl,rfl⟩
 ·rintro σ H2 ⟨x2,rfl,rfl⟩
  refine ⟨_,rfl,_,_,rfl,.inl (SqL.of ha),1,_,rfl,⟨by omega,by omega,by rw [yab]; omega,by rw [yab]; omega⟩,?_⟩
  have en : ((((w.map nV).length : Nat) : Int) - 1).toNat = w.length - 1:=by rw [yab]; omega
  rw [en]
  refine za1 (n:=w.length - 1) (fun i σ H3=>∃ x2 x3 : Option V,σ = [some (.ref t),some (.ref a),x2,x3]∧H3 = H2) ?_ ?_ ?_
  ·exact ⟨_,_,rfl,rfl⟩
  ·rintro i σ H3 hi ⟨x2,x3,rfl,rfl⟩
   have ek : (1 : Int) + (i : Int) = ((i + 1 : Nat) : Int):=by omega
   rw [ek]
   have h1:=hC i (by omega)
   have hm:=hlt (w.getD (i + 1) 0) (by rw [yad,yac (show i + 1 < w.length by omega)]; exact yaB _)
   have hat1 : atI (w.map nV) ((i + 1 : Nat) : Int) = some (nV (w.getD (i + 1) 0)):=zd6 (by omega)
   have hat0 : atI (w.map nV) (((i + 1 : Nat) : Int) - 1) = some (nV (w.getD i 0)):=by
    rw [show ((i + 1 : Nat) : Int) - 1 = ((i : Nat) : Int) by omega]
    exact zd6 (by omega)
   have hatT:=zgm hm
   rw [zdp h1] at hatT
   refine ⟨_,rfl,_,rfl,_,rfl,_,_,_,_,rfl,rfl,SqL.of ha,hat1,_,_,_,_,rfl,rfl,SqT.of ht,hatT,_,rfl,_,rfl,_,_,rfl,rfl,_,_,_,_,rfl,rfl,SqL.of ha,hat0,rfl,_,rfl,?_⟩
   refine zn2 rfl ?_
   exact ⟨_,_,rfl,rfl⟩
  ·rintro σ H3 ⟨x2,x3,rfl,rfl⟩
   exact q
theorem zej.same {H H' : Hp} {wa : Addr} {ps w : List Nat} (h : zej H wa ps w) (e : Same H H') : zej H' wa ps w:=⟨e _ _ h.at_,h.len,h.ne,h.ch,h.kn⟩
def zot (K : Frag) : Sp:=fun vs H Q _=>∃ (t a : Addr) (ps w : List Nat),vs = [.ref t,.ref a]∧H t = some (.tup (zbY ps))∧ps.length≤900∧zej H a ps w∧Q .non H
theorem zpq (T : Txt K mg) (D_need_way : DF K mg "need_way" zdE zcW) (F_is_way : FC P w K mg base 3 "is_way" zeN (zlG K)) : FC P w K mg base 4 "need_way" zcW (zot K):=by
 refine D_need_way.ok sc_need_way (fun vs H Q E h=>?_) (fun f cdv A outer s H vs Q E hr h=>?_)
 ·obtain ⟨t,a,ps,w,rfl,_⟩:=h
  rfl
 obtain ⟨t,a,ps,w,rfl,ht,hl,W,q⟩:=h
 refine ⟨_,(zah (zbS (zf1 (zdi (zaA F_is_way hr (zaa (pv 0) (zaa (pv 1) zad))))) (zah znw) zaO)),?_⟩
 refine ⟨_,rfl,_,rfl,t,a,ps,w,rfl,ht,hl,W.at_,by have:=W.len; omega,W.ne,W.ch,W.kn,_,rfl,?_⟩
 refine iteF ?_
 exact q
theorem zng {w : List Nat} {i : Nat} (h : i < w.length) : w.take (i + 1) = w.take i ++ [w.getD i 0]:=by
 rw [yaF h,yad,yac h]
 rfl
theorem zmX (xs : List V) (a : Nat) : cutV xs (some (a : Int)) none = xs.drop a:=by
 unfold cutV
 rw [zhf,show HT.sIx xs.length xs.length none = xs.length from rfl]
 by_cases h : a≤xs.length
 ·rw [ybz h,yaq (by rw [yaT]; exact yaa _)]
 ·rw [Nat.min_eq_right (by omega),ya0 (yaa _),ya0 (show xs.length≤a by omega),List.take_nil]
def ownB (rows : List (List Int)) (k : Nat) (key : Int) : Nat:=((zbz rows k).filter fun x=>decide (x < key)).length
theorem zkM {ps : List Nat} (T : zaB ps) {rows : List (List Int)} (R : zaS rows) {k : Nat} (hk : k < ps.length + 1) : ((zaj ps rows k).filter fun e=>decide (e.2 = (k : Int))) = ownE rows k:=by
 have hup:=R.at_up k
 refine ziQ ((zaN T R hk).filter _) ?_ fun e=>?_
 ·unfold ownE
  refine List.Pairwise.map _ (R:=fun a b : Int=>a < b) (fun a b (h : a < b)=>zcC.mpr (.inl h)) hup
 ·rw [ya3]
  refine ⟨fun ⟨h1,h2⟩=>?_,fun h=>⟨(zeZ T hk).mpr (.inl h),yam (zib hk h).2⟩⟩
  rcases (zeZ T hk).mp h1 with h | ⟨c,hc,h⟩
  ·exact h
  ·exfalso
   have h2:=yaC h2
   have hcn:=(zaL T hc)
   obtain ⟨j,hj,hb,e2,_⟩:=zdX T R hcn.2 e ((zaX _).subset h)
   have ej : j = k:=by omega
   subst ej
   have:=zeX T hcn.1
   rw [hb] at this
   cases this
theorem zqz {ps : List Nat} (T : zaB ps) {rows : List (List Int)} (R : zaS rows) {k : Nat} (hk : k < ps.length + 1) (key : Int) : zec k ((zaj ps rows k).take (zav (zaj ps rows k) key)) = ownB rows k key:=by
 rw [zfC (zeE (zaN T R hk))]
 unfold zec
 have e : ((zaj ps rows k).filter fun e=>decide (e.1 < key)).filter (fun e=>decide (e.2 = (k : Int))) = (ownE rows k).filter fun e=>decide (e.1 < key):=by
  rw [← zkM T R hk,ycr,ycr]
  congr 1
  funext e
  rw [Bool.and_comm]
 rw [e]
 unfold ownE ownB
 rw [List.filter_map,yab]
 rfl
def KpV (Av : List Addr) (H H' : Hp) : Prop:=∀ b o,b∉Av→H b = some o→H' b = some o
def KpA (Av : List Addr) (mp : Addr) (H H' : Hp) : Prop:=∀ b o,b∉Av→b≠mp→H b = some o→H' b = some o
theorem KpA.trans {Av : List Addr} {mp : Addr} {H H1 H2 : Hp} (a : KpA Av mp H H1) (b : KpA Av mp H1 H2) : KpA Av mp H H2:=fun c o n1 n2 h=>b c o n1 n2 (a c o n1 n2 h)
theorem KpV.a {Av : List Addr} {mp : Addr} {H H1 : Hp} (a : KpV Av H H1) : KpA Av mp H H1:=fun c o n1 _ h=>a c o n1 h
theorem KpA.of {Av : List Addr} {mp : Addr} {H H1 : Hp} (a : Same H H1) : KpA Av mp H H1:=fun c o _ _ h=>a c o h
theorem KpA.gro {Av : List Addr} {mp : Addr} {H H1 : Hp} (a : Gro mp H H1) : KpA Av mp H H1:=fun c o _ n h=>a c o n h
structure AskF (P : Program) (w : World) (K : Frag) (mg : Str→Option Value) (base : Heap) (f : Addr) (Av : List Addr) (mp : Addr) (fp : Addr→Prop) (R : List (Nat×Nat)→Hp→Prop) (ps : List Nat) (rows : List (List Int)) (key : Int) : Prop where
 keep : ∀ L H H',R L H→(∀ b o,fp b→H b = some o→H' b = some o)→R L H'
 alloc : ∀ L H b,R L H→fp b→H b≠none
 avl : ∀ L H,R L H→∀ a∈Av,∃ zs,H a = some (.lst zs)
 nmp : ¬ fp mp
 ask : ∃ (pn : List Str) (sp : Sp),FV P w K mg base 2 f pn sp∧∀ (kn i : Nat) (L : List (Nat×Nat)) (H : Hp) (Q : VK),kn < ps.length + 1→i < (zaj ps rows kn).length→L.length≤9000→R L H→
  (∀ H',R (L ++ [(kn,i)]) H'→KpV Av H H'→Q (.bl (decide (((zaj ps rows kn).getD i (0,0)).1 < key))) H')→sp [.int kn,.int i] H Q E0
theorem AskF.lift {P : Program} {w : World} {K : Frag} {mg : Str→Option Value} {b1 b2 : Heap} {f : Addr} {Av : List Addr} {mp : Addr} {fp : Addr→Prop} {R : List (Nat×Nat)→Hp→Prop} {ps : List Nat} {rows : List (List Int)} {key : Int} (A : AskF P w K mg b1 f Av mp fp R ps rows key) (S : Sub K mg b1 b2) : AskF P w K mg b2 f Av mp fp R ps rows key:=by
 obtain ⟨a,b,c,d,pn,sp,hF,r⟩:=A
 exact ⟨a,b,c,d,pn,sp,hF.lift S,r⟩
structure zbV (Av : List Addr) (mp : Addr) (R : List (Nat×Nat)→Hp→Prop) (ps : List Nat) (rows : List (List Int)) (br : Addr) (xs : List V) (L : List (Nat×Nat)) (H : Hp) : Prop where
 r : R L H
 avs : ∀ a∈Av,∃ zs,H a = some (.lst zs)
 at_ : H br = some (.lst xs)
 nb : br∉Av
 ba : Paired (BrAt Av H ps rows) (List.range (ps.length + 1)) xs
 tb : zbc H mp zf6 zmq
section
variable {Av : List Addr} {mp : Addr} {R : List (Nat×Nat)→Hp→Prop} {ps : List Nat} {rows : List (List Int)} {br : Addr} {xs : List V} {L L' : List (Nat×Nat)} {H H' : Hp}
theorem zbV.nm (S : zbV Av mp R ps rows br xs L H) {b : Addr} {o : HO} (h : H b = some o) (n : ∀ tab,o≠.tbl tab) : b≠mp:=fun z=>by
 obtain ⟨tab,e,_⟩:=S.tb.ex
 rw [← z,h] at e
 exact n _ (yae e)
theorem zbV.na (S : zbV Av mp R ps rows br xs L H) {b : Addr} {o : HO} (h : H b = some o) (n : ∀ zs,o≠.lst zs) : b∉Av:=fun z=>by
 obtain ⟨zs,e⟩:=S.avs b z
 rw [h] at e
 exact n _ (yae e)
theorem zbV.tup (S : zbV Av mp R ps rows br xs L H) (k : KpA Av mp H H') {b : Addr} {us : List V} (h : H b = some (.tup us)) : H' b = some (.tup us):=k _ _ (S.na h (fun _ z=>nomatch z)) (S.nm h (fun _ z=>nomatch z)) h
theorem zbV.lst (S : zbV Av mp R ps rows br xs L H) (k : KpA Av mp H H') {b : Addr} {us : List V} (h : H b = some (.lst us)) (n : b∉Av) : H' b = some (.lst us):=k _ _ n (S.nm h (fun _ z=>nomatch z)) h
theorem zbV.kp (S : zbV Av mp R ps rows br xs L H) (k : KpA Av mp H H') (hT : zbc H' mp zf6 zmq) (hR : R L' H') (ha : ∀ a∈Av,∃ zs,H' a = some (.lst zs)) : zbV Av mp R ps rows br xs L' H':=
 ⟨hR,ha,S.lst k S.at_ S.nb,S.nb,zaG (fun j x ⟨b,o,j',ys,h1,h2,h3,h4,h5,h6,h7⟩=>⟨b,o,j',ys,h1,h2,h3,S.tup k h4,S.lst k h5 h2,S.lst k h6 h3,zaG (fun c y ⟨a,s,g1,g2,g3,g4⟩=>⟨a,s,g1,g2,S.tup k g3,S.lst k g4 g2⟩) h7⟩) S.ba,hT⟩
theorem zbV.tbv (S : zbV Av mp R ps rows br xs L H) (k : KpV Av H H') : zbc H' mp zf6 zmq:=by
 obtain ⟨tab,h1,h2,h3⟩:=S.tb.ex
 refine ⟨tab,k _ _ (S.na h1 (fun _ z=>nomatch z)) h1,h2,?_⟩
 rcases h3 with h3 | ⟨c,h3,h4⟩
 ·exact .inl h3
 ·exact .inr ⟨c,h3,k _ _ (S.na h4 (fun _ z=>nomatch z)) h4⟩
end
theorem zia {K : Frag} {H H' : Hp} (k : ∀ b us,H b = some (.tup us)→H' b = some (.tup us)) : ∀ {es : List (Int×Int)} {ws : List V},zam K H es ws→zam K H' es ws
 | _,_,.nil=>.nil
 | _,_,.cons h t=>by
  refine .cons ?_ (zia k t)
  obtain ⟨a,x1,x2,rfl,hT,e1,e2⟩:=(show hasP K H _ _ from h)
  exact ⟨a,x1,x2,rfl,k _ _ hT,e1,e2⟩
theorem zlt {H : Hp} {Pt D : Addr} {pos : Pos} {q : Str} {xs : List V} {o : HO} (x : zbc H Pt pos q) (hD : H D = some (.lst xs)) : zbc (upd H D o) Pt pos q:=by
 obtain ⟨tab,h1,h2,h3⟩:=x.ex
 have n1 : Pt≠D:=fun z=>by
  rw [z,hD] at h1
  cases h1
 refine ⟨tab,by rw [zag n1]; exact h1,h2,?_⟩
 rcases h3 with h3 | ⟨c,h3,h4⟩
 ·exact .inl h3
 ·refine .inr ⟨c,h3,?_⟩
  have n2 : c≠D:=fun z=>by
   rw [z] at h4
   rw [show H D = _ from h4] at hD
   cases hD
  show upd H D o c = _
  rw [zag n2]
  exact h4
theorem zbV.free {Av : List Addr} {mp : Addr} {R : List (Nat×Nat)→Hp→Prop} {ps : List Nat} {rows : List (List Int)} {br : Addr} {xs : List V} {L : List (Nat×Nat)} {H H1 : Hp} (S : zbV Av mp R ps rows br xs L H1) (k : KpA Av mp H H1) {D : Addr} (h : H1 D = none) : H D = none∧D∉Av∧D≠mp:=by
 have n1 : D∉Av:=fun z=>by
  obtain ⟨zs,e⟩:=S.avs D z
  rw [h] at e
  cases e
 have n2 : D≠mp:=fun z=>by
  obtain ⟨tab,e,_⟩:=S.tb.ex
  rw [← z,h] at e
  cases e
 refine ⟨?_,n1,n2⟩
 cases e : H D with
 | none=>rfl
 | some o=>
  have:=k _ _ n1 n2 e
  rw [h] at this
  cases this
theorem zjY {ps : List Nat} (T : zaB ps) {rows : List (List Int)} (R : zaS rows) {k : Nat} (hk : k < ps.length + 1) (key : Int) : atI ((znD k (zaj ps rows k)).map nV) ((zav (zaj ps rows k) key : Nat) : Int) = some (.int ((ownB rows k key : Nat) : Int)):=by
 have hle:=zcN (zaj ps rows k) key
 refine zbh ?_
 rw [yaj]
 unfold znD
 rw [yaj,ybs (by omega),← zqz T R hk key]
 rfl
theorem zhR {wy : List Nat} {i : Nat} (h : i < wy.length) : (wy.map nV)[i]? = some (nV (wy.getD i 0)):=by
 rw [yaj,yad,yac h]
 rfl
theorem zjv {wy : List Nat} {i : Nat} (h : i < wy.length) : wy.getD i 0∈wy:=by
 rw [yad,yac h]
 exact yaB h
theorem zlh {α : Type} (f : Nat→α) {wy : List Nat} {i : Nat} (h : i < wy.length) : (wy.take (i + 1)).map f = (wy.take i).map f ++ [f (wy.getD i 0)]:=by
 rw [yaF h,yal,yad,yac h]
 rfl
theorem zpT (l : List Nat) : cutV (l.map nV) (some 1) none = (l.drop 1).map nV:=by
 rw [show (1 : Int) = ((1 : Nat) : Int) from rfl,zmX,← List.map_drop]
def zlI (P : Program) (w : World) (K : Frag) (mg : Str→Option Value) (base : Heap) (mp : Addr) : Sp:=fun vs H Q _=>∃ (br f : Addr) (xs : List V) (ps : List Nat) (rows : List (List Int)) (k : Nat) (key : Int) (Av : List Addr) (fp : Addr→Prop) (R : List (Nat×Nat)→Hp→Prop) (L : List (Nat×Nat)),vs = [.ref br,.int k,.ref f]∧
 AskF P w K mg base f Av mp fp R ps rows key∧zbV Av mp R ps rows br xs L H∧zaB ps∧zaS rows∧k < ps.length + 1∧L.length≤3000∧(zaj ps rows k).length≤1000∧
 ∀ (H' : Hp) (L' : List (Nat×Nat)),zbV Av mp R ps rows br xs (L ++ L') H'→KpA Av mp H H'→L'.length≤figN (zaj ps rows k).length→Q (.int (zav (zaj ps rows k) key : Nat)) H'
theorem znP (T : Txt K mg) {mc mp : Addr} (D_first_place : DFT K mg "first_place" zbj zbO mc mp) (hBM : BMAt mg base) (F_how_many_below : ∀ b,Sub K mg base b→FC P w K mg b 4 "how_many_below" zbm (zow P w K mg b)) : FC P w K mg base 5 "first_place" zbO (zlI P w K mg base mp):=by
 refine D_first_place.ok sc_first_place (fun vs H Q E h=>?_) (fun f A outer s H vs Q E hr h=>?_)
 ·obtain ⟨br,f,xs,ps,rows,k,key,Av,fp,R,L,rfl,_⟩:=h
  rfl
 obtain ⟨br,f,xs,ps,rows,k,key,Av,fp,R,L,rfl,AF,S,hT,hR,hk,hLn,hFn,q⟩:=h
 refine ⟨_,(zah (zau (ziT (kf:=2) F_how_many_below hr (zaz zaW (zaz zax (pv 0) (pv 1) (fun _ _=>rfl)) zae (fun _ _=>rfl)) (zoI (osc:=zak zbj) (N:=["bridges","knot","is_below"]) (ps:=["at"]) (caps:=["is_below","knot"]) (cap:=[2,1]) ⟨rfl,rfl,rfl,by decide +kernel,by decide +kernel,by decide +kernel,by decide +kernel⟩ (by decide +kernel) (by decide +kernel) rfl rfl rfl rfl (fun _ _ _ _ us hl=>match us,hl with | [_],_=>rfl) (fun _=>rfl)) rfl D_first_place.hd hBM (fun b _ _ _ _ _ _ _ S hr=>(znB P w K mg b (kr:=2) hr (pv 1) (zaa (pv 2) (zaa (pv 0) zad))))))),?_⟩
 obtain ⟨x,hx,b,o,j,ys,rfl,_,_,hb,ho,hj,hJ⟩:=zbG S.ba hk
 have hF:=zeE (zaN hT hR hk (rows:=rows))
 refine ⟨_,rfl,_,rfl,_,_,_,_,rfl,rfl,SqL.of S.at_,zbh hx,_,_,_,_,rfl,rfl,SqT.of hb,rfl,S.tb,[.ref f,.int k],rfl,?_,fun bs g c' H2 hg hT2 hC SB hV=>?_⟩
 ·intro j i v h1 h2
  rcases j with _ | _ | j
  ·cases h1; cases h2; rfl
  ·cases h1; cases h2; rfl
  ·cases h1
 obtain ⟨pn,sp,hFV,hask⟩:=(AF.lift SB).ask
 have hR2 : R L H2:=AF.keep _ _ _ S.r fun b o hb e=>hg _ _ (fun z=>AF.nmp (z ▸ hb)) e
 have S2 : zbV Av mp R ps rows br xs L H2:=S.kp (.gro hg) hT2 hR2 (AF.avl _ _ hR2)
 refine ⟨(zaj ps rows k).length,g,_,_,fun i=>decide (((zaj ps rows k).getD i (0,0)).1 < key),fun L1 H1=>R (L ++ L1.map fun i=>(k,i)) H1∧KpV Av H2 H1,rfl,hV,⟨by rw [ybG,yaE]; exact hR2,fun _ _ _ h=>h⟩,fun i L1 H1 Q1 hi hLi hR1 hQ=>?_,fun i j hij hj hb=>?_,fun m L1 H' hm hb1 hb2 hL hR1=>?_⟩
 ·refine ⟨rfl,hR1.2 _ _ (S2.na hC (fun _ z=>nomatch z)) hC,?_⟩
  refine ⟨_,rfl,f,2,pn,sp,rfl,hFV,yaa _,_,rfl,_,rfl,?_⟩
  refine hask k i _ H1 _ hk hi (by have:=zjc _ _ (yaa (zaj ps rows k).length); rw [yah,yab]; omega) hR1.1 fun H3 hR3 k3=>hQ _ ⟨?_,fun b o n h=>k3 _ _ n (hR1.2 _ _ n h)⟩
  rw [yal,← yaP]
  exact hR3
 ·refine yam ?_
  have hb:=yaC hb
  by_cases e : i = j
  ·subst e
   exact hb
  ·have:=yaO.mp hF i j (by omega) hj (by omega)
   rw [yad,yac (by omega)] at hb ⊢
   exact Int.lt_of_le_of_lt this hb
 ·have e:=zm7 hm hb1 hb2
  have q2:=q H' _ (S2.kp hR1.2.a (S2.tbv hR1.2) hR1.1 (AF.avl _ _ hR1.1)) (KpA.trans (.gro hg) hR1.2.a) (by rw [yab]; exact hL)
  rw [e] at q2
  exact q2
def zlC (K : Frag) : Sp:=fun vs H Q _=>∃ (Av : List Addr) (br : Addr) (ps : List Nat) (rows : List (List Int)) (xs : List V) (k c m : Nat),vs = [.ref br,.int k,.int m,.int c]∧H br = some (.lst xs)∧Paired (BrAt Av H ps rows) (List.range (ps.length + 1)) xs∧zaB ps∧k < ps.length + 1∧par ps c = some k∧m≤(zaj ps rows k).length∧
 ∀ H',Same H H'→Q (.int (stN (zaj ps rows c) ((zaj ps rows k).take m) : Nat)) H'
theorem znF (T : Txt K mg) (D_start_in : DF K mg "start_in" zdC zcU) : FC P w K mg base 1 "start_in" zcU (zlC K):=by
 refine D_start_in.ok sc_start_in (fun vs H Q E h=>?_) (fun f cdv A outer s H vs Q E hr h=>?_)
 ·obtain ⟨Av,br,ps,rows,xs,k,c,m,rfl,_⟩:=h
  rfl
 obtain ⟨Av,br,ps,rows,xs,k,c,m,rfl,hbr,hB,hT,hk,hc,hm,q⟩:=h
 obtain ⟨x,hx,b,o,j,ys,rfl,_,_,hb,ho,hj,hJ⟩:=zbG hB hk
 obtain ⟨kvs,h1,h2,h3⟩:=zkg hJ
 have hcm : c∈zaM ps k (ps.length + 1):=zaC.mpr ⟨(zaL hT hc).2,hc⟩
 obtain ⟨sa,hv,hsa⟩:=h3 c hcm (zgh _ _ _)
 refine ⟨_,(zah (zau (zaz zax (zdn (zef hr) (zbf (zla rfl) rfl T.m_dict boot_dict (zaa (zaz zaW (zaz zax (pv 0) (pv 1) (fun _ _=>rfl)) zae (fun _ _=>rfl)) zad)) (pv 3) (fun _ _=>rfl)) (pv 2) (fun _ _=>rfl)))),?_⟩
 refine ⟨_,rfl,_,rfl,_,_,_,_,rfl,rfl,SqL.of hbr,zbh hx,_,_,_,_,rfl,rfl,SqT.of hb,rfl,?_⟩
 refine ⟨j,ys,kvs,rfl,SqL.of hj,h1,?_,fun d hd=>?_⟩
 ·rw [h2]
  exact List.Pairwise.map (R:=fun a b : Nat=>a≠b) _ (fun a b (n : a≠b) z=>n (by have:=Sum.inl.inj z; omega)) (zgh ps k _)
 have sd:=zai hd (.dK kvs)
 refine ⟨_,rfl,d,.ref sa,rfl,?_,?_⟩
 ·have:=DGet.k (k:=(.inl (c : Int))) (zac (H:=H) (a:=d) (o:=.dK kvs))
  rw [hv] at this
  exact this
 refine ⟨_,rfl,_,_,_,_,rfl,rfl,SqL.of (sd _ _ hsa),zbh (v:=nV (stN (zaj ps rows c) ((zaj ps rows k).take m))) ?_,q _ sd⟩
 rw [yaj]
 unfold zg5
 rw [yaj,ybs (by omega)]
 rfl
def zos (P : Program) (w : World) (K : Frag) (mg : Str→Option Value) (base : Heap) (mp : Addr) : Sp:=fun vs H Q _=>∃ (br f : Addr) (xs : List V) (ps : List Nat) (rows : List (List Int)) (k st : Nat) (key : Int) (Av : List Addr) (fp : Addr→Prop) (R : List (Nat×Nat)→Hp→Prop) (L : List (Nat×Nat)),vs = [.ref br,.int k,.int st,.ref f]∧
 AskF P w K mg base f Av mp fp R ps rows key∧zbV Av mp R ps rows br xs L H∧zaB ps∧zaS rows∧k < ps.length + 1∧L.length≤8000∧st≤zav (zaj ps rows k) key∧zav (zaj ps rows k) key≤st + 2∧
 ∀ (H' : Hp) (L' : List (Nat×Nat)),zbV Av mp R ps rows br xs (L ++ L') H'→KpA Av mp H H'→L'.length≤2→Q (.int (zav (zaj ps rows k) key : Nat)) H'
theorem zpp (T : Txt K mg) {mp : Addr} (D_next_place : DF K mg "next_place" zcq zb1) : FC P w K mg base 3 "next_place" zb1 (zos P w K mg base mp):=by
 refine D_next_place.ok sc_next_place (fun vs H Q E h=>?_) (fun f cdv A outer s H vs Q E hr h=>?_)
 ·obtain ⟨br,f,xs,ps,rows,k,st,key,Av,fp,R,L,rfl,_⟩:=h
  rfl
 obtain ⟨br,f,xs,ps,rows,k,st,key,Av,fp,R,L,rfl,AF,S,hT,hR,hk,hLn,hlo,hhi,q⟩:=h
 refine ⟨_,(zaf (zap (i:=4) sc_next_place.nd rfl (Or.inl rfl) (zaq (ziD rfl) rfl T.m_min boot_min (zaa (zas zaZ (pv 2) (zhm rfl T.g_MOST_BEHIND_START)) (zaa (zaz zaW (zaz zax (pv 0) (pv 1) (fun _ _=>rfl)) zae (fun _ _=>rfl)) zad))))
   (zaf (zap (i:=5) sc_next_place.nd rfl (Or.inl rfl) (pv 2))
   (zaf (zfQ PassesOwn.never (PW.pt (zh7 (zaw zhs (pv 5) (pv 4) (zaH _)) (zf0 (zdi (zhn (kr:=2) hr (pv 3) (zaa (pv 1) (zaa (pv 5) zad))))))) (zah (zap (i:=5) sc_next_place.nd rfl (Or.inl rfl) (zas zaZ (pv 5) zae))))
   (zah (zau (pv 5)))))),?_⟩
 obtain ⟨x,hx,b,o,j,ys,rfl,_,_,hb,ho,hj,hJ⟩:=zbG S.ba hk
 have hF:=zeE (zaN hT hR hk (rows:=rows))
 have hle:=zcN (zaj ps rows k) key
 have hat:=fun i h=>zhJ (key:=key) hF (i:=i) h
 obtain ⟨pn,sp,hFV,hask⟩:=AF.ask
 refine ⟨_,rfl,_,_,rfl,rfl,_,rfl,_,rfl,_,_,_,_,rfl,rfl,SqL.of S.at_,zbh hx,_,_,_,_,rfl,rfl,SqT.of hb,rfl,_,_,rfl,?_⟩
 have eb : ∃ m : Nat,(if (((zaj ps rows k).length : Nat) : Int) < (st : Int) + 2 then (((zaj ps rows k).length : Nat) : Int) else (st : Int) + 2) = (m : Int)∧m≤(zaj ps rows k).length∧m≤st + 2∧zav (zaj ps rows k) key≤m:=by
  by_cases c : (((zaj ps rows k).length : Nat) : Int) < (st : Int) + 2
  ·exact ⟨_,if_pos c,yaa _,by omega,hle⟩
  ·exact ⟨st + 2,by rw [if_neg c]; rfl,by omega,yaa _,hhi⟩
 obtain ⟨m,em,hm1,hm2,hm3⟩:=eb
 rw [em]
 refine ⟨_,rfl,?_⟩
 refine ⟨fun n σ H1=>∃ (at_ : Nat) (L1 : List (Nat×Nat)),σ = [some (.ref br),some (.int k),some (.int st),some (.ref f),some (.int m),some (.int at_)]∧st≤at_∧at_≤zav (zaj ps rows k) key∧at_ + n = m∧L1.length + st = at_∧zbV Av mp R ps rows br xs (L ++ L1) H1∧KpA Av mp H H1,⟨m - st,st,[],rfl,yaa _,hlo,by omega,by rw [ybx,ybr],by rw [yaE]; exact S,fun _ _ _ _ h=>h⟩,?_⟩
 rintro n σ H1 ⟨at_,L1,rfl,h1,h2,h3,h4,S1,k1⟩
 refine ⟨_,rfl,_,rfl,_,_,rfl,rfl,_,rfl,?_⟩
 refine ite2 (fun c=>?_) (fun c=>?_)
 ·have c1 : (at_ : Int) < (m : Int):=yaC c
  refine ⟨_,rfl,f,2,pn,sp,rfl,hFV,yaa _,_,rfl,_,rfl,?_⟩
  refine hask k at_ _ H1 _ hk (by omega) (by rw [yah]; omega) S1.r fun H2 hR2 k2=>?_
  have S2:=S1.kp k2.a (S1.tbv k2) hR2 (AF.avl _ _ hR2)
  rw [yaP] at S2
  have k02 : KpA Av mp H H2:=k1.trans k2.a
  have hL2 : (L1 ++ [(k,at_)]).length = L1.length + 1:=by rw [yah,yaL]
  have hge : (zaj ps rows k).getD at_ (0,0) = (zaj ps rows k)[at_]'(by omega):=by
   rw [yad,yac (by omega)]
   rfl
  refine ⟨_,rfl,?_⟩
  refine ite2 (fun c2=>?_) (fun c2=>?_)
  ·have c3:=yaC c2
   rw [hge] at c3
   have hlt : at_ < zav (zaj ps rows k) key:=ycn fun z=>(hat at_ (by omega)).2 z c3
   refine ⟨fun σ' H'=>σ' = [some (.ref br),some (.int k),some (.int st),some (.ref f),some (.int m),some (.int ((at_ : Int) + 1))]∧H' = H2,?_,?_⟩
   ·rintro σ' H' ⟨rfl,rfl⟩
    exact ⟨n - 1,by omega,at_ + 1,_,rfl,by omega,by omega,by omega,by omega,S2,k02⟩
   ·exact ⟨_,rfl,_,_,rfl,rfl,rfl,rfl⟩
  ·have hge2 : zav (zaj ps rows k) key≤at_:=yby fun z=>c2 (yam (by rw [hge]; exact (hat at_ (by omega)).1 z))
   have e : at_ = zav (zaj ps rows k) key:=by omega
   refine ⟨_,rfl,?_⟩
   rw [e]
   exact q _ _ S2 k02 (by omega)
 ·have c1 : ¬ (at_ : Int) < (m : Int):=ybQ (ybP.mpr c)
  have e : at_ = zav (zaj ps rows k) key:=by omega
  refine iteF ?_
  refine ⟨_,rfl,?_⟩
  rw [e]
  exact q _ _ S1 k1 (by omega)
def zjC (P : Program) (w : World) (K : Frag) (mg : Str→Option Value) (base : Heap) (mp : Addr) : Sp:=fun vs H Q _=>∃ (br wa f : Addr) (xs : List V) (ps : List Nat) (rows : List (List Int)) (wy : List Nat) (key : Int) (Av : List Addr) (fp : Addr→Prop) (R : List (Nat×Nat)→Hp→Prop) (L : List (Nat×Nat)),vs = [.ref br,.ref wa,.ref f]∧
 AskF P w K mg base f Av mp fp R ps rows key∧zbV Av mp R ps rows br xs L H∧zaB ps∧zaS rows∧ps.length≤40∧zej H wa ps wy∧wa∉Av∧L.length≤1000∧(∀ k,k < ps.length + 1→(zaj ps rows k).length≤1000)∧
 ∀ (D : Addr) (zs : List V) (H' : Hp) (L' : List (Nat×Nat)),zbV Av mp R ps rows br xs (L ++ L') H'→KpA Av mp H H'→H D = none→H' D = some (.lst zs)→zam K H' (wy.map fun k=>(((zav (zaj ps rows k) key : Nat) : Int),((ownB rows k key : Nat) : Int))) zs→L'.length≤figN (zaj ps rows (wy.getD 0 0)).length + 2 * (wy.length - 1)→Q (.ref D) H'
theorem zl5 (T : Txt K mg) {mp : Addr} (D_search : DF K mg "search" zfH zeH) (F_first_place : FC P w K mg base 5 "first_place" zbO (zlI P w K mg base mp)) (F_start_in : FC P w K mg base 1 "start_in" zcU (zlC K)) (F_next_place : FC P w K mg base 3 "next_place" zb1 (zos P w K mg base mp)) : FC P w K mg base 6 "search" zeH (zjC P w K mg base mp):=by
 refine D_search.ok sc_search (fun vs H Q E h=>?_) (fun f cdv A outer s H vs Q E hr h=>?_)
 ·obtain ⟨br,wa,f,xs,ps,rows,wy,key,Av,fp,R,L,rfl,_⟩:=h
  rfl
 obtain ⟨br,wa,f,xs,ps,rows,wy,key,Av,fp,R,L,rfl,AF,S,hT,hR,few,W,nwa,hLn,hFn,q⟩:=h
 have hwl:=W.len
 have hpos : 0 < wy.length:=ycs.mpr W.ne
 refine ⟨_,(zaf (zap (i:=3) sc_search.nd rfl (Or.inl rfl) (zaA F_first_place hr (zaa (pv 0) (zaa (zaz zax (pv 1) zae (fun _ _=>rfl)) (zaa (pv 2) zad)))))
   (zaf (zap (i:=4) sc_search.nd rfl (Or.inl rfl) (zbp (zaa (zbe (zaa (pv 3) (zaa (zaz zax (zaz zaW (zaz zax (pv 0) (zaz zax (pv 1) zae (fun _ _=>rfl)) (fun _ _=>rfl)) zae (fun _ _=>rfl)) (pv 3) (fun _ _=>rfl)) zad))) zad)))
   (zaf (zaK PassesOwn.never rfl (zjT rfl T.m_zip (zaa (pv 1) (zaa (zcz zfe (pv 1) (zbI zae) ziR) zad))) (zfv rfl (zaP (zal (i:=5) sc_search.nd rfl (Or.inl rfl)) (zaP (zal (i:=6) sc_search.nd rfl (Or.inl rfl)) zcZ))) (zaf (zap (i:=3) sc_search.nd rfl (Or.inl rfl) (zaA F_next_place hr (zaa (pv 0) (zaa (pv 6) (zaa (zaA F_start_in hr (zaa (pv 0) (zaa (pv 5) (zaa (pv 3) (zaa (pv 6) zad))))) (zaa (pv 2) zad))))))
   (zah (za7 (zdo F.plainAttrs_list F.slot_list_append F.type_list_append zaI (pv 4) (zaa (zbe (zaa (pv 3) (zaa (zaz zax (zaz zaW (zaz zax (pv 0) (pv 6) (fun _ _=>rfl)) zae (fun _ _=>rfl)) (pv 3) (fun _ _=>rfl)) zad))) zad))))))
   (zah (zau (pv 4)))))),?_⟩
 have hk0 : wy.getD 0 0 < ps.length + 1:=W.kn _ (zjv hpos)
 have hw0 : atI (wy.map nV) 0 = some (nV (wy.getD 0 0)):=zbh (j:=0) (zhR hpos)
 refine ⟨_,rfl,_,rfl,_,_,_,_,rfl,rfl,SqL.of W.at_,hw0,_,rfl,br,f,xs,ps,rows,wy.getD 0 0,key,Av,fp,R,L,rfl,AF,S,hT,hR,hk0,by omega,hFn _ hk0,fun H1 L1 S1 k1 hL1=>?_⟩
 have W1:=S.lst k1 W.at_ nwa
 obtain ⟨x0,hx0,b0,o0,j0,ys0,rfl,_,_,hb0,ho0,_,_⟩:=zbG S1.ba hk0
 refine ⟨_,rfl,_,rfl,_,rfl,_,_,_,_,rfl,rfl,SqL.of W1,hw0,_,_,_,_,rfl,rfl,SqL.of S1.at_,zbh hx0,_,_,_,_,rfl,rfl,SqT.of hb0,rfl,_,rfl,_,_,_,_,rfl,rfl,SqL.of ho0,zjY hT hR hk0 key,(by show 2≤sizeLine; decide),fun t ht=>⟨(by show 1≤sizeLine; decide),fun D hD=>?_⟩⟩
 have st:=zai ht (.tup [.int ((zav (zaj ps rows (wy.getD 0 0)) key : Nat) : Int),.int ((ownB rows (wy.getD 0 0) key : Nat) : Int)])
 have sD:=zai hD (.lst [.ref t])
 have hD1 : H1 D = none:=st.free hD
 obtain ⟨hDn,nDA,nDm⟩:=S1.free k1 hD1
 have nfD : ¬ fp D:=fun z=>AF.alloc _ _ _ S1.r z hD1
 have s13:=st.trans sD
 have tb3:=S1.tb.ext s13.ext
 have hR3:=AF.keep _ _ _ S1.r fun b o _ e=>s13 b o e
 have S3:=S1.kp (.of s13) tb3 hR3 (AF.avl _ _ hR3)
 have k03 : KpA Av mp H _:=k1.trans (.of s13)
 have h3D : upd (upd H1 t (.tup [.int ((zav (zaj ps rows (wy.getD 0 0)) key : Nat) : Int),.int ((ownB rows (wy.getD 0 0) key : Nat) : Int)])) D (.lst [.ref t]) D = some (.lst [.ref t]):=zac
 have h3t:=sD _ _ (zac (H:=H1) (a:=t) (o:=.tup [.int ((zav (zaj ps rows (wy.getD 0 0)) key : Nat) : Int),.int ((ownB rows (wy.getD 0 0) key : Nat) : Int)]))
 generalize upd (upd H1 t (.tup [.int ((zav (zaj ps rows (wy.getD 0 0)) key : Nat) : Int),.int ((ownB rows (wy.getD 0 0) key : Nat) : Int)])) D (.lst [.ref t]) = H3 at S3 k03 h3D h3t ⊢
 clear tb3 hR3 s13 sD hD st ht hb0 ho0 hx0
 have W3:=S.lst k03 W.at_ nwa
 refine ⟨_,rfl,_,rfl,1,rfl,wa,_,rfl,SqL.of W3,fun y hy=>?_⟩
 rw [zpT]
 have sy:=zai hy (.lst ((wy.drop 1).map nV))
 obtain ⟨hyn,nyA,nym⟩:=S3.free k03 hy
 have nDy : D≠y:=zab h3D hy
 have tb4:=S3.tb.ext sy.ext
 have hR4:=AF.keep _ _ _ S3.r fun b o _ e=>sy b o e
 have S4:=S3.kp (.of sy) tb4 hR4 (AF.avl _ _ hR4)
 have k04 : KpA Av mp H _:=k03.trans (.of sy)
 have h4y : upd H3 y (.lst ((wy.drop 1).map nV)) y = some (.lst ((wy.drop 1).map nV)):=zac
 have h4D:=sy _ _ h3D
 have h4t:=sy _ _ h3t
 generalize upd H3 y (.lst ((wy.drop 1).map nV)) = H4 at S4 k04 h4D h4t h4y ⊢
 clear tb4 hR4 sy hy h3D h3t S3 k03 W3
 refine ⟨wa,y,rfl,⟨_,SqL.of (S.lst k04 W.at_ nwa)⟩,⟨_,SqL.of h4y⟩,?_⟩
 have hdl : ((wy.drop 1).map nV).length = wy.length - 1:=by rw [yab,yaT]
 refine zoa (xs:=wy.map nV) (ys:=(wy.drop 1).map nV) (by rw [hdl,yab]; omega) (fun i σ H5=>∃ (x5 x6 : Option V) (zs : List V) (L2 : List (Nat×Nat)),σ = [some (.ref br),some (.ref wa),some (.ref f),some (.int ((zav (zaj ps rows (wy.getD i 0)) key : Nat) : Int)),some (.ref D),x5,x6]∧H5 D = some (.lst zs)∧zam K H5 ((wy.take (i + 1)).map fun k=>(((zav (zaj ps rows k) key : Nat) : Int),((ownB rows k key : Nat) : Int))) zs∧zbV Av mp R ps rows br xs (L ++ L2) H5∧KpA Av mp H H5∧L2.length≤figN (zaj ps rows (wy.getD 0 0)).length + 2 * i∧H5 y = some (.lst ((wy.drop 1).map nV))) ?_ ?_ ?_ ?_
 ·refine ⟨_,_,[.ref t],L1,rfl,h4D,?_,S4,k04,by omega,h4y⟩
  rw [zlh _ hpos,ybA]
  exact .cons ⟨t,_,_,rfl,h4t,rfl,rfl⟩ .nil
 ·rintro i σ H5 _ ⟨x5,x6,zs,L2,rfl,h5,hA,S5,k05,hL2,h5y⟩
  exact ⟨SqL.of (S.lst k05 W.at_ nwa),SqL.of h5y⟩
 ·rintro i x x' σ H5 p hx hx' ⟨x5,x6,zs,L2,rfl,h5,hA,S5,k05,hL2,h5y⟩ hp
  have hi : i + 1 < wy.length:=by
   have:=(yag.mp hx').1
   omega
  rw [zhR (by omega)] at hx
  cases hx
  rw [List.map_drop,ybZ,Nat.add_comm 1 i,zhR hi] at hx'
  cases hx'
  have hpar:=W.ch i hi
  have hki : wy.getD i 0 < ps.length + 1:=W.kn _ (zjv (by omega))
  have hkj : wy.getD (i + 1) 0 < ps.length + 1:=W.kn _ (zjv hi)
  have NO:=zpw hT hR few hki hpar (rows:=rows) key
  refine ⟨p,_,rfl,SqT.of zac,rfl,_,_,rfl,_,_,rfl,rfl,?_⟩
  have s6:=zai hp (.tup [nV (wy.getD i 0),nV (wy.getD (i + 1) 0)])
  have hR6:=AF.keep _ _ _ S5.r fun b o _ e=>s6 b o e
  have S6:=S5.kp (.of s6) (S5.tb.ext s6.ext) hR6 (AF.avl _ _ hR6)
  refine ⟨_,rfl,_,rfl,_,rfl,_,rfl,_,rfl,_,rfl,Av,br,ps,rows,xs,wy.getD i 0,wy.getD (i + 1) 0,_,rfl,S6.at_,S6.ba,hT,hki,hpar,zcN _ _,fun H7 s7=>?_⟩
  have s57:=s6.trans s7
  have hR7:=AF.keep _ _ _ S5.r fun b o _ e=>s57 b o e
  have S7:=S5.kp (.of s57) (S5.tb.ext s57.ext) hR7 (AF.avl _ _ hR7)
  refine ⟨_,rfl,br,f,xs,ps,rows,wy.getD (i + 1) 0,_,key,Av,fp,R,_,rfl,AF,S7,hT,hR,hkj,(by have:=zjc _ _ (yaa (zaj ps rows (wy.getD 0 0)).length); have:=hFn _ hk0; rw [yah]; omega),NO.lo,NO.hi,fun H8 L3 S8 k8 hL3=>?_⟩
  have k58 : KpA Av mp H5 H8:=(KpA.of s57).trans k8
  have k08:=k05.trans k58
  have h8:=k58 _ _ nDA nDm h5
  have h8y:=k58 _ _ nyA nym h5y
  obtain ⟨x1,hx1,b1,o1,j1,ys1,rfl,_,_,hb1,ho1,_,_⟩:=zbG S8.ba hkj
  have hzl:=hA.length
  rw [yab,yak] at hzl
  refine ⟨_,rfl,.inl ⟨rfl,_,SqL.of h8⟩,_,rfl,_,rfl,_,rfl,_,_,_,_,rfl,rfl,SqL.of S8.at_,zbh hx1,_,_,_,_,rfl,rfl,SqT.of hb1,rfl,_,rfl,_,_,_,_,rfl,rfl,SqL.of ho1,zjY hT hR hkj key,(by show 2≤sizeLine; decide),fun t2 ht2=>?_⟩
  have s9:=zai ht2 (.tup [.int ((zav (zaj ps rows (wy.getD (i + 1) 0)) key : Nat) : Int),.int ((ownB rows (wy.getD (i + 1) 0) key : Nat) : Int)])
  have h9t : upd H8 t2 (.tup [.int ((zav (zaj ps rows (wy.getD (i + 1) 0)) key : Nat) : Int),.int ((ownB rows (wy.getD (i + 1) 0) key : Nat) : Int)]) t2 = _:=zac
  have h9:=s9 _ _ h8
  have h9y:=s9 _ _ h8y
  have k09:=k08.trans (.of s9)
  have hR9:=AF.keep _ _ _ S8.r fun b o _ e=>s9 b o e
  have tb9:=S8.tb.ext s9.ext
  have hA9:=zia (H':=upd H8 t2 (.tup [.int ((zav (zaj ps rows (wy.getD (i + 1) 0)) key : Nat) : Int),.int ((ownB rows (wy.getD (i + 1) 0) key : Nat) : Int)])) (fun b us e=>s9 _ _ (S5.tup k58 e)) hA
  generalize upd H8 t2 (.tup [.int ((zav (zaj ps rows (wy.getD (i + 1) 0)) key : Nat) : Int),.int ((ownB rows (wy.getD (i + 1) 0) key : Nat) : Int)]) = H9 at h9t h9 h9y k09 hR9 tb9 hA9 ⊢
  have k0D : KpA Av mp H (upd H9 D (.lst (zs ++ [.ref t2]))):=fun b o n1 n2 e=>by
   rw [zag (zab e hDn)]
   exact k09 _ _ n1 n2 e
  have hRD : R (L ++ L2 ++ L3) (upd H9 D (.lst (zs ++ [.ref t2]))):=AF.keep _ _ _ hR9 fun b o hb e=>by
   have n : b≠D:=fun z=>by
    rw [z] at hb
    exact nfD hb
   rw [zag n]
   exact e
  refine ⟨_,_,_,rfl,rfl,h9,zan (by omega),_,_,_,L2 ++ L3,rfl,zac,?_,?_,k0D,?_,?_⟩
  ·rw [zlh _ hi]
   exact zam.append (zaQ h9 hA9) (.cons ⟨t2,_,_,rfl,by rw [zag (fun z=>by rw [z,h9] at h9t; cases h9t)]; exact h9t,rfl,rfl⟩ .nil)
  ·rw [← yaP]
   exact S.kp k0D (zlt tb9 h9) hRD (AF.avl _ _ hRD)
  ·rw [yah]
   omega
  ·rw [zag (Ne.symm nDy)]
   exact h9y
 ·rintro σ H5 ⟨x5,x6,zs,L2,rfl,h5,hA,S5,k05,hL2,h5y⟩
  rw [hdl] at hA hL2
  rw [yaq (by omega)] at hA
  refine ⟨_,rfl,?_⟩
  exact q D zs H5 L2 S5 k05 hDn h5 hA hL2
def Kp0 (H H' : Hp) : Prop:=∀ b o,(∀ tab,o≠.tbl tab)→H b = some o→H' b = some o
theorem zjX {K : Frag} {H H' : Hp} (k : Kp0 H H') : ∀ {es : List (Int×Int)} {ws : List V},zam K H es ws→zam K H' es ws
 | _,_,.nil=>.nil
 | _,_,.cons h t=>by
  refine .cons ?_ (zjX k t)
  obtain ⟨a,x1,x2,rfl,hT,e1,e2⟩:=(show hasP K H _ _ from h)
  exact ⟨a,x1,x2,rfl,k _ _ (fun _ z=>nomatch z) hT,e1,e2⟩
theorem zkm {K : Frag} {H H' : Hp} {ps : List Nat} {rows : List (List Int)} {js : List Nat} {qs : List Addr} (k : Kp0 H H') (h : zay K H ps rows js qs) : zay K H' ps rows js qs:=zaG (fun j q ⟨ws,h1,h2⟩=>⟨ws,k _ _ (fun _ z=>by cases z) h1,zjX k h2⟩) h
theorem zrz {H H' : Hp} {ps : List Nat} {rows : List (List Int)} {js : List Nat} {xs : List V} (k : Kp0 H H') (h : Paired (BrAt [] H ps rows) js xs) : Paired (BrAt [] H' ps rows) js xs:=zaG (fun j x ⟨b,o,j',ys,h1,h2,h3,h4,h5,h6,h7⟩=>
 ⟨b,o,j',ys,h1,h2,h3,k _ _ (fun _ z=>by cases z) h4,k _ _ (fun _ z=>by cases z) h5,k _ _ (fun _ z=>by cases z) h6,zaG (fun c y ⟨a,s,g1,g2,g3,g4⟩=>⟨a,s,g1,g2,k _ _ (fun _ z=>by cases z) g3,k _ _ (fun _ z=>by cases z) g4⟩) h7⟩) h
theorem zo1 {σ : L2.St} {H : Hp} {Q : Bool→Hp→Prop} (h : Q true H) : tYes σ H Q:=h
theorem Kp0.trans {H H1 H2 : Hp} (a : Kp0 H H1) (b : Kp0 H1 H2) : Kp0 H H2:=fun c o n h=>b c o n (a c o n h)
theorem Kp0.of {H H1 : Hp} (a : Same H H1) : Kp0 H H1:=fun c o _ h=>a c o h
theorem Kp0.tup {H H1 : Hp} (a : Kp0 H H1) {b : Addr} {us : List V} (h : H b = some (.tup us)) : H1 b = some (.tup us):=a _ _ (fun _ z=>nomatch z) h
theorem Kp0.lst {H H1 : Hp} (a : Kp0 H H1) {b : Addr} {us : List V} (h : H b = some (.lst us)) : H1 b = some (.lst us):=a _ _ (fun _ z=>nomatch z) h
theorem zlR {H H' : Hp} (e : Kp0 H H') : ∀ {as : List Addr} {rows : List (List Int)},zaJ H as rows→zaJ H' as rows
 | _,_,.nil=>.nil
 | _,_,.cons h t=>.cons (e.tup h) (zlR e t)
theorem znn {H H' : Hp} {st t rs : Addr} {ps : List Nat} {rows : List (List Int)} {as : List Addr} (e : Kp0 H H') (S : za2 H st ps rows t rs as) : za2 H' st ps rows t rs as:=
 ⟨e.tup S.st,e.tup S.tr,e.tup S.rs,zlR e S.at_,S.len,S.T,S.R,S.few,S.keys⟩
theorem zju {H H' : Hp} {wa : Addr} {ps w : List Nat} (e : Kp0 H H') (h : zej H wa ps w) : zej H' wa ps w:=⟨e.lst h.at_,h.len,h.ne,h.ch,h.kn⟩
theorem zqL {L d : Addr} {H H' : Hp} (s : LS K L d H) (g : Kp0 H H') : LS K L d H':=by
 obtain ⟨ns,a,l,e,q⟩:=s.ex
 refine ⟨ns,a,l,g _ _ (fun _ z=>nomatch z) e,?_⟩
 rcases q with (q | ⟨o,q⟩) | q
 ·exact .inl (.inl (g _ _ (fun _ z=>nomatch z) q))
 ·exact .inl (.inr ⟨o,g _ _ (fun _ z=>nomatch z) q⟩)
 ·exact .inr q
theorem znt {rows : List (List Int)} {r : List Int} (h : r∈rows) : r.length≤zcm rows:=by
 unfold zcm
 induction rows with
 | nil=>cases h
 | cons a l ih=>
  rw [yay,yaR]
  rcases yap.mp h with z | z
  ·rw [z]
   omega
  ·have:=ih z
   omega
theorem zqp {rows : List (List Int)} {k : Nat} (h : k < rows.length) : zbz rows k∈rows:=by
 unfold zbz
 rw [yad,yac h]
 exact yaB h
theorem zg4 {H : Hp} {Pt : Addr} {pos : Pos} {q : Str} (x : zbc H Pt pos q) : ∃ tab,H Pt = some (.tbl tab):=by
 obtain ⟨tab,e,_⟩:=x.ex
 exact ⟨tab,e⟩
theorem zid (T : Txt K mg) (D_l_children : DF K mg "_law_children" zct zb3) : FC P w K mg base 1 "_law_children" zb3 (zcH K):=by
 refine D_l_children.ok sc_l_children (fun vs H Q E h=>?_) (fun f cdv A outer s H vs Q E hr h=>?_)
 ·obtain ⟨t,ps,k,rfl,_⟩:=h
  rfl
 obtain ⟨t,ps,k,rfl,ht,hz,q⟩:=h
 refine ⟨_,(zah (zau (zbJ (N:=["_law_k","_law_tree_here","_law_knot"]) (own:=1) (cap:=[0,1]) rfl (zaU rfl T.m_range (zaa (zaq zar rfl T.m_len boot_len (zaa (pv 0) zad)) zad)) ⟨rfl,rfl,rfl,rfl,rfl,rfl⟩ (fun _ _ _ _ _=>(zal (i:=0) (show List.Nodup (["_law_k","_law_tree_here","_law_knot"] : List Str) by decide +kernel) rfl (Or.inl rfl))) (fun _ _ _ _ _=>(zdh (zaw zdr (zaz (zee (K:=K)) (pv 1) (pv 0) (fun _ _=>rfl)) (pv 2) (zaH _)))) (fun _ _ _ _ _=>(pv 0))))),?_⟩
 refine ⟨_,rfl,_,_,rfl,.inr (SqT.of ht),_,rfl,by omega,by rw [zat]; omega,fun D hD=>?_⟩
 have el : ((((zbY ps).length : Nat) : Int)).toNat = ps.length + 1:=by rw [zat,yba]
 rw [el]
 refine zcb (n:=ps.length + 1) (fun j σ H3=>∃ x0 : Option V,σ = [x0,some (.ref t),some (.int k)]∧H3 D = some (.lst ((zaM ps k j).map nV))∧But D H H3) ?_ ?_ ?_
 ·exact ⟨_,rfl,zac,fun b o n e=>by rw [zag n]; exact e⟩
 ·rintro j m σ H3 hm hj ⟨x0,rfl,h3,k3⟩
  rw [ybd]
  have h3t:=k3 _ _ (zab ht hD) ht
  have hlen:=zcM ps k j
  refine ⟨_,rfl,_,rfl,_,_,_,_,rfl,rfl,SqT.of h3t,zgm hj,_,rfl,zh5 _ _ _,_,rfl,?_⟩
  refine ite2 (fun c=>?_) (fun c=>?_)
  ·have c' : par ps j = some k:=zhp.mp (yaC c)
   refine ⟨_,rfl,_,h3,zan (by rw [yab]; omega),m - 1,by omega,by omega,_,rfl,?_,fun b o n e=>by rw [zag n]; exact k3 b o n e⟩
   rw [zac,zc6,if_pos c',yal]
   rfl
  ·have c' : ¬ par ps j = some k:=fun z=>c (yam (zhp.mpr z))
   refine ⟨m - 1,by omega,by omega,_,rfl,?_,k3⟩
   rw [h3,zc6,if_neg c',yaE]
 ·rintro σ H3 ⟨x0,rfl,h3,k3⟩
  exact q D H3 hD (fun b o e=>k3 b o (zab e hD) e) h3
def zlJ (K : Frag) : Sp:=fun vs H Q _=>∃ (r : Addr) (as : List Addr) (rows : List (List Int)),vs = [.ref r]∧H r = some (.tup (as.map V.ref))∧zaJ H as rows∧zcm rows≤900∧
 ∀ (p : Addr) (H' : Hp),Same H H'→H' p = some (.lst (rows.flatten.map V.int))→H p = none→Q (.ref p) H'
theorem zir (rows : List (List Int)) : rows.flatten.length = zcm rows:=by
 unfold zcm
 rw [List.length_flatten]
theorem zk4 {rows : List (List Int)} {i : Nat} {row : List Int} (h : rows[i]? = some row) : (rows.take (i + 1)).flatten = (rows.take i).flatten ++ row:=by
 obtain ⟨hi,rfl⟩:=yag.mp h
 rw [yaF hi,ybR]
 simp
theorem ziq (rows : List (List Int)) (i : Nat) : (rows.take i).flatten.length≤zcm rows:=by
 rw [← zir]
 conv=>rhs; rw [← yaZ i rows]
 rw [ybR,yah]
 omega
theorem znQ (T : Txt K mg) (D_l_every : DF K mg "_law_every" zez zdQ) : FC P w K mg base 1 "_law_every" zdQ (zlJ K):=by
 refine D_l_every.ok sc_l_every (fun vs H Q E h=>?_) (fun f cdv A outer s H vs Q E hr h=>?_)
 ·obtain ⟨r,as,rows,rfl,_⟩:=h
  rfl
 obtain ⟨r,as,rows,rfl,hr0,hA,hz,q⟩:=h
 have hal:=hA.length
 refine ⟨_,(zaf (zap (i:=1) sc_l_every.nd rfl (Or.inl rfl) (zbp zad))
   (zaf (zaK PassesOwn.never rfl (zdj (pv 0)) (zal (i:=2) sc_l_every.nd rfl (Or.inl rfl)) (zah (zap (i:=1) sc_l_every.nd rfl (Or.inl rfl) (zas zl2 (pv 1) (zbf zcB rfl T.m_list boot_list (zaa (pv 2) zad))))))
   (zah (zau (pv 1))))),?_⟩
 refine ⟨(by show 0≤sizeLine; decide),fun p hp=>?_⟩
 have sp:=zai hp (.lst [])
 refine ⟨_,rfl,r,rfl,⟨_,SqT.of (sp _ _ hr0)⟩,?_⟩
 refine zfl (xs:=as.map V.ref) (fun i σ H2=>∃ (c : Addr) (x2 : Option V),σ = [some (.ref r),some (.ref c),x2]∧H2 c = some (.lst (((rows.take i).flatten).map V.int))∧Same H H2∧H c = none) ?_ ?_ ?_ ?_
 ·exact ⟨p,_,rfl,zac,sp,hp⟩
 ·rintro i σ H2 _ ⟨c,x2,rfl,_,s2,_⟩
  exact SqT.of (s2 _ _ hr0)
 ·rintro i x σ H2 hx ⟨c,x2,rfl,h2,s2,hc⟩
  rw [yaj] at hx
  obtain ⟨b,hb,rfl⟩:=ybk.mp hx
  obtain ⟨row,hrow,h1b⟩:=zcI hA hb
  have h2b:=s2 _ _ h1b
  have e:=zk4 hrow
  have hz2:=ziq rows (i + 1)
  rw [e,yah] at hz2
  refine ⟨_,rfl,_,rfl,b,_,rfl,.inr (SqT.of h2b),fun l hl=>?_⟩
  have sl:=zai hl (.lst (row.map V.int))
  refine ⟨c,l,_,_,rfl,rfl,sl _ _ h2,zac,ybm (zan (by rw [yab,yab]; omega)),fun u hu=>?_⟩
  have su:=zai hu (.lst ((rows.take i).flatten.map V.int ++ row.map V.int))
  refine ⟨u,_,rfl,?_,s2.trans (Same.trans sl su),s2.free (sl.free hu)⟩
  rw [zac,e,yal]
 ·rintro σ H2 ⟨c,x2,rfl,h2,s2,hc⟩
  rw [yab,hal,yaq (yaa _)] at h2
  refine ⟨_,rfl,?_⟩
  exact q c H2 s2 h2 hc
def zjG (K : Frag) : Sp:=fun vs H Q _=>∃ (d L : Addr),vs = [.ref d]∧LS K L d H∧
 ∀ (st : Addr) (ps : List Nat) (rows : List (List Int)) (t rs : Addr) (as : List Addr) (H' : Hp),za2 H' st ps rows t rs as→Keep d H H'→LS K L d H'→Q (.ref st) H'
theorem zkO (T : Txt K mg) (D_l_stand : DF K mg "_law_stand" zet zdK) (F_l_take : FC P w K mg base 2 "_law_take" zbo (zft K)) (F_l_tree : FC P w K mg base 3 "_law_tree" zeJ (zop K)) (F_l_rows : FC P w K mg base 5 "_law_rows" zeK (zoq K)) : FC P w K mg base 6 "_law_stand" zdK (zjG K):=by
 refine D_l_stand.ok sc_l_stand (fun vs H Q E h=>?_) (fun f cdv A outer s H vs Q E hr h=>?_)
 ·obtain ⟨d,L,rfl,_⟩:=h
  rfl
 obtain ⟨d,L,rfl,hs,q⟩:=h
 have ndT : ∀ {H' : Hp} {a : Addr} {o : List V},LS K L d H'→H' a = some (.tup o)→a≠d:=fun {H' a o} s e z=>by
  obtain ⟨_,_,_,e2,_⟩:=s.ex
  rw [← z,e] at e2
  cases e2
 have ndL : ∀ {H' : Hp} {a : Addr} {o : List V},LS K L d H'→H' a = some (.lst o)→a≠d:=fun {H' a o} s e z=>by
  obtain ⟨_,_,_,e2,_⟩:=s.ex
  rw [← z,e] at e2
  cases e2
 refine ⟨_,(zaf (zfu (zaz zax (zbp (zaa (zbe (zaa zae (zaa zae zad))) (zaa (zbe (zaa zae (zaa zae zad))) (zaa (zbe (zaa zae (zaa zae zad))) (zaa (zbe (zaa zae (zaa zae zad))) zad))))) (zaA F_l_take hr (zaa (pv 0) (zaa zae zad))) (fun _ _=>rfl)) (zfv rfl (zaP (zal (i:=1) sc_l_stand.nd rfl (Or.inl rfl)) (zaP (zal (i:=2) sc_l_stand.nd rfl (Or.inl rfl)) zcZ))))
   (zaf (zap (i:=3) sc_l_stand.nd rfl (Or.inl rfl) (zaA F_l_tree hr (zaa (pv 0) (zaa (pv 1) zad))))
   (zah (zau (zbe (zaa (pv 3) (zaa (zaA F_l_rows hr (zaa (pv 0) (zaa (zaq zar rfl T.m_len boot_len (zaa (pv 3) zad)) (zaa (pv 2) zad)))) zad))))))),?_⟩
 refine ⟨(by show 2≤sizeLine; decide),fun a1 ha1=>?_⟩
 have e1:=zai ha1 (.tup [.int 8,.int 9])
 have f1 : upd H a1 (.tup [.int 8,.int 9]) a1 = some (.tup [.int 8,.int 9]):=zac
 generalize upd H a1 (.tup [.int 8,.int 9]) = G1 at e1 f1 ⊢
 refine ⟨(by show 2≤sizeLine; decide),fun a2 ha2=>?_⟩
 have e2:=zai ha2 (.tup [.int 8,.int 9])
 have f2 : upd G1 a2 (.tup [.int 8,.int 9]) a2 = some (.tup [.int 8,.int 9]):=zac
 generalize upd G1 a2 (.tup [.int 8,.int 9]) = G2 at e2 f2 ⊢
 refine ⟨(by show 2≤sizeLine; decide),fun a3 ha3=>?_⟩
 have e3:=zai ha3 (.tup [.int 4,.int 30])
 have f3 : upd G2 a3 (.tup [.int 4,.int 30]) a3 = some (.tup [.int 4,.int 30]):=zac
 generalize upd G2 a3 (.tup [.int 4,.int 30]) = G3 at e3 f3 ⊢
 refine ⟨(by show 2≤sizeLine; decide),fun a4 ha4=>?_⟩
 have e4:=zai ha4 (.tup [.int 24,.int 4])
 have f4 : upd G3 a4 (.tup [.int 24,.int 4]) a4 = some (.tup [.int 24,.int 4]):=zac
 generalize upd G3 a4 (.tup [.int 24,.int 4]) = G4 at e4 f4 ⊢
 refine ⟨(by show 4≤sizeLine; decide),fun l hl=>?_⟩
 have e5:=zai hl (.lst [.ref a1,.ref a2,.ref a3,.ref a4])
 have f5 : upd G4 l (.lst [.ref a1,.ref a2,.ref a3,.ref a4]) l = some (.lst [.ref a1,.ref a2,.ref a3,.ref a4]):=zac
 generalize upd G4 l (.lst [.ref a1,.ref a2,.ref a3,.ref a4]) = G5 at e5 f5 ⊢
 have s0 : Same H G5:=e1.trans (Same.trans e2 (Same.trans e3 (Same.trans e4 e5)))
 have hs5:=hs.same s0
 refine ⟨_,rfl,d,L,4,rfl,by decide,hs5,fun v H1 v0 v4 k1 s1=>?_⟩
 obtain ⟨x,m,n,hat,htup,hm0,hm1,hn1,hmn⟩ : ∃ (x : Addr) (m n : Nat),atI [V.ref a1,V.ref a2,V.ref a3,V.ref a4] v = some (.ref x)∧H1 x = some (.tup [.int (m : Int),.int (n : Int)])∧0 < m∧m≤24∧n≤30∧m * n≤120:=by
  have z : v = 0∨v = 1∨v = 2∨v = 3:=by omega
  have g1:=Same.trans e2 (Same.trans e3 (Same.trans e4 e5)) _ _ f1
  have g2:=Same.trans e3 (Same.trans e4 e5) _ _ f2
  have g3:=Same.trans e4 e5 _ _ f3
  have g4:=e5 _ _ f4
  rcases z with rfl | rfl | rfl | rfl
  ·exact ⟨a1,8,9,rfl,k1 _ _ (ndT hs5 g1) g1,by decide,by decide,by decide,by decide⟩
  ·exact ⟨a2,8,9,rfl,k1 _ _ (ndT hs5 g2) g2,by decide,by decide,by decide,by decide⟩
  ·exact ⟨a3,4,30,rfl,k1 _ _ (ndT hs5 g3) g3,by decide,by decide,by decide,by decide⟩
  ·exact ⟨a4,24,4,rfl,k1 _ _ (ndT hs5 g4) g4,by decide,by decide,by decide,by decide⟩
 have k01 : Keep d H H1:=fun b o nb e=>k1 _ _ nb (s0 _ _ e)
 refine ⟨_,_,_,_,rfl,rfl,SqL.of (k1 _ _ (ndL hs5 f5) f5),hat,?_⟩
 refine ⟨x,_,rfl,SqT.of htup,rfl,_,_,rfl,_,_,rfl,rfl,?_⟩
 clear hat htup f5 f4 f3 f2 f1 e1 e2 e3 e4 e5 k1 hs5 s0
 refine ⟨_,rfl,_,rfl,d,L,m,rfl,by omega,s1,fun t ps H2 ht hT hpl h2 k2 s2=>?_⟩
 refine ⟨_,rfl,_,rfl,_,rfl,_,_,rfl,.inr (SqT.of h2),_,rfl,d,L,(zbY ps).length,n,rfl,by rw [zat]; omega,by omega,s2,fun r as rows H3 hr3 hA hrl hR hf h3 k3 s3=>?_⟩
 rw [zat] at hrl
 refine ⟨(by show 2≤sizeLine; decide),fun st hst=>?_⟩
 have ss:=zai hst (.tup [.ref t,.ref r])
 have hk:=zmw hf
 have hkk : rows.length * n≤m * n:=Nat.mul_le_mul_right n (by omega)
 exact q st ps rows t r as _ ⟨zac,ss _ _ (k3 _ _ (ndT s2 h2) h2),ss _ _ h3,hA.ext ss,hrl,hT,hR,by omega,by omega⟩ (fun b o nb e=>ss _ _ (k3 _ _ nb (k2 _ _ nb (k01 _ _ nb e)))) (s3.same ss)
theorem zm2 {ps us : List Nat} {c ch : Nat} (h : zjp ps (us ++ [c])) (hp : par ps ch = some c) : zjp ps ((us ++ [c]) ++ [ch]):=zk8 h fun _=>by
 rw [hp,yah,yaL,ybO,yad,yaY (yaa _),yb6]
 rfl
def zou (K : Frag) : Sp:=fun vs H Q _=>∃ (d L t : Addr) (ps : List Nat),vs = [.ref d,.ref t]∧H t = some (.tup (zbY ps))∧zaB ps∧ps.length≤40∧LS K L d H∧
 ∀ (wa : Addr) (w : List Nat) (H' : Hp),H wa = none→zej H' wa ps w→Keep d H H'→LS K L d H'→Q (.ref wa) H'
theorem zpr (T : Txt K mg) (D_l_way : DF K mg "_law_way" zhc zfS) (F_l_take : FC P w K mg base 2 "_law_take" zbo (zft K)) (F_l_children : FC P w K mg base 1 "_law_children" zb3 (zcH K)) : FC P w K mg base 3 "_law_way" zfS (zou K):=by
 refine D_l_way.ok sc_l_way (fun vs H Q E h=>?_) (fun f cdv A outer s H vs Q E hr h=>?_)
 ·obtain ⟨d,L,t,ps,rfl,_⟩:=h
  rfl
 obtain ⟨d,L,t,ps,rfl,ht,hT,hl,hs,q⟩:=h
 have ndT : ∀ {H' : Hp} {a : Addr} {o : List V},LS K L d H'→H' a = some (.tup o)→a≠d:=fun {H' a o} s e z=>by
  obtain ⟨_,_,_,e2,_⟩:=s.ex
  rw [← z,e] at e2
  cases e2
 have nd : ∀ {H' : Hp} {a : Addr},LS K L d H'→H' a = none→a≠d:=fun {H' a} s e z=>by
  obtain ⟨_,_,_,e2,_⟩:=s.ex
  rw [← z,e] at e2
  cases e2
 have free : ∀ {H' : Hp} {a : Addr},Keep d H H'→LS K L d H'→H' a = none→H a = none:=fun {H' a} k s e=>by
  cases e2 : H a with
  | none=>rfl
  | some o=>
   have:=k _ _ (nd s e) e2
   rw [e] at this
   cases this
 refine ⟨_,(zaf (zap (i:=2) sc_l_way.nd rfl (Or.inl rfl) (zbp (zaa (zaA F_l_take hr (zaa (pv 0) (zaa (zaq zar rfl T.m_len boot_len (zaa (pv 1) zad)) zad))) zad)))
   (zbk (zbS (zaw zdr (zaA F_l_take hr (zaa (pv 0) (zaa zae zad))) zae (zaH _)) (zah (zap (i:=2) sc_l_way.nd rfl (Or.inl rfl) (zbp (zaa zae zad)))) zaO)
   (zaf (zfQ PassesOwn.never (PW.pt (zh7 (zaw (zjZ (List Int) (huD hr)) (zaA F_l_children hr (zaa (pv 1) (zaa (zaz zax (pv 2) (zgr zd2 zae) (fun _ _=>rfl)) zad))) (zbp zad) (zaH _)) (zf0 (zaw zpk (zaA F_l_take hr (zaa (pv 0) (zaa zae zad))) zae (zaH _))))) (zaf (zap (i:=3) sc_l_way.nd rfl (Or.inl rfl) (zaA F_l_children hr (zaa (pv 1) (zaa (zaz zax (pv 2) (zgr zd2 zae) (fun _ _=>rfl)) zad))))
   (zah (za7 (zdo F.plainAttrs_list F.slot_list_append F.type_list_append zaI (pv 2) (zaa (zaz zax (pv 3) (zaA F_l_take hr (zaa (pv 0) (zaa (zaq zar rfl T.m_len boot_len (zaa (pv 3) zad)) zad))) (fun _ _=>rfl)) zad))))))
   (zah (zau (pv 2)))))),?_⟩
 refine ⟨_,rfl,_,rfl,_,_,rfl,.inr (SqT.of ht),d,L,_,rfl,by rw [zat]; omega,hs,fun v H1 v0 v1 k1 s1=>?_⟩
 rw [zat] at v1
 obtain ⟨k0,rfl⟩:=zj1 v0
 refine ⟨(by show 1≤sizeLine; decide),fun p hp=>?_⟩
 have sp:=zai hp (.lst [nV k0])
 have hpp : upd H1 p (.lst [nV k0]) p = some (.lst [nV k0]):=zac
 have s1p:=s1.same sp
 have k1p : Keep d H (upd H1 p (.lst [nV k0])):=fun b o nb e=>sp _ _ (k1 _ _ nb e)
 have hp0:=free k1 s1 hp
 generalize upd H1 p (.lst [nV k0]) = H2 at hpp s1p k1p ⊢
 refine ⟨fun σ' H'=>∃ (p : Addr) (k0 : Nat),σ' = [some (.ref d),some (.ref t),some (.ref p),none]∧H' p = some (.lst [nV k0])∧k0 < ps.length + 1∧H p = none∧Keep d H H'∧LS K L d H',?_,?_⟩
 ·refine ⟨_,rfl,d,L,2,rfl,by decide,s1p,fun v H3 _ _ k3 s3=>⟨rfl,_,rfl,?_⟩⟩
  have hpd : p≠d:=nd s1 hp
  have k03 : Keep d H H3:=fun b o nb e=>k3 _ _ nb (k1p _ _ nb e)
  refine ite2 (fun _=>?_) (fun _=>?_)
  ·refine ⟨(by show 1≤sizeLine; decide),fun u hu=>?_⟩
   have su:=zai hu (.lst [nV 0])
   exact ⟨u,0,rfl,zac,by omega,free k03 s3 hu,fun b o nb e=>su _ _ (k03 _ _ nb e),s3.same su⟩
  ·exact ⟨p,k0,rfl,k3 _ _ hpd hpp,by omega,hp0,k03,s3⟩
 clear hpp s1p k1p hp0 sp hp k1 s1
 rintro σ' H3 ⟨p,k0,rfl,h3,hk0,hp,k3,s3⟩
 have hpd : p≠d:=nd hs hp
 have htp : t≠p:=zab ht hp
 have htd:=ndT hs ht
 refine zhQ (fun σ HW=>∃ (us : List Nat) (c : Nat) (x3 : Option V),σ = [some (.ref d),some (.ref t),some (.ref p),x3]∧HW p = some (.lst ((us ++ [c]).map nV))∧us.length≤c∧c < ps.length + 1∧zjp ps (us ++ [c])∧(∀ x∈us ++ [c],x < ps.length + 1)∧(∀ b o,b≠d→b≠p→H b = some o→HW b = some o)∧LS K L d HW)
  (fun σ HW=>∃ (w : List Nat) (x3 : Option V),σ = [some (.ref d),some (.ref t),some (.ref p),x3]∧zej HW p ps w∧(∀ b o,b≠d→b≠p→H b = some o→HW b = some o)∧LS K L d HW)
  (fun _ H2=>match H2 p with | some (.lst xs)=>1000 - xs.length | _=>0) ?_ ?_ ?_ ?_
 ·refine ⟨[],k0,_,rfl,h3,yaD _,hk0,fun t ht=>?_,fun x hx=>?_,fun b o nb _ e=>k3 _ _ nb e,s3⟩
  ·rw [ybW,yaL] at ht
   omega
  ·rw [yao.mp hx]
   exact hk0
 ·rintro σ HW ⟨us,c,x3,rfl,hw,hul,hc,hch,hkn,kw,sw⟩
  have hwt:=kw _ _ htd htp ht
  have done : ∀ {HX : Hp} {x3 : Option V},(∀ b o,b≠d→HW b = some o→HX b = some o)→LS K L d HX→∃ (w : List Nat) (x3' : Option V),[some (V.ref d),some (.ref t),some (.ref p),x3] = [some (.ref d),some (.ref t),some (.ref p),x3']∧zej HX p ps w∧(∀ b o,b≠d→b≠p→H b = some o→HX b = some o)∧LS K L d HX:=fun {HX x3} k s=>
   ⟨us ++ [c],x3,rfl,⟨k _ _ hpd hw,by rw [yah,yaL]; omega,by simp,hch,hkn⟩,fun b o n1 n2 e=>k _ _ n1 (kw _ _ n1 n2 e),s⟩
  refine ⟨_,rfl,_,rfl,_,rfl,_,_,_,_,rfl,rfl,SqL.of hw,zna,t,ps,c,rfl,hwt,by omega,fun cl HX hcl sx hx=>?_⟩
  refine ⟨(by show 0≤sizeLine; decide),fun e he=>?_⟩
  have se:=zai he (.lst [])
  have sxe:=sx.trans se
  have swe:=sw.same sxe
  refine ⟨(zaM ps c (ps.length + 1)).map (fun n : Nat=>(n : Int)),[],⟨_,_,rfl,SqL.of (se _ _ hx),zhv⟩,⟨_,_,rfl,SqL.of zac,.nil⟩,_,rfl,?_⟩
  generalize upd HX e (.lst []) = HE at sxe swe ⊢
  refine ite2 (fun cne=>?_) (fun _=>?_)
  ·refine ⟨_,rfl,d,L,6,rfl,by decide,swe,fun v H4 _ _ k4 s4=>?_⟩
   have k04 : ∀ b o,b≠d→HW b = some o→H4 b = some o:=fun b o nb e=>k4 _ _ nb (sxe _ _ e)
   refine ⟨_,_,rfl,rfl,_,rfl,?_⟩
   refine ite2 (fun _=>?_) (fun _=>?_)
   ·have h4:=k04 _ _ hpd hw
    have h4t:=k04 _ _ htd hwt
    refine ⟨_,rfl,_,rfl,_,rfl,_,_,_,_,rfl,rfl,SqL.of h4,zna,t,ps,c,rfl,h4t,by omega,fun c2 H5 hc2 s5 h5=>?_⟩
    have hcne : zaM ps c (ps.length + 1)≠[]:=fun z=>by
     rw [z] at cne
     cases cne
    have hcmem:=fun m=>zaC (ps:=ps) (k:=c) (n:=ps.length + 1) (j:=m)
    have hcl:=zcM ps c (ps.length + 1)
    generalize zaM ps c (ps.length + 1) = cs at hcne h5 hcmem hcl
    have hpos : 0 < cs.length:=ycs.mpr hcne
    have h5p:=s5 _ _ h4
    have s45:=s4.same s5
    refine ⟨_,rfl,.inl ⟨rfl,_,SqL.of h5p⟩,_,rfl,_,rfl,_,rfl,_,_,rfl,.inl (SqL.of h5),d,L,_,rfl,by rw [yab]; omega,s45,fun v2 H6 v20 v21 k6 s6=>?_⟩
    rw [yab] at v21
    obtain ⟨j,rfl⟩:=zj1 v20
    have hj : j < cs.length:=by omega
    have h6:=k6 _ _ hpd h5p
    have hc2d : c2≠d:=nd s4 hc2
    refine ⟨_,_,_,_,rfl,rfl,SqL.of (k6 _ _ hc2d h5),zd6 hj,?_⟩
    have hm : cs.getD j 0∈cs:=by
     rw [yad,yac hj]
     exact yaB hj
    generalize cs.getD j 0 = ch at hm ⊢
    obtain ⟨hchn,hchp⟩:=(hcmem ch).mp hm
    have hlt:=(zaL hT hchp).1
    refine ⟨_,_,_,rfl,rfl,h6,zan (by rw [yab,yah,yaL]; omega),?_⟩
    have k06 : ∀ b o,b≠d→HW b = some o→H6 b = some o:=fun b o nb e=>k6 _ _ nb (s5 _ _ (k04 _ _ nb e))
    refine ⟨⟨us ++ [c],ch,_,rfl,?_,?_,hchn,?_,?_,fun b o n1 n2 e=>?_,?_⟩,?_⟩
    ·rw [zac,yal (l₂:=[ch])]
     rfl
    ·rw [yah,yaL]
     omega
    ·exact zm2 hch hchp
    ·intro x hx
     rcases yan.mp hx with z | z
     ·exact hkn x z
     ·rw [yao.mp z]
      exact hchn
    ·rw [zag n2]
     exact k06 _ _ n1 (kw _ _ n1 n2 e)
    ·exact LS.put hs hp (fun b o n1 n2 e=>k06 _ _ n1 (kw _ _ n1 n2 e)) s6
    ·show (match upd H6 p _ p with | some (.lst xs)=>1000 - xs.length | _=>0) < (match HW p with | some (.lst xs)=>1000 - xs.length | _=>0)
     rw [zac,hw]
     show 1000 - (((us ++ [c]).map nV) ++ [nV ch]).length < 1000 - ((us ++ [c]).map nV).length
     rw [yah,yab,yah,yaL,yaL]
     omega
   ·exact done k04 s4
  ·refine iteF ?_
   exact done (fun b o _ e=>sxe _ _ e) swe
 ·refine zly (fun σ H Q Q' m h=>?_) (fun σ H Q Q' m h=>?_)
  ·obtain ⟨y1,e1,y2,e2,y3,e3,y4,y5,y6,y7,e4,e5,e6,e7,t,ps,k,e8,e9,e10,q⟩:=h
   refine ⟨y1,e1,y2,e2,y3,e3,y4,y5,y6,y7,e4,e5,e6,e7,t,ps,k,e8,e9,e10,fun p H' a1 a2 a3=>?_⟩
   obtain ⟨z1,z2⟩:=q p H' a1 a2 a3
   refine ⟨z1,fun e he=>?_⟩
   obtain ⟨as,bs,g1,g2,b,g3,q⟩:=z2 e he
   exact ⟨as,bs,g1,g2,b,g3,m _ _ q⟩
  ·obtain ⟨y1,e1,d,L,z,e2,e3,e4,q⟩:=h
   refine ⟨y1,e1,d,L,z,e2,e3,e4,fun v H' a1 a2 a3 a4=>?_⟩
   obtain ⟨i,j,g1,g2,b,g3,q⟩:=q v H' a1 a2 a3 a4
   exact ⟨i,j,g1,g2,b,g3,m _ _ q⟩
 rintro σ HW ⟨w,x3,rfl,W,kw,sw⟩
 refine ⟨_,rfl,?_⟩
 exact q p w HW hp W (fun b o nb e=>kw _ _ nb (zab e hp) e) sw
def zlL (K : Frag) : Sp:=fun vs H Q _=>∃ (d L st : Addr) (ps : List Nat) (rows : List (List Int)) (t rs : Addr) (as : List Addr),vs = [.ref d,.ref st]∧za2 H st ps rows t rs as∧LS K L d H∧
 ∀ (key : Int) (H' : Hp),Keep d H H'→LS K L d H'→Q (.int key) H'
theorem znS (T : Txt K mg) (D_l_asked_key : DF K mg "_law_asked_key" zb0 zbN) (F_l_every : FC P w K mg base 1 "_law_every" zdQ (zlJ K)) (F_l_take : FC P w K mg base 2 "_law_take" zbo (zft K)) (F_l_key : FC P w K mg base 3 "_law_key" zeL (znp K)) : FC P w K mg base 4 "_law_asked_key" zbN (zlL K):=by
 refine D_l_asked_key.ok sc_l_asked_key (fun vs H Q E h=>?_) (fun f cdv A outer s H vs Q E hr h=>?_)
 ·obtain ⟨d,L,st,ps,rows,t,rs,as,rfl,_⟩:=h
  rfl
 obtain ⟨d,L,st,ps,rows,t,rs,as,rfl,S,hs,q⟩:=h
 have ndT : ∀ {H' : Hp} {a : Addr} {o : List V},LS K L d H'→H' a = some (.tup o)→a≠d:=fun {H' a o} s e z=>by
  obtain ⟨_,_,_,e2,_⟩:=s.ex
  rw [← z,e] at e2
  cases e2
 refine ⟨_,(zaf (zap (i:=2) sc_l_asked_key.nd rfl (Or.inl rfl) (zaA F_l_every hr (zaa (zaz zaW (pv 1) zae (fun _ _=>rfl)) zad)))
   (zbk (zbS (PW.pt (zkH (zaw (zoE (List Int) (huD hr)) (pv 2) (zbp zad) (zaH _)) (zh6 (zaw zdr (zaA F_l_take hr (zaa (pv 0) (zaa zae zad))) zae (zaH _))))) (zah (zau (zaA F_l_key hr (zaa (pv 0) zad)))) zaO)
   (zaf (zap (i:=3) sc_l_asked_key.nd rfl (Or.inl rfl) (zas zbq (zas zaZ (zaz zax (pv 2) (zaA F_l_take hr (zaa (pv 0) (zaa (zaq zar rfl T.m_len boot_len (zaa (pv 2) zad)) zad))) (fun _ _=>rfl)) (zaA F_l_take hr (zaa (pv 0) (zaa zae zad)))) zae))
   (zah (zau (zaq (ze5 rfl) rfl T.m_max boot_max (zaa (zas zbq zae (zas zf2 zae zae)) (zaa (zaq (ziD rfl) rfl T.m_min boot_min (zaa (zas zbq (zas zf2 zae zae) zae) (zaa (pv 3) zad))) zad)))))))),?_⟩
 refine ⟨_,rfl,_,_,_,_,rfl,rfl,SqT.of S.st,rfl,rs,as,rows,rfl,S.rs,S.at_,by have:=S.keys; omega,fun p H1 s1 h1 hp=>?_⟩
 have hs1:=hs.same s1
 have hpd : p≠d:=fun z=>by
  obtain ⟨_,_,_,e2,_⟩:=hs.ex
  rw [← z,hp] at e2
  cases e2
 have hfl:=zir rows
 have hkeys:=S.keys
 generalize rows.flatten = fl at h1 hfl
 refine ⟨fun σ' H'=>σ' = [some (.ref d),some (.ref st),some (.ref p),none]∧H' p = some (.lst (fl.map V.int))∧fl≠[]∧Keep d H H'∧LS K L d H',?_,?_⟩
 ·refine ⟨_,rfl,(by show 0≤sizeLine; decide),fun e he=>?_⟩
  have se:=zai he (.lst [])
  refine ⟨fl,[],⟨_,_,rfl,SqL.of (se _ _ h1),zam.ints⟩,⟨_,_,rfl,SqL.of zac,.nil⟩,_,rfl,?_⟩
  have h2:=se _ _ h1
  have s2:=hs1.same se
  have k2 : Keep d H (upd H1 e (.lst [])):=fun b o _ z=>se _ _ (s1 _ _ z)
  generalize upd H1 e (.lst []) = H2 at h2 s2 k2 ⊢
  have ret : ∀ {H3 : Hp},Keep d H H3→LS K L d H3→znp K [.ref d] H3 Q E0:=fun {H3} k s=>⟨d,L,rfl,s,fun v H' _ _ k' s'=>q v H' (fun b o nb z=>k' _ _ nb (k _ _ nb z)) s'⟩
  refine ite2 (fun _=>?_) (fun c=>?_)
  ·refine iteT ?_
   exact ⟨_,rfl,ret k2 s2⟩
  ·have hne : fl≠[]:=fun z=>c (yam z)
   refine ⟨_,rfl,d,L,4,rfl,by decide,s2,fun v H3 _ _ k3 s3=>⟨rfl,_,rfl,?_⟩⟩
   have k03 : Keep d H H3:=fun b o nb z=>k3 _ _ nb (k2 _ _ nb z)
   refine ite2 (fun _=>?_) (fun _=>?_)
   ·exact ⟨_,rfl,ret k03 s3⟩
   ·exact ⟨rfl,k3 _ _ hpd h2,hne,k03,s3⟩
 rintro σ' H2 ⟨rfl,h2,hne,k2,s2⟩
 have hpos : 0 < fl.length:=ycs.mpr hne
 refine ⟨_,rfl,_,rfl,_,rfl,_,_,rfl,.inl (SqL.of h2),d,L,_,rfl,by rw [yab]; omega,s2,fun v H3 v0 v1 k3 s3=>?_⟩
 rw [yab] at v1
 obtain ⟨j,rfl⟩:=zj1 v0
 have hat : atI (fl.map V.int) (j : Int) = some (.int (fl.getD j 0)):=zbh (by rw [yaj,yac (show j < fl.length by omega),yad,yac (show j < fl.length by omega)]; rfl)
 refine ⟨_,_,_,_,rfl,rfl,SqL.of (k3 _ _ hpd h2),hat,_,rfl,d,L,3,rfl,by decide,s3,fun v2 H4 _ _ k4 s4=>?_⟩
 refine ⟨_,_,rfl,rfl,_,_,rfl,rfl,?_⟩
 refine ⟨_,_,rfl,rfl,⟨by decide,by decide,by decide⟩,_,_,rfl,rfl,_,_,rfl,rfl,⟨by decide,by decide,by decide⟩,_,_,rfl,rfl,_,rfl,_,_,rfl,_,_,rfl,?_⟩
 exact q _ _ (fun b o nb e=>k4 _ _ nb (k3 _ _ nb (k2 _ _ nb e))) s4
abbrev zrp : Str:=(envOfC ("search_for_key" : Str) (zak zaT) 0 0 .none).qual ++ "<lambda>"
abbrev zpC : Pos:=⟨148,48,148,89⟩
structure TabS (mF mS : Addr) (H : Hp) : Prop where
 f : zbc H mF zf6 zmq
 s : zbc H mS zpC zrp
 n : mF≠mS
theorem TabS.ext {mF mS : Addr} {H H' : Hp} (x : TabS mF mS H) (e : Ext H H') : TabS mF mS H':=⟨x.f.ext e,x.s.ext e,x.n⟩
def zjM (K : Frag) (mF mS : Addr) : Sp:=fun vs H Q _=>∃ (st t rs pf wa : Addr) (key : Int) (ps : List Nat) (rows : List (List Int)) (as qs : List Addr) (wy : List Nat),vs = [.ref t,.ref pf,.ref wa,.int key]∧za2 H st ps rows t rs as∧H pf = some (.lst (qs.map V.ref))∧zay K H ps rows (List.range (ps.length + 1)) qs∧zej H wa ps wy∧TabS mF mS H∧
 ∀ (D : Addr) (zs : List V) (H' : Hp),(∀ o,(∀ tab,o≠.tbl tab)→H D≠some o)→Kp0 H H'→TabS mF mS H'→H' D = some (.lst zs)→zam K H' (wy.map fun k=>(((zav (zaj ps rows k) key : Nat) : Int),((ownB rows k key : Nat) : Int))) zs→Q (.ref D) H'
theorem zmf (T : Txt K mg) {mc mp mF : Addr} (D_search_for_key : DFT K mg "search_for_key" zaT zbl mc mp) (hBM : BMAt mg base) (F_bridges_of : FC P w K mg base 2 "bridges_of" zb4 (zoy K)) (F_search : ∀ b,Sub K mg base b→FC P w K mg b 6 "search" zeH (zjC P w K mg b mF)) : FC P w K mg base 7 "search_for_key" zbl (zjM K mF mp):=by
 refine D_search_for_key.ok sc_search_for_key (fun vs H Q E h=>?_) (fun f A outer s H vs Q E hr h=>?_)
 ·obtain ⟨st,t,rs,pf,wa,key,ps,rows,as,qs,wy,rfl,_⟩:=h
  rfl
 obtain ⟨st,t,rs,pf,wa,key,ps,rows,as,qs,wy,rfl,S,hpf,hF,W,TT,q⟩:=h
 refine ⟨_,(zah (zau (zh8 (kf:=1) F_search hr (zaA F_bridges_of hr (zaa (pv 0) (zaa (pv 1) zad))) (pv 2) (zoI (osc:=zak zaT) (N:=["tree","fulls","way","key"]) (ps:=["knot","at"]) (caps:=["key","fulls"]) (cap:=[3,1]) ⟨rfl,rfl,rfl,by decide +kernel,by decide +kernel,by decide +kernel,by decide +kernel⟩ (by decide +kernel) (by decide +kernel) rfl rfl rfl rfl (fun _ _ _ _ us hl=>match us,hl with | [_,_],_=>rfl) (fun _=>rfl)) rfl D_search_for_key.hd hBM (fun b _ _ _ _ _ _ _ S hr=>(zlY zhs (zaz (zee (K:=K)) (zaz (zfU (K:=K)) (zaz (zfU (K:=K)) (pv 3) (pv 0) (fun _ _=>rfl)) (pv 1) (fun _ _=>rfl)) zae (fun _ _=>rfl)) (pv 2) (zaH _)))))),?_⟩
 refine ⟨_,rfl,_,rfl,st,ps,rows,t,rs,as,pf,qs,rfl,S,hpf,hF,fun br xs H3 hbr s3 h3 hB=>?_⟩
 have T3:=TT.ext s3.ext
 refine ⟨_,rfl,T3.s,[.int key,.ref pf],rfl,?_,fun bs g c' H4 hg hT4 hC SB hV=>?_⟩
 ·intro j i v h1 h2
  rcases j with _ | _ | j
  ·cases h1; cases h2; rfl
  ·cases h1; cases h2; rfl
  ·cases h1
 have nmS : ∀ {x : Addr} {o : HO},H3 x = some o→(∀ tab,o≠.tbl tab)→x≠mp:=fun {x o} e n z=>by
  obtain ⟨tab,e2⟩:=zg4 T3.s
  rw [← z,e] at e2
  exact n _ (yae e2)
 have k34 : Kp0 H3 H4:=fun b o n e=>hg _ _ (nmS e n) e
 have t4 : zbc H4 mF zf6 zmq:=T3.f.gro hg T3.n (zg4 T3.s)
 have nm1 : ∀ {x : Addr} {o : HO},H4 x = some o→(∀ tab,o≠.tbl tab)→x≠mF:=fun {x o} e n z=>by
  obtain ⟨tab,e2⟩:=zg4 t4
  rw [← z,e] at e2
  exact n _ (yae e2)
 have kp04 : Kp0 H H4:=Kp0.trans (.of s3) k34
 have h4:=kp04.lst hpf
 have hF4:=zkm kp04 hF
 have AF : AskF P w K mg bs g [] mF (fun b=>b≠mF∧H4 b≠none) (fun _ H'=>Gro mF H4 H') ps rows key:=by
  refine ⟨fun L Ha Hb hR hk b o n e=>hk b o ⟨n,by rw [e]; exact fun z=>nomatch z⟩ (hR b o n e),fun L Ha b hR hb=>?_,fun L Ha hR a ha=>absurd ha ya6,fun z=>z.1 rfl,_,_,hV,fun kn i L Ha Q hkn hi _ hR hQ=>⟨rfl,hR _ _ (nm1 hC (fun _ z=>nomatch z)) hC,?_⟩⟩
  ·cases e : H4 b with
   | none=>exact absurd e hb.2
   | some o=>
    rw [hR b o hb.1 e]
    exact fun z=>nomatch z
  ·obtain ⟨qk,hqk,wk,hwk,hak⟩:=zbG hF4 hkn
   have hge : (zaj ps rows kn)[i]? = some ((zaj ps rows kn).getD i (0,0)):=by
    rw [yad,yac hi]
    rfl
   obtain ⟨v,hv,bb,x1,x2,rfl,hb,e1,e2⟩ : ∃ v,wk[i]? = some v∧hasP K H4 ((zaj ps rows kn).getD i (0,0)) v:=zcI hak hge
   have e1' : x1 = .int ((zaj ps rows kn).getD i (0,0)).1:=e1
   subst e1'
   have ha:=hR _ _ (nm1 h4 (fun _ z=>nomatch z)) h4
   have hwa:=hR _ _ (nm1 hwk (fun _ z=>nomatch z)) hwk
   have hba:=hR _ _ (nm1 hb (fun _ z=>nomatch z)) hb
   refine ⟨_,rfl,_,rfl,_,_,_,_,rfl,rfl,SqL.of ha,zbh (v:=.ref qk) (by rw [yaj,hqk]; rfl),_,rfl,_,_,_,_,rfl,rfl,SqL.of hwa,zbh hv,_,_,_,_,rfl,rfl,SqT.of hba,rfl,_,rfl,_,_,rfl,rfl,?_⟩
   exact hQ _ hR fun _ _ _ h=>h
 have SE : zbV [] mF (fun _ H'=>Gro mF H4 H') ps rows br xs [] H4:=⟨Gro.refl _ _,fun a ha=>absurd ha ya6,k34.lst h3,ya6,zrz k34 hB,t4⟩
 refine ⟨br,wa,g,xs,ps,rows,wy,key,[],_,_,[],rfl,AF,SE,S.T,S.R,S.few,zju kp04 W,ya6,yaD _,(fun k hk=>by have:=zdv S.T S.len (rows:=rows) hk; have:=S.keys; omega),fun D zs H5 L' S5 k5 hDn h5 hA _=>?_⟩
 have k45 : Gro mF H4 H5:=fun b o n e=>k5 b o ya6 n e
 have kp45 : Kp0 H4 H5:=fun b o n e=>k45 _ _ (nm1 e n) e
 refine q D zs H5 (fun o n e=>?_) (kp04.trans kp45) ⟨S5.tb,hT4.gro k45 (Ne.symm TT.n) (zg4 t4),TT.n⟩ h5 hA
 have:=kp04 _ _ n e
 rw [hDn] at this
 cases this
def ze7 (H : Hp) (ps : List Nat) (rows : List (List Int)) (key : Int) (k : Nat) (z : V) : Prop:=∃ t,z = .ref t∧H t = some (.tup [.int (k : Nat),.int ((zav (zaj ps rows k) key : Nat) : Int),.int ((ownB rows k key : Nat) : Int)])
theorem zlr {H H' : Hp} {ps : List Nat} {rows : List (List Int)} {key : Int} {ks : List Nat} {zs : List V} (k : ∀ b us,H b = some (.tup us)→H' b = some (.tup us)) (h : Paired (ze7 H ps rows key) ks zs) : Paired (ze7 H' ps rows key) ks zs:=zaG (fun _ _ ⟨t,e1,e2⟩=>⟨t,e1,k _ _ e2⟩) h
def zlD (K : Frag) (mF mS : Addr) : Sp:=fun vs H Q _=>∃ (st wa : Addr) (key : Int) (ps : List Nat) (rows : List (List Int)) (t rs : Addr) (as : List Addr) (wy : List Nat),vs = [.ref st,.ref wa,.int key]∧za2 H st ps rows t rs as∧zej H wa ps wy∧TabS mF mS H∧
 ∀ (D : Addr) (zs : List V) (H' : Hp),(∀ o,(∀ tab,o≠.tbl tab)→H D≠some o)→Kp0 H H'→TabS mF mS H'→H' D = some (.lst zs)→Paired (ze7 H' ps rows key) wy zs→Q (.ref D) H'
theorem znG (T : Txt K mg) {mF mS : Addr} (D_paper_of : DF K mg "paper_of" zdD zcV) (F_need_way : FC P w K mg base 4 "need_way" zcW (zot K)) (F_full_rows : FC P w K mg base 8 "full_rows" zcy (zlH K)) (F_search_for_key : FC P w K mg base 7 "search_for_key" zbl (zjM K mF mS)) : FC P w K mg base 9 "paper_of" zcV (zlD K mF mS):=by
 refine D_paper_of.ok sc_paper_of (fun vs H Q E h=>?_) (fun f cdv A outer s H vs Q E hr h=>?_)
 ·obtain ⟨st,wa,key,ps,rows,t,rs,as,wy,rfl,_⟩:=h
  rfl
 obtain ⟨st,wa,key,ps,rows,t,rs,as,wy,rfl,S,W,TT,q⟩:=h
 refine ⟨_,(zaf (za7 (zaA F_need_way hr (zaa (zaz zaW (pv 0) zae (fun _ _=>rfl)) (zaa (pv 1) zad))))
   (zaf (zap (i:=3) sc_paper_of.nd rfl (Or.inl rfl) (zaA F_search_for_key hr (zaa (zaz zaW (pv 0) zae (fun _ _=>rfl)) (zaa (zaA F_full_rows hr (zaa (pv 0) zad)) (zaa (pv 1) (zaa (pv 2) zad))))))
   (zah (zau (zbJ (N:=["knot","each"]) (own:=2) (cap:=[]) rfl (zjT rfl T.m_zip (zaa (pv 1) (zaa (pv 3) zad))) ⟨rfl,rfl,rfl,rfl,rfl,rfl⟩ (fun _ _ _ _ _=>(zlW (K:=K) (n:=2) rfl (zaP (zal (i:=0) (show List.Nodup (["knot","each"] : List Str) by decide +kernel) rfl (Or.inl rfl)) (zaP (zal (i:=1) (show List.Nodup (["knot","each"] : List Str) by decide +kernel) rfl (Or.inl rfl)) zcZ)))) (fun _ _ _ _ _=>zbH) (fun _ _ _ _ _=>(zbe (zaa (pv 0) (zaa (zaz (zee (K:=K)) (pv 1) zae (fun _ _=>rfl)) (zaa (zaz (zee (K:=K)) (pv 1) zae (fun _ _=>rfl)) zad)))))))))),?_⟩
 have hwl:=W.len
 refine ⟨_,rfl,_,_,_,_,rfl,rfl,SqT.of S.st,rfl,_,rfl,t,wa,ps,wy,rfl,S.tr,by have:=S.few; omega,W,?_⟩
 refine ⟨_,rfl,_,_,_,_,rfl,rfl,SqT.of S.st,rfl,_,rfl,st,ps,rows,t,rs,as,rfl,S,fun pf qs H1 hpf s1 h1 _ _ _ hF=>?_⟩
 refine ⟨_,rfl,_,rfl,st,t,rs,pf,wa,key,ps,rows,as,qs,wy,rfl,S.same s1,h1,hF,W.same s1,TT.ext s1.ext,fun D zs H2 hDn k2 T2 h2 hA=>?_⟩
 have kp2 : Kp0 H H2:=Kp0.trans (.of s1) k2
 have W2:=zju kp2 W
 have hzl:=hA.length
 rw [yab] at hzl
 refine ⟨_,rfl,_,rfl,wa,D,rfl,⟨_,SqL.of W2.at_⟩,⟨_,SqL.of h2⟩,fun D2 hD2=>?_⟩
 refine zkq (xs:=wy.map nV) (ys:=zs) (by rw [yab]; exact hzl) (fun i σ H3=>∃ (x0 x1 : Option V) (us : List V),σ = [x0,x1]∧H3 D2 = some (.lst us)∧Paired (ze7 H3 ps rows key) (wy.take i) us∧But D2 H2 H3) ?_ ?_ ?_ ?_
 ·exact ⟨_,_,[],rfl,zac,.nil,fun b o n e=>by rw [zag n]; exact e⟩
 ·rintro i σ H3 _ ⟨x0,x1,us,rfl,_,_,k3⟩
  exact ⟨k3.sq (SqL.of W2.at_) hD2,k3.sq (SqL.of h2) hD2⟩
 ·rintro i m x y σ H3 r hx hy hm ⟨x0,x1,us,rfl,h3,hP,k3⟩ hr
  have hi:=(yag.mp hx).1
  rw [yab] at hi hm
  rw [zhR hi] at hx
  obtain rfl:=yae hx
  have s23 : Same H2 H3:=fun b o e=>k3 b o (zab e hD2) e
  obtain ⟨e,he,hh⟩:=hA.get hy
  rw [yaj,yac hi] at he
  obtain rfl:=yae he
  obtain ⟨a,y1,y2,rfl,ha,e1,e2⟩:=(show hasP K H2 _ y from hh)
  have e1' : y1 = .int ((zav (zaj ps rows wy[i]) key : Nat) : Int):=e1
  have e2' : y2 = .int ((ownB rows wy[i] key : Nat) : Int):=e2
  subst e1' e2'
  have hul:=Paired.length hP
  rw [yak] at hul
  have sr:=zai hr (.tup [nV (wy.getD i 0),.ref a])
  refine ⟨r,_,rfl,SqT.of zac,rfl,_,_,rfl,_,_,rfl,rfl,?_⟩
  have h4a:=sr _ _ (s23 _ _ ha)
  refine zo1 (iteT ?_)
  refine ⟨_,rfl,_,rfl,_,_,_,_,rfl,rfl,SqT.of h4a,rfl,_,rfl,_,_,_,_,rfl,rfl,SqT.of h4a,rfl,(by show 3≤sizeLine; decide),fun p hp=>?_⟩
  have eg : wy.getD i 0 = wy[i]:=by rw [yad,yac hi]; rfl
  have hpp : upd (upd H3 r (.tup [nV (wy.getD i 0),.ref a])) p (.tup [nV (wy.getD i 0),.int ((zav (zaj ps rows wy[i]) key : Nat) : Int),.int ((ownB rows wy[i] key : Nat) : Int)]) p = some (.tup [nV (wy.getD i 0),.int ((zav (zaj ps rows wy[i]) key : Nat) : Int),.int ((ownB rows wy[i] key : Nat) : Int)]):=zac
  have s35:=sr.trans (zai hp (.tup [nV (wy.getD i 0),.int ((zav (zaj ps rows wy[i]) key : Nat) : Int),.int ((ownB rows wy[i] key : Nat) : Int)]))
  generalize upd (upd H3 r (.tup [nV (wy.getD i 0),.ref a])) p (.tup [nV (wy.getD i 0),.int ((zav (zaj ps rows wy[i]) key : Nat) : Int),.int ((ownB rows wy[i] key : Nat) : Int)]) = H5 at hpp s35 ⊢
  have h5D:=s35 _ _ h3
  have nD : ∀ {x : Addr} {us : List V},H5 x = some (.tup us)→x≠D2:=fun {x us} h z=>by
   rw [z,h5D] at h
   cases h
  refine ⟨_,h5D,zan (by omega),m - 1,by omega,by rw [yab]; omega,_,_,us ++ [.ref p],rfl,zac,?_,fun b o n e=>by rw [zag n]; exact s35 _ _ (k3 b o n e)⟩
  rw [yaF hi]
  refine zci (zaG (fun _ _ ⟨t,e1,e2⟩=>⟨t,e1,by rw [zag (nD (s35 _ _ e2))]; exact s35 _ _ e2⟩) hP) ⟨p,rfl,?_⟩
  rw [zag (nD hpp),hpp,eg]
 rintro σ H3 ⟨x0,x1,us,rfl,h3,hP,k3⟩
 rw [yab,yaq (yaa _)] at hP
 have s23 : Same H2 H3:=fun b o e=>k3 b o (zab e hD2) e
 refine q D2 us H3 (fun o n e=>?_) (kp2.trans (.of s23)) (T2.ext s23.ext) h3 hP
 have:=kp2 _ _ n e
 rw [hD2] at this
 cases this
def cntB (l : List Int) (key : Int) : Nat:=(l.filter fun x=>decide (x < key)).length
def zjK (K : Frag) : Sp:=fun vs H Q _=>∃ (r : Addr) (row : List Int) (key : Int),vs = [.ref r,.int key]∧(H r = some (.lst (row.map V.int))∨H r = some (.tup (row.map V.int)))∧row.length≤900∧∀ H',Same H H'→Q (.int (cntB row key : Nat)) H'
theorem zmb (T : Txt K mg) (D_l_below : DF K mg "_law_below" zeA zdR) : FC P w K mg base 1 "_law_below" zdR (zjK K):=by
 refine D_l_below.ok sc_l_below (fun vs H Q E h=>?_) (fun f cdv A outer s H vs Q E hr h=>?_)
 ·obtain ⟨r,row,key,rfl,_⟩:=h
  rfl
 obtain ⟨r,row,key,rfl,h0,hz,q⟩:=h
 refine ⟨_,(zah (zau (zaq zar rfl T.m_len boot_len (zaa (zbJ (N:=["_law_one","_law_key_here"]) (own:=1) (cap:=[1]) rfl (zqv (pv 0)) ⟨rfl,rfl,rfl,rfl,rfl,rfl⟩ (fun _ _ _ _ _=>(zal (i:=0) (show List.Nodup (["_law_one","_law_key_here"] : List Str) by decide +kernel) rfl (Or.inl rfl))) (fun _ _ _ _ _=>(zdh (zaw zhs (pv 0) (pv 1) (zaH _)))) (fun _ _ _ _ _=>(pv 0))) zad)))),?_⟩
 have hs : ∀ (D : Addr) (i m : Nat) (x : V) (σ : L2.St) (H2 : Hp),(row.map V.int)[i]? = some x→i + m = (row.map V.int).length→(∃ x0 : Option V,σ = [x0,some (.int key)]∧H2 D = some (.lst (((row.take i).filter fun x=>decide (x < key)).map V.int))∧But D H H2)→ziu 0 x σ H2 fun σ2 H2=>zp7 (tOp (rI0 fun i j=>.bl (decide (i < j))) (tVar 0) (tVar 1)) σ2 H2 fun b H3=>if b = true then tVar 0 σ2 H3 fun y H4=>∃ zs,H4 D = some (.lst zs)∧zs.length < sizeLine∧∃ m',m' < m∧i + 1 + m' = (row.map V.int).length∧∃ x0 : Option V,σ2 = [x0,some (.int key)]∧upd H4 D (.lst (zs ++ [y])) D = some (.lst (((row.take (i + 1)).filter fun x=>decide (x < key)).map V.int))∧But D H (upd H4 D (.lst (zs ++ [y]))) else ∃ m',m' < m∧i + 1 + m' = (row.map V.int).length∧∃ x0 : Option V,σ2 = [x0,some (.int key)]∧H3 D = some (.lst (((row.take (i + 1)).filter fun x=>decide (x < key)).map V.int))∧But D H H3:=by
  rintro D i m x σ H2 hx hm ⟨x0,rfl,h2,k2⟩
  rw [yaj] at hx
  obtain ⟨y,hy,rfl⟩:=ybk.mp hx
  obtain ⟨hi,rfl⟩:=yag.mp hy
  rw [yab] at hm
  have hfl:=ybu (fun x=>decide (x < key)) (row.take i)
  rw [yak] at hfl
  rw [yaF hi,ya2]
  refine ⟨_,rfl,_,rfl,_,_,rfl,rfl,_,rfl,?_⟩
  refine ite2 (fun c=>?_) (fun c=>?_)
  ·refine ⟨_,rfl,_,h2,zan (by rw [yab]; omega),m - 1,by omega,by rw [yab]; omega,_,rfl,?_,fun b o n e=>by rw [zag n]; exact k2 b o n e⟩
   have ef : [row[i]].filter (fun x=>decide (x < key)) = [row[i]]:=ya8 (p:=fun x=>decide (x < key)) c
   rw [zac,yal,ef]
   rfl
  ·refine ⟨m - 1,by omega,by rw [yab]; omega,_,rfl,?_,k2⟩
   have ef : [row[i]].filter (fun x=>decide (x < key)) = []:=ybj (p:=fun x=>decide (x < key)) c
   rw [h2,ef,yaE]
 have hd : ∀ (D : Addr),H D = none→∀ (σ : L2.St) (H2 : Hp),(∃ x0 : Option V,σ = [x0,some (.int key)]∧H2 D = some (.lst (((row.take (row.map V.int).length).filter fun x=>decide (x < key)).map V.int))∧But D H H2)→∃ p ys,[V.ref D] = [.ref p]∧(SqL K H2 p ys∨SqT K H2 p ys)∧Q (.int (ys.length : Nat)) H2:=by
  rintro D hD σ H2 ⟨x0,rfl,h2,k2⟩
  rw [yab,yaq (yaa _)] at h2
  refine ⟨D,_,rfl,.inl (SqL.of h2),?_⟩
  have q2:=q H2 fun b o e=>k2 b o (zab e hD) e
  unfold cntB at q2
  rw [yab]
  exact q2
 rcases h0 with h0 | h0
 ·refine ⟨_,rfl,r,rfl,.inl ⟨⟨_,SqL.of h0⟩,fun D hD=>?_⟩⟩
  exact zbU (xs:=row.map V.int) (fun i σ H2=>∃ x0 : Option V,σ = [x0,some (.int key)]∧H2 D = some (.lst (((row.take i).filter fun x=>decide (x < key)).map V.int))∧But D H H2) ⟨_,rfl,zac,fun b o n e=>by rw [zag n]; exact e⟩ (fun i σ H2 _ ⟨x0,_,_,k2⟩=>k2.sq (SqL.of h0) hD) (hs D) (hd D hD)
 ·refine ⟨_,rfl,r,rfl,.inr ⟨⟨_,SqT.of h0⟩,fun D hD=>?_⟩⟩
  exact zdZ (xs:=row.map V.int) (fun i σ H2=>∃ x0 : Option V,σ = [x0,some (.int key)]∧H2 D = some (.lst (((row.take i).filter fun x=>decide (x < key)).map V.int))∧But D H H2) ⟨_,rfl,zac,fun b o n e=>by rw [zag n]; exact e⟩ (fun i σ H2 _ ⟨x0,_,_,k2⟩=>SqT.of (k2 _ _ (zab h0 hD) h0)) (hs D) (hd D hD)
def zjI (K : Frag) : Sp:=fun vs H Q _=>∃ (st pf wa : Addr) (key : Int) (ps : List Nat) (rows : List (List Int)) (t rs : Addr) (as qs : List Addr) (wy : List Nat),vs = [.ref st,.ref pf,.ref wa,.int key]∧za2 H st ps rows t rs as∧H pf = some (.lst (qs.map V.ref))∧zay K H ps rows (List.range (ps.length + 1)) qs∧zej H wa ps wy∧
 ∀ (D : Addr) (zs : List V) (H' : Hp),H D = none→Same H H'→H' D = some (.lst zs)→Paired (ze7 H' ps rows key) wy zs→Q (.ref D) H'
theorem zl8 (T : Txt K mg) (D_l_paper : DF K mg "_law_paper" zev zdM) (F_l_below : FC P w K mg base 1 "_law_below" zdR (zjK K)) : FC P w K mg base 2 "_law_paper" zdM (zjI K):=by
 refine D_l_paper.ok sc_l_paper (fun vs H Q E h=>?_) (fun f cdv A outer s H vs Q E hr h=>?_)
 ·obtain ⟨st,pf,wa,key,ps,rows,t,rs,as,qs,wy,rfl,_⟩:=h
  rfl
 obtain ⟨st,pf,wa,key,ps,rows,t,rs,as,qs,wy,rfl,S,hpf,hF,W,q⟩:=h
 refine ⟨_,(zaf (zap (i:=4) sc_l_paper.nd rfl (Or.inl rfl) (zbp zad))
   (zaf (zaK PassesOwn.never rfl (zbC (pv 2)) (zal (i:=5) sc_l_paper.nd rfl (Or.inl rfl)) (zaf (zap (i:=6) sc_l_paper.nd rfl (Or.inl rfl) (zaA F_l_below hr (zaa (zbJ (N:=["_law_entry"]) (own:=1) (cap:=[]) rfl (zbC (zaz zax (pv 1) (pv 5) (fun _ _=>rfl))) ⟨rfl,rfl,rfl,rfl,rfl,rfl⟩ (fun _ _ _ _ _=>(zal (i:=0) (show List.Nodup (["_law_entry"] : List Str) by decide +kernel) rfl (Or.inl rfl))) (fun _ _ _ _ _=>zbH) (fun _ _ _ _ _=>(zaz (zee (K:=K)) (pv 0) zae (fun _ _=>rfl)))) (zaa (pv 3) zad))))
   (zah (za7 (zdo F.plainAttrs_list F.slot_list_append F.type_list_append zaI (pv 4) (zaa (zbe (zaa (pv 5) (zaa (pv 6) (zaa (zaA F_l_below hr (zaa (zaz zaW (zaz zaW (pv 0) zae (fun _ _=>rfl)) (pv 5) (fun _ _=>rfl)) (zaa (pv 3) zad))) zad)))) zad))))))
   (zah (zau (pv 4))))),?_⟩
 have hwl:=W.len
 refine ⟨(by show 0≤sizeLine; decide),fun p hp=>?_⟩
 have sp:=zai hp (.lst [])
 refine ⟨_,rfl,wa,rfl,⟨_,SqL.of (sp _ _ W.at_)⟩,?_⟩
 refine zc5 (xs:=wy.map nV) (fun i σ H2=>∃ (x5 x6 : Option V) (us : List V),σ = [some (.ref st),some (.ref pf),some (.ref wa),some (.int key),some (.ref p),x5,x6]∧H2 p = some (.lst us)∧Paired (ze7 H2 ps rows key) (wy.take i) us∧But p H H2) ?_ ?_ ?_ ?_
 ·exact ⟨_,_,[],rfl,zac,.nil,fun b o n e=>by rw [zag n]; exact e⟩
 ·rintro i σ H2 _ ⟨x5,x6,us,rfl,_,_,k2⟩
  exact k2.sq (SqL.of W.at_) hp
 ·rintro i x σ H2 hx ⟨x5,x6,us,rfl,h2,hP,k2⟩
  have hi:=(yag.mp hx).1
  rw [yab] at hi
  rw [zhR hi] at hx
  obtain rfl:=yae hx
  have hkn:=W.kn _ (zjv hi)
  have ewy : wy.take (i + 1) = wy.take i ++ [wy.getD i 0]:=zng hi
  have hul:=Paired.length hP
  rw [yak] at hul
  rw [ewy]
  generalize wy.getD i 0 = k at hkn ⊢
  have s2 : Same H H2:=fun b o e=>k2 b o (zab e hp) e
  have hF2:=zkm (.of s2) hF
  have S2:=S.same s2
  obtain ⟨qk,hqk,wk,hwk,hak⟩:=zbG hF2 hkn
  have hwk2:=hak.length
  have hfl:=zdv S.T S.len (rows:=rows) hkn
  have hkeys:=S.keys
  refine ⟨_,rfl,_,rfl,_,_,_,_,rfl,rfl,SqL.of (s2 _ _ hpf),zbh (v:=.ref qk) (by rw [yaj,hqk]; rfl),qk,rfl,⟨_,SqL.of hwk⟩,fun D hD=>?_⟩
  refine zbU (xs:=wk) (fun j σ H5=>∃ (x0 : Option V),σ = [x0]∧H5 D = some (.lst ((((zaj ps rows k).take j).map (·.1)).map V.int))∧But D H2 H5) ?_ ?_ ?_ ?_
  ·exact ⟨_,rfl,zac,fun b o n e=>by rw [zag n]; exact e⟩
  ·rintro j σ H5 _ ⟨x0,rfl,_,k5⟩
   exact k5.sq (SqL.of hwk) hD
  ·rintro j m x σ H5 hx hm ⟨x0,rfl,h5,k5⟩
   have hj:=(yag.mp hx).1
   obtain ⟨e,he,bb,x1,x2,rfl,hb,e1,e2⟩ : ∃ e,(zaj ps rows k)[j]? = some e∧hasP K H2 e x:=zeb hak hx
   have e1' : x1 = .int e.1:=e1
   subst e1'
   have h5b:=k5 _ _ (zab hb hD) hb
   refine zdc ?_
   refine ⟨_,rfl,_,_,_,_,rfl,rfl,SqT.of h5b,rfl,_,h5,zan (by rw [yab,yab,yak]; omega),m - 1,by omega,by omega,_,rfl,?_,fun b o n e=>by rw [zag n]; exact k5 b o n e⟩
   rw [zac,yaF (by omega),yal,yal,(yag.mp he).2]
   rfl
  rintro σ H5 ⟨x0,rfl,h5,k5⟩
  rw [← hwk2,yaq (yaa _)] at h5
  have s5 : Same H2 H5:=fun b o e=>k5 b o (zab e hD) e
  refine ⟨_,rfl,D,(zaj ps rows k).map (·.1),key,rfl,.inl h5,by rw [yab]; omega,fun H6 s6=>?_⟩
  have eb : cntB ((zaj ps rows k).map (·.1)) key = zav (zaj ps rows k) key:=by
   unfold cntB zav
   rw [List.filter_map,yab]
   rfl
  rw [eb]
  have s26:=s5.trans s6
  have S6:=S2.same s26
  obtain ⟨b,hb1,hb2⟩:=S6.at_.get (k:=k) (by rw [S.len]; exact hkn)
  have hrl : (zbz rows k).length≤900:=yat (znt (zqp (by rw [S.len]; exact hkn))) (by omega)
  refine ⟨_,rfl,.inl ⟨rfl,_,SqL.of (s26 _ _ h2)⟩,_,rfl,_,rfl,_,rfl,_,_,_,_,rfl,rfl,SqT.of S6.st,rfl,_,rfl,_,_,_,_,rfl,rfl,SqT.of S6.rs,zd5 hb1,_,rfl,b,zbz rows k,key,rfl,.inr hb2,hrl,fun H7 s7=>?_⟩
  have s27:=s26.trans s7
  have eo : cntB (zbz rows k) key = ownB rows k key:=rfl
  rw [eo]
  refine ⟨(by show 3≤sizeLine; decide),fun a1 ha1=>?_⟩
  have h7p:=s27 _ _ h2
  have na : p≠a1:=zab h7p ha1
  have sa:=zai ha1 (.tup [nV k,.int ((zav (zaj ps rows k) key : Nat) : Int),.int ((ownB rows k key : Nat) : Int)])
  have haa : upd H7 a1 (.tup [nV k,.int ((zav (zaj ps rows k) key : Nat) : Int),.int ((ownB rows k key : Nat) : Int)]) a1 = some (.tup [nV k,.int ((zav (zaj ps rows k) key : Nat) : Int),.int ((ownB rows k key : Nat) : Int)]):=zac
  generalize upd H7 a1 (.tup [nV k,.int ((zav (zaj ps rows k) key : Nat) : Int),.int ((ownB rows k key : Nat) : Int)]) = H8 at sa haa ⊢
  have s28:=s27.trans sa
  have h8p:=sa _ _ h7p
  have nD : ∀ {x : Addr} {us : List V},H8 x = some (.tup us)→x≠p:=fun {x us} h z=>by
   rw [z,h8p] at h
   cases h
  refine ⟨_,_,_,rfl,rfl,h8p,zan (by omega),?_⟩
  refine ⟨_,_,us ++ [.ref a1],rfl,zac,?_,fun b o n e=>by rw [zag n]; exact s28 _ _ (k2 b o n e)⟩
  exact zci (zaG (fun _ _ ⟨t,e1,e2⟩=>⟨t,e1,by rw [zag (nD (s28 _ _ e2))]; exact s28 _ _ e2⟩) hP) ⟨a1,rfl,by rw [zag (nD haa)]; exact haa⟩
 rintro σ H2 ⟨x5,x6,us,rfl,h2,hP,k2⟩
 rw [yab,yaq (yaa _)] at hP
 exact ⟨_,rfl,q p us H2 hp (fun b o e=>k2 b o (zab e hp) e) h2 hP⟩
def zjF (K : Frag) : Sp:=fun vs H Q _=>∃ x : Int,vs = [.int x]∧Q (.bl true) H
theorem zl6 (T : Txt K mg) (D_l_whole : DF K mg "_law_whole" zes zdJ) : FC P w K mg base 1 "_law_whole" zdJ (zjF K):=by
 refine D_l_whole.ok sc_l_whole (fun vs H Q E h=>?_) (fun f cdv A outer s H vs Q E hr h=>?_)
 ·obtain ⟨x,rfl,_⟩:=h
  rfl
 obtain ⟨x,rfl,q⟩:=h
 refine ⟨_,(zah (zau (zlZ (zaq zc7 rfl T.m_isinstance boot_isinstance (zaa (pv 0) (zaa (zd9 (v:=.ty "int") rfl T.m_int boot_int rfl) zad))) (zlX (zoC (zaq zc7 rfl T.m_isinstance boot_isinstance (zaa (pv 0) (zaa (zd9 (v:=.ty "bool") rfl T.m_bool boot_bool rfl) zad)))))))),?_⟩
 refine ⟨_,rfl,_,_,_,_,rfl,.int _,zoK,_,rfl,?_⟩
 refine iteT ?_
 exact ⟨_,rfl,_,_,_,_,rfl,.int _,zoL,_,rfl,q⟩
theorem zlM {n : Nat} (h : n≤2000) : n < sizeLine:=ybg h (by decide)
def optL (ps : List Nat) : List (Option Int):=none :: ps.map fun (p : Nat)=>some (Int.ofNat p)
theorem zjw {K : Frag} {H : Hp} (ps : List Nat) : zam K H (optL ps) (zbY ps):=by
 refine .cons rfl ?_
 induction ps with
 | nil=>exact .nil
 | cons p ps ih=>exact .cons rfl ih
theorem zhg {K : Frag} {H : Hp} : ∀ {as : List Addr} {rows : List (List Int)},zaJ H as rows→zam K H (rows.map Tup.mk) (as.map V.ref)
 | _,_,.nil=>.nil
 | _,_,.cons h t=>.cons ⟨_,_,rfl,SqT.of h,zam.ints⟩ (zhg t)
theorem zlQ {H : Hp} {as : List Addr} {rows : List (List Int)} (h : zaJ H as rows) : zaJ H (as.drop 1 ++ as.take 1) (rows.drop 1 ++ rows.take 1):=by
 cases h with
 | nil=>exact .nil
 | cons a t=>exact zaJ.snoc t a
theorem zod {as : List Addr} : cutV (as.map V.ref) (some 1) none = (as.drop 1).map V.ref:=by
 unfold cutV
 rw [show HT.sIx (as.map V.ref).length 0 (some 1) = min 1 (as.map V.ref).length from rfl,show HT.sIx (as.map V.ref).length (as.map V.ref).length none = (as.map V.ref).length from rfl]
 cases as with
 | nil=>rfl
 | cons a l=>
  rw [show min 1 (List.map V.ref (a :: l)).length = 1 by rw [yab,yaN]; omega]
  show (l.map V.ref).take _ = l.map V.ref
  rw [yaq (by rw [yab,yab,yaN]; omega)]
theorem zoe {as : List Addr} : cutV (as.map V.ref) none (some 1) = (as.take 1).map V.ref:=by
 unfold cutV
 rw [show HT.sIx (as.map V.ref).length 0 none = 0 from rfl,show HT.sIx (as.map V.ref).length (as.map V.ref).length (some 1) = min 1 (as.map V.ref).length from rfl]
 cases as with
 | nil=>rfl
 | cons a l=>
  rw [show min 1 (List.map V.ref (a :: l)).length = 1 by rw [yab,yaN]; omega]
  rfl
theorem zpa {K : Frag} {H : Hp} {a : Addr} {as : List Addr} {Q : VK} (h : H a = some (.tup (as.map V.ref))) (q : ∀ y H7,Same H H7→H7 y = some (.tup ((as.take 1).map V.ref))→Q (.ref y) H7) : rSlX K (.ref a) none (some 1) H Q:=by
 refine ⟨a,_,rfl,SqT.of h,fun z=>?_,fun _ p hp=>?_⟩
 ·refine q a H (fun _ _ e=>e) ?_
  have z2 : min 1 (as.map V.ref).length = (as.map V.ref).length:=z.2
  rw [yab] at z2
  rw [yaq (by omega)]
  exact h
 ·rw [zoe]
  exact q p _ (zai hp _) zac
theorem KeepT.rows {H H' : Hp} (e : ∀ b o,H b = some (.tup o)→H' b = some (.tup o)) : ∀ {as : List Addr} {rows : List (List Int)},zaJ H as rows→zaJ H' as rows
 | _,_,.nil=>.nil
 | _,_,.cons h t=>.cons (e _ _ h) (KeepT.rows e t)
theorem KeepT.stand {H H' : Hp} {st t rs : Addr} {ps : List Nat} {rows : List (List Int)} {as : List Addr} (S : za2 H st ps rows t rs as) (e : ∀ b o,H b = some (.tup o)→H' b = some (.tup o)) : za2 H' st ps rows t rs as:=
 ⟨e _ _ S.st,e _ _ S.tr,e _ _ S.rs,KeepT.rows e S.at_,S.len,S.T,S.R,S.few,S.keys⟩
theorem zko {K : Frag} {H : Hp} {p : Addr} {ps : List Nat} {rows : List (List Int)} : ∀ {n : Nat} {qs : List Addr} (m : Nat),qs.length = n→(∀ (j : Nat) (q : Addr),qs[j]? = some q→∃ ws,H q = some (.lst ws)∧zam K H (zaj ps rows (m + j)) ws)→zay K H ps rows (List.range' m n) qs
 | _,[],_,rfl,_=>.nil
 | _,q :: qs,m,rfl,h=>by
  refine .cons (h 0 q rfl) (zko (p:=p) (m + 1) rfl fun j q' hj=>?_)
  have:=h (j + 1) q' hj
  rwa [show m + (j + 1) = m + 1 + j by omega] at this
theorem FA.fulls {K : Frag} {H : Hp} {p : Addr} {ps : List Nat} {rows : List (List Int)} {n : Nat} {qs : List Addr} (h : FA K H p qs n (zaj ps rows)) : zay K H ps rows (List.range n) qs:=by
 rw [List.range_eq_range']
 exact zko (p:=p) 0 h.len fun j q hj=>by
  rw [ybr]
  exact h.get j q hj
theorem zhY {K : Frag} {H : Hp} {ps : List Nat} {rows : List (List Int)} {key : Int} {ks : List Nat} {vs : List V} (h : Paired (ze7 H ps rows key) ks vs) : zam K H (ks.map fun k : Nat=>(⟨[(k : Int),((zav (zaj ps rows k) key : Nat) : Int),((ownB rows k key : Nat) : Int)]⟩ : Tup Int)) vs:=by
 induction h with
 | nil=>exact .nil
 | cons h _ ih=>
  obtain ⟨t,rfl,e⟩:=h
  exact .cons ⟨t,_,rfl,SqT.of e,.cons rfl (.cons rfl (.cons rfl .nil))⟩ ih
def zjH (K : Frag) (mF mS : Addr) : Sp:=fun vs H Q _=>∃ (st wa du : Addr) (key : Int) (ps : List Nat) (rows : List (List Int)) (t rs : Addr) (as : List Addr) (wy : List Nat) (zs : List V),vs = [.ref st,.ref wa,.int key,.ref du]∧za2 H st ps rows t rs as∧zej H wa ps wy∧H du = some (.lst zs)∧Paired (ze7 H ps rows key) wy zs∧TabS mF mS H∧
 ∀ H',Kp0 H H'→TabS mF mS H'→Q (.bl true) H'
theorem zl7 (T : Txt K mg) {mF mS : Addr} (D_l_right : DF K mg "_law_right" zeu zdL) (F_l_whole : FC P w K mg base 1 "_law_whole" zdJ (zjF K)) (F_paper_of : FC P w K mg base 9 "paper_of" zcV (zlD K mF mS)) : FC P w K mg base 10 "_law_right" zdL (zjH K mF mS):=by
 refine D_l_right.ok sc_l_right (fun vs H Q E h=>?_) (fun f cdv A outer s H vs Q E hr h=>?_)
 ·obtain ⟨st,wa,du,key,ps,rows,t,rs,as,wy,zs,rfl,_⟩:=h
  rfl
 obtain ⟨st,wa,du,key,ps,rows,t,rs,as,wy,zs,rfl,S,W,hdu,hPz,TT,q⟩:=h
 refine ⟨_,(zaf (zap (i:=4) sc_l_right.nd rfl (Or.inl rfl) (zbf zcB rfl T.m_list boot_list (zaa (pv 1) zad)))
   (zaf (zaK PassesOwn.never rfl (zaU rfl T.m_range (zaa zae zad)) (zal (i:=5) sc_l_right.nd rfl (Or.inl rfl)) (zaf (zap (i:=6) sc_l_right.nd rfl (Or.inl rfl) (zaA F_paper_of hr (zaa (pv 0) (zaa (pv 4) (zaa (pv 2) zad)))))
   (zbk (zbS (PW.pt (zkH (zf1 (zdi (zaq zc7 rfl T.m_isinstance boot_isinstance (zaa (pv 6) (zaa (zd9 (v:=.ty "list") rfl T.m_list boot_list rfl) zad))))) (zkH (zaw (zjZ (List (Tup Int)) (huD hr)) (pv 6) (pv 3) (zaH _)) (zh6 (zaw (zjZ (List Int) (huD hr)) (pv 4) (pv 1) (zaH _)))))) (zah (zau zea)) zaO)
   (zaf (zaK PassesOwn.never rfl (zbC (pv 6)) (zal (i:=7) sc_l_right.nd rfl (Or.inl rfl)) (zah (zbS (PW.pt (zkH (zf1 (zdi (zaq zc7 rfl T.m_isinstance boot_isinstance (zaa (pv 7) (zaa (zd9 (v:=.ty "tuple") rfl T.m_tuple boot_tuple rfl) zad))))) (zh6 (zaw (zjZ (List Int) (huD hr)) (zbJ (N:=["_law_one"]) (own:=1) (cap:=[]) rfl (zdj (pv 7)) ⟨rfl,rfl,rfl,rfl,rfl,rfl⟩ (fun _ _ _ _ _=>(zal (i:=0) (show List.Nodup (["_law_one"] : List Str) by decide +kernel) rfl (Or.inl rfl))) (fun _ _ _ _ _=>(zdh (zf1 (zdi (zaA F_l_whole hr (zaa (pv 0) zad)))))) (fun _ _ _ _ _=>(pv 0))) (zbp zad) (zaH _))))) (zah (zau zea)) zaO)))
   (zaf (za7 (zdo F.plainAttrs_list F.slot_list_append F.type_list_append zaI (pv 6) (zaa (zbe (zaa zae (zaa zae (zaa zae zad)))) zad)))
   (zah (za7 (zoD F.plainAttrs_list F.slot_list_reverse F.type_list_reverse zkS (pv 6)))))))))
   (zah (zau zea)))),?_⟩
 have hwl:=W.len
 refine ⟨_,rfl,wa,_,rfl,.inl (SqL.of W.at_),fun g hg=>?_⟩
 have sg:=zai hg (.lst (wy.map nV))
 have hgg : upd H g (.lst (wy.map nV)) g = some (.lst (wy.map nV)):=zac
 generalize upd H g (.lst (wy.map nV)) = H1 at sg hgg ⊢
 refine ⟨2,rfl,by decide,by decide,?_⟩
 refine za1 (n:=2) (fun i σ H2=>∃ x5 x6 x7 : Option V,σ = [some (.ref st),some (.ref wa),some (.int key),some (.ref du),some (.ref g),x5,x6,x7]∧Kp0 H1 H2∧TabS mF mS H2) ?_ ?_ ?_
 ·exact ⟨_,_,_,rfl,fun _ _ _ e=>e,TT.ext sg.ext⟩
 ·rintro i σ H2 hi ⟨x5,x6,x7,rfl,k2,T2⟩
  rw [ybd]
  have kp2 : Kp0 H H2:=Kp0.trans (.of sg) k2
  have S2:=znn kp2 S
  refine ⟨_,rfl,_,rfl,_,rfl,st,g,key,ps,rows,t,rs,as,wy,rfl,S2,⟨k2.lst hgg,W.len,W.ne,W.ch,W.kn⟩,T2,fun D us H3 hDn k3 T3 h3 hP=>?_⟩
  have kp13:=k2.trans k3
  have kp3:=kp2.trans k3
  have h3d:=kp3.lst hdu
  have hP3 : Paired (ze7 H3 ps rows key) wy zs:=zlr (fun _ _ e=>kp3.tup e) hPz
  refine ⟨fun σ' H'=>σ' = [some (.ref st),some (.ref wa),some (.int key),some (.ref du),some (.ref g),some (.int i),some (.ref D),x7]∧H3 = H',?_,?_⟩
  ·refine ⟨_,rfl,_,_,_,_,rfl,.lst h3,zoJ,_,rfl,?_⟩
   refine iteF ?_
   refine ⟨_,rfl,_,rfl,_,_,⟨_,_,rfl,SqL.of h3,zhY hP⟩,⟨_,_,rfl,SqL.of h3d,zhY hP3⟩,_,rfl,?_⟩
   refine zn2 rfl ?_
   refine ⟨_,rfl,_,rfl,wy.map (fun n : Nat=>(n : Int)),wy.map (fun n : Nat=>(n : Int)),⟨_,_,rfl,SqL.of (kp13.lst hgg),zhv⟩,⟨_,_,rfl,SqL.of (kp3.lst W.at_),zhv⟩,_,rfl,?_⟩
   refine zn2 rfl ?_
   exact ⟨rfl,rfl⟩
  rintro σ' H' ⟨rfl,rfl⟩
  refine ⟨_,rfl,D,rfl,⟨_,SqL.of h3⟩,?_⟩
  refine zc5 (xs:=us) (fun j σ H7=>∃ x7 : Option V,σ = [some (.ref st),some (.ref wa),some (.int key),some (.ref du),some (.ref g),some (.int i),some (.ref D),x7]∧Same H3 H7) ?_ ?_ ?_ ?_
  ·exact ⟨_,rfl,fun _ _ e=>e⟩
  ·rintro j σ H7 _ ⟨x7,rfl,s7⟩
   exact SqL.of (s7 _ _ h3)
  ·rintro j x σ H7 hx ⟨x7,rfl,s7⟩
   obtain ⟨k,hk,b,rfl,hb⟩:=zeb hP hx
   have h7b:=s7 _ _ hb
   refine ⟨_,rfl,_,_,_,_,rfl,.tup h7b,zqQ,_,rfl,?_⟩
   refine iteF ?_
   refine ⟨_,rfl,b,rfl,⟨_,SqT.of h7b⟩,fun Dx hDx=>?_⟩
   refine zdZ (xs:=[V.int (k : Int),.int ((zav (zaj ps rows k) key : Nat) : Int),.int ((ownB rows k key : Nat) : Int)]) (fun i σ Hb=>∃ x0 : Option V,σ = [x0]∧Hb Dx = some (.lst [])∧But Dx H7 Hb) ?_ ?_ ?_ ?_
   ·exact ⟨_,rfl,zac,fun b o n e=>by rw [zag n]; exact e⟩
   ·rintro i σ Hb _ ⟨x0,rfl,_,kb⟩
    exact SqT.of (kb _ _ (zab h7b hDx) h7b)
   ·rintro i m x σ Hb hx hm ⟨x0,rfl,hb,kb⟩
    have hi:=(yag.mp hx).1
    have hm2 : i + m = 3:=hm
    have hi2 : i < 3:=hi
    obtain ⟨z,rfl⟩ : ∃ z,x = V.int z:=by
     rcases i with _ | _ | _ | i
     ·exact ⟨_,(yae hx).symm⟩
     ·exact ⟨_,(yae hx).symm⟩
     ·exact ⟨_,(yae hx).symm⟩
     ·cases hx
    refine ⟨_,rfl,_,rfl,_,rfl,?_⟩
    refine iteF ?_
    exact ⟨m - 1,by omega,(by show i + 1 + (m - 1) = 3; omega),_,rfl,hb,kb⟩
   rintro σ Hb ⟨x0,rfl,hb,kb⟩
   have sab : Same H7 Hb:=fun b o e=>kb b o (zab e hDx) e
   refine ⟨(by show 0≤sizeLine; decide),fun e he=>?_⟩
   have se:=zai he (.lst [])
   refine ⟨([] : List Int),[],⟨_,_,rfl,SqL.of (se _ _ hb),.nil⟩,⟨_,_,rfl,SqL.of zac,.nil⟩,_,rfl,?_⟩
   refine zn2 rfl ?_
   exact ⟨_,rfl,s7.trans (sab.trans se)⟩
  rintro σ H7 ⟨x7,rfl,s7⟩
  have h7:=s7 _ _ h3
  refine ⟨_,rfl,.inl ⟨rfl,_,SqL.of h7⟩,(by show 3≤sizeLine; decide),fun u hu=>?_⟩
  have su:=zai hu (.tup [.int 0,.int 0,.int 0])
  have h8:=su _ _ h7
  have s38:=s7.trans su
  have T8:=T3.ext s38.ext
  generalize upd H7 u (.tup [.int 0,.int 0,.int 0]) = H8 at su h8 s38 T8 ⊢
  have hul:=Paired.length hP
  refine ⟨_,_,_,rfl,rfl,h8,zan (by omega),?_⟩
  refine ⟨_,rfl,.inl ⟨rfl,_,SqL.of zac⟩,?_⟩
  refine ⟨_,_,rfl,rfl,zac,?_⟩
  have tk : ∀ {o1 : HO} {pos : Pos} {q : Str} {Pt : Addr},zbc H8 Pt pos q→zbc (upd H8 D o1) Pt pos q:=fun x=>zlt x h8
  have tk2 : ∀ {o1 o2 : HO} {pos : Pos} {q : Str} {Pt : Addr},zbc H8 Pt pos q→zbc (upd (upd H8 D o1) D o2) Pt pos q:=fun {o1 o2 pos q Pt} x=>by
   have e : upd (upd H8 D o1) D o2 = upd H8 D o2:=by
    funext b
    by_cases c : b = D
    ·rw [c,zac,zac]
    ·rw [zag c,zag c,zag c]
   rw [e]
   exact tk x
  refine ⟨_,_,_,rfl,fun b o n e=>?_,⟨tk2 T8.f,tk2 T8.s,T8.n⟩⟩
  have nb : b≠D:=fun z=>by
   rw [z] at e
   exact hDn o n (k2 _ _ n e)
  rw [zag nb,zag nb]
  exact s38 _ _ (kp13 _ _ n e)
 rintro σ H2 ⟨x5,x6,x7,rfl,k2,T2⟩
 exact q H2 (Kp0.trans (.of sg) k2) T2
def zh0 (K : Frag) (mF mS : Addr) : Sp:=fun vs H Q _=>∃ (a : Addr) (ns : List Int),vs = [.ref a]∧SqL K H a (ns.map V.int)∧ns.length≤63∧mF≠mS∧H mF = some (.tbl #[])∧H mS = some (.tbl #[])∧∀ H',Q (.bl true) H'
set_option maxHeartbeats 1000000 in
theorem zqG (T : Txt K mg) {mF mS : Addr} (D_law : DF K mg "law" zns zjS) (F_l_begin : FC P w K mg base 1 "_law_begin" zdS (zlK K)) (F_l_stand : FC P w K mg base 6 "_law_stand" zdK (zjG K)) (F_l_way : FC P w K mg base 3 "_law_way" zfS (zou K)) (F_l_asked_key : FC P w K mg base 4 "_law_asked_key" zbN (zlL K)) (F_l_fulls : FC P w K mg base 3 "_law_fulls" zdP (zjJ K)) (F_l_paper : FC P w K mg base 2 "_law_paper" zdM (zjI K)) (F_l_right : FC P w K mg base 10 "_law_right" zdL (zjH K mF mS)) : FC P w K mg base 11 "law" zjS (zh0 K mF mS):=by
 refine D_law.ok sc_law (fun vs H Q E h=>?_) (fun f cdv A outer s H vs Q E hr h=>?_)
 ·obtain ⟨a,ns,rfl,_⟩:=h
  rfl
 obtain ⟨a,ns,rfl,hS,_,hnd,hmF,hmS,q⟩:=h
 have TT0 : TabS mF mS H:=⟨⟨#[],hmF,trivial,.inl rfl⟩,⟨#[],hmS,trivial,.inl rfl⟩,hnd⟩
 refine ⟨_,(zaf (zap (i:=1) sc_law.nd rfl (Or.inl rfl) (zaA F_l_begin hr (zaa (pv 0) zad)))
   (zaf (zap (i:=2) sc_law.nd rfl (Or.inl rfl) (zaA F_l_stand hr (zaa (pv 1) zad)))
   (zaf (zap (i:=3) sc_law.nd rfl (Or.inl rfl) (zbe (zaa (zaz zaW (pv 2) zae (fun _ _=>rfl)) (zaa (zas zpl (zcz zlN (zaz zaW (pv 2) zae (fun _ _=>rfl)) (zbI zae) ziR) (zcz zlN (zaz zaW (pv 2) zae (fun _ _=>rfl)) ziR (zbI zae))) zad))))
   (zaf (zaK PassesOwn.never rfl (zaU rfl T.m_range (zaa zae zad)) (zal (i:=4) sc_law.nd rfl (Or.inl rfl)) (zaf (zap (i:=5) sc_law.nd rfl (Or.inl rfl) (zaA F_l_way hr (zaa (pv 1) (zaa (zaz zaW (pv 2) zae (fun _ _=>rfl)) zad))))
   (zaf (zap (i:=6) sc_law.nd rfl (Or.inl rfl) (zaA F_l_asked_key hr (zaa (pv 1) (zaa (pv 2) zad))))
   (zah (zaK PassesOwn.never rfl (zdj (zbe (zaa (pv 2) (zaa (pv 3) (zaa (pv 2) zad))))) (zal (i:=7) sc_law.nd rfl (Or.inl rfl)) (zaf (zap (i:=8) sc_law.nd rfl (Or.inl rfl) (zaA F_l_paper hr (zaa (pv 7) (zaa (zaA F_l_fulls hr (zaa (zaz zaW (pv 7) zae (fun _ _=>rfl)) (zaa (zaz zaW (pv 7) zae (fun _ _=>rfl)) zad))) (zaa (pv 5) (zaa (pv 6) zad))))))
   (zah (zbS (zf1 (zdi (zaA F_l_right hr (zaa (pv 7) (zaa (pv 5) (zaa (pv 6) (zaa (pv 8) zad))))))) (zah (zau zea)) zaO))))))))
   (zah (zau (zlY (zoE (Tup (Option Int)×Tup (Tup Int)) (huD hr)) (pv 2) (zbe (zaa (zaz zaW (pv 2) zae (fun _ _=>rfl)) (zaa (zbf zbF rfl T.m_tuple boot_tuple (zaa (zbJ (N:=["_law_row_here"]) (own:=1) (cap:=[]) rfl (zdj (zaz zaW (pv 2) zae (fun _ _=>rfl))) ⟨rfl,rfl,rfl,rfl,rfl,rfl⟩ (fun _ _ _ _ _=>(zal (i:=0) (show List.Nodup (["_law_row_here"] : List Str) by decide +kernel) rfl (Or.inl rfl))) (fun _ _ _ _ _=>zbH) (fun _ _ _ _ _=>(zbf (zgv (K:=K)) rfl T.m_tuple boot_tuple (zaa (pv 0) zad)))) zad)) zad))) (zaH _)))))))),?_⟩
 refine ⟨_,rfl,a,ns,rfl,hS,fun d H1 _ g1 s1=>?_⟩
 have ndT : ∀ {H' : Hp} {p : Addr} {o : HO},LS K a d H'→H' p = some o→(∀ kvs,o≠.dK kvs)→p≠d:=fun s hp n z=>by
  obtain ⟨_,_,_,e,_⟩:=s.ex
  rw [← z,hp] at e
  exact n _ (yae e)
 refine ⟨_,rfl,d,a,rfl,s1,fun st ps rows t rs as H2 S k2 s2=>?_⟩
 have T2 : TabS mF mS H2:=(TT0.ext g1.ext).ext (s1.ext k2)
 have hfew:=S.few
 have hkeys:=S.keys
 have hal:=S.at_.length
 have hlen:=S.len
 have fin : ∀ (ro : Addr) (H6 : Hp),Same H2 H6→H6 ro = some (.tup ((as.drop 1 ++ as.take 1).map V.ref))→∀ ot,H6 ot = none→za2 (upd H6 ot (.tup [.ref t,.ref ro])) ot ps (rows.drop 1 ++ rows.take 1) t ro (as.drop 1 ++ as.take 1):=fun ro H6 s56 h6 ot hot=>by
  have so:=zai hot (.tup [.ref t,.ref ro])
  have S6:=(S.same s56).same so
  refine ⟨zac,S6.tr,so _ _ h6,zlQ S6.at_,?_,S.T,⟨fun r hr=>?_,fun r hr=>?_⟩,S.few,?_⟩
  ·rw [yah,yaT,yak]
   omega
  ·rcases yan.mp hr with z | z
   ·exact S.R.up r (ybX z)
   ·exact S.R.up r (ybH z)
  ·rcases yan.mp hr with z | z
   ·exact S.R.key r (ybX z)
   ·exact S.R.key r (ybH z)
  ·have e : zcm (rows.drop 1 ++ rows.take 1) = zcm rows:=by
    unfold zcm
    conv=>rhs; rw [← yaZ 1 rows]
    rw [yal,yal,List.sum_append,List.sum_append]
    omega
   omega
 refine ⟨_,rfl,_,_,_,_,rfl,rfl,SqT.of S.st,rfl,_,rfl,_,_,_,_,rfl,rfl,SqT.of S.st,rfl,_,rfl,rs,_,rfl,SqT.of S.rs,(fun z=>?_),(fun _ p1 hp1=>?_)⟩
 ·have z1 : min 1 (as.map V.ref).length = 0:=z.1
  rw [yab] at z1
  omega
 rw [zod]
 have sp1:=zai hp1 (.tup ((as.drop 1).map V.ref))
 have hpp1 : upd H2 p1 (.tup ((as.drop 1).map V.ref)) p1 = some (.tup ((as.drop 1).map V.ref)):=zac
 generalize upd H2 p1 (.tup ((as.drop 1).map V.ref)) = H6 at sp1 hpp1 ⊢
 have S6:=S.same sp1
 have cat : ∀ (y : Addr) (H7 : Hp) (Q : VK),Same H6 H7→H7 y = some (.tup ((as.take 1).map V.ref))→(∀ (ro : Addr) (H8 : Hp),Same H2 H8→H8 ro = some (.tup ((as.drop 1 ++ as.take 1).map V.ref))→Q (.ref ro) H8)→zqt K (.ref p1) (.ref y) H7 Q:=fun y H7 Q s67 h7 hq=>by
  have hne : as.take 1≠[]:=fun z=>by
   have:=congrArg List.length z
   rw [yak,ybx] at this
   omega
  refine ⟨p1,y,_,_,rfl,rfl,SqT.of (s67 _ _ hpp1),SqT.of h7,?_,ybm (zlM (by rw [yab,yab,yaT,yak]; omega)),fun z=>?_,fun _ p hp=>?_⟩
  ·intro z
   exact hne (List.map_eq_nil_iff.mp z)
  ·refine hq y H7 (sp1.trans s67) ?_
   rw [List.map_eq_nil_iff.mp z,ybW]
   exact h7
  ·refine hq p _ (sp1.trans (s67.trans (zai hp _))) ?_
   rw [zac,yal]
 refine ⟨_,rfl,_,_,_,_,rfl,rfl,SqT.of S6.st,rfl,_,rfl,zpa S6.rs fun y H7 s67 h7=>cat y H7 _ s67 h7 fun ro H8 s58 h8=>⟨(by show 2≤sizeLine; decide),fun ot hot=>?_⟩⟩
 have So:=fin ro H8 s58 h8 ot hot
 have s5o : Same H2 (upd H8 ot (.tup [.ref t,.ref ro])):=s58.trans (zai hot _)
 clear fin cat
 generalize upd H8 ot (.tup [.ref t,.ref ro]) = H9 at So s5o ⊢
 have S9:=S.same s5o
 have T9:=T2.ext s5o.ext
 have s9:=s2.same s5o
 clear s5o s58 h8 hot h7 s67 hpp1 sp1 S6 hp1 S T2 s2 k2
 refine ⟨3,rfl,by decide,by decide,?_⟩
 refine za1 (n:=3) (fun i σ HA=>∃ x4 x5 x6 x7 x8 : Option V,σ = [some (.ref a),some (.ref d),some (.ref st),some (.ref ot),x4,x5,x6,x7,x8]∧(∀ b o,H9 b = some (.tup o)→HA b = some (.tup o))∧TabS mF mS HA∧LS K a d HA) ?_ ?_ ?_
 ·exact ⟨_,_,_,_,_,rfl,fun _ _ e=>e,T9,s9⟩
 ·rintro i σ HA hi ⟨x4,x5,x6,x7,x8,rfl,tA,TA,sA⟩
  have SA:=KeepT.stand S9 tA
  refine ⟨_,rfl,_,rfl,_,_,_,_,rfl,rfl,SqT.of SA.st,rfl,d,a,t,ps,rfl,SA.tr,SA.T,SA.few,sA,fun wa w HB hwa WB kB sB=>?_⟩
  have tB : ∀ b o,HA b = some (.tup o)→HB b = some (.tup o):=fun b o e=>kB _ _ (ndT sA e (fun _ z=>by cases z)) e
  have SB:=KeepT.stand SA tB
  have TB:=TA.ext (sA.ext kB)
  refine ⟨_,rfl,_,rfl,d,a,st,ps,rows,t,rs,as,rfl,SB,sB,fun key HC kC sC=>?_⟩
  have hwd : wa≠d:=fun z=>by
   obtain ⟨_,_,_,e,_⟩:=sA.ex
   rw [← z,hwa] at e
   cases e
  have tAC : ∀ b o,H9 b = some (.tup o)→HC b = some (.tup o):=fun b o e=>kC _ _ (ndT sB (tB _ _ (tA _ _ e)) (fun _ z=>by cases z)) (tB _ _ (tA _ _ e))
  have WC : zej HC wa ps w:=⟨kC _ _ hwd WB.at_,WB.len,WB.ne,WB.ch,WB.kn⟩
  have TC:=TB.ext (sB.ext kC)
  refine ⟨_,rfl,_,rfl,_,rfl,(by show 3≤sizeLine; decide),fun tu htu=>?_⟩
  have su:=zai htu (.tup [.ref st,.ref ot,.ref st])
  have huu : upd HC tu (.tup [.ref st,.ref ot,.ref st]) tu = some (.tup [.ref st,.ref ot,.ref st]):=zac
  have tD : ∀ b o,H9 b = some (.tup o)→upd HC tu (.tup [.ref st,.ref ot,.ref st]) b = some (.tup o):=fun b o e=>su _ _ (tAC _ _ e)
  have WD:=WC.same su
  have TD:=TC.ext su.ext
  have sD:=sC.same su
  generalize upd HC tu (.tup [.ref st,.ref ot,.ref st]) = HD at huu tD WD TD sD ⊢
  refine ⟨tu,rfl,⟨_,SqT.of huu⟩,?_⟩
  refine zfl (xs:=[V.ref st,.ref ot,.ref st]) (fun j σ HE=>∃ x7 x8 : Option V,σ = [some (.ref a),some (.ref d),some (.ref st),some (.ref ot),some (.int (0 + (i : Int))),some (.ref wa),some (.int key),x7,x8]∧Kp0 HD HE∧TabS mF mS HE) ?_ ?_ ?_ ?_
  ·exact ⟨_,_,rfl,fun _ _ _ e=>e,TD⟩
  ·rintro j σ HE _ ⟨x7,x8,rfl,kE,TE⟩
   exact SqT.of (kE.tup huu)
  ·rintro j x σ HE hx ⟨x7,x8,rfl,kE,TE⟩
   have tE : ∀ b o,H9 b = some (.tup o)→HE b = some (.tup o):=fun b o e=>kE.tup (tD _ _ e)
   have WE:=zju kE WD
   obtain ⟨sx,rowsx,rsx,asx,rfl,SE⟩ : ∃ (sx : Addr) (rowsx : List (List Int)) (rsx : Addr) (asx : List Addr),x = .ref sx∧za2 HE sx ps rowsx t rsx asx:=by
    rcases j with _ | _ | _ | j
    ·exact ⟨st,_,_,_,(yae hx).symm,KeepT.stand S9 tE⟩
    ·exact ⟨ot,_,_,_,(yae hx).symm,KeepT.stand So tE⟩
    ·exact ⟨st,_,_,_,(yae hx).symm,KeepT.stand S9 tE⟩
    ·cases hx
   have hk2:=SE.keys
   refine ⟨_,rfl,_,rfl,_,_,_,_,rfl,rfl,SqT.of SE.st,rfl,_,rfl,_,_,_,_,rfl,rfl,SqT.of SE.st,rfl,t,rsx,ps,rowsx,asx,rfl,SE.tr,SE.rs,SE.at_,SE.len,SE.T,SE.R,SE.few,hk2,fun pf qs HF _ sF hFA _=>?_⟩
   have SF:=SE.same sF
   refine ⟨_,rfl,_,rfl,sx,pf,wa,key,ps,rowsx,t,rsx,asx,qs,w,rfl,SF,hFA.at_,hFA.fulls,WE.same sF,fun du zs HG hdn sG hdu hPz=>?_⟩
   have kEG : Kp0 HE HG:=.of (sF.trans sG)
   refine ⟨_,rfl,_,rfl,_,rfl,_,rfl,sx,wa,du,key,ps,rowsx,t,rsx,asx,w,zs,rfl,SF.same sG,zju kEG WE,hdu,hPz,TE.ext (sF.trans sG).ext,fun HI kI TI=>⟨_,rfl,?_⟩⟩
   refine iteF ?_
   exact ⟨_,_,rfl,(kE.trans kEG).trans kI,TI⟩
  ·rintro σ HE ⟨x7,x8,rfl,kE,TE⟩
   exact ⟨_,_,_,_,_,rfl,fun b o e=>kE.tup (tD _ _ e),TE,zqL sD kE⟩
 ·rintro σ HA ⟨x4,x5,x6,x7,x8,rfl,tA,TA,sA⟩
  have SA:=KeepT.stand S9 tA
  refine ⟨_,rfl,_,rfl,_,_,_,_,rfl,rfl,SqT.of SA.st,rfl,_,rfl,_,_,_,_,rfl,rfl,SqT.of SA.st,rfl,rs,rfl,⟨_,SqT.of SA.rs⟩,fun D hD=>?_⟩
  refine zdZ (xs:=as.map V.ref) (fun i σ H3=>∃ x0 : Option V,σ = [x0]∧H3 D = some (.lst ((as.take i).map V.ref))∧But D HA H3) ?_ ?_ ?_ ?_
  ·exact ⟨_,rfl,zac,fun b o n e=>by rw [zag n]; exact e⟩
  ·rintro i σ H3 _ ⟨x0,rfl,_,k3⟩
   exact SqT.of (k3 _ _ (zab SA.rs hD) SA.rs)
  ·rintro i m x σ H3 hx hm ⟨x0,rfl,h3,k3⟩
   rw [yaj] at hx
   obtain ⟨b,hb,rfl⟩:=ybk.mp hx
   obtain ⟨row,hrow,h1b⟩:=zcI SA.at_ hb
   obtain ⟨hi,rfl⟩:=yag.mp hb
   rw [yab] at hm
   refine zdc ?_
   refine ⟨_,rfl,_,_,rfl,.inr ⟨SqT.of (k3 _ _ (zab h1b hD) h1b),?_⟩⟩
   refine ⟨_,h3,zan (by rw [yab,yak]; omega),m - 1,by omega,by rw [yab]; omega,_,rfl,?_,fun b o n e=>by rw [zag n]; exact k3 b o n e⟩
   rw [zac,yaF hi,yal]
   rfl
  rintro σ H3 ⟨x0,rfl,h3,k3⟩
  rw [yab,yaq (yaa _)] at h3
  have s23 : Same HA H3:=fun b o e=>k3 b o (zab e hD) e
  refine ⟨D,_,rfl,.inl ⟨SqL.of h3,fun T1 hT1'=>?_⟩⟩
  have sT:=zai hT1' (.tup (as.map V.ref))
  have hTT : upd H3 T1 (.tup (as.map V.ref)) T1 = some (.tup (as.map V.ref)):=zac
  generalize upd H3 T1 (.tup (as.map V.ref)) = H4 at sT hTT ⊢
  refine ⟨(by show 2≤sizeLine; decide),fun kp hkp=>?_⟩
  have sk:=zai hkp (.tup [.ref t,.ref T1])
  have hkk : upd H4 kp (.tup [.ref t,.ref T1]) kp = some (.tup [.ref t,.ref T1]):=zac
  have hTk:=sk _ _ hTT
  generalize upd H4 kp (.tup [.ref t,.ref T1]) = H5 at sk hkk hTk ⊢
  have SB:=SA.same (s23.trans (sT.trans sk))
  refine ⟨((⟨optL ps⟩ : Tup (Option Int)),(⟨rows.map Tup.mk⟩ : Tup (Tup Int))),((⟨optL ps⟩ : Tup (Option Int)),(⟨rows.map Tup.mk⟩ : Tup (Tup Int))),⟨st,_,_,rfl,SB.st,⟨_,_,rfl,SqT.of SB.tr,zjw ps⟩,⟨_,_,rfl,SqT.of SB.rs,zhg SB.at_⟩⟩,⟨kp,_,_,rfl,hkk,⟨_,_,rfl,SqT.of SB.tr,zjw ps⟩,⟨_,_,rfl,SqT.of hTk,zhg SB.at_⟩⟩,?_⟩
  rw [yam rfl]
  exact q _
abbrev lawRoom : Nat:=11
theorem all_ok (T : Txt K mg) {mc24 mp24 mc28 mp28 : Addr} (hBM : BMAt mg base) (D_is_whole : DF K mg "is_whole" zdG zcY) (D_code : DF K mg "code" zjP zhk) (D_how_many_below : DF K mg "how_many_below" zbu zbm) (D_joined_up : DF K mg "joined_up" zcS zcx) (D_lowest_unlike : DF K mg "lowest_unlike" zbA zbv) (D_turned : DF K mg "turned" zfG zeG) (D_labels : DF K mg "labels" zfI zeI) (D_neighbours : DF K mg "neighbours" zcr zbB) (D_least_free : DF K mg "least_free" zcs zb2) (D_colours : DF K mg "colours" zeC zdT) (D_marks : DF K mg "marks" zhb zfR) (D_handed : DF K mg "handed" zfO zeO) (D_is_one_of_first : DF K mg "is_one_of_first" zbi zbb) (D_children : DF K mg "children" zdH zch) (D_beneath : DF K mg "beneath" zeD zdU) (D_is_way : DF K mg "is_way" zfN zeN) (D_need_way : DF K mg "need_way" zdE zcW) (D_own_entries : DF K mg "own_entries" zbZ zbM) (D_full_rows_beneath : DF K mg "full_rows_beneath" za5 za0) (D_full_rows : DF K mg "full_rows" zcT zcy) (D_owns_of : DF K mg "owns_of" zer zdI) (D_starts_of : DF K mg "starts_of" zcQ zcv) (D_bridges_of : DF K mg "bridges_of" zcu zb4) (D_first_place : DFT K mg "first_place" zbj zbO mc24 mp24) (D_start_in : DF K mg "start_in" zdC zcU) (D_next_place : DF K mg "next_place" zcq zb1) (D_search : DF K mg "search" zfH zeH) (D_search_for_key : DFT K mg "search_for_key" zaT zbl mc28 mp28) (D_paper_of : DF K mg "paper_of" zdD zcV) (D_l_every : DF K mg "_law_every" zez zdQ) (D_l_begin : DF K mg "_law_begin" zeB zdS) (D_l_mixed : DF K mg "_law_mixed" zew zdN) (D_l_take : DF K mg "_law_take" zfK zbo) (D_l_key : DF K mg "_law_key" zhe zeL) (D_l_tree : DF K mg "_law_tree" zfJ zeJ) (D_l_row : DF K mg "_law_row" zhd zfT) (D_l_rows : DF K mg "_law_rows" zfL zeK) (D_l_children : DF K mg "_law_children" zct zb3) (D_l_way : DF K mg "_law_way" zhc zfS) (D_l_code : DF K mg "_law_code" zfM zeM) (D_l_turned : DF K mg "_law_turned" zdF zcX) (D_l_colours : DF K mg "_law_colours" zcR zcw) (D_l_marks : DF K mg "_law_marks" zex zdO) (D_l_fulls : DF K mg "_law_fulls" zey zdP) (D_l_stand : DF K mg "_law_stand" zet zdK) (D_l_asked_key : DF K mg "_law_asked_key" zb0 zbN) (D_l_below : DF K mg "_law_below" zeA zdR) (D_l_whole : DF K mg "_law_whole" zes zdJ) (D_l_paper : DF K mg "_law_paper" zev zdM) (D_l_right : DF K mg "_law_right" zeu zdL) (D_law : DF K mg "law" zns zjS) : FC P w K mg base 11 "law" zjS (zh0 K mp24 mp28):=
 have m:=znI (P:=P) (w:=w) (base:=base) T D_l_mixed
 have t:=zpn T D_l_take m
 have c:=zpt (P:=P) (w:=w) (base:=base) T D_code
 have nb:=zht (P:=P) (w:=w) (base:=base) T D_neighbours
 have mk:=znJ T D_marks (zmc T D_labels c (zl3 T D_turned (zqF T D_lowest_unlike))) (zkP T D_colours nb (zhu T D_least_free)) nb
 have ch:=ziW (P:=P) (w:=w) (base:=base) T D_children
 have fr:=zqJ T D_full_rows_beneath (zkQ T D_beneath) ch (zme T D_handed mk) (zqE T D_own_entries) (zmd T D_joined_up)
 have fu:=znO T D_full_rows fr
 have bo:=zpu T D_bridges_of ch (zl4 T D_starts_of) (zpo T D_owns_of)
 have ky:=zqH T D_l_key t
 have ls:=zkO T D_l_stand t (znK T D_l_tree t) (znL T D_l_rows t (zps T D_l_row t ky))
 have lf:=zma T D_l_fulls (zl9 T D_l_marks (znM (P:=P) (w:=w) (base:=base) T D_l_code) (zkN T D_l_turned) (ziV T D_l_colours))
 have fi:=fun (b : Heap) (S : Sub K mg base b)=>znP (P:=P) (w:=w) (base:=b) T D_first_place (hBM.lift S) (fun b' _=>zqI (base:=b') T D_how_many_below)
 have se:=fun (b : Heap) (S : Sub K mg base b)=>zl5 (P:=P) (w:=w) (base:=b) (mp:=mp24) T D_search (fi b S) (znF T D_start_in) (zpp T D_next_place)
 have nd:=zpq T D_need_way (znN T D_is_way (znH T D_is_one_of_first (znE (P:=P) (w:=w) (base:=base) T D_is_whole)))
 have pa:=znG T D_paper_of nd fu (zmf T D_search_for_key hBM bo se)
 zqG T D_law (znR T D_l_begin) ls (zpr T D_l_way t (zid T D_l_children)) (znS T D_l_asked_key (znQ T D_l_every) t ky) lf (zl8 T D_l_paper (zmb T D_l_below)) (zl7 T D_l_right (zl6 T D_l_whole) pa)
end
structure AD (K : Frag) (x : Str) (st : Stmt) : Prop where
 ex : ∃ (f : Addr) (oc : Value) (od : Option Addr) (kV dc pm : Value) (an : Option Addr) (cd ct : Value) (sl : Array (Option Value)),nsIn K mainGlobals x = some (some (.ref f))∧K.lookup f = some ⟨oc,od,.func (fnOf x x (zcD st) (zbK st) (zak st) .none kV dc pm an cd ct),sl⟩∧codeIn K cd x = true∧keepIn K (.ref f) = true
theorem AD.of {K : Frag} {x : Str} {st : Stmt} {f : Addr} {oc : Value} {od : Option Addr} {kV dc pm : Value} {an : Option Addr} {cd ct : Value} {sl : Array (Option Value)} (a : nsIn K mainGlobals x = some (some (.ref f))) (l : K.lookup f = some ⟨oc,od,.func (fnOf x x (zcD st) (zbK st) (zak st) .none kV dc pm an cd ct),sl⟩) (c : codeIn K cd x = true) (k : keepIn K (.ref f) = true) : AD K x st:=⟨f,oc,od,kV,dc,pm,an,cd,ct,sl,a,l,c,k⟩
theorem AD.df {K : Frag} {h : Heap} {mg : Str→Option Value} {x : Str} {st : Stmt} {ps : List Str} (a : AD K x st) (X : K.In h) (G : h.Ns mainGlobals mg)
  (hb : ∀ (kV doc pm : Value) (an : Option Addr) (cdv ct : Value) (us : List Value),us.length = ps.length→bindArgs (fnOf x x (zcD st) (zbK st) (zak st) .none kV doc pm an cdv ct) ⟨us,[]⟩ = pure (ps.zip us):=by
   intro _ _ _ _ _ _ u h
   rcases u with _ | ⟨_,_ | ⟨_,_ | ⟨_,_ | ⟨_,_ | ⟨_,_ | ⟨_,_ | ⟨_,u⟩⟩⟩⟩⟩⟩⟩ <;> first | rfl | cases h) : DF K mg x st ps:=by
 obtain ⟨f,oc,od,kV,dc,pm,an,cd,ct,sl,a,l,c,k⟩:=a.ex
 exact ⟨_,_,zmL l c k,(zmL l c k).binds hb,mg_of X G a⟩
theorem AD.dft {K : Frag} {h : Heap} {mg : Str→Option Value} {x : Str} {st : Stmt} {ps : List Str} {mc mp : Addr} (a : AD K x st) (X : K.In h) (G : h.Ns mainGlobals mg) (t : tabIn K x = some (mc,mp)) (hh : codeHdIn K mc mp = true)
  (hb : ∀ (kV doc pm : Value) (an : Option Addr) (cdv ct : Value) (us : List Value),us.length = ps.length→bindArgs (fnOf x x (zcD st) (zbK st) (zak st) .none kV doc pm an cdv ct) ⟨us,[]⟩ = pure (ps.zip us):=by
   intro _ _ _ _ _ _ u h
   rcases u with _ | ⟨_,_ | ⟨_,_ | ⟨_,_ | ⟨_,_ | ⟨_,_ | ⟨_,_ | ⟨_,u⟩⟩⟩⟩⟩⟩⟩ <;> first | rfl | cases h) : DFT K mg x st ps mc mp:=by
 obtain ⟨f,oc,od,kV,dc,pm,an,cd,ct,sl,a,l,c,k⟩:=a.ex
 have e : cd = .ref mc:=L2.znl a l t
 subst e
 exact ⟨⟨_,_,_,_,_,_,_,_,_,l,c,k,mg_of X G a,(zmL l c k).binds hb⟩,hh⟩
theorem zq9 {l : OpenLaw} {w : World} {K : Frag} {h : Heap} {mg : Str→Option Value} {fa mc24 mp24 mc28 mp28 : Addr} (X : K.In h) (G : h.Ns mainGlobals mg) (hfa : mg "law" = some (.ref fa)) {t_KNOT_NUMBERS : Tok} {t_TURNS : Tok} {t_MOST_BEHIND_START : Tok} (a1 : AD K "is_whole" zdG) (a2 : AD K "code" zjP) (a3 : AD K "how_many_below" zbu) (a4 : AD K "joined_up" zcS) (a5 : AD K "lowest_unlike" zbA) (a6 : AD K "turned" zfG) (a7 : AD K "labels" zfI) (a8 : AD K "neighbours" zcr) (a9 : AD K "least_free" zcs) (a10 : AD K "colours" zeC) (a11 : AD K "marks" zhb) (a12 : AD K "handed" zfO) (a13 : AD K "is_one_of_first" zbi) (a14 : AD K "children" zdH) (a15 : AD K "beneath" zeD) (a16 : AD K "is_way" zfN) (a17 : AD K "need_way" zdE) (a18 : AD K "own_entries" zbZ) (a19 : AD K "full_rows_beneath" za5) (a20 : AD K "full_rows" zcT) (a21 : AD K "owns_of" zer) (a22 : AD K "starts_of" zcQ) (a23 : AD K "bridges_of" zcu) (a24 : AD K "first_place" zbj) (a25 : AD K "start_in" zdC) (a26 : AD K "next_place" zcq) (a27 : AD K "search" zfH) (a28 : AD K "search_for_key" zaT) (a29 : AD K "paper_of" zdD) (a30 : AD K "_law_every" zez) (a31 : AD K "_law_begin" zeB) (a32 : AD K "_law_mixed" zew) (a33 : AD K "_law_take" zfK) (a34 : AD K "_law_key" zhe) (a35 : AD K "_law_tree" zfJ) (a36 : AD K "_law_row" zhd) (a37 : AD K "_law_rows" zfL) (a38 : AD K "_law_children" zct) (a39 : AD K "_law_way" zhc) (a40 : AD K "_law_code" zfM) (a41 : AD K "_law_turned" zdF) (a42 : AD K "_law_colours" zcR) (a43 : AD K "_law_marks" zex) (a44 : AD K "_law_fulls" zey) (a45 : AD K "_law_stand" zet) (a46 : AD K "_law_asked_key" zb0) (a47 : AD K "_law_below" zeA) (a48 : AD K "_law_whole" zes) (a49 : AD K "_law_paper" zev) (a50 : AD K "_law_right" zeu) (a51 : AD K "law" zns) (t24 : tabIn K "first_place" = some (mc24,mp24)) (h24 : codeHdIn K mc24 mp24 = true) (t28 : tabIn K "search_for_key" = some (mc28,mp28)) (h28 : codeHdIn K mc28 mp28 = true) (z_abs : nsIn K mainGlobals "abs" = some none) (z_bool : nsIn K mainGlobals "bool" = some none) (z_dict : nsIn K mainGlobals "dict" = some none) (z_enumerate : nsIn K mainGlobals "enumerate" = some none) (z_int : nsIn K mainGlobals "int" = some none) (z_isinstance : nsIn K mainGlobals "isinstance" = some none) (z_len : nsIn K mainGlobals "len" = some none) (z_list : nsIn K mainGlobals "list" = some none) (z_max : nsIn K mainGlobals "max" = some none) (z_min : nsIn K mainGlobals "min" = some none) (z_range : nsIn K mainGlobals "range" = some none) (z_reversed : nsIn K mainGlobals "reversed" = some none) (z_sorted : nsIn K mainGlobals "sorted" = some none) (z_tuple : nsIn K mainGlobals "tuple" = some none) (z_zip : nsIn K mainGlobals "zip" = some none) (y_KNOT_NUMBERS : nsIn K mainGlobals "KNOT_NUMBERS" = some (some (.int 64 t_KNOT_NUMBERS))) (y_TURNS : nsIn K mainGlobals "TURNS" = some (some (.int 5 t_TURNS))) (y_MOST_BEHIND_START : nsIn K mainGlobals "MOST_BEHIND_START" = some (some (.int 2 t_MOST_BEHIND_START))) :
  ∃ fd : FuncData,(∀ (s : Shared) (v : Value),BindsTo s fd ⟨[v],[]⟩ [("_law_script",v)])∧∀ base : Heap,K.In base→base.Ns mainGlobals mg→L2.BMAt mg base→FnOk l.prog w K mg base CX0 lawRoom fa fd ["_law_script"] (zh0 K mp24 mp28):=by
 obtain ⟨f,oc,od,kV,dc,pm,an,cd,ct,sl,a,l,c,k⟩:=a51.ex
 have e:=hfa.symm.trans (mg_of X G a)
 cases e
 have T : Txt K mg:=⟨mg_none_of X G z_abs,mg_none_of X G z_bool,mg_none_of X G z_dict,mg_none_of X G z_enumerate,mg_none_of X G z_int,mg_none_of X G z_isinstance,mg_none_of X G z_len,mg_none_of X G z_list,mg_none_of X G z_max,mg_none_of X G z_min,mg_none_of X G z_range,mg_none_of X G z_reversed,mg_none_of X G z_sorted,mg_none_of X G z_tuple,mg_none_of X G z_zip,⟨_,mg_of X G y_KNOT_NUMBERS⟩,⟨_,mg_of X G y_TURNS⟩,⟨_,mg_of X G y_MOST_BEHIND_START⟩⟩
 exact ⟨_,fun s v=>.of_eq rfl,fun base _ _ hBM=>(all_ok (P:=_) (w:=w) (base:=base) T hBM (a1.df X G) (a2.df X G) (a3.df X G) (a4.df X G) (a5.df X G) (a6.df X G) (a7.df X G) (a8.df X G) (a9.df X G) (a10.df X G) (a11.df X G) (a12.df X G) (a13.df X G) (a14.df X G) (a15.df X G) (a16.df X G) (a17.df X G) (a18.df X G) (a19.df X G) (a20.df X G) (a21.df X G) (a22.df X G) (a23.df X G) (a24.dft X G t24 h24) (a25.df X G) (a26.df X G) (a27.df X G) (a28.dft X G t28 h28) (a29.df X G) (a30.df X G) (a31.df X G) (a32.df X G) (a33.df X G) (a34.df X G) (a35.df X G) (a36.df X G) (a37.df X G) (a38.df X G) (a39.df X G) (a40.df X G) (a41.df X G) (a42.df X G) (a43.df X G) (a44.df X G) (a45.df X G) (a46.df X G) (a47.df X G) (a48.df X G) (a49.df X G) (a50.df X G) (a51.df X G)).at (mg_of X G a) l⟩
theorem walk {l : OpenLaw} {q : Program} {loose : List Str} {XP : (Str→Option Value)→Heap→Prop} {YP : World→Heap→Prop} {d : DefRec} {K : Params→Frag} {mc24 mp24 mc28 mp28 : Addr} (hn : l.most = some 63) (hdf : d.params.defaults = [])
  (hY : ∀ (w : World) (h : Heap),YP w h→(K w.params).In h) (hYT24 : ∀ (w : World) (h : Heap),YP w h→h.get? mp24 = some (PySem.W.tabObj #[])) (hC24 : ∀ (w : World),codeHdIn (K w.params) mc24 mp24 = true) (hD24 : ∀ (w : World),(K w.params).lookup mp24 = none) (hYT28 : ∀ (w : World) (h : Heap),YP w h→h.get? mp28 = some (PySem.W.tabObj #[])) (hC28 : ∀ (w : World),codeHdIn (K w.params) mc28 mp28 = true) (hD28 : ∀ (w : World),(K w.params).lookup mp28 = none) (hNE : mp24≠mp28)
  (F : ∀ (w : World) (mg : Str→Option Value) (fa : Addr) (h : Heap),(K w.params).In h→h.Ns mainGlobals mg→mg d.name = some (.ref fa)→
   ∃ fd : FuncData,(∀ (s : Shared) (u : Value),BindsTo s fd ⟨[u],[]⟩ [("_law_script",u)])∧∀ base : Heap,(K w.params).In base→base.Ns mainGlobals mg→L2.BMAt mg base→FnOk l.prog w (K w.params) mg base CX0 lawRoom fa fd ["_law_script"] (zh0 (K w.params) mp24 mp28)) :
  PySem.W.WalkO q loose XP YP l.row.toRowW d [] (fun f vs=>PySem.call f vs):=
 L2.znh (n:=63) (k:=lawRoom) (x := "_law_script") (tabs:=[(mc24,mp24),(mc28,mp28)]) (sp:=fun w=>zh0 (K w.params) mp24 mp28) hn (by decide) hdf ⟨rfl,by decide,by decide,rfl⟩ hY (fun w h Y q hq=>(yap.mp hq).elim (fun z=>z ▸ hYT24 w h Y) (fun hq=>(yap.mp hq).elim (fun z=>z ▸ hYT28 w h Y) (fun hq=>absurd hq ya6))) (fun w q hq=>(yap.mp hq).elim (fun z=>z ▸ ⟨hC24 w,hD24 w⟩) (fun hq=>(yap.mp hq).elim (fun z=>z ▸ ⟨hC28 w,hD28 w⟩) (fun hq=>absurd hq ya6))) F (fun _ _ a ns hl hT hS=>⟨a,ns,rfl,hS,hl,hNE,hT _ yaz,hT _ (yaG _ yaz),fun _=>rfl⟩)
end My
open PySem PySem.W PyProof.Rows
namespace PySem.W.Fast
def tw13725763935567415906:=0
def tw5909921278626655892:=0
def tw2196474868181882951:=0
def tw6395247070977760613:=0
def tw6931596837840832423:=0
def tw9333282601138755811:=0
def tw13858836475458421097:=0
def tw17149252086764381303:=0
def tw1069724391761815340:=0
def tw17605842563085759676:=0
def tw12249346765671345367:=0
def tw14892077371541937017:=0
def tw6468104851938244092:=0
def tw4224634334724319511:=0
def tw1090313169549265101:=0
def tw11125624914158580674:=0
def tw389634015723211489:=0
def tw548264114559451634:=0
def tw6064613556547079600:=0
def tw10847487418042154786:=0
def tw13671005117775749921:=0
def tw15570149260417917406:=0
def tw10574462468546757274:=0
def tw13247271890385429344:=0
def tw12856390454199656315:=0
def tw7465080392584861255:=0
def tw11146646936409712717:=0
def tw8751062510622720340:=0
def tw7856388432764701989:=0
def tw13029401803325784575:=0
def tw7164444257504082008:=0
def tw4475969629485560334:=0
def tw13569257214159842842:=0
def tw5640625666984985576:=0
def tw17886291125530159308:=0
def tw3185846483821766353:=0
def tw16245857694733040606:=0
def tw12723993746877897799:=0
def tw3537655257607726214:=0
def tw2134688225626397195:=0
def tw2901216435485247761:=0
def tw4800313212397625079:=0
def tw1798703027487475315:=0
def tw14352123265717604010:=0
def tw6901416898025029259:=0
def tw18386919156374349877:=0
def tw9176254895016198966:=0
def tw10671037357784413078:=0
def tw2851955212242868702:=0
def tw15158785300247598600:=0
def tw11119686995210986662:=0
def tw13390072258780365312:=0
def tw10174029428691265143:=0
def tw15820232342258137586:=0
def tw3002254747806730016:=0
def tw316299016786742703:=0
def tw14816511404341280985:=0
def tw15922206062969999071:=0
def tw1788841873161416721:=0
def tw13951684461966218330:=0
def tw12019154690706293998:=0
def tw7760450098545071765:=0
def tw17954083222001964366:=0
def tw6043044201641920926:=0
def tw9341002354194858839:=0
def tw1452683861366813260:=0
def tw7696713626577156661:=0
def tw12992662289155520200:=0
def tw7435662814718892935:=0
def tw3468454441535171343:=0
def tw14960257326478484950:=0
def tw18010877828179119286:=0
def tw12656729352402813220:=0
def tw5736933817359152778:=0
def tw13086029963546736119:=0
def tw7155098575530917041:=0
def tw16019610353642997407:=0
def tw3524631698569853989:=0
def tw7962322054070569043:=0
def tw1210128994052557682:=0
def tw8564867600053729733:=0
def tw2214429571208373545:=0
def tw15305675817950805285:=0
def tw17575193425837373599:=0
def tw11909713051106351046:=0
def tw17868807158904867655:=0
def tw1975549553427667174:=0
def tw4139189233921776263:=0
def tw17479250396553860021:=0
def tw13098295265754731628:=0
def tw16176945873053997314:=0
def tw3088242152917836479:=0
def tw11387744731363776577:=0
def tw1797588716693602384:=0
def tw17323544348274112496:=0
def tw601157033297668439:=0
def tw10290693355559883494:=0
def tw6788123985795119041:=0
def tw3809857817851331578:=0
def tw530642818549225010:=0
def tw2637277620842509077:=0
def tw10504453221170633874:=0
def tw14656191712969389775:=0
def tw16430556344288630979:=0
def tw6455552997893671947:=0
def tw9588774204400880716:=0
def tw11180737220951106702:=0
def tw12749860712518531634:=0
def tw17599917230664176642:=0
def tw5249799045939670779:=0
def tw2370754033339426555:=0
def tw15673130203199059367:=0
def tw791806232192337810:=0
def tw5699691305870896864:=0
def tw11967443369891217532:=0
def tw13694537860927535122:=0
def tw10213501621428539128:=0
def tw7653195476462984886:=0
def tw17171651671866433297:=0
def tw15580869296230828828:=0
def tw17783458664562983502:=0
def tw13258702997974203953:=0
def tw10349910497172375053:=0
def tw6281366687532593039:=0
def tw4211090020385295926:=0
def tw13644744173141746516:=0
def tw9992613596580947400:=0
def tw3088863345725389201:=0
def tw17845899413487383955:=0
def tw18417762346701753995:=0
def tw11524195293981509214:=0
def tw10446453663870913191:=0
def tw4132512697962876129:=0
def tw11009541726702533627:=0
def tw13097148387128474645:=0
def tw3261567675735411320:=0
def tw11335641534724658812:=0
def tw9328927800418661195:=0
def tw15360133630861518714:=0
def tw17725342307948568017:=0
def tw12852000341279784939:=0
def tw4871996018293610719:=0
def tw9390166540749188907:=0
def tw5500081257656669040:=0
def tw7289079108716843019:=0
def tw7006076130781052097:=0
def tw14179894243011909097:=0
def tw12626356637505116438:=0
def tw13922192065391257606:=0
def tw7861507549727048676:=0
def tw4833376451744738110:=0
def tw5187853220736649190:=0
def tw3857042618493311374:=0
def tw1056746009396099734:=0
def tw857882510015105760:=0
def tw14691598483426192209:=0
def tw8590302006362045150:=0
def tw7025565929410391690:=0
def tw6775263504832363339:=0
def tw10050497084928438266:=0
def tw5009155493188508654:=0
def tw12329349204891314270:=0
def tw9048934746934049181:=0
def tw6972294427868481697:=0
def tw13891244309076378323:=0
def tw6345653612722351230:=0
def tw3626552323927089132:=0
def tw4350455374145300751:=0
def tw3977699211632305326:=0
def tw2810150946626350935:=0
end PySem.W.Fast
set_option maxRecDepth 100000 in
set_option maxHeartbeats 0 in
theorem PySem.Challenge.cw_bridgefind_k34_papers_told_holds : PySem.Challenge.rw_bridgefind_k34_papers_told.Holds := by
 w_on; o_law; k_head; (case hw=>w_witness2)
 k_fill
 refine My.walk (l:=PySem.Challenge.rw_bridgefind_k34_papers_told) (mc24:=188) (mp24:=184) (mc28:=216) (mp28:=212) rfl rfl (fun w h Y=>PySem.W.km_in_of Y) (fun w h Y=>PySem.W.km_tabs_of Y 184 (by decide)) (fun w=>by kernel_rfl) (fun w=>by kernel_rfl) (fun w h Y=>PySem.W.km_tabs_of Y 212 (by decide)) (fun w=>by kernel_rfl) (fun w=>by kernel_rfl) (by decide) ?F
 case F=>
  intro w mg fa h KX G hmg
  refine' My.zq9 (mc24:=188) (mp24:=184) (mc28:=216) (mp28:=212) KX G hmg ?_ ?_ ?_ ?_ ?_ ?_ ?_ ?_ ?_ ?_ ?_ ?_ ?_ ?_ ?_ ?_ ?_ ?_ ?_ ?_ ?_ ?_ ?_ ?_ ?_ ?_ ?_ ?_ ?_ ?_ ?_ ?_ ?_ ?_ ?_ ?_ ?_ ?_ ?_ ?_ ?_ ?_ ?_ ?_ ?_ ?_ ?_ ?_ ?_ ?_ ?_ ?_ ?_ ?_ ?_ ?_ ?_ ?_ ?_ ?_ ?_ ?_ ?_ ?_ ?_ ?_ ?_ ?_ ?_ ?_ ?_ ?_ ?_
  any_goals k_is
  all_goals first | refine' My.AD.of ?_ ?_ ?_ ?_ | skip
  any_goals k_is
  all_goals kernel_rfl

