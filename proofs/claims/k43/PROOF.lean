import PyProof.Rows.All
import Wide.All
import OpenK.AllK
import Wide.FinOn
import PyProof.EqAt
import PyProof.EqKinds
import PyProof.TupleCall
import PyProof.NeKinds
import Lean
import PyProof.ExcBaseAll.ValueError
import PyProof.NsDelKeeps
import PyProof.ExcArgsOwn
import KE.KIsAll
import PyProof.FString
import PyProof.ReprRoads
import PyProof.CallStr
import PyProof.Rows.SeqMore2
import PySem.Challenge.RW_bridgefind_k43_asks_refused
set_option Elab.async false
set_option linter.all false
set_option maxRecDepth 100000
local macro_rules | `(tactic| omega)=>`(tactic| lia)
open PySem.W (Frag nsIn codeIn keepIn tabIn codeHdIn mg_of mg_none_of fnOf OpenLaw kitOne mroIn findIn)
abbrev yaa:=@List.length_map
abbrev yab:=@Nat.le_refl
abbrev yac:=@PySem.Heap.lt_size
abbrev yad:=@List.getElem?_eq_getElem
abbrev yae:=@List.length_append
abbrev yaf:=@List.mem_append
abbrev yag:=@List.mem_singleton
abbrev yah:=@List.mem_cons_self
abbrev yai:=@Option.some.inj
abbrev yaj:=@List.mem_cons
abbrev yak:=@decide_eq_false
abbrev yal:=@List.mem_cons_of_mem
abbrev yam:=@PySem.Heap.get?_push_of_some
abbrev yan:=@List.getD_eq_getElem?_getD
abbrev yao:=@Array.length_toList
abbrev yap:=@decide_eq_true
abbrev yaq:=@List.mem_append_right
abbrev yar:=@List.length_take
abbrev yas:=@List.map_append
abbrev yat:=@Nat.lt_of_lt_of_le
abbrev yau:=@Bool.false_ne_true
abbrev yav:=@List.length_cons
abbrev yaw:=@Nat.ne_of_lt
abbrev yax:=@List.getElem?_map
abbrev yay:=@List.size_toArray
abbrev yaz:=@List.take_of_length_le
abbrev yaA:=@List.map_cons
abbrev yaB:=@Nat.le_trans
abbrev yaC:=@List.pairwise_append
abbrev yaD:=@List.getElem?_eq_some_iff
abbrev yaE:=@Bool.false_eq_true
abbrev yaF:=@Nat.zero_le
abbrev yaG:=@List.length_drop
abbrev yaH:=@List.length_singleton
abbrev yaI:=@Array.toList_append
abbrev yaJ:=@List.mem_append_left
abbrev yaK:=@of_decide_eq_true
abbrev yaL:=@List.getElem?_append_right
abbrev yaM:=@List.not_mem_nil
abbrev yaN:=@PySem.Heap.get?_push_size
abbrev yaO:=@List.getElem?_append_left
abbrev yaP:=@Nat.lt_of_le_of_lt
abbrev yaQ:=@Array.getElem?_eq_getElem
abbrev yaR:=@List.append_assoc
abbrev yaS:=@Array.getElem?_toList
abbrev yaT:=@List.lookup_cons
abbrev yaU:=@List.append_nil
abbrev yaV:=@List.nodup_cons
abbrev yaW:=@List.mem_of_getElem?
abbrev yaX:=@List.take_append_drop
abbrev yaY:=@List.mem_map
abbrev yaZ:=@List.all_eq_true
abbrev ya0:=@Nat.le_of_lt
abbrev ya1:=@Option.map_eq_some_iff
abbrev ya2:=@Nat.lt_irrefl
abbrev ya3:=@List.mem_range
abbrev ya4:=@Bool.and_eq_true
abbrev ya5:=@List.reverse_cons
abbrev ya6:=@List.drop_zero
abbrev ya7:=@Bool.and_false
abbrev ya8:=@List.drop_eq_nil_of_le
abbrev ya9:=@List.getElem_of_mem
abbrev yba:=@Bool.eq_false_iff
abbrev ybb:=@List.filter_cons_of_pos
abbrev ybc:=@List.filter_cons_of_neg
abbrev ybd:=@List.getElem_mem
abbrev ybe:=@List.length_pos_iff
abbrev ybf:=@List.filterMap_cons
abbrev ybg:=@List.any_cons
abbrev ybh:=@List.find?_cons
abbrev ybi:=@List.length_nil
abbrev ybj:=@List.mem_of_mem_take
abbrev ybk:=@Nat.min_eq_left
abbrev ybl:=@Nat.add_le_add_right
abbrev ybm:=@List.filter_eq_nil_iff
abbrev ybn:=@List.take_succ_eq_append_getElem
abbrev ybo:=@List.mem_filter
abbrev ybp:=@Bool.false_and
abbrev ybq:=@List.of_mem_zip
abbrev ybr:=@List.length_replicate
abbrev ybs:=@Int.toNat_natCast
abbrev ybt:=@PySem.Heap.get?_update_other
abbrev ybu:=@List.map_nil
abbrev ybv:=@List.pairwise_cons
abbrev ybw:=@List.pairwise_iff_getElem
abbrev ybx:=@Array.toList_push
abbrev yby:=@List.mem_of_mem_drop
abbrev ybz:=@Bool.not_eq_true'
abbrev ybA:=@Nat.sub_zero
abbrev ybB:=@Array.toList_reverse
abbrev ybC:=@Nat.lt_or_ge
abbrev ybD:=@Bool.not_true
abbrev ybE:=@List.all_eq_false
abbrev ybF:=@Nat.sub_self
abbrev ybG:=@of_decide_eq_false
abbrev ybH:=@List.flatten_cons
abbrev ybI:=@List.map_take
abbrev ybJ:=@Bool.eq_iff_iff
abbrev ybK:=@Option.isSome_iff_exists
abbrev ybL:=@List.all_cons
abbrev ybM:=@List.getElem_drop
abbrev ybN:=@List.drop_drop
abbrev ybO:=@List.perm_append_comm
abbrev ybP:=@Array.toList_extract
abbrev ybQ:=@List.extract_eq_take_drop
abbrev ybR:=@List.nil_append
abbrev ybS:=@List.drop_take
abbrev ybT:=@List.reverse_append
abbrev ybU:=@Int.emod_nonneg
abbrev ybV:=@Int.emod_lt_of_pos
abbrev ybW:=@List.filter_append
abbrev ybX:=@List.length_filter_le
abbrev ybY:=@Nat.min_eq_right
abbrev ybZ:=@List.sum_cons
abbrev yb0:=@List.flatten_append
abbrev yb1:=@Array.append_assoc
abbrev yb2:=@List.getElem?_set_ne
abbrev yb3:=@Nat.add_le_add_left
abbrev yb4:=@Array.perm_iff_toList_perm
abbrev yb5:=@List.drop_eq_getElem_cons
abbrev yb6:=@Bool.not_eq_false'
abbrev yb7:=@List.getElem?_take
abbrev yb8:=@List.getElem?_drop
abbrev yb9:=@List.getElem?_cons_succ
abbrev yca:=@List.zip_cons_cons
abbrev ycb:=@List.getElem?_eq_none
abbrev ycc:=@List.eq_nil_of_length_eq_zero
abbrev ycd:=@List.filter_eq_self
abbrev yce:=@List.take_succ_cons
namespace L2
open PySem PySem.Spec PyProof.Rows
abbrev Key:=Sum Int Str
def zgk : Key→Value→Bool
  | .inl k,v=>Value.isInt k v
  | .inr x,v=>Value.isStrOf x v
def keyH (w : World) : Key→Int
  | .inl k=>hashInt k
  | .inr x=>hashStr w x
theorem zaL : ∀ {k : Key} {v : Value},zgk k v = true→(∃ i t,k = Sum.inl i∧v = Value.int i t)∨(∃ x t,k = Sum.inr x∧v = Value.str x t)
  | .inl i,v,h=>by
    obtain ⟨t,e⟩:=Value.isInt_shape (k:=i) (v:=v) h
    exact .inl ⟨i,t,rfl,e⟩
  | .inr x,v,h=>by
    obtain ⟨t,e⟩:=Value.isStrOf_shape (x:=x) (v:=v) h
    exact .inr ⟨x,t,rfl,e⟩
theorem ziD (i : Int) (t : Tok) : zgk (.inl i) (.int i t) = true:=by simp [zgk,Value.isInt]
theorem ziC (x : Str) (t : Tok) : zgk (.inr x) (.str x t) = true:=by simp [zgk,Value.isStrOf]
theorem zl8 (a b : Int) : decide ((Sum.inl a : Key) = Sum.inl b) = (a == b):=by
  by_cases e : a = b
  · subst e; simp
  · have h : ¬ (Sum.inl a : Key) = Sum.inl b:=fun q=>e (Sum.inl.inj q)
    rw [yak h]
    exact (beq_eq_false_iff_ne.mpr e).symm
theorem zl5 (a b : Str) : decide ((Sum.inr a : Key) = Sum.inr b) = decide (a = b):=by
  by_cases e : a = b
  · subst e; simp
  · have h : ¬ (Sum.inr a : Key) = Sum.inr b:=fun q=>e (Sum.inr.inj q)
    rw [yak h,yak e]
theorem zl7 (a : Int) (b : Str) : decide ((Sum.inl a : Key) = Sum.inr b) = false:=yak (fun q=>nomatch q)
theorem zl6 (a : Str) (b : Int) : decide ((Sum.inr a : Key) = Sum.inl b) = false:=yak (fun q=>nomatch q)
def zaS (prog : Program) (w : World) : PySem.KeyKind prog w Key where
  is:=zgk
  hash:=keyH w
  inj:=fun v a b ha hb=>by
    rcases zaL ha with ⟨i,t,rfl,rfl⟩ | ⟨x,t,rfl,rfl⟩
    · rcases zaL hb with ⟨j,u,rfl,e⟩ | ⟨y,u,rfl,e⟩
      · injection e with e1 _; rw [e1]
      · exact nomatch e
    · rcases zaL hb with ⟨j,u,rfl,e⟩ | ⟨y,u,rfl,e⟩
      · exact nomatch e
      · injection e with e1 _; rw [e1]
  byValue:=fun k v h=>by
    rcases zaL h with ⟨i,t,rfl,rfl⟩ | ⟨x,t,rfl,rfl⟩ <;> rfl
  pyHash:=fun hv h=>by
    rcases zaL hv with ⟨i,t,rfl,rfl⟩ | ⟨x,t,rfl,rfl⟩
    · exact wpAny_pyHash_int h
    · exact wpAny_pyHash_str h
  eqBool:=fun hu hv h=>by
    rcases zaL hu with ⟨i,t,rfl,rfl⟩ | ⟨x,t,rfl,rfl⟩
    · rcases zaL hv with ⟨j,u,rfl,rfl⟩ | ⟨y,u,rfl,rfl⟩
      · rw [zl8] at h; exact wpAny_eqBool_int h
      · rw [zl7] at h; exact SeqAt.EqAt.int_str i t y u _ _ _ _ h
    · rcases zaL hv with ⟨j,u,rfl,rfl⟩ | ⟨y,u,rfl,rfl⟩
      · rw [zl6] at h; exact SeqAt.EqAt.str_int x t j u _ _ _ _ h
      · rw [zl5] at h; exact wpAny_eqBool_str h
  «strs»:=fun k x t v h=>by
    rcases zaL h with ⟨i,u,rfl,e⟩ | ⟨y,u,rfl,e⟩
    · exact nomatch e
    · injection e with e1 _
      subst e1
      cases v <;> rfl
theorem zhr (prog : Program) (w : World) (k : Key) (v : Value) : (zaS prog w).is k v = zgk k v:=rfl
theorem zgh (prog : Program) (w : World) (i : Int) (t : Tok) : (zaS prog w).is (.inl i) (.int i t) = true:=ziD i t
theorem zgg (prog : Program) (w : World) (x : Str) (t : Tok) : (zaS prog w).is (.inr x) (.str x t) = true:=ziC x t
end L2
namespace L2
open PySem PySem.Spec PyProof.Rows
inductive V where
  | non | bl (b : Bool) | int (i : Int) | str (x : Str) | byt (b : Array UInt8) | flt (b : UInt64) | ref (a : Addr) | ty (n : String)
  deriving DecidableEq
def RelV : V→Value→Prop
  | .non,u=>u = Value.none
  | .bl b,u=>u = Value.bool b
  | .int i,u=>∃ t,u = Value.int i t
  | .str x,u=>∃ t,u = Value.str x t
  | .byt b,u=>∃ t,u = Value.bytes b t
  | .flt b,u=>∃ t,u = Value.float b t
  | .ref a,u=>u = Value.ref a
  | .ty n,u=>u = Value.type n
abbrev Vals : List V→List Value→Prop:=Paired RelV
theorem Vals.length {xs : List V} {us : List Value} (r : Vals xs us) : xs.length = us.length:=Paired.length r
theorem Vals.get : ∀ {xs : List V} {us : List Value} {i : Nat} {x : V},Vals xs us→xs[i]? = some x→∃ u,us[i]? = some u∧RelV x u
  | _,_,_,_,.nil,e=>by simp at e
  | _,_,0,_,.cons r _,e=>by simp at e; subst e; exact ⟨_,rfl,r⟩
  | _,_,i + 1,x,.cons _ t,e=>by
    obtain ⟨u,h1,h2⟩:=Vals.get (i:=i) (x:=x) t (by simpa using e)
    exact ⟨u,by simpa using h1,h2⟩
theorem Vals.set {x : V} {u : Value} (r : RelV x u) : ∀ {xs : List V} {us : List Value} (i : Nat),Vals xs us→Vals (xs.set i x) (us.set i u)
  | _,_,_,.nil=>.nil
  | _,_,0,.cons _ t=>.cons r t
  | _,_,i + 1,.cons q t=>.cons q (Vals.set r i t)
theorem Vals.append : ∀ {xs ys : List V} {us ws : List Value},Vals xs us→Vals ys ws→Vals (xs ++ ys) (us ++ ws)
  | _,_,_,_,.nil,s=>s
  | _,_,_,_,.cons r t,s=>.cons r (Vals.append t s)
theorem Vals.take : ∀ {xs : List V} {us : List Value} (n : Nat),Vals xs us→Vals (xs.take n) (us.take n)
  | _,_,0,_=>.nil
  | _,_,_ + 1,.nil=>.nil
  | _,_,n + 1,.cons r t=>.cons r (Vals.take n t)
theorem Vals.drop : ∀ {xs : List V} {us : List Value} (n : Nat),Vals xs us→Vals (xs.drop n) (us.drop n)
  | _,_,0,r=>r
  | _,_,_ + 1,.nil=>.nil
  | _,_,n + 1,.cons _ t=>Vals.drop n t
def RelO : Option V→Option Value→Prop
  | some v,some u=>RelV v u
  | none,none=>True
  | _,_=>False
def KV {κ : Type} : List (κ×V)→List (κ×Value)→Prop:=Paired fun (p : κ×V) (q : κ×Value)=>p.1 = q.1∧RelV p.2 q.2
def kV : Key→V
  | .inl i=>.int i
  | .inr x=>.str x
inductive HO where
  | lst (xs : List V)
  | tup (xs : List V)
  | dK (kvs : List (Key×V)) | dT (kvs : List (List Key×V))
  | set (S : Int→Bool) (n : Nat)
  | ins (C dx : Addr) (fs : List (Str×V))
  | own (x : Addr)
  | xd (fs : List (Str×V))
  | met (f x : Addr)
  | rng (lo hi : Int)
  | frz (o : Obj) (u : HO)
  | tbl (ps : Array Value)
  | ext (φ : Heap→Prop)
abbrev Hp:=Addr→Option HO
def upd (H : Hp) (a : Addr) (o : HO) : Hp:=fun b=>if b = a then some o else H b
theorem zac {H : Hp} {a : Addr} {o : HO} : upd H a o a = some o:=by unfold upd; rw [if_pos rfl]
theorem zaj {H : Hp} {a b : Addr} {o : HO} (h : b≠a) : upd H a o b = H b:=by unfold upd; rw [if_neg h]
theorem zkw {H : Hp} {a : Addr} {o u : HO} : upd (upd H a o) a u = upd H a u:=by
  funext b; unfold upd; split <;> rfl
theorem zlZ {H : Hp} {a b : Addr} {o u : HO} (h : H a = some o) (h' : H b = some u) (d : o≠u) : a≠b:=by
  intro e; subst e; rw [h] at h'; exact d (yai h')
theorem zad {H : Hp} {a b : Addr} {o : HO} (h : H a = some o) (h' : H b = none) : a≠b:=by
  intro e; subst e; rw [h] at h'; cases h'
section
variable (P : Program) (w : World)
def zaU (H : Hp) (h : Heap) (a : Addr) : HO→Prop
  | .lst xs=>xs.length≤sizeLine∧∃ (its : List Value) (n : Nat),Vals xs its∧h.get? a = some { cls:=.type "list",data:=.seq its.toArray n }
  | .tup xs=>xs.length≤sizeLine∧∃ its : List Value,Vals xs its∧IsTup h a its.toArray
  | .dK kvs=>kvs.length≤sizeLine∧(a == sysModules) = false∧∃ vs,KV kvs vs∧h.DictOf (zaS P w) a vs
  | .dT kvs=>kvs.length≤sizeLine∧(a == sysModules) = false∧∃ xs : List (List Key×Addr×Value),
      Paired (fun (p : List Key×V) (q : List Key×Addr×Value)=>p.1 = q.1∧H q.2.1 = some (.tup (p.1.map kV))∧RelV p.2 q.2.2) kvs xs∧
      ∃ o es ep,h.get? a = some o∧o.ExactDict∧o.data = .dict es ep∧es.toList = xs.map (entryOfKey (tupleKind (zaS P w)))∧(xs.map (·.1)).Nodup
  | .set S n=>h.SetOf (intKind P w) a S n
  | .ins C dx fs=>H dx = some (.own a)∧fs.length≤1000∧dx≠a∧h.get? a = some (PySem.W.instObj C dx)∧
      ∃ mA,h.Ns1 dx mA∧(∀ f,RelO (fs.lookup f) (mA f))∧PySem.Within mA (fs.map (·.1))
  | .own _=>∃ o,h.get? a = some o
  | .xd fs=>∃ mA,h.Ns1 a mA∧∀ f,RelO (fs.lookup f) (mA f)
  | .rng lo hi=>∃ t u v,h.get? a = some { cls:=.type "range",data:=.fields #[.int lo t,.int hi u,.int 1 v] }
  | .frz o u=>h.get? a = some o∧zaU H h a u
  | .tbl ps=>h.get? a = some { cls:=.none,data:=.fields ps }
  | .met f x=>h.get? a = some (PySem.W.methodObj (.ref f) (.ref x))
  | .ext φ=>φ h∧(∃ o,h.get? a = some o)∧∀ h1 h2 : Heap,φ h1→(∀ o,h1.get? a = some o→h2.get? a = some o)→φ h2
def HOk (H : Hp) (h : Heap) : Prop:=∀ a o,H a = some o→zaU P w H h a o
end
section
variable {P : Program} {w : World} {H H' : Hp} {h h' : Heap} {a : Addr} {o : HO}
theorem zaU.lt (x : zaU P w H h a o) : a < h.objs.size:=by
  cases o with
  | lst xs=>obtain ⟨_,_,_,_,e⟩:=x; exact yac e
  | tup xs=>obtain ⟨_,_,_,p⟩:=x; exact p.lt
  | dK kvs=>obtain ⟨_,_,_,_,o,_,_,e,_⟩:=x; exact yac e
  | dT kvs=>obtain ⟨_,_,_,_,o,_,_,e,_⟩:=x; exact yac e
  | set S n=>obtain ⟨o,_,_,_,e,_⟩:=x; exact yac e
  | ins C dx fs=>obtain ⟨_,_,_,e,_⟩:=x; exact yac e
  | own y=>obtain ⟨_,e⟩:=x; exact yac e
  | xd fs=>obtain ⟨_,⟨_,_,_,e,_⟩,_⟩:=x; exact yac e
  | rng lo hi=>obtain ⟨_,_,_,e⟩:=x; exact yac e
  | frz ob u=>obtain ⟨e,_⟩:=x; exact yac e
  | tbl ps=>exact yac (show h.get? a = some _ from x)
  | met f y=>exact yac (show h.get? a = some _ from x)
  | ext φ=>obtain ⟨_,⟨_,e⟩,_⟩:=x; exact yac e
theorem Paired.mapP {α β : Type} {F G : α→β→Prop} : ∀ {l₁ : List α} {l₂ : List β},Paired F l₁ l₂→(∀ a b,F a b→G a b)→Paired G l₁ l₂
  | _,_,.nil,_=>.nil
  | _,_,.cons r t,f=>.cons (f _ _ r) (Paired.mapP t f)
theorem zaU.stay (x : zaU P w H h a o) (k : ∀ b u,(b = a∨H b = some (.own a))→h.get? b = some u→h'.get? b = some u)
    (ho : ∀ b,H b = some (.own a)→H' b = some (.own a)) (ht : ∀ b xs,H b = some (.tup xs)→H' b = some (.tup xs)) : zaU P w H' h' a o:=by
  induction o with
  | lst xs=>obtain ⟨z,its,n,r,e⟩:=x; exact ⟨z,its,n,r,k _ _ (.inl rfl) e⟩
  | tup xs=>obtain ⟨z,its,r,ob,e,c⟩:=x; exact ⟨z,its,r,ob,k _ _ (.inl rfl) e,c⟩
  | dK kvs=>obtain ⟨z,y,vs,r,ob,es,ep,e,c⟩:=x; exact ⟨z,y,vs,r,ob,es,ep,k _ _ (.inl rfl) e,c⟩
  | dT kvs=>
    obtain ⟨z,y,xs,r,ob,es,ep,e,c⟩:=x
    exact ⟨z,y,xs,Paired.mapP r fun p q z=>⟨z.1,ht _ _ z.2.1,z.2.2⟩,ob,es,ep,k _ _ (.inl rfl) e,c⟩
  | set S n=>obtain ⟨ob,es,ep,t,e,c⟩:=x; exact ⟨ob,es,ep,t,k _ _ (.inl rfl) e,c⟩
  | ins C dx fs=>
    obtain ⟨d,z,ne,e,mA,⟨od,es,ep,e2,c⟩,r⟩:=x
    exact ⟨ho _ d,z,ne,k _ _ (.inl rfl) e,mA,⟨od,es,ep,k _ _ (.inr d) e2,c⟩,r⟩
  | own y=>obtain ⟨ob,e⟩:=x; exact ⟨ob,k _ _ (.inl rfl) e⟩
  | xd fs=>obtain ⟨mA,⟨od,es,ep,e,c⟩,r⟩:=x; exact ⟨mA,⟨od,es,ep,k _ _ (.inl rfl) e,c⟩,r⟩
  | rng lo hi=>obtain ⟨t,u,v,e⟩:=x; exact ⟨t,u,v,k _ _ (.inl rfl) e⟩
  | frz ob u ih=>obtain ⟨e,q⟩:=x; exact ⟨k _ _ (.inl rfl) e,ih q⟩
  | tbl ps=>
    have e : h.get? a = some { cls:=.none,data:=.fields ps }:=x
    show h'.get? a = some { cls:=.none,data:=.fields ps }
    exact k a _ (.inl rfl) e
  | met f y=>
    have e : h.get? a = some (PySem.W.methodObj (.ref f) (.ref y)):=x
    show h'.get? a = some (PySem.W.methodObj (.ref f) (.ref y))
    exact k a _ (.inl rfl) e
  | ext φ=>obtain ⟨p,⟨o,e⟩,st⟩:=x; exact ⟨st _ _ p fun o q=>k _ _ (.inl rfl) q,⟨o,k _ _ (.inl rfl) e⟩,st⟩
theorem HOk.lt (x : HOk P w H h) (e : H a = some o) : a < h.objs.size:=(x a o e).lt
theorem HOk.fresh (x : HOk P w H h) (e : h.objs.size≤a) : H a = none:=by
  cases q : H a with
  | none=>rfl
  | some u=>exact absurd (yat (x.lt q) e) (ya2 _)
theorem HOk.kept (x : HOk P w H h) (k : ∀ b u,h.get? b = some u→h'.get? b = some u) : HOk P w H h':=fun a o e=>
  (x a o e).stay (fun b u _ q=>k b u q) (fun _ q=>q) fun _ _ q=>q
theorem HOk.laid (x : HOk P w H h) (k : ∀ b u,h.get? b = some u→h'.get? b = some u) (hp : h.objs.size≤a) (new : zaU P w (upd H a o) h' a o) : HOk P w (upd H a o) h':=fun b u e=>by
  have hn:=x.fresh hp
  by_cases hb : b = a
  · subst hb; rw [zac] at e; cases e; exact new
  · rw [zaj hb] at e
    exact (x b u e).stay (fun c v _ q=>k c v q) (fun c q=>by rw [zaj (zad q hn)]; exact q) fun c xs q=>by rw [zaj (zad q hn)]; exact q
end
def Rd (H : Hp) (a : Addr) (u : HO) : Prop:=H a = some u∨∃ o,H a = some (.frz o u)
theorem Rd.of {H : Hp} {a : Addr} {u : HO} (h : H a = some u) : Rd H a u:=.inl h
theorem Rd.ok {P : Program} {w : World} {H : Hp} {h : Heap} {a : Addr} {u : HO} (r : Rd H a u) (x : HOk P w H h) : zaU P w H h a u:=by
  rcases r with r | ⟨o,r⟩
  · exact x a u r
  · obtain ⟨_,q⟩:=x a _ r
    exact q
def Mut : Option HO→Prop
  | some (.lst _)=>True
  | some (.dK _)=>True
  | some (.dT _)=>True
  | some (.set _ _)=>True
  | some (.ins _ _ _)=>True
  | some (.ext _)=>True
  | _=>False
section
variable {P : Program} {w : World} {H : Hp} {h h' : Heap} {x e : Addr} {o' : HO}
theorem HOk.write (ok : HOk P w H h) (mu : Mut (H x)) (he : e = x∨H e = some (.own x)) (k : ∀ b u,b≠e→h.get? b = some u→h'.get? b = some u) (heo : ∃ u,h'.get? e = some u)
    (new : zaU P w (upd H x o') h' x o') : HOk P w (upd H x o') h':=fun b u q=>by
  have nown : ∀ c y,H c = some (.own y)→c≠x:=fun c y r z=>by subst z; rw [r] at mu; exact mu
  have ntup : ∀ c xs,H c = some (.tup xs)→c≠x:=fun c xs r z=>by subst z; rw [r] at mu; exact mu
  by_cases hb : b = x
  · subst hb; rw [zac] at q; cases q; exact new
  · rw [zaj hb] at q
    by_cases hbe : b = e
    · have q' : H b = some (.own x):=by
        rcases he with z | z
        · exact absurd (hbe.trans z) hb
        · rw [hbe]; exact z
      rw [q] at q'; cases q'
      obtain ⟨v,hv⟩:=heo
      exact ⟨v,by rw [hbe]; exact hv⟩
    · refine (ok b u q).stay (fun c v hc r=>k c v ?_ r) (fun c r=>by rw [zaj (nown c b r)]; exact r) fun c xs r=>by rw [zaj (ntup c xs r)]; exact r
      rcases hc with rfl | hc
      · exact hbe
      · rintro rfl
        rcases he with z | z
        · exact nown c b hc z
        · rw [hc] at z; cases z; exact hb rfl
end
structure Un (fs ex : List Addr) (H H' : Hp) (h h' : Heap) : Prop where
  keep : ∀ b o,h.get? b = some o→H b = none→b∉fs→b∉ex→h'.get? b = some o
  slot : ∀ b o,h.get? b = some o→H b = none→b∈fs→b∉ex→∃ sl,h'.get? b = some { o with slots:=sl }
  free : ∀ b o,h.get? b = some o→H b = none→b∉ex→H' b = none
  there : ∀ b o,h.get? b = some o→b∉ex→∃ o',h'.get? b = some o'
  tups : ∀ b xs,H b = some (.tup xs)→H' b = some (.tup xs)
  frzs : ∀ b o u,H b = some (.frz o u)→H' b = some (.frz o u)
  tbls : ∀ b ps,H b = some (.tbl ps)→∃ more,H' b = some (.tbl (ps ++ more))
section
variable {fs fs' ex ex' : List Addr} {H H1 H2 : Hp} {h h1 h2 h' : Heap} {a x e : Addr} {o : HO}
theorem Un.any (u : Un fs ex H H1 h h1) {b : Addr} {ob : Obj} (q : h.get? b = some ob) (n : H b = none) (hx : b∉ex) : ∃ sl,h1.get? b = some { ob with slots:=sl }:=by
  by_cases hb : b∈fs
  · exact u.slot b ob q n hb hx
  · exact ⟨ob.slots,u.keep b ob q n hb hx⟩
theorem Un.trans (a : Un fs ex H H1 h h1) (b : Un fs ex H1 H2 h1 h2) : Un fs ex H H2 h h2 where
  keep:=fun c ob q n hc hx=>b.keep c ob (a.keep c ob q n hc hx) (a.free c ob q n hx) hc hx
  slot:=fun c ob q n hc hx=>by
    obtain ⟨sl,e1⟩:=a.slot c ob q n hc hx
    obtain ⟨sl',e2⟩:=b.slot c _ e1 (a.free c ob q n hx) hc hx
    exact ⟨sl',e2⟩
  free:=fun c ob q n hx=>by
    obtain ⟨o',e1⟩:=a.there c ob q hx
    exact b.free c o' e1 (a.free c ob q n hx) hx
  there:=fun c ob q hx=>by
    obtain ⟨o',e1⟩:=a.there c ob q hx
    exact b.there c o' e1 hx
  tups:=fun c xs q=>b.tups c xs (a.tups c xs q)
  frzs:=fun c ob xs q=>b.frzs c ob xs (a.frzs c ob xs q)
  tbls:=fun c ps q=>by
    obtain ⟨m1,e1⟩:=a.tbls c ps q
    obtain ⟨m2,e2⟩:=b.tbls c _ e1
    exact ⟨m1 ++ m2,by rw [e2,yb1]⟩
theorem Un.kept (k : ∀ b u,h.get? b = some u→h'.get? b = some u) : Un fs ex H H h h':=
  ⟨fun b ob q _ _ _=>k b ob q,fun b ob q _ _ _=>⟨ob.slots,k b ob q⟩,fun _ _ _ n _=>n,fun b ob q _=>⟨ob,k b ob q⟩,fun _ _ q=>q,fun _ _ _ q=>q,fun _ ps q=>⟨#[],by rw [q]; simp⟩⟩
theorem Un.refl : Un fs ex H H h h:=Un.kept fun _ _ q=>q
theorem Un.laid (k : ∀ b u,h.get? b = some u→h'.get? b = some u) (hp : h.objs.size≤a) (hn : H a = none) : Un fs ex H (upd H a o) h h' where
  keep:=fun b u q _ _ _=>k b u q
  slot:=fun b u q _ _ _=>⟨u.slots,k b u q⟩
  free:=fun b u q n _=>by rw [zaj (yaw (yat (yac q) hp))]; exact n
  there:=fun b u q _=>⟨u,k b u q⟩
  tups:=fun b xs q=>by rw [zaj (zad q hn)]; exact q
  frzs:=fun b u xs q=>by rw [zaj (zad q hn)]; exact q
  tbls:=fun b ps q=>⟨#[],by rw [zaj (zad q hn),q]; simp⟩
theorem Un.write (mu : Mut (H x)) (he : e = x∨H e = some (.own x)) (k : ∀ b u,b≠e→h.get? b = some u→h'.get? b = some u) (heo : ∃ u,h'.get? e = some u) : Un fs ex H (upd H x o) h h':=by
  have hx : ∀ b,H b = none→b≠x:=fun b n z=>by subst z; rw [n] at mu; exact mu
  have hb : ∀ b,H b = none→b≠e:=fun b n z=>by
    subst z
    rcases he with r | r
    · exact hx b n r
    · rw [n] at r; cases r
  have hm : ∀ b u,H b = some u→¬ Mut (some u)→b≠x:=fun b u q nm z=>by subst z; rw [q] at mu; exact nm mu
  refine ⟨fun b u q n _ _=>k b u (hb b n) q,fun b u q n _ _=>⟨u.slots,k b u (hb b n) q⟩,fun b u q n _=>by rw [zaj (hx b n)]; exact n,fun b u q _=>?_,
    fun b xs q=>by rw [zaj (hm b _ q fun z=>z)]; exact q,fun b u xs q=>by rw [zaj (hm b _ q fun z=>z)]; exact q,fun b ps q=>⟨#[],by rw [zaj (hm b _ q fun z=>z),q]; simp⟩⟩
  by_cases hbe : b = e
  · subst hbe; exact heo
  · exact ⟨u,k b u hbe q⟩
theorem Un.mono (u : Un fs ex H H1 h h1) (hs : ∀ b∈fs,b∈fs') (hx : ∀ b∈ex,b∈ex') : Un fs' ex' H H1 h h1:=
  ⟨fun b ob q n hb he=>u.keep b ob q n (fun z=>hb (hs b z)) fun z=>he (hx b z),fun _ _ q n _ he=>u.any q n fun z=>he (hx _ z),fun b ob q n he=>u.free b ob q n fun z=>he (hx b z),fun b ob q he=>u.there b ob q fun z=>he (hx b z),u.tups,u.frzs,u.tbls⟩
end
def trk (h : Heap) (H : Hp) : List Addr:=(List.range h.objs.size).filter fun a=>(H a).isSome
def hidT (h : Heap) (H : Hp) : Heap:=PySem.W.hideAll h (trk h H)
theorem ziH (h : Heap) (H : Hp) : (hidT h H).objs.size = h.objs.size:=PySem.W.hideAll_size _ _
theorem zjS {h : Heap} {H : Hp} {b : Addr} {o : Obj} (e : h.get? b = some o) (n : H b = none) : (hidT h H).get? b = some o:=
  PySem.W.hideAll_get _ e fun hm=>by
    have q : (H b).isSome = true:=(ybo.mp hm).2
    rw [n] at q; simp at q
theorem zkV {h : Heap} {H : Hp} {b : Addr} {o : Obj} (e : (hidT h H).get? b = some o) : h.get? b = some o∧H b = none:=by
  have e' : h.get? b = some o:=PySem.W.of_hideAll (trk h H) e
  refine ⟨e',?_⟩
  cases q : H b with
  | none=>rfl
  | some x=>
    have hm : b∈trk h H:=ybo.mpr ⟨ya3.mpr (yac e'),by simp [q]⟩
    have z : (hidT h H).get? b = none:=PySem.W.hideAll_none (trk h H) hm
    rw [z] at e; cases e
def zlj (g h : Heap) (L : Addr) : List (Addr×Obj):=(List.range h.objs.size).filterMap fun a=>if a = L∨(g.get? a).isSome = true then none else (h.get? a).map fun o=>(a,o)
def rest (g h : Heap) (L d : Addr) : List (Addr×Obj):=(zlj g h L).filter fun p=>decide (p.1≠d)
end L2
namespace L2
open PySem PySem.Spec PyProof.Rows
structure Mod (K : Frag) (mg : Str→Option Value) (base : Heap) : Prop where
  kin : K.In base
  glob : base.Ns mainGlobals mg
  blt : ∃ mb,base.Ns builtinsNs mb∧∀ x : Str,x ≠ "__name__"→mb x = bootBuiltins x
  nolimit : base.NoLimit
structure Cx where
  prog : Program
  w : World
  K : Frag
  mg : Str→Option Value
  base : Heap
  A : Around
  N : List Str
  s₀ : Shared
  H₀ : Hp
  env : Env
  outer : List Env
  stack : List Env
  ex : List Addr
  fn : Str→Bool
  calm : Bool
  pn : List (Addr×Obj)
  xe : Value→Shared→Prop
def frs (l : List Env) : List Addr:=l.filterMap (·.frame)
abbrev Cx.fs (X : Cx) : List Addr:=frs X.outer
def Vis (sc : Scope) (x : Str) : Prop:=sc.names.lookup x = some .local∨sc.names.lookup x = some .cell∨sc.names.lookup x = some .free
def Loc (sc : Scope) (x : Str) : Prop:=sc.names.lookup x = some .local∨sc.names.lookup x = some .cell
def Look (env : Env) (h : Heap) (m : Str→Option Value) (x : Str) (u : Value) : Prop:=
  (env.kindOf x = some .local∧m x = some u)∨((env.kindOf x = some .cell∨env.kindOf x = some .free)∧∃ c,env.cells.lookup x = some c∧h.IsCell c (some u))
structure Cx.Ok (X : Cx) : Prop where
  mod : Mod X.K X.mg X.base
  kind : X.env.scope.kind = .function
  glob : X.env.globals = mainGlobals
  blt : X.env.builtins = builtinsNs
  above : X.s₀.heap.objs.size≤X.env.locals
  inj : ∀ x y c,X.env.cells.lookup x = some c→X.env.cells.lookup y = some c→x = y
  has : ∀ x,(X.env.kindOf x = some .cell∨X.env.kindOf x = some .free)→∃ c,X.env.cells.lookup x = some c
  cab : ∀ x c,X.fn x = true→X.env.cells.lookup x = some c→X.s₀.heap.objs.size≤c
  hd : X.calm = true→X.A.handled = none
  frames : X.A.frames = some X.stack
  stk : X.stack = X.outer∨(X.stack = X.env :: X.outer∧X.env.frame = some X.env.locals)
  exf : ∀ b∈X.ex,b≠X.env.locals∧∀ x c,X.env.cells.lookup x = some c→c≠b
  bs : ∀ b o,X.base.get? b = some o→X.s₀.heap.get? b = some o∧X.H₀ b = none
  bsz : X.base.objs.size≤X.s₀.heap.objs.size
  noex : ∀ b o,X.base.get? b = some o→b∉X.ex
  exfs : ∀ b∈X.ex,b∉X.fs
  funs : X.s₀.heap.FunFrames X.base X.outer
  frf : ∀ b∈X.fs,X.H₀ b = none
structure Inv (X : Cx) (pins : List (Addr×Obj)) (σ : List (Option V)) (H : Hp) (s : Shared) : Prop where
  ok : X.Ok
  os : s.os = X.s₀.os
  bare : AllBare s.gens
  base : Un X.fs X.ex X.H₀ H X.s₀.heap s.heap
  loc : ∃ m,s.heap.Ns X.env.locals m∧∀ (i : Nat) (x : Str) (v : V),X.N[i]? = some x→σ[i]? = some (some v)→Vis X.env.scope x→∃ u,RelV v u∧Look X.env s.heap m x u
  cell : ∀ x c,X.env.cells.lookup x = some c→∃ v,s.heap.IsCell c v
  free : H X.env.locals = none
  freeC : ∀ x c,X.env.cells.lookup x = some c→H c = none
  pin : ∀ p∈X.pn ++ pins,s.heap.get? p.1 = some p.2∧H p.1 = none∧p.1≠X.env.locals∧p.1∉X.fs∧∀ v,p.2.data≠.cell v
  hok : HOk X.prog X.w H s.heap
  len : σ.length = X.N.length
section
variable {X : Cx} {pins : List (Addr×Obj)} {σ : List (Option V)} {H H' : Hp} {s : Shared} {h' : Heap}
theorem Cx.Ok.nofr (ok : X.Ok) {b : Addr} {o : Obj} (e : X.base.get? b = some o) : b∉X.fs:=fun hb=>by
  have:=(ok.funs.mem hb).1
  rw [e] at this; cases this
theorem Inv.bs (I : Inv X pins σ H s) : ∀ b o,X.base.get? b = some o→s.heap.get? b = some o∧H b = none:=fun b o e=>
  ⟨I.base.keep b o (I.ok.bs b o e).1 (I.ok.bs b o e).2 (I.ok.nofr e) (I.ok.noex b o e),I.base.free b o (I.ok.bs b o e).1 (I.ok.bs b o e).2 (I.ok.noex b o e)⟩
theorem Inv.bk (I : Inv X pins σ H s) : ∀ b o,X.base.get? b = some o→s.heap.get? b = some o:=fun b o e=>(I.bs b o e).1
theorem Inv.mod (I : Inv X pins σ H s) : Mod X.K X.mg X.base:=I.ok.mod
theorem Inv.kIn (I : Inv X pins σ H s) : X.K.In s.heap:=I.ok.mod.kin.keeps I.bk
theorem Inv.nolimit (I : Inv X pins σ H s) : s.heap.NoLimit:=I.ok.mod.nolimit.keeps I.bk
theorem Inv.fr (I : Inv X pins σ H s) : ∃ m,Fr X.base X.env.locals s.heap m:=
  let ⟨m,hn,_⟩:=I.loc
  ⟨m,hn,I.bk,yaB I.ok.bsz I.ok.above⟩
theorem Inv.lt (I : Inv X pins σ H s) : X.env.locals < s.heap.objs.size:=let ⟨_,hn,_⟩:=I.loc; hn.lt
theorem Inv.sz (I : Inv X pins σ H s) : X.s₀.heap.objs.size≤s.heap.objs.size:=yaB I.ok.above (ya0 I.lt)
theorem Inv.nofs (I : Inv X pins σ H s) {a : Addr} (h : s.heap.objs.size≤a) : a∉X.fs:=fun hb=>by
  obtain ⟨_,o,ho,_⟩:=I.ok.funs.mem hb
  exact absurd (yat (yac ho) (yaB I.sz h)) (ya2 _)
theorem Inv.cne (I : Inv X pins σ H s) : ∀ x c,X.env.cells.lookup x = some c→c≠X.env.locals:=fun x c e z=>by
  obtain ⟨v,o,ho,hd⟩:=I.cell x c e
  obtain ⟨m,⟨o',es,ep,ho',hd',_⟩,_⟩:=I.loc
  rw [z,ho'] at ho; cases ho; rw [hd'] at hd; cases hd
theorem Inv.funs (I : Inv X pins σ H s) : s.heap.FunFrames X.base X.outer:=by
  have all : ∀ (l : List Env),(∀ b∈frs l,b∈X.fs)→X.s₀.heap.FunFrames X.base l→s.heap.FunFrames X.base l:=by
    intro l
    induction l with
    | nil=>intro _ _; trivial
    | cons env r ih=>
      intro hs hl
      obtain ⟨hk,⟨L,o,hf,hn,ho,hd⟩,hr⟩:=hl
      have hL : L∈X.fs:=hs L (by unfold frs; rw [ybf,hf]; exact yah)
      obtain ⟨sl,e⟩:=I.base.slot L o ho (I.ok.frf L hL) hL fun z=>I.ok.exfs L z hL
      exact ⟨hk,⟨L,_,hf,hn,e,hd⟩,ih (fun b hb=>hs b (by unfold frs; rw [ybf,hf]; exact yal _ hb)) hr⟩
  exact all X.outer (fun _ hb=>hb) I.ok.funs
theorem Inv.stack (I : Inv X pins σ H s) : s.heap.FunFrames X.base X.stack:=by
  rcases I.ok.stk with e | ⟨e,hf⟩
  · rw [e]; exact I.funs
  · rw [e]
    obtain ⟨m,hn,_⟩:=I.loc
    refine .cons (by rw [I.ok.kind]; decide) hf hn ?_ I.funs
    exact Heap.get?_none_of_le (yaB I.ok.bsz I.ok.above)
theorem Inv.stkSub (I : Inv X pins σ H s) : ∀ b∈frs X.stack,b∈X.env.locals :: X.fs:=fun b hb=>by
  rcases I.ok.stk with e | ⟨e,hf⟩
  · rw [e] at hb; exact yal _ hb
  · rw [e] at hb
    unfold frs at hb
    rw [ybf,hf] at hb
    exact hb
theorem Inv.stkFree (I : Inv X pins σ H s) : ∀ b∈frs X.stack,H b = none:=fun b hb=>by
  rcases yaj.mp (I.stkSub b hb) with e | hb
  · rw [e]; exact I.free
  · obtain ⟨_,o,ho,_⟩:=I.ok.funs.mem hb
    exact I.base.free b o ho (I.ok.frf b hb) fun z=>I.ok.exfs b z hb
theorem Inv.step {g' : Array GenState} {t' : Nat} {d' : Drawn} {ch : List Addr} (I : Inv X pins σ H s)
    (hch : ∀ b∈ch,(b∈X.ex∨X.s₀.heap.objs.size≤b)∧b≠X.env.locals∧(∀ x c,X.env.cells.lookup x = some c→c≠b)∧∀ p∈X.pn ++ pins,p.1≠b)
    (keep : ∀ b o,b≠X.env.locals→b∉X.fs→b∉ch→s.heap.get? b = some o→H b = none→h'.get? b = some o)
    (slot : ∀ b o,b≠X.env.locals→b∈X.fs→b∉ch→s.heap.get? b = some o→H b = none→∃ sl,h'.get? b = some { o with slots:=sl }) (free : ∀ b o,b∉ch→s.heap.get? b = some o→H b = none→H' b = none)
    (there : ∀ b o,b∉ch→s.heap.get? b = some o→∃ o',h'.get? b = some o')
    (tups : ∀ b xs,H b = some (.tup xs)→H' b = some (.tup xs)) (frzs : ∀ b o u,H b = some (.frz o u)→H' b = some (.frz o u)) (tbls : ∀ b ps,H b = some (.tbl ps)→∃ more,H' b = some (.tbl (ps ++ more)))
    (ns : ∀ m,s.heap.Ns X.env.locals m→h'.Ns X.env.locals m) (hok : HOk X.prog X.w H' h') (hg : AllBare g') :
    Inv X pins σ H' { s with heap:=h',gens:=g',drawn:=d',toks:=t' }:=by
  have neL : ∀ b o,X.s₀.heap.get? b = some o→b≠X.env.locals:=fun b o e=>yaw (yat (yac e) I.ok.above)
  have neC : ∀ b o,X.s₀.heap.get? b = some o→b∉X.ex→b∉ch:=fun b o e hx hb=>by
    rcases (hch b hb).1 with z | z
    · exact hx z
    · exact absurd (yat (yac e) z) (ya2 _)
  have cellK : ∀ x c,X.env.cells.lookup x = some c→∀ v,s.heap.IsCell c v→h'.IsCell c v:=fun x c e v ⟨o,ho,hd⟩=>by
    have nch : c∉ch:=fun z=>(hch c z).2.2.1 x c e rfl
    by_cases hc : c∈X.fs
    · obtain ⟨sl,q⟩:=slot c o (I.cne x c e) hc nch ho (I.freeC x c e)
      exact ⟨_,q,hd⟩
    · exact ⟨o,keep c o (I.cne x c e) hc nch ho (I.freeC x c e),hd⟩
  refine ⟨I.ok,I.os,hg,⟨fun b o e n hb hx=>?_,fun b o e n hb hx=>?_,fun b o e n hx=>?_,fun b o e hx=>?_,fun b xs e=>tups b xs (I.base.tups b xs e),fun b o xs e=>frzs b o xs (I.base.frzs b o xs e),fun b ps e=>?_⟩,?_,fun x c e=>?_,?_,fun x c e=>?_,fun p hp=>?_,hok,I.len⟩
  · exact keep b o (neL b o e) hb (neC b o e hx) (I.base.keep b o e n hb hx) (I.base.free b o e n hx)
  · obtain ⟨sl,e1⟩:=I.base.slot b o e n hb hx
    obtain ⟨sl',e2⟩:=slot b _ (neL b o e) hb (neC b o e hx) e1 (I.base.free b o e n hx)
    exact ⟨sl',e2⟩
  · obtain ⟨o',e1⟩:=I.base.there b o e hx
    exact free b o' (neC b o e hx) e1 (I.base.free b o e n hx)
  · obtain ⟨o',e1⟩:=I.base.there b o e hx
    exact there b o' (neC b o e hx) e1
  · obtain ⟨m1,e1⟩:=I.base.tbls b ps e
    obtain ⟨m2,e2⟩:=tbls b _ e1
    exact ⟨m1 ++ m2,by rw [e2,yb1]⟩
  · obtain ⟨m,hn,hl⟩:=I.loc
    refine ⟨m,ns m hn,fun i x v e1 e2 e3=>?_⟩
    obtain ⟨u,r,l⟩:=hl i x v e1 e2 e3
    refine ⟨u,r,?_⟩
    rcases l with l | ⟨k,c,e,z⟩
    · exact .inl l
    · exact .inr ⟨k,c,e,cellK x c e _ z⟩
  · obtain ⟨v,z⟩:=I.cell x c e
    exact ⟨v,cellK x c e v z⟩
  · obtain ⟨m,⟨o,_,_,ho,_⟩,_⟩:=I.loc
    exact free _ o (fun z=>(hch _ z).2.1 rfl) ho I.free
  · obtain ⟨v,o,ho,hd⟩:=I.cell x c e
    exact free c o (fun z=>(hch c z).2.2.1 x c e rfl) ho (I.freeC x c e)
  · obtain ⟨e,n,ne,nf,d⟩:=I.pin p hp
    have nch : p.1∉ch:=fun z=>(hch p.1 z).2.2.2 p hp rfl
    exact ⟨keep p.1 p.2 ne nf nch e n,free p.1 p.2 nch e n,ne,nf,d⟩
theorem Inv.un {t' : Nat} (I : Inv X pins σ H s) (u : Un X.fs [] H H' s.heap h') (hok : HOk X.prog X.w H' h') : Inv X pins σ H' { s with heap:=h',toks:=t' }:=by
  obtain ⟨m,⟨o,es,ep,ho,r⟩,_⟩:=id I.loc
  obtain ⟨sl,hL⟩:=u.any ho I.free (by simp)
  exact I.step (g':=s.gens) (d':=s.drawn) (ch:=[]) (fun _ z=>nomatch z) (fun b o _ hb _ e n=>u.keep b o e n hb (by simp)) (fun b o _ hb _ e n=>u.slot b o e n hb (by simp)) (fun b o _ e n=>u.free b o e n (by simp)) (fun b o _ e=>u.there b o e (by simp)) u.tups u.frzs u.tbls (fun m' hm=>by
    obtain ⟨o',es',ep',ho',r'⟩:=hm
    rw [ho] at ho'; cases ho'
    exact ⟨_,es',ep',hL,r'⟩) hok I.bare
theorem Inv.call {g' : Array GenState} {t' : Nat} {d' : Drawn} {ch : List Addr} (I : Inv X pins σ H s) (u : Un (frs X.stack) ch H H' s.heap h') (hok : HOk X.prog X.w H' h') (hg : AllBare g')
    (hch : ∀ b∈ch,(b∈X.ex∨X.s₀.heap.objs.size≤b)∧b≠X.env.locals∧(∀ x c,X.env.cells.lookup x = some c→c≠b)∧∀ p∈X.pn ++ pins,p.1≠b) :
    Inv X pins σ H' { s with heap:=h',gens:=g',drawn:=d',toks:=t' }:=by
  obtain ⟨m,⟨o,es,ep,ho,r⟩,_⟩:=id I.loc
  obtain ⟨sl,hL⟩:=u.any ho I.free fun z=>(hch _ z).2.1 rfl
  exact I.step (ch:=ch) hch (fun b o hL hb hc e n=>u.keep b o e n (fun z=>(yaj.mp (I.stkSub b z)).elim hL hb) hc) (fun b o _ _ hc e n=>u.any e n hc) (fun b o hc e n=>u.free b o e n hc) (fun b o hc e=>u.there b o e hc) u.tups u.frzs u.tbls (fun m' hm=>by
    obtain ⟨o',es',ep',ho',r'⟩:=hm
    rw [ho] at ho'; cases ho'
    exact ⟨_,es',ep',hL,r'⟩) hok hg
theorem Inv.turned {t' : Nat} {it : Addr} (I : Inv X pins σ H s) (k : ∀ b o,b≠it→s.heap.get? b = some o→h'.get? b = some o) (hn : H it = none) (hL : it≠X.env.locals)
    (h1 : it∈X.ex∨X.s₀.heap.objs.size≤it) (h2 : ∀ x c,X.env.cells.lookup x = some c→c≠it) (h3 : ∀ p∈X.pn ++ pins,p.1≠it) : Inv X pins σ H { s with heap:=h',toks:=t' }:=by
  have nit : ∀ b u,H b = some u→b≠it:=fun b u e z=>by rw [z,hn] at e; cases e
  refine I.step (g':=s.gens) (d':=s.drawn) (ch:=[it]) (fun b hb=>?_) (fun b o _ _ hc e _=>k b o (fun z=>hc (by simp [z])) e) (fun b o _ _ hc e _=>⟨o.slots,k b o (fun z=>hc (by simp [z])) e⟩) (fun _ _ _ _ n=>n)
    (fun b o hc e=>⟨o,k b o (fun z=>hc (by simp [z])) e⟩) (fun _ _ e=>e) (fun _ _ _ e=>e) (fun b ps e=>⟨#[],by rw [e]; simp⟩) (fun m hm=>?_) (fun b u e=>?_) I.bare
  · have e : b = it:=by simpa using hb
    subst e
    exact ⟨h1,hL,h2,h3⟩
  · obtain ⟨o,es,ep,ho,r⟩:=hm
    exact ⟨o,es,ep,k _ o (Ne.symm hL) ho,r⟩
  · refine (I.hok b u e).stay (fun c v hc q=>k c v ?_ q) (fun _ q=>q) fun _ _ q=>q
    rcases hc with z | z
    · rw [z]; exact nit b u e
    · exact nit c _ z
theorem Inv.tok (I : Inv X pins σ H s) (t : Nat) : Inv X pins σ H { s with toks:=t }:=I.un (h':=s.heap) (t':=t) Un.refl I.hok
theorem Inv.kept {t' : Nat} (I : Inv X pins σ H s) (k : ∀ b u,s.heap.get? b = some u→h'.get? b = some u) : Inv X pins σ H { s with heap:=h',toks:=t' }:=I.un (Un.kept k) (I.hok.kept k)
theorem Inv.laid {a : Addr} {o : HO} {t' : Nat} (I : Inv X pins σ H s) (k : ∀ b u,s.heap.get? b = some u→h'.get? b = some u) (hp : s.heap.objs.size≤a) (new : zaU X.prog X.w (upd H a o) h' a o) :
    Inv X pins σ (upd H a o) { s with heap:=h',toks:=t' }:=I.un (Un.laid k hp (I.hok.fresh hp)) (I.hok.laid k hp new)
theorem Inv.write {x e : Addr} {o : HO} {t' : Nat} (I : Inv X pins σ H s) (mu : Mut (H x)) (he : e = x∨H e = some (.own x)) (k : ∀ b u,b≠e→s.heap.get? b = some u→h'.get? b = some u) (heo : ∃ u,h'.get? e = some u)
    (new : zaU X.prog X.w (upd H x o) h' x o) : Inv X pins σ (upd H x o) { s with heap:=h',toks:=t' }:=I.un (Un.write mu he k heo) (I.hok.write mu he k heo new)
theorem Inv.pins_of {pins' : List (Addr×Obj)} (I : Inv X pins σ H s) (h : ∀ p∈pins',s.heap.get? p.1 = some p.2∧H p.1 = none∧p.1≠X.env.locals∧p.1∉X.fs∧∀ v,p.2.data≠.cell v) : Inv X pins' σ H s:=
  ⟨I.ok,I.os,I.bare,I.base,I.loc,I.cell,I.free,I.freeC,fun p hp=>(yaf.mp hp).elim (fun z=>I.pin p (yaJ _ z)) (h p),I.hok,I.len⟩
theorem zfb {N : List Str} (hN : N.Nodup) {i j : Nat} {x : Str} (a : N[i]? = some x) (b : N[j]? = some x) : i = j:=by
  obtain ⟨h1,e1⟩:=yaD.mp a
  obtain ⟨h2,e2⟩:=yaD.mp b
  exact (List.getElem_inj hN).mp (e1.trans e2.symm)
theorem zfw {M : Model} {A : Around} {E : Value→Shared→Prop} {i : Nat} {x : Str} {v : V} {u : Value} {Q : Unit→Shared→Prop} (I : Inv X pins σ H s) (hN : X.N.Nodup) (hi : X.N[i]? = some x) (hx : Loc X.env.scope x) (r : RelV v u)
    (h : ∀ s',Inv X pins (σ.set i (some v)) H s'→(∃ a,Heap.SameBut a s.heap s'.heap∧(a = X.env.locals∨X.env.cells.lookup x = some a))→Q () s') (hf : X.fn x = true∨X.env.scope.names.lookup x = some .local:=by first | exact .inl rfl | exact .inr rfl | assumption) : wpAny M A (storeName X.env x u) Q E s:=by
  obtain ⟨m,hn,hl⟩:=id I.loc
  have hcls : (X.env.scope.kind == .class || (X.env.scope.kind == .module && X.env.locals != X.env.globals)) = false:=by rw [I.ok.kind]; rfl
  have hiσ : i < σ.length:=by rw [I.len]; exact (yaD.mp hi).1
  have cne:=I.cne
  have tracked : ∀ {a : Addr} {h' : Heap},(∃ o,s.heap.get? a = some o∧H a = none)→Heap.SameBut a s.heap h'→HOk X.prog X.w H h':=fun {a h'} ha hs b ob e=>by
    obtain ⟨_,_,hfree⟩:=ha
    refine (I.hok b ob e).stay (fun c w' hc q=>(hs.2 c ?_).trans q) (fun _ q=>q) fun _ _ q=>q
    rintro rfl
    rcases hc with rfl | hc
    · rw [hfree] at e; cases e
    · rw [hfree] at hc; cases hc
  rcases hx with hk | hk
  · refine wpAny_storeName_local hk hn (fun h' hn' hs=>?_) hcls
    obtain ⟨oL,_,_,hoL,_⟩:=id hn
    refine h _ ⟨I.ok,I.os,I.bare,⟨fun b o e n hb hx=>?_,fun b o e n hb hx=>?_,I.base.free,fun b o e hx=>?_,I.base.tups,I.base.frzs,I.base.tbls⟩,⟨_,hn',fun j y v' e1 e2 e3=>?_⟩,fun y c e=>?_,I.free,I.freeC,fun p hp=>?_,tracked ⟨oL,hoL,I.free⟩ hs,by simpa using I.len⟩ ⟨_,hs,.inl rfl⟩
    · exact (hs.2 b (yaw (yat (yac e) I.ok.above))).trans (I.base.keep b o e n hb hx)
    · obtain ⟨sl,e1⟩:=I.base.slot b o e n hb hx
      exact ⟨sl,(hs.2 b (yaw (yat (yac e) I.ok.above))).trans e1⟩
    · obtain ⟨o',e1⟩:=I.base.there b o e hx
      exact ⟨o',(hs.2 b (yaw (yat (yac e) I.ok.above))).trans e1⟩
    · by_cases hj : j = i
      · subst hj
        rw [hi] at e1; cases e1
        rw [List.getElem?_set_self hiσ] at e2
        cases e2
        exact ⟨u,r,.inl ⟨hk,by simp⟩⟩
      · rw [yb2 (Ne.symm hj)] at e2
        obtain ⟨u',r',q⟩:=hl j y v' e1 e2 e3
        refine ⟨u',r',?_⟩
        rcases q with ⟨k,e⟩ | ⟨k,c,e,z⟩
        · refine .inl ⟨k,?_⟩
          have : y≠x:=fun e=>hj (zfb hN e1 (e ▸ hi))
          simp [this,e]
        · exact .inr ⟨k,c,e,z.sameBut hs (cne y c e)⟩
    · obtain ⟨w',z⟩:=I.cell y c e
      exact ⟨w',z.sameBut hs (cne y c e)⟩
    · obtain ⟨e,n,ne,nf,d⟩:=I.pin p hp
      exact ⟨(hs.2 p.1 ne).trans e,n,ne,nf,d⟩
  · have hfn : X.fn x = true:=by
      rcases hf with z | z
      · exact z
      · rw [z] at hk; cases hk
    obtain ⟨c,hc⟩:=I.ok.has x (.inl hk)
    obtain ⟨w',z⟩:=I.cell x c hc
    refine wpAny_storeName_cell I.ok.kind hk hc z (fun h' hc' hs=>?_)
    obtain ⟨oc,hoc,hocd⟩:=id z
    refine h { s with heap:=h' } ⟨I.ok,I.os,I.bare,⟨fun b o e n hb hx=>?_,fun b o e n hb hx=>?_,I.base.free,fun b o e hx=>?_,I.base.tups,I.base.frzs,I.base.tbls⟩,⟨m,hn.sameBut hs (Ne.symm (cne x c hc)),fun j y v' e1 e2 e3=>?_⟩,fun y c' e=>?_,I.free,I.freeC,fun p hp=>?_,tracked ⟨oc,hoc,I.freeC x c hc⟩ hs,by simpa using I.len⟩ ⟨c,hs,.inr hc⟩
    · exact (hs.2 b (yaw (yat (yac e) (I.ok.cab x c hfn hc)))).trans (I.base.keep b o e n hb hx)
    · obtain ⟨sl,e1⟩:=I.base.slot b o e n hb hx
      exact ⟨sl,(hs.2 b (yaw (yat (yac e) (I.ok.cab x c hfn hc)))).trans e1⟩
    · obtain ⟨o',e1⟩:=I.base.there b o e hx
      exact ⟨o',(hs.2 b (yaw (yat (yac e) (I.ok.cab x c hfn hc)))).trans e1⟩
    · by_cases hj : j = i
      · subst hj
        rw [hi] at e1; cases e1
        rw [List.getElem?_set_self hiσ] at e2
        cases e2
        exact ⟨u,r,.inr ⟨.inl hk,c,hc,hc'⟩⟩
      · rw [yb2 (Ne.symm hj)] at e2
        obtain ⟨u',r',q⟩:=hl j y v' e1 e2 e3
        refine ⟨u',r',?_⟩
        rcases q with q | ⟨k,c',e,z'⟩
        · exact .inl q
        · refine .inr ⟨k,c',e,z'.sameBut hs ?_⟩
          rintro rfl
          exact hj (zfb hN e1 (I.ok.inj _ _ _ e hc ▸ hi))
    · by_cases hcc : c' = c
      · subst hcc; exact ⟨_,hc'⟩
      · obtain ⟨w2,z2⟩:=I.cell y c' e
        exact ⟨w2,z2.sameBut hs hcc⟩
    · obtain ⟨e,n,ne,nf,d⟩:=I.pin p hp
      refine ⟨(hs.2 p.1 ?_).trans e,n,ne,nf,d⟩
      intro q
      rw [q,hoc] at e
      have q' : oc = p.2:=yai e
      exact d w' (by rw [← q']; exact hocd)
theorem zeP {M : Model} {A : Around} {E : Value→Shared→Prop} {i : Nat} {x : Str} {v : V} {u : Value} {Q : Unit→Shared→Prop} (I : Inv X pins σ H s) (hN : X.N.Nodup) (hi : X.N[i]? = some x) (hx : Loc X.env.scope x) (r : RelV v u)
    (h : ∀ s',Inv X pins (σ.set i (some v)) H s'→Q () s') (hf : X.fn x = true∨X.env.scope.names.lookup x = some .local:=by first | exact .inl rfl | exact .inr rfl | assumption) : wpAny M A (storeName X.env x u) Q E s:=
  zfw I hN hi hx r (fun s' I' _=>h s' I') hf
theorem Inv.call' {s' : Shared} {ch : List Addr} (I : Inv X pins σ H s) (ho : s'.os = s.os) (u : Un (frs X.stack) ch H H' s.heap s'.heap) (hok : HOk X.prog X.w H' s'.heap) (hg : AllBare s'.gens)
    (hch : ∀ b∈ch,(b∈X.ex∨X.s₀.heap.objs.size≤b)∧b≠X.env.locals∧(∀ x c,X.env.cells.lookup x = some c→c≠b)∧∀ p∈X.pn ++ pins,p.1≠b) : Inv X pins σ H' s':=by
  obtain ⟨h',g',d',t',o'⟩:=s'
  have e : o' = s.os:=ho
  subst e
  exact I.call (g':=g') (t':=t') (d':=d') u hok hg hch
end
abbrev XK:=Value→Option Addr→Hp→Prop
abbrev St:=List (Option V)
abbrev VK:=V→Hp→Prop
abbrev TE:=St→Hp→VK→Prop
abbrev TT:=St→Hp→(Bool→Hp→Prop)→Prop
abbrev TA:=St→Hp→(List V→Hp→Prop)→Prop
structure Ends where
  nx : St→Hp→Prop
  rt : VK
  bk : St→Hp→Prop:=fun _ _=>False
  ct : St→Hp→Prop:=fun _ _=>False
abbrev TS:=Ends→St→Hp→Prop
def EP (X : Cx) (pins : List (Addr×Obj)) (σ : St) (Q : VK) (u : Value) (s' : Shared) : Prop:=∃ v H',Inv X pins σ H' s'∧RelV v u∧Q v H'
def TP (X : Cx) (pins : List (Addr×Obj)) (σ : St) (Q : Bool→Hp→Prop) (b : Bool) (s' : Shared) : Prop:=∃ H',Inv X pins σ H' s'∧Q b H'
def AP (X : Cx) (pins : List (Addr×Obj)) (σ : St) (Q : List V→Hp→Prop) (us : List Value) (s' : Shared) : Prop:=∃ vs H',Inv X pins σ H' s'∧Vals vs us∧Q vs H'
def SP (X : Cx) (pins : List (Addr×Obj)) (D : Ends) (f : Flow) (s' : Shared) : Prop:=
  match f with
  | .next=>∃ σ' H',Inv X pins σ' H' s'∧D.nx σ' H'
  | .brk=>∃ σ' H',Inv X pins σ' H' s'∧D.bk σ' H'
  | .cont=>∃ σ' H',Inv X pins σ' H' s'∧D.ct σ' H'
  | .ret u=>∃ v σ' H',Inv X pins σ' H' s'∧RelV v u∧D.rt v H'
def PE (X : Cx) (e : Expr) (t : TE) : Prop:=
  ∀ (pins : List (Addr×Obj)) (s : Shared) (σ : St) (H : Hp) (Q : VK),Inv X pins σ H s→t σ H Q→wpAny (model X.prog X.w) X.A (eval e X.env) (EP X pins σ Q) X.xe s
def PT (X : Cx) (e : Expr) (t : TT) : Prop:=
  ∀ (pins : List (Addr×Obj)) (s : Shared) (σ : St) (H : Hp) (Q : Bool→Hp→Prop),Inv X pins σ H s→t σ H Q→wpAny (model X.prog X.w) X.A (isTrue e X.env (eval e X.env)) (TP X pins σ Q) X.xe s
def PW (X : Cx) (e : Expr) (t : TT) : Prop:=
  ∀ (whole : Sem Value) (pins : List (Addr×Obj)) (s : Shared) (σ : St) (H : Hp) (Q : Bool→Hp→Prop),Inv X pins σ H s→t σ H Q→wpAny (model X.prog X.w) X.A (isTrue e X.env whole) (TP X pins σ Q) X.xe s
theorem PW.pt {X : Cx} {e : Expr} {t : TT} (h : PW X e t) : PT X e t:=h _
def PA (X : Cx) (es : List Expr) (t : TA) : Prop:=
  ∀ (pos : Pos) (pins : List (Addr×Obj)) (s : Shared) (σ : St) (H : Hp) (Q : List V→Hp→Prop),Inv X pins σ H s→t σ H Q→wpAny (model X.prog X.w) X.A (spliced (backTo pos (starEach es X.env))) (AP X pins σ Q) X.xe s
def PS (X : Cx) (st : Stmt) (t : TS) : Prop:=
  ∀ (pins : List (Addr×Obj)) (s : Shared) (σ : St) (H : Hp) (D : Ends),Inv X pins σ H s→t D σ H→wpAny (model X.prog X.w) X.A (exec st X.env) (SP X pins D) X.xe s
def PSs (X : Cx) (st : List Stmt) (t : TS) : Prop:=
  ∀ (pins : List (Addr×Obj)) (s : Shared) (σ : St) (H : Hp) (D : Ends),Inv X pins σ H s→t D σ H→wpAny (model X.prog X.w) X.A (execs st X.env) (SP X pins D) X.xe s
theorem thn {α : Type} {t : Sem α} {Q Q' : α→Shared→Prop} {M : Model} {A : Around} {E : Value→Shared→Prop} {s : Shared} (h : wpAny M A t Q E s) (hQ : ∀ a s,Q a s→Q' a s) : wpAny M A t Q' E s:=wpAny_mono h hQ fun _ _ x=>x
end L2
namespace L2
open PySem PySem.Spec PyProof.Rows
section
variable {X : Cx}
def tVar (i : Nat) : TE:=fun σ H Q=>∃ v,σ[i]? = some (some v)∧Q v H
def tC (v : V) : TE:=fun _ H Q=>Q v H
theorem zlO {i : Nat} {x : Str} {pos : Pos} (hN : X.N[i]? = some x) (hv : Vis X.env.scope x) (hd : (x == ("__debug__" : Str)) = false:=by decide) (hcd : (x == ("__classdict__" : Str)) = false:=by decide) : PE X (.Name x pos) (tVar i):=by
  intro pins s σ H Q I h
  obtain ⟨v,e,h⟩:=h
  obtain ⟨m,hn,hl⟩:=I.loc
  obtain ⟨u,r,l⟩:=hl i x v hN e hv
  have fin : EP X pins σ Q u s:=⟨v,H,I,r,h⟩
  rcases l with ⟨hk,hm⟩ | ⟨hk,c,hc,hcell⟩
  · exact wpAny_Name (wpAny_loadName_local I.ok.kind hk hn hm fin) hd
  · rcases hk with hk | hk
    · exact wpAny_Name (wpAny_loadName_cell I.ok.kind hk hc hcell fin) hd
    · exact wpAny_Name (wpAny_loadName_free I.ok.kind hk hc hcell fin hcd) hd
theorem zae {i j pos} : PE X (.Constant (.int i) j pos) (tC (.int i)):=fun _ _ _ H _ I h=>wpAny_Constant_int ⟨.int i,H,I.tok _,⟨_,rfl⟩,h⟩
theorem zdc {b j pos} : PE X (.Constant (.bool b) j pos) (tC (.bl b)):=fun _ _ _ H _ I h=>Constant_bool ⟨.bl b,H,I,rfl,h⟩
theorem zco {j pos} : PE X (.Constant .none j pos) (tC .non):=fun _ _ _ H _ I h=>Constant_none ⟨.non,H,I,rfl,h⟩
theorem zaX {x j pos} : PE X (.Constant (.str x) j pos) (tC (.str x)):=fun _ _ _ H _ I h=>Calls.Constant_str ⟨.str x,H,I.tok _,⟨_,rfl⟩,h⟩
def Gl (X : Cx) (x : Str) : Prop:=X.env.kindOf x = some .globalImplicit
theorem zdt {E : Value→Shared→Prop} {pins : List (Addr×Obj)} {s : Shared} {σ : St} {H : Hp} {x : Str} {u : Value} {pos : Pos} {Q : Value→Shared→Prop} (I : Inv X pins σ H s) (hg : Gl X x) (hm : X.mg x = some u) (h : Q u s)
    (hd : (x == ("__debug__" : Str)) = false:=by decide) : wpAny (model X.prog X.w) X.A (eval (.Name x pos) X.env) Q E s:=
  Calls.Name_function_global I.ok.kind hg (Calls.loadGlobal_global (by rw [I.ok.glob]; exact I.mod.glob.keeps I.bk) hm h) hd
theorem zex {E : Value→Shared→Prop} {pins : List (Addr×Obj)} {s : Shared} {σ : St} {H : Hp} {x : Str} {u : Value} {pos : Pos} {Q : Value→Shared→Prop} (I : Inv X pins σ H s) (hg : Gl X x) (hm : X.mg x = none) (hv : bootBuiltins x = some u) (h : Q u s)
    (hn : x ≠ "__name__":=by decide) (hd : (x == ("__debug__" : Str)) = false:=by decide) : wpAny (model X.prog X.w) X.A (eval (.Name x pos) X.env) Q E s:=by
  obtain ⟨mb,h1,h2⟩:=I.mod.blt
  exact Calls.Name_function_global I.ok.kind hg (Calls.loadGlobal_builtin (by rw [I.ok.glob]; exact I.mod.glob.keeps I.bk) hm (by rw [I.ok.blt]; exact h1.keeps I.bk) ((h2 x hn).trans hv) h) hd
theorem za3 {x : Str} {v : V} {u : Value} {pos : Pos} (hg : Gl X x) (hm : X.mg x = some u) (r : RelV v u) (hd : (x == ("__debug__" : Str)) = false:=by decide) : PE X (.Name x pos) (tC v):=
  fun _ _ _ H _ I h=>zdt I hg hm ⟨v,H,I,r,h⟩ hd
theorem zd1 {x : Str} {v : V} {u : Value} {pos : Pos} (hg : Gl X x) (hm : X.mg x = none) (hv : bootBuiltins x = some u) (r : RelV v u) (hn : x ≠ "__name__":=by decide) (hd : (x == ("__debug__" : Str)) = false:=by decide) : PE X (.Name x pos) (tC v):=
  fun _ _ _ H _ I h=>zex I hg hm hv ⟨v,H,I,r,h⟩ hn hd
variable {a b : Expr} {ta tb : TE} {pos : Pos}
def tB (t : TE) : TT:=fun σ H Q=>t σ H fun x H1=>∃ c,x = .bl c∧Q c H1
theorem zc7 {e : Expr} {t : TE} (h : PE X e t) (he : ∀ whole,isTrue e X.env whole = (do let v ← whole; standAt e.pos; holding [v] (truthy v)):=by intro _; rfl) : PT X e (tB t):=by
  intro pins s σ H Q I hw
  refine isTrue_plain (thn (h pins s σ H _ I hw) fun v s1 ⟨x,H1,I1,r1,q1⟩=>?_) (he _)
  obtain ⟨d,rfl,q⟩:=q1
  cases r1
  exact wpAny_truthy_bool ⟨H1,I1,q⟩
variable {tA tB' : TT} {rest : List Expr}
def tAnd (t u : TT) : TT:=fun σ H Q=>t σ H fun c H1=>if c = true then u σ H1 Q else Q false H1
def tOr (t u : TT) : TT:=fun σ H Q=>t σ H fun c H1=>if c = true then Q true H1 else u σ H1 Q
def tNot (t : TT) : TT:=fun σ H Q=>t σ H fun c H1=>Q (!c) H1
theorem zh4 (ha : PT X a tA) : PW X (.BoolOp .And [a] pos) tA:=by
  intro wh pins s σ H Q I h
  refine isTrue_and (thn (ha pins s σ H Q I h) fun c s1 e=>?_)
  cases c with
  | true=>exact isTrue_and_nil e
  | false=>exact e
theorem zeu (ha : PT X a tA) : PW X (.BoolOp .Or [a] pos) tA:=by
  intro wh pins s σ H Q I h
  refine isTrue_or (thn (ha pins s σ H Q I h) fun c s1 e=>?_)
  cases c with
  | false=>exact isTrue_or_nil e
  | true=>exact e
theorem zke (ha : PT X a tA) (hb : PW X (.BoolOp .And (b :: rest) pos) tB') : PW X (.BoolOp .And (a :: b :: rest) pos) (tAnd tA tB'):=by
  intro wh pins s σ H Q I h
  refine isTrue_and (thn (ha pins s σ H _ I h) fun c s1 ⟨H1,I1,q1⟩=>?_)
  cases c with
  | true=>exact hb wh pins s1 σ H1 Q I1 q1
  | false=>exact ⟨H1,I1,q1⟩
theorem zhi (ha : PT X a tA) (hb : PW X (.BoolOp .Or (b :: rest) pos) tB') : PW X (.BoolOp .Or (a :: b :: rest) pos) (tOr tA tB'):=by
  intro wh pins s σ H Q I h
  refine isTrue_or (thn (ha pins s σ H _ I h) fun c s1 ⟨H1,I1,q1⟩=>?_)
  cases c with
  | true=>exact ⟨H1,I1,q1⟩
  | false=>exact hb wh pins s1 σ H1 Q I1 q1
theorem zdX (ha : PT X a tA) : PT X (.UnaryOp .Not a pos) (tNot tA):=by
  intro pins s σ H Q I h
  exact isTrue_not (ha pins s σ H (fun c H1=>Q (!c) H1) I h)
def zmq (ta tb : TE) : TE:=fun σ H Q=>ta σ H fun x H1=>∃ c,x = .bl c∧if c = true then tb σ H1 Q else Q (.bl false) H1
def zml (ta : TE) : TE:=fun σ H Q=>ta σ H fun x H1=>∃ c,x = .bl c∧Q (.bl (!c)) H1
theorem zgQ {op} {t : TE} (h : PE X a t) : PE X (.BoolOp op [a] pos) t:=fun pins s σ H Q I hw=>BoolOp_one (h pins s σ H Q I hw)
theorem zgT (ha : PE X a ta) (hb : PE X (.BoolOp .And (b :: rest) pos) tb) : PE X (.BoolOp .And (a :: b :: rest) pos) (zmq ta tb):=by
  intro pins s σ H Q I h
  refine BoolOp_and (thn (ha pins s σ H _ I h) fun v s1 ⟨x,H1,I1,r1,q1⟩=>?_)
  obtain ⟨c,rfl,q1⟩:=q1
  cases r1
  refine wpAny_truthy_bool ?_
  cases c with
  | true=>exact hb pins s1 σ H1 Q I1 q1
  | false=>exact ⟨.bl false,H1,I1,rfl,q1⟩
theorem zlP (ha : PE X a ta) : PE X (.UnaryOp .Not a pos) (zml ta):=by
  intro pins s σ H Q I h
  refine UnaryOp_ (thn (ha pins s σ H _ I h) fun v s1 ⟨x,H1,I1,r1,q1⟩=>?_)
  obtain ⟨c,rfl,q1⟩:=q1
  cases r1
  exact not_of (wpAny_truthy_bool ⟨.bl (!c),H1,I1,rfl,q1⟩)
def tIf (t : TT) (ta tb : TE) : TE:=fun σ H Q=>t σ H fun c H1=>if c = true then ta σ H1 Q else tb σ H1 Q
theorem zcK {c : Expr} (hc : PT X c tA) (ha : PE X a ta) (hb : PE X b tb) : PE X (.IfExp c a b pos) (tIf tA ta tb):=by
  intro pins s σ H Q I h
  refine wpAny_IfExp (thn (hc pins s σ H _ I h) fun d s1 ⟨H1,I1,q1⟩=>?_)
  cases d with
  | true=>exact ha pins s1 σ H1 Q I1 q1
  | false=>exact hb pins s1 σ H1 Q I1 q1
end
end L2
namespace L2
open PySem PySem.Spec PyProof.Rows
def SqL (K : Frag) (H : Hp) (a : Addr) (xs : List V) : Prop:=
  Rd H a (.lst xs)∨
    ∃ (o : Obj) (its : Array Value) (n : Nat),K.lookup a = some o∧o.cls = .type "list"∧o.dict = none∧o.data = .seq its n∧its.size≤sizeLine∧Vals xs its.toList
def SqT (K : Frag) (H : Hp) (a : Addr) (xs : List V) : Prop:=
  Rd H a (.tup xs)∨
    ∃ (o : Obj) (its : Array Value) (n : Nat),K.lookup a = some o∧o.cls = .type "tuple"∧o.data = .seq its n∧its.size≤sizeLine∧Vals xs its.toList
def absV : Value→Option V
  | .none=>some .non
  | .bool b=>some (.bl b)
  | .int i _=>some (.int i)
  | .str x _=>some (.str x)
  | .bytes b _=>some (.byt b)
  | .float b _=>some (.flt b)
  | .ref a=>some (.ref a)
  | .type n=>some (.ty n)
  | _=>none
theorem RelV.abs {x : V} {u : Value} (r : RelV x u) : absV u = some x:=by
  cases x with
  | non=>cases r; rfl
  | bl _=>cases r; rfl
  | int _=>obtain ⟨t,rfl⟩:=r; rfl
  | str _=>obtain ⟨t,rfl⟩:=r; rfl
  | byt _=>obtain ⟨t,rfl⟩:=r; rfl
  | flt _=>obtain ⟨t,rfl⟩:=r; rfl
  | ref _=>cases r; rfl
  | ty _=>cases r; rfl
theorem RelV.inj {x y : V} {u : Value} (r : RelV x u) (q : RelV y u) : x = y:=yai (r.abs.symm.trans q.abs)
theorem Vals.inj : ∀ {xs ys : List V} {us : List Value},Vals xs us→Vals ys us→xs = ys
  | _,_,_,.nil,.nil=>rfl
  | _,_,_,.cons r t,.cons r' t'=>by rw [r.inj r',Vals.inj t t']
section
variable {X : Cx} {pins : List (Addr×Obj)} {σ : St} {H : Hp} {s : Shared} {a : Addr} {xs ys : List V}
theorem SqL.of {K : Frag} (h : H a = some (.lst xs)) : SqL K H a xs:=.inl (.inl h)
theorem SqT.of {K : Frag} (h : H a = some (.tup xs)) : SqT K H a xs:=.inl (.inl h)
theorem Inv.list (I : Inv X pins σ H s) (h : SqL X.K H a xs) : ∃ its : List Value,Vals xs its∧PlainL s.heap a its.toArray∧xs.length≤sizeLine:=by
  rcases h with h | ⟨o,its,n,hk,hc,hd,hs,hz,r⟩
  · obtain ⟨z,its,n,r,e⟩:=h.ok I.hok
    exact ⟨its,r,⟨_,n,e,rfl,rfl,rfl⟩,z⟩
  · refine ⟨its.toList,r,⟨o,n,I.kIn a o hk,hc,hd,by simpa using hs⟩,?_⟩
    have e:=r.length
    simp only [yao] at e
    omega
theorem Inv.tuple (I : Inv X pins σ H s) (h : SqT X.K H a xs) : ∃ its : List Value,Vals xs its∧IsTup s.heap a its.toArray∧xs.length≤sizeLine:=by
  rcases h with h | ⟨o,its,n,hk,hc,hs,hz,r⟩
  · obtain ⟨z,its,r,p⟩:=h.ok I.hok
    exact ⟨its,r,p,z⟩
  · refine ⟨its.toList,r,⟨o,I.kIn a o hk,hc,n,by simpa using hs⟩,?_⟩
    have e:=r.length
    simp only [yao] at e
    omega
theorem Inv.list_inj (I : Inv X pins σ H s) (h : SqL X.K H a xs) (h' : SqL X.K H a ys) : xs = ys:=by
  obtain ⟨its,r,⟨o,n,e,_,_,d⟩,_⟩:=I.list h
  obtain ⟨its',r',⟨o',n',e',_,_,d'⟩,_⟩:=I.list h'
  rw [e] at e'; cases e'
  rw [d] at d'
  injection d' with d1 _
  have : its = its':=by simpa using congrArg Array.toList d1
  subst this
  exact r.inj r'
theorem Inv.tuple_inj (I : Inv X pins σ H s) (h : SqT X.K H a xs) (h' : SqT X.K H a ys) : xs = ys:=by
  obtain ⟨its,r,⟨o,e,_,n,d⟩,_⟩:=I.tuple h
  obtain ⟨its',r',⟨o',e',_,n',d'⟩,_⟩:=I.tuple h'
  rw [e] at e'; cases e'
  rw [d] at d'
  injection d' with d1 _
  have : its = its':=by simpa using congrArg Array.toList d1
  subst this
  exact r.inj r'
end
abbrev Cx.wish (X : Cx) (E : Value→Shared→Prop) : Cx:={ X with xe:=E }
abbrev Cx.nox (X : Cx) : Cx:=X.wish fun _ _=>False
theorem Cx.Ok.wish {X : Cx} (ok : X.Ok) (E : Value→Shared→Prop) : (X.wish E).Ok:=
  ⟨ok.mod,ok.kind,ok.glob,ok.blt,ok.above,ok.inj,ok.has,ok.cab,ok.hd,ok.frames,ok.stk,ok.exf,ok.bs,ok.bsz,ok.noex,ok.exfs,ok.funs,ok.frf⟩
theorem Cx.Ok.unwish {X : Cx} {E : Value→Shared→Prop} (ok : (X.wish E).Ok) : X.Ok:=
  ⟨ok.mod,ok.kind,ok.glob,ok.blt,ok.above,ok.inj,ok.has,ok.cab,ok.hd,ok.frames,ok.stk,ok.exf,ok.bs,ok.bsz,ok.noex,ok.exfs,ok.funs,ok.frf⟩
section
variable {X : Cx} {pins : List (Addr×Obj)} {σ : St} {H : Hp} {s : Shared} {E : Value→Shared→Prop}
theorem Inv.wish (I : Inv X pins σ H s) (E : Value→Shared→Prop) : Inv (X.wish E) pins σ H s:=⟨I.ok.wish E,I.os,I.bare,I.base,I.loc,I.cell,I.free,I.freeC,I.pin,I.hok,I.len⟩
theorem Inv.unwish (I : Inv (X.wish E) pins σ H s) : Inv X pins σ H s:=⟨I.ok.unwish,I.os,I.bare,I.base,I.loc,I.cell,I.free,I.freeC,I.pin,I.hok,I.len⟩
theorem SP.unwish {D : Ends} {f : Flow} {s' : Shared} (h : SP (X.wish E) pins D f s') : SP X pins D f s':=by
  cases f with
  | next=>obtain ⟨σ',H',I,q⟩:=h; exact ⟨σ',H',I.unwish,q⟩
  | brk=>obtain ⟨σ',H',I,q⟩:=h; exact ⟨σ',H',I.unwish,q⟩
  | cont=>obtain ⟨σ',H',I,q⟩:=h; exact ⟨σ',H',I.unwish,q⟩
  | ret u=>obtain ⟨v,σ',H',I,r,q⟩:=h; exact ⟨v,σ',H',I.unwish,r,q⟩
theorem PE.nox {e : Expr} {t : TE} (h : PE X.nox e t) : PE X e t:=fun pins s σ H Q I hw=>
  wpAny_mono (h pins s σ H Q (I.wish _) hw) (fun _ _ ⟨v,H',I',r,q⟩=>⟨v,H',I'.unwish,r,q⟩) fun _ _ z=>False.elim z
theorem PT.nox {e : Expr} {t : TT} (h : PT X.nox e t) : PT X e t:=fun pins s σ H Q I hw=>
  wpAny_mono (h pins s σ H Q (I.wish _) hw) (fun _ _ ⟨H',I',q⟩=>⟨H',I'.unwish,q⟩) fun _ _ z=>False.elim z
theorem PSs.nox {st : List Stmt} {t : TS} (h : PSs X.nox st t) : PSs X st t:=fun pins s σ H D I hw=>
  wpAny_mono (h pins s σ H D (I.wish _) hw) (fun _ _ q=>q.unwish) fun _ _ z=>False.elim z
end
section
variable {X : Cx} {st : Stmt} {rest : List Stmt} {t u : TS} {e : Expr} {te : TE} {pos : Pos}
def zmm : TS:=fun D σ H=>D.nx σ H
def tSeq (t u : TS) : TS:=fun D σ H=>t { D with nx:=u D } σ H
theorem zax : PSs X [] zmm:=fun _ _ σ H _ I h=>wpAny_execs_nil ⟨σ,H,I,h⟩
theorem zag (h1 : PS X st t) (h2 : PSs X rest u) : PSs X (st :: rest) (tSeq t u):=by
  intro pins s σ H D I h
  refine wpAny_execs_cons (thn (h1 pins s σ H { D with nx:=u D } I h) fun f s1 q=>?_)
  cases f with
  | next=>
    obtain ⟨σ',H',I',q⟩:=q
    exact h2 pins s1 σ' H' D I' q
  | ret v=>exact q
  | brk=>exact q
  | cont=>exact q
theorem zaf (h1 : PS X st t) : PSs X [st] t:=by
  intro pins s σ H D I h
  refine wpAny_execs_cons (thn (h1 pins s σ H D I h) fun f s1 q=>?_)
  cases f with
  | next=>exact wpAny_execs_nil q
  | ret v=>exact q
  | brk=>exact q
  | cont=>exact q
theorem Inv.quiet {pins : List (Addr×Obj)} {σ : St} {H : Hp} {s : Shared} (I : Inv X pins σ H s) : interactive X.env = false:=by simp [interactive,I.ok.kind]
def zmn (te : TE) : TS:=fun D σ H=>te σ H fun _ H1=>D.nx σ H1
theorem zb6 (he : PE X e te) (hs : swapsWith e none pos.line X.env = pure false:=by rfl) : PS X (.Expr e pos) (zmn te):=by
  intro pins s σ H D I h
  exact wpAny_Expr_any (thn (he pins s σ H _ I h) fun v s1 ⟨x,H1,I1,r1,q1⟩=>⟨σ,H1,I1,q1⟩) I.quiet hs
def tRet (te : TE) : TS:=fun D σ H=>te σ H D.rt
theorem zan (he : PE X e te) : PS X (.Return (some e) pos) (tRet te):=by
  intro pins s σ H D I h
  exact wpAny_Return_some (thn (he pins s σ H _ I h) fun v s1 ⟨x,H1,I1,r1,q1⟩=>⟨x,σ,H1,I1,r1,q1⟩)
def tIfS (c : TT) (t u : TS) : TS:=fun D σ H=>c σ H fun b H1=>if b = true then t D σ H1 else u D σ H1
theorem zbc {c : Expr} {a b : List Stmt} {tc : TT} (hc : PT X c tc) (ha : PSs X a t) (hb : PSs X b u) : PS X (.If c a b pos) (tIfS tc t u):=by
  intro pins s σ H D I h
  refine wpAny_If (thn (hc pins s σ H _ I h) fun d s1 ⟨H1,I1,q1⟩=>?_)
  cases d with
  | true=>exact ha pins s1 σ H1 D I1 q1
  | false=>exact hb pins s1 σ H1 D I1 q1
def zlu : TS:=fun _ _ _=>False
theorem zjo : PS X st zlu:=fun _ _ _ _ _ _ h=>h.elim
end
abbrev TG:=V→St→Hp→(St→Hp→Prop)→Prop
abbrev TGs:=List V→St→Hp→(St→Hp→Prop)→Prop
def PG (X : Cx) (target : Expr) (t : TG) : Prop:=
  ∀ (pins : List (Addr×Obj)) (s : Shared) (σ : St) (H : Hp) (v : V) (u : Value) (Q : St→Hp→Prop),Inv X pins σ H s→RelV v u→t v σ H Q→
    wpAny (model X.prog X.w) X.A (assign target X.env u) (fun _ s'=>∃ σ' H',Inv X pins σ' H' s'∧Q σ' H') X.xe s
def PGs (X : Cx) (ts : List Expr) (t : TGs) : Prop:=
  ∀ (pins : List (Addr×Obj)) (s : Shared) (σ : St) (H : Hp) (vs : List V) (us : List Value) (Q : St→Hp→Prop),Inv X pins σ H s→Vals vs us→t vs σ H Q→
    wpAny (model X.prog X.w) X.A (assignInOrder ((assignEach ts X.env).map (·.2)) us) (fun _ s'=>∃ σ' H',Inv X pins σ' H' s'∧Q σ' H') X.xe s
section
variable {X : Cx} {pos : Pos}
def zhx (i : Nat) : TG:=fun v σ H Q=>Q (σ.set i (some v)) H
theorem zav {i : Nat} {x : Str} (hN : X.N.Nodup) (hi : X.N[i]? = some x) (hx : Loc X.env.scope x) (hf : X.fn x = true∨X.env.scope.names.lookup x = some .local:=by first | exact .inl rfl | exact .inr rfl | assumption) : PG X (.Name x pos) (zhx i):=by
  intro pins s σ H v u Q I r h
  exact wpAny_assign_Name (zeP I hN hi hx r (fun s' I'=>⟨_,H,I',h⟩) hf)
def gNil : TGs:=fun vs σ H Q=>vs = []∧Q σ H
def zmy (t : TG) (u : TGs) : TGs:=fun vs σ H Q=>∃ v r,vs = v :: r∧t v σ H fun σ' H'=>u r σ' H' Q
theorem zgd : PGs X [] gNil:=by
  intro pins s σ H vs us Q I r h
  obtain ⟨e,h⟩:=h
  subst e
  cases r
  exact assignInOrder_nil ⟨σ,H,I,h⟩
theorem zcJ {e : Expr} {es : List Expr} {t : TG} {u : TGs} (h1 : PG X e t) (h2 : PGs X es u)
    (hs : (assignEach (e :: es) X.env).map (·.2) = assign e X.env :: (assignEach es X.env).map (·.2):=by rfl) : PGs X (e :: es) (zmy t u):=by
  intro pins s σ H vs us Q I r h
  obtain ⟨v,vr,e1,h⟩:=h
  subst e1
  cases r with
  | cons r rr=>
    rw [hs]
    refine assignInOrder_cons (thn (h1 pins s σ H _ _ _ I r h) fun _ s1 ⟨σ1,H1,I1,q1⟩=>?_)
    exact h2 pins s1 σ1 H1 _ _ Q I1 rr q1
def gTup (K : Frag) (n : Nat) (t : TGs) : TG:=fun v σ H Q=>∃ a xs,v = .ref a∧SqT K H a xs∧xs.length = n∧t xs σ H Q
theorem zki {es : List Expr} {k : Nat} {t : TGs} {n : Nat} (hc : X.calm = true) (h : PGs X es t)
    (hn : (assignEach es X.env).length = n:=by rfl) (hst : (assignEach es X.env).findIdx? (·.1) = none:=by rfl) : PG X (.Tuple es k pos) (gTup X.K n t):=by
  intro pins s σ H v u Q I r hw
  obtain ⟨a,xs,e1,hq,hl,hw⟩:=hw
  subst e1
  cases r
  obtain ⟨its,rv,ht,hz⟩:=I.tuple hq
  refine assign_Tuple_tuple (I.ok.hd hc) ht (by simp [hn,← hl,rv.length]) hst fun h' hx=>?_
  have I1 : Inv X pins σ H { s with heap:=h' }:=I.kept (t':=s.toks) fun b o e=>hx b o (yaw (yac e)) e
  exact h pins _ σ H xs _ Q I1 (by simpa using rv) hw
def tAsg (te : TE) (g : TG) : TS:=fun D σ H=>te σ H fun x H1=>g x σ H1 D.nx
theorem zlN {tg e : Expr} {te : TE} {g : TG} (he : PE X e te) (hg : PG X tg g) (hs : swapsWithSole [tg] e pos.line X.env = pure false:=by rfl) (hw : swappedStores [tg] e X.env = pure none:=by rfl)
    (h1 : (assignEach [tg] X.env).map (·.2) = [assign tg X.env]:=by rfl) : PS X (.Assign [tg] e pos) (tAsg te g):=by
  intro pins s σ H D I h
  refine wpAny_Assign_stores (thn (he pins s σ H _ I h) fun v s1 ⟨x,H1,I1,r1,q1⟩=>?_) hs hw
  rw [h1]
  exact thn (hg pins s1 σ H1 x v _ I1 r1 q1) fun _ s2 q=>q
theorem zao {i : Nat} {x : Str} {e : Expr} {te : TE} {pos' : Pos} (hN : X.N.Nodup) (hi : X.N[i]? = some x) (hx : Loc X.env.scope x) (he : PE X e te) (hs : swapsWith e (some (.Name x pos')) pos.line X.env = pure false:=by rfl) (hf : X.fn x = true∨X.env.scope.names.lookup x = some .local:=by first | exact .inl rfl | exact .inr rfl | assumption) :
    PS X (.Assign [.Name x pos'] e pos) (tAsg te (zhx i)):=by
  intro pins s σ H D I h
  refine wpAny_Assign_Name (thn (he pins s σ H _ I h) fun v s1 ⟨y,H1,I1,r1,q1⟩=>?_) hs
  exact zeP I1 hN hi hx r1 (fun s2 I2=>⟨_,H1,I2,q1⟩) hf
end
section
variable {X : Cx} {pos : Pos}
def zhO (c : TT) (tb : TS) : TS:=fun D σ H=>∃ W : Nat→St→Hp→Prop,(∃ m,W m σ H)∧∀ m σ H,W m σ H→
  c σ H fun b H1=>if b = true then ∃ N : St→Hp→Prop,(∀ σ' H',N σ' H'→∃ m',m' < m∧W m' σ' H')∧tb { D with nx:=N,ct:=N,bk:=D.nx } σ H1 else D.nx σ H1
theorem zgO {c : Expr} {body : List Stmt} {tc : TT} {tb : TS} (hp : PassesOwn (model X.prog X.w) X.A X.env X.xe) (hc : PT X c tc) (hb : PSs X body tb) : PS X (.While c body [] pos) (zhO tc tb):=by
  intro pins s σ H D I h
  obtain ⟨W,⟨m0,w0⟩,turn⟩:=h
  refine wpAny_While (codeAny_whileLoop (fun n s'=>∃ σ' H',Inv X pins σ' H' s'∧W n σ' H') ?_ m0 ⟨σ,H,I,w0⟩)
  rintro n s1 ⟨σ1,H1,I1,w1⟩
  refine wpAny_passesOwn hp (thn (hc pins s1 σ1 H1 _ I1 (turn n σ1 H1 w1)) fun b s2 ⟨H2,I2,q2⟩=>?_)
  cases b with
  | true=>
    obtain ⟨N,hN,q2⟩:=q2
    rw [if_pos rfl]
    refine wpAny_passesOwn hp (thn (hb pins s2 σ1 H2 _ I2 q2) fun f s3 q3=>?_)
    cases f with
    | next=>
      obtain ⟨σ3,H3,I3,n3⟩:=q3
      obtain ⟨m',hm,w3⟩:=hN σ3 H3 n3
      exact ⟨m',hm,σ3,H3,I3,w3⟩
    | cont=>
      obtain ⟨σ3,H3,I3,n3⟩:=q3
      obtain ⟨m',hm,w3⟩:=hN σ3 H3 n3
      exact ⟨m',hm,σ3,H3,I3,w3⟩
    | brk=>exact q3
    | ret v=>exact q3
  | false=>
    rw [if_neg yau]
    exact wpAny_execs_nil ⟨σ1,H2,I2,q2⟩
end
structure It where
  go : Nat→Hp→Prop
  yld : Nat→Hp→V→Hp→Prop
  stop : Nat→Hp→Prop
def FpOk (X : Cx) (pins : List (Addr×Obj)) (H : Hp) (b : Addr) : Prop:=
  H b = none∧b≠X.env.locals∧b∉X.fs∧(b∈X.ex∨X.s₀.heap.objs.size≤b)∧(∀ x c,X.env.cells.lookup x = some c→c≠b)∧∀ p∈X.pn ++ pins,p.1≠b
theorem Inv.fpOk {X : Cx} {pins : List (Addr×Obj)} {σ : St} {H H' : Hp} {s : Shared} {b : Addr} (I : Inv X pins σ H s) (hb : s.heap.objs.size≤b) (hn : H' b = none) : FpOk X pins H' b:=by
  refine ⟨hn,Nat.ne_of_gt (yat I.lt hb),I.nofs hb,.inr (yaB I.sz hb),fun x c e z=>?_,fun p hp z=>?_⟩
  · obtain ⟨v,q⟩:=I.cell x c e
    exact absurd (yat q.lt (by rw [z]; exact hb)) (ya2 _)
  · exact absurd (yat (yac (I.pin p hp).1) (by rw [z]; exact hb)) (ya2 _)
structure Turn (P : Program) (w : World) (K : Frag) (tg : Expr) (J : It) (fp : List Addr) (it : Addr) (tn : Nat→Heap→Prop) : Prop where
  mem : it∈fp
  obj : ∀ i h,tn i h→∀ b∈fp,∃ o,h.get? b = some o∧∀ v,o.data≠.cell v
  keep : ∀ i h h',tn i h→(∀ b∈fp,∀ o,h.get? b = some o→h'.get? b = some o)→tn i h'
  item : ∀ (X : Cx),X.prog = P→X.w = w→X.K = K→X.calm = true→∀ (i : Nat) (pins : List (Addr×Obj)) (s : Shared) (σ : St) (H : Hp) (E : Value→Shared→Prop),Inv X pins σ H s→(∀ b∈fp,FpOk X pins H b)→tn i s.heap→J.go i H→
    wpAny (model P w) X.A (pyNext (.ref it)) (fun r s1=>∃ u,r = some u∧
      wpAny (model P w) X.A (letOwnedTupleGo tg (.ref it) u) (fun _ s2=>∃ x H',Inv X pins σ H' s2∧RelV x u∧J.yld i H x H'∧tn (i + 1) s2.heap∧∀ b∈fp,H' b = none) E s1) E s
  done : ∀ (X : Cx),X.prog = P→X.w = w→X.K = K→X.calm = true→∀ (i : Nat) (pins : List (Addr×Obj)) (s : Shared) (σ : St) (H : Hp) (E : Value→Shared→Prop),Inv X pins σ H s→(∀ b∈fp,FpOk X pins H b)→tn i s.heap→J.stop i H→
    wpAny (model P w) X.A (pyNext (.ref it)) (fun r s1=>r = none∧Inv X pins σ H s1) E s
  self : ∀ (A : Around) (i : Nat) (s : Shared) (Q : Value→Shared→Prop) (E : Value→Shared→Prop),tn i s.heap→Q (.ref it) s→wpAny (model P w) A (pyIter (.ref it)) Q E s
abbrev TI:=St→Hp→(It→Hp→Prop)→Prop
def PIE (X : Cx) (pins : List (Addr×Obj)) (σ : St) (tg : Expr) (R : It→Hp→Prop) (itv : Value) (s2 : Shared) : Prop:=
  ∃ (it : Addr) (fp : List Addr) (tn : Nat→Heap→Prop) (J : It) (H' : Hp),itv = .ref it∧Inv X pins σ H' s2∧Turn X.prog X.w X.K tg J fp it tn∧tn 0 s2.heap∧(∀ b∈fp,FpOk X pins H' b)∧R J H'
def PI (X : Cx) (tg iter : Expr) (wi : TI) : Prop:=
  ∀ (pins : List (Addr×Obj)) (s : Shared) (σ : St) (H : Hp) (R : It→Hp→Prop),Inv X pins σ H s→wi σ H R→
    wpAny (model X.prog X.w) X.A (eval iter X.env) (fun v s1=>wpAny (model X.prog X.w) X.A (pyIter v) (PIE X pins σ tg R) X.xe s1) X.xe s
theorem zk8 {M : Model} {A : Around} {E : Value→Shared→Prop} {s : Shared} {tg : Expr} {it : Addr} {u : Value} {o : Obj} {n : String} {vs : Array Value} {Q : Unit→Shared→Prop} (ho : s.heap.get? it = some o) (hc : o.cls = .type n) (hd : o.data = .fields vs)
    (hn : ["enumerate","zip","dict_itemiterator","dict_reverseitemiterator","odict_iterator","itertools.zip_longest","itertools.pairwise"].contains n = false) (hQ : Q () s) : wpAny M A (letOwnedTupleGo tg (.ref it) u) Q E s:=by
  unfold letOwnedTupleGo
  cases tg <;> first
    | exact wpAny_pure hQ
    | (cases u <;> first
        | exact wpAny_pure hQ
        | (refine wpAny_bind (wpAny_load ho ?_)
           rw [hc,hd]
           show wpAny M A (if (["enumerate","zip","dict_itemiterator","dict_reverseitemiterator","odict_iterator","itertools.zip_longest","itertools.pairwise"].contains n && vs[0]? == some (rawInt _)) = true then _ else _) Q E s
           rw [if_neg (by intro h; rw [hn,ybp] at h; cases h)]
           exact wpAny_pure hQ))
def Itl (K : Frag) (a : Addr) : It:=
  ⟨fun i H=>∃ xs x,SqL K H a xs∧xs[i]? = some x,fun i H x H'=>H' = H∧∀ xs,SqL K H a xs→xs[i]? = some x,fun i H=>∃ xs,SqL K H a xs∧xs.length≤i⟩
def Itt (K : Frag) (a : Addr) : It:=
  ⟨fun i H=>∃ xs x,SqT K H a xs∧xs[i]? = some x,fun i H x H'=>H' = H∧∀ xs,SqT K H a xs→xs[i]? = some x,fun i H=>∃ xs,SqT K H a xs∧xs.length≤i⟩
def Itr (lo : Int) (n : Nat) : It:=⟨fun i _=>i < n,fun i H x H'=>H' = H∧x = .int (lo + i),fun i _=>n≤i⟩
theorem zhK {P : Program} {w : World} {K : Frag} {tg : Expr} (a it : Addr) : Turn P w K tg (Itl K a) [it] it (fun i h=>h.IsListIter it a i) where
  mem:=by simp
  obj:=fun i h st b hb=>by
    have e : b = it:=by simpa using hb
    subst e
    obtain ⟨o,e,c,d⟩:=st
    exact ⟨o,e,fun v z=>by rw [d] at z; cases z⟩
  keep:=fun i h h' st k=>st.at fun o e=>k it (by simp) o e
  item:=by
    intro X hP hw hK hc i pins s σ H E I hf st hg
    subst hP hw hK
    obtain ⟨xs,x,hq,hx⟩:=hg
    obtain ⟨its,rv,p,hz⟩:=I.list hq
    obtain ⟨u,hu,ru⟩:=rv.get hx
    obtain ⟨f0,f1,f2,f3,f4,f5⟩:=hf it (by simp)
    refine wpAny_pyNext_list_item st p.isList (x:=u) (by simpa using hu) fun h' st' sb=>?_
    have I1 : Inv X pins σ H { s with heap:=h' }:=I.turned (t':=s.toks) (fun b o hb e=>(sb.2 b hb).trans e) f0 f1 f3 f4 f5
    obtain ⟨o,e,c,d⟩:=id st'
    exact ⟨u,rfl,zk8 (s:={ s with heap:=h' }) e c d (by decide) ⟨x,H,I1,ru,⟨rfl,fun ys hy=>by rw [I.list_inj hy hq]; exact hx⟩,st',fun b hb=>(hf b hb).1⟩⟩
  done:=by
    intro X hP hw hK hc i pins s σ H E I hf st hg
    subst hP hw hK
    obtain ⟨xs,hq,hx⟩:=hg
    obtain ⟨its,rv,p,hz⟩:=I.list hq
    obtain ⟨f0,f1,f2,f3,f4,f5⟩:=hf it (by simp)
    have hl:=rv.length
    exact wpAny_pyNext_list_end (I.ok.hd hc) st p.isList (by simp; omega) fun h' eb=>⟨rfl,I.turned (t':=s.toks) (fun b o hb e=>eb b o hb e) f0 f1 f3 f4 f5⟩
  self:=fun _ _ _ _ _ st h=>wpAny_pyIter_listiter st h
theorem zhd {P : Program} {w : World} {K : Frag} {tg : Expr} (a it : Addr) : Turn P w K tg (Itt K a) [it] it (fun i h=>h.IsTupleIter it a i) where
  mem:=by simp
  obj:=fun i h st b hb=>by
    have e : b = it:=by simpa using hb
    subst e
    obtain ⟨o,e,c,d⟩:=st
    exact ⟨o,e,fun v z=>by rw [d] at z; cases z⟩
  keep:=fun i h h' st k=>st.at fun o e=>k it (by simp) o e
  item:=by
    intro X hP hw hK hc i pins s σ H E I hf st hg
    subst hP hw hK
    obtain ⟨xs,x,hq,hx⟩:=hg
    obtain ⟨its,rv,p,hz⟩:=I.tuple hq
    obtain ⟨u,hu,ru⟩:=rv.get hx
    obtain ⟨f0,f1,f2,f3,f4,f5⟩:=hf it (by simp)
    refine wpAny_pyNext_tuple_item st (show s.heap.IsTuple a its.toArray from p) (x:=u) (by simpa using hu) fun h' st' sb=>?_
    have I1 : Inv X pins σ H { s with heap:=h' }:=I.turned (t':=s.toks) (fun b o hb e=>(sb.2 b hb).trans e) f0 f1 f3 f4 f5
    obtain ⟨o,e,c,d⟩:=id st'
    exact ⟨u,rfl,zk8 (s:={ s with heap:=h' }) e c d (by decide) ⟨x,H,I1,ru,⟨rfl,fun ys hy=>by rw [I.tuple_inj hy hq]; exact hx⟩,st',fun b hb=>(hf b hb).1⟩⟩
  done:=by
    intro X hP hw hK hc i pins s σ H E I hf st hg
    subst hP hw hK
    obtain ⟨xs,hq,hx⟩:=hg
    obtain ⟨its,rv,p,hz⟩:=I.tuple hq
    obtain ⟨f0,f1,f2,f3,f4,f5⟩:=hf it (by simp)
    have hl:=rv.length
    exact wpAny_pyNext_tuple_end (I.ok.hd hc) st (show s.heap.IsTuple a its.toArray from p) (by simp; omega) fun h' eb=>⟨rfl,I.turned (t':=s.toks) (fun b o hb e=>eb b o hb e) f0 f1 f3 f4 f5⟩
  self:=fun _ _ _ _ _ st h=>wpAny_pyIter_tupleiter st h
theorem zhe {P : Program} {w : World} {K : Frag} {tg : Expr} (it : Addr) (lo : Int) (n : Nat) : Turn P w K tg (Itr lo n) [it] it (fun i h=>IsRangeIter h it (lo + (i : Nat) * 1) ((n : Int) - (i : Nat)) 1) where
  mem:=by simp
  obj:=fun i h st b hb=>by
    have e : b = it:=by simpa using hb
    subst e
    exact ⟨_,st,fun v z=>by
      have z' : Data.fields _ = Data.cell v:=z
      cases z'⟩
  keep:=fun i h h' st k=>k it (by simp) _ st
  item:=by
    intro X hP hw hK hc i pins s σ H E I hf st hg
    subst hP hw hK
    obtain ⟨f0,f1,f2,f3,f4,f5⟩:=hf it (by simp)
    have W:=Walks.range (prog:=X.prog) (w:=X.w) (I.ok.hd hc) it lo 1 n
    refine W.item i s _ _ hg st fun v h' tk hv st' kk=>?_
    obtain ⟨t,rfl⟩:=hv
    have I1 : Inv X pins σ H { s with heap:=h',toks:=tk }:=I.turned (fun b o hb e=>kk b o (by simpa using hb) e) f0 f1 f3 f4 f5
    refine ⟨_,rfl,zk8 (s:={ s with heap:=h',toks:=tk }) (n := "range_iterator") st' rfl rfl (by decide) ⟨.int (lo + i),H,I1,⟨t,?_⟩,⟨rfl,rfl⟩,st',fun b hb=>(hf b hb).1⟩⟩
    rw [Int.mul_one]
  done:=by
    intro X hP hw hK hc i pins s σ H E I hf st hg
    subst hP hw hK
    obtain ⟨f0,f1,f2,f3,f4,f5⟩:=hf it (by simp)
    exact wpAny_pyNext_range_end (I.ok.hd hc) st (by have : n≤i:=hg; omega) fun h' eb=>⟨rfl,I.turned (t':=s.toks) (fun b o hb e=>eb b o hb e) f0 f1 f3 f4 f5⟩
  self:=fun _ _ _ _ _ st h=>wpAny_pyIter_rangeiter st h
end L2
namespace L2
open PySem PySem.Spec PyProof.Rows
section
variable {X : Cx} {tg : Expr}
def zmx (K : Frag) (tl : TE) : TI:=fun σ H R=>tl σ H fun x H1=>∃ a,x = .ref a∧(∃ xs,SqL K H1 a xs)∧R (Itl K a) H1
def iTup (K : Frag) (tl : TE) : TI:=fun σ H R=>tl σ H fun x H1=>∃ a,x = .ref a∧(∃ xs,SqT K H1 a xs)∧R (Itt K a) H1
theorem zbr {l : Expr} {tl : TE} (hl : PE X l tl) : PI X tg l (zmx X.K tl):=by
  intro pins s σ H R I h
  refine thn (hl pins s σ H _ I h) fun v s1 ⟨x,H1,I1,r1,q1⟩=>?_
  obtain ⟨a,e,⟨xs,hq⟩,q⟩:=q1
  subst e
  cases r1
  obtain ⟨its,rv,p,hz⟩:=I1.list hq
  refine wpAny_pyIter_list p.isList ?_
  refine ⟨s1.heap.objs.size,[s1.heap.objs.size],_,_,H1,rfl,I1.kept (t':=s1.toks) fun b o e=>yam _ e,zhK a _,⟨_,yaN _ rfl,rfl,rfl⟩,fun b hb=>?_,q⟩
  have e : b = s1.heap.objs.size:=by simpa using hb
  subst e
  exact I1.fpOk (yab _) (I1.hok.fresh (yab _))
theorem zkh {l : Expr} {tl : TE} (hl : PE X l tl) : PI X tg l (iTup X.K tl):=by
  intro pins s σ H R I h
  refine thn (hl pins s σ H _ I h) fun v s1 ⟨x,H1,I1,r1,q1⟩=>?_
  obtain ⟨a,e,⟨xs,hq⟩,q⟩:=q1
  subst e
  cases r1
  obtain ⟨its,rv,p,hz⟩:=I1.tuple hq
  refine wpAny_pyIter_tuple (show s1.heap.IsTuple a its.toArray from p) ?_
  refine ⟨s1.heap.objs.size,[s1.heap.objs.size],_,_,H1,rfl,I1.kept (t':=s1.toks) fun b o e=>yam _ e,zhd a _,⟨_,yaN _ rfl,rfl,rfl⟩,fun b hb=>?_,q⟩
  have e : b = s1.heap.objs.size:=by simpa using hb
  subst e
  exact I1.fpOk (yab _) (I1.hok.fresh (yab _))
theorem zgM {pins : List (Addr×Obj)} {σ : St} {H : Hp} {s : Shared} {R : It→Hp→Prop} {E : Value→Shared→Prop} {lo hi : Int} {t u v : Tok} {tk : Nat} (I : Inv X pins σ H s) (h1 : -(2 ^ 62)≤lo) (h2 : lo < 2 ^ 62) (h3 : -(2 ^ 62)≤hi) (h4 : hi < 2 ^ 62)
    (q : R (Itr lo (hi - lo).toNat) H) : wpAny (model X.prog X.w) X.A (pyIter (.ref s.heap.objs.size)) (PIE X pins σ tg R) E { s with heap:=s.heap.push { cls:=.type "range",data:=.fields #[.int lo t,.int hi u,.int 1 v] },toks:=tk }:=by
  refine wpAny_pyIter_range (IsRange.new ..) (small_one h1 h2 h3 h4) ?_
  have I1 : Inv X pins σ H { s with heap:=s.heap.push { cls:=.type "range",data:=.fields #[.int lo t,.int hi u,.int 1 v] },toks:=tk }:=I.kept fun b o e=>yam _ e
  refine ⟨(s.heap.push { cls:=.type "range",data:=.fields #[.int lo t,.int hi u,.int 1 v] }).objs.size,[(s.heap.push { cls:=.type "range",data:=.fields #[.int lo t,.int hi u,.int 1 v] }).objs.size],_,_,H,rfl,
    I1.kept (t':=tk) fun b o e=>yam _ e,zhe _ lo (hi - lo).toNat,?_,fun b hb=>?_,q⟩
  · have e1 : lo + ((0 : Nat) : Int) * 1 = lo:=by simp
    have e2 : (((hi - lo).toNat : Nat) : Int) - ((0 : Nat) : Int) = Builtin.Range.rangeSize lo hi 1:=by rw [rangeSize_one]; split <;> omega
    show IsRangeIter _ _ (lo + ((0 : Nat) : Int) * 1) ((((hi - lo).toNat : Nat) : Int) - ((0 : Nat) : Int)) 1
    rw [e1,e2]
    exact yaN _ rfl
  · have e : b = (s.heap.push { cls:=.type "range",data:=.fields #[.int lo t,.int hi u,.int 1 v] }).objs.size:=by simpa using hb
    subst e
    exact I1.fpOk (yab _) (I1.hok.fresh (yab _))
def zmw (ta : TA) : TI:=fun σ H R=>ta σ H fun vs H1=>∃ j : Int,vs = [.int j]∧-(2 ^ 62)≤j∧j < 2 ^ 62∧R (Itr 0 j.toNat) H1
def zmv (ta : TA) : TI:=fun σ H R=>ta σ H fun vs H1=>∃ i j : Int,vs = [.int i,.int j]∧(-(2 ^ 62)≤i∧i < 2 ^ 62∧-(2 ^ 62)≤j∧j < 2 ^ 62)∧R (Itr i (j - i).toNat) H1
theorem zbY {a : Expr} {ta : TA} {p pos : Pos} (hg : Gl X "range") (hm : X.mg "range" = none) (ha : PA X [a] ta) (hs : starEach [a] X.env = [(false,eval a X.env)]:=by rfl) : PI X tg (.Call (.Name "range" p) [a] [] pos) (zmw ta):=by
  intro pins s σ H R I h
  refine Call_ (zex I hg hm boot_range (PyProof.Rows.callWith_type1 (thn (ha pos pins s σ H _ I h) fun us s1 ⟨vs,H1,I1,r1,q1⟩=>?_) hs rfl))
  obtain ⟨j,e,q1,q2,q⟩:=q1
  subst e
  cases r1 with
  | cons r rr=>
    cases rr
    obtain ⟨t,rfl⟩:=r
    exact call_range_1 (zgM I1 (by omega) (by omega) q1 q2 (by simpa using q))
theorem zdb {a b : Expr} {ta : TA} {p pos : Pos} (hg : Gl X "range") (hm : X.mg "range" = none) (ha : PA X [a,b] ta) (hs : starEach [a,b] X.env = [(false,eval a X.env),(false,eval b X.env)]:=by rfl) (hs2 : starEach [b] X.env = [(false,eval b X.env)]:=by rfl) :
    PI X tg (.Call (.Name "range" p) [a,b] [] pos) (zmv ta):=by
  intro pins s σ H R I h
  refine Call_ (zex I hg hm boot_range (PyProof.Rows.callWith_type1 (thn (ha pos pins s σ H _ I h) fun us s1 ⟨vs,H1,I1,r1,q1⟩=>?_) (by rw [hs,hs2]) (by rw [hs2]; rfl)))
  obtain ⟨i,j,e,⟨q1,q2,q3,q4⟩,q⟩:=q1
  subst e
  cases r1 with
  | cons r rr=>
    cases rr with
    | cons r' rr=>
      cases rr
      obtain ⟨t,rfl⟩:=r
      obtain ⟨t',rfl⟩:=r'
      exact call_range_2 (zgM I1 q1 q2 q3 q4 q)
def tFor (wi : TI) (g : TG) (tb : TS) : TS:=fun D σ H=>wi σ H fun J H1=>∃ W : Nat→Nat→St→Hp→Prop,(∃ m,W 0 m σ H1)∧∀ i m σ H,W i m σ H→
  (J.stop i H∧D.nx σ H)∨(J.go i H∧∃ N : St→Hp→Prop,(∀ σ' H',N σ' H'→∃ m',m' < m∧W (i + 1) m' σ' H')∧∀ x H',J.yld i H x H'→g x σ H' fun σ2 H2=>tb { D with nx:=N,ct:=N,bk:=D.nx } σ2 H2)
def zfC (fp : List Addr) (h : Heap) : List (Addr×Obj):=fp.filterMap fun b=>(h.get? b).map fun o=>(b,o)
theorem zcL {fp : List Addr} {h : Heap} {b : Addr} {o : Obj} (hb : b∈fp) (e : h.get? b = some o) : (b,o)∈zfC fp h:=List.mem_filterMap.mpr ⟨b,hb,by rw [e]; rfl⟩
theorem zil {fp : List Addr} {h : Heap} {p : Addr×Obj} (hp : p∈zfC fp h) : p.1∈fp∧h.get? p.1 = some p.2:=by
  obtain ⟨b,hb,e⟩:=List.mem_filterMap.mp hp
  cases q : h.get? b with
  | none=>rw [q] at e; cases e
  | some o=>
    rw [q] at e
    have e' : (b,o) = p:=yai e
    subst e'
    exact ⟨hb,q⟩
theorem Inv.pinned {pins : List (Addr×Obj)} {σ : St} {H : Hp} {s : Shared} {fp : List Addr} (I : Inv X pins σ H s) (hf : ∀ b∈fp,FpOk X pins H b) (ho : ∀ b∈fp,∃ o,s.heap.get? b = some o∧∀ v,o.data≠.cell v) : Inv X (pins ++ zfC fp s.heap) σ H s:=
  I.pins_of fun p hp=>(yaf.mp hp).elim (fun z=>I.pin p (yaq _ z)) fun z=>by
    obtain ⟨hb,e⟩:=zil z
    obtain ⟨f0,f1,f2,_⟩:=hf p.1 hb
    obtain ⟨o,e',d⟩:=ho p.1 hb
    rw [e] at e'; cases e'
    exact ⟨e,f0,f1,f2,d⟩
theorem Inv.unpinned {pins pl : List (Addr×Obj)} {σ : St} {H : Hp} {s : Shared} (I : Inv X (pins ++ pl) σ H s) : Inv X pins σ H s:=I.pins_of fun p hp=>I.pin p (yaq _ (yaJ _ hp))
theorem zcb {iter : Expr} {body : List Stmt} {wi : TI} {g : TG} {tb : TS} {pos : Pos} (hp : PassesOwn (model X.prog X.w) X.A X.env X.xe) (hc : X.calm = true) (hi : PI X tg iter wi) (hg : PG X tg g) (hb : PSs X body tb)
    (hs : ∀ x,foldedSetIterable iter X.env x = pure x:=by intro _; rfl) : PS X (.For tg iter body [] pos) (tFor wi g tb):=by
  intro pins s σ H D I h
  refine wpAny_For (thn (hi pins s σ H _ I h) fun v s1 h1=>thn h1 fun itv s2 h2=>?_) hs
  obtain ⟨it,fp,tn,J,H2,e,I2,T,st2,f2,W,⟨m0,w0⟩,turn⟩:=h2
  subst e
  have stat : ∀ {H' : Hp},(∀ b∈fp,H' b = none)→∀ b∈fp,FpOk X pins H' b:=fun hn b hb=>⟨hn b hb,(f2 b hb).2⟩
  refine codeAny_forLoop_any (fun n s'=>∃ i σ' H',Inv X pins σ' H' s'∧tn i s'.heap∧(∀ b∈fp,H' b = none)∧W i n σ' H') ?_ m0 ⟨0,σ,H2,I2,st2,fun b hb=>(f2 b hb).1,w0⟩
  rintro n s3 ⟨i,σ3,H3,I3,st3,fr3,w3⟩
  rcases turn i n σ3 H3 w3 with ⟨stop,qn⟩ | ⟨go,N,hN,step⟩
  · refine wpAny_passesOwn hp (thn (T.done X rfl rfl rfl hc i pins s3 σ3 H3 X.xe I3 (stat fr3) st3 stop) fun r s4 ⟨hr,I4⟩=>?_)
    subst hr
    exact wpAny_execs_nil ⟨σ3,H3,I4,qn⟩
  · refine wpAny_passesOwn hp (thn (T.item X rfl rfl rfl hc i pins s3 σ3 H3 X.xe I3 (stat fr3) st3 go) fun r s4 ⟨u,hr,h4⟩=>?_)
    subst hr
    refine wpAny_passesOwn hp (thn h4 fun _ s5 ⟨x,H5,I5,r5,y5,st5,fr5⟩=>?_)
    have I5':=I5.pinned (stat fr5) (T.obj _ _ st5)
    refine wpAny_passesOwn hp (thn (hg _ s5 σ3 H5 x u _ I5' r5 (step x H5 y5)) fun _ s6 ⟨σ6,H6,I6,q6⟩=>?_)
    refine wpAny_passesOwn hp (thn (hb _ s6 σ6 H6 _ I6 q6) fun f s7 q7=>?_)
    have again : ∀ {σ7 : St} {H7 : Hp},Inv X (pins ++ zfC fp s5.heap) σ7 H7 s7→N σ7 H7→∃ m,m < n∧∃ i σ' H',Inv X pins σ' H' s7∧tn i s7.heap∧(∀ b∈fp,H' b = none)∧W i m σ' H':=fun {σ7 H7} I7 n7=>by
      obtain ⟨m',hm,w7⟩:=hN σ7 H7 n7
      refine ⟨m',hm,i + 1,σ7,H7,I7.unpinned,T.keep _ _ _ st5 fun b hb o e=>(I7.pin (b,o) (yaq _ (yaq _ (zcL hb e)))).1,fun b hb=>?_,w7⟩
      obtain ⟨o,e,d⟩:=T.obj _ _ st5 b hb
      exact (I7.pin (b,o) (yaq _ (yaq _ (zcL hb e)))).2.1
    cases f with
    | next=>obtain ⟨σ7,H7,I7,n7⟩:=q7; exact again I7 n7
    | cont=>obtain ⟨σ7,H7,I7,n7⟩:=q7; exact again I7 n7
    | brk=>obtain ⟨σ7,H7,I7,q7⟩:=q7; exact ⟨σ7,H7,I7.unpinned,q7⟩
    | ret v=>obtain ⟨x7,σ7,H7,I7,r7,q7⟩:=q7; exact ⟨x7,σ7,H7,I7.unpinned,r7,q7⟩
end
theorem zfj {K : Frag} {a : Addr} {xs : List V} {g : TG} {tb : TS} {D : Ends} {σ : St} {H : Hp} (Pv : Nat→St→Hp→Prop) (h0 : Pv 0 σ H) (hl : ∀ i σ H,i≤xs.length→Pv i σ H→SqL K H a xs)
    (hs : ∀ i x σ H,xs[i]? = some x→Pv i σ H→g x σ H fun σ2 H2=>tb { D with nx:=Pv (i + 1),ct:=Pv (i + 1),bk:=D.nx } σ2 H2) (hd : ∀ σ H,Pv xs.length σ H→D.nx σ H) :
    ∃ W : Nat→Nat→St→Hp→Prop,(∃ m,W 0 m σ H)∧∀ i m σ H,W i m σ H→
      ((Itl K a).stop i H∧D.nx σ H)∨((Itl K a).go i H∧∃ N : St→Hp→Prop,(∀ σ' H',N σ' H'→∃ m',m' < m∧W (i + 1) m' σ' H')∧∀ x H',(Itl K a).yld i H x H'→g x σ H' fun σ2 H2=>tb { D with nx:=N,ct:=N,bk:=D.nx } σ2 H2):=by
  refine ⟨fun i m σ H=>m = xs.length - i∧i≤xs.length∧Pv i σ H,⟨xs.length,by simp,yaF _,h0⟩,?_⟩
  rintro i m σ H ⟨rfl,hi,p⟩
  have q:=hl i σ H hi p
  by_cases hlt : i < xs.length
  · refine .inr ⟨⟨xs,xs[i],q,by simp [hlt]⟩,Pv (i + 1),fun σ' H' p'=>⟨xs.length - (i + 1),by omega,rfl,hlt,p'⟩,fun x H' y=>?_⟩
    obtain ⟨e,y⟩:=y
    subst e
    exact hs i x σ _ (y xs q) p
  · have e : i = xs.length:=by omega
    subst e
    exact .inl ⟨⟨xs,q,yab _⟩,hd σ H p⟩
theorem zla {K : Frag} {a : Addr} {xs : List V} {g : TG} {tb : TS} {D : Ends} {σ : St} {H : Hp} (Pv : Nat→St→Hp→Prop) (h0 : Pv 0 σ H) (hl : ∀ i σ H,i≤xs.length→Pv i σ H→SqT K H a xs)
    (hs : ∀ i x σ H,xs[i]? = some x→Pv i σ H→g x σ H fun σ2 H2=>tb { D with nx:=Pv (i + 1),ct:=Pv (i + 1),bk:=D.nx } σ2 H2) (hd : ∀ σ H,Pv xs.length σ H→D.nx σ H) :
    ∃ W : Nat→Nat→St→Hp→Prop,(∃ m,W 0 m σ H)∧∀ i m σ H,W i m σ H→
      ((Itt K a).stop i H∧D.nx σ H)∨((Itt K a).go i H∧∃ N : St→Hp→Prop,(∀ σ' H',N σ' H'→∃ m',m' < m∧W (i + 1) m' σ' H')∧∀ x H',(Itt K a).yld i H x H'→g x σ H' fun σ2 H2=>tb { D with nx:=N,ct:=N,bk:=D.nx } σ2 H2):=by
  refine ⟨fun i m σ H=>m = xs.length - i∧i≤xs.length∧Pv i σ H,⟨xs.length,by simp,yaF _,h0⟩,?_⟩
  rintro i m σ H ⟨rfl,hi,p⟩
  have q:=hl i σ H hi p
  by_cases hlt : i < xs.length
  · refine .inr ⟨⟨xs,xs[i],q,by simp [hlt]⟩,Pv (i + 1),fun σ' H' p'=>⟨xs.length - (i + 1),by omega,rfl,hlt,p'⟩,fun x H' y=>?_⟩
    obtain ⟨e,y⟩:=y
    subst e
    exact hs i x σ _ (y xs q) p
  · have e : i = xs.length:=by omega
    subst e
    exact .inl ⟨⟨xs,q,yab _⟩,hd σ H p⟩
theorem zbq {lo : Int} {n : Nat} {g : TG} {tb : TS} {D : Ends} {σ : St} {H : Hp} (Pv : Nat→St→Hp→Prop) (h0 : Pv 0 σ H)
    (hs : ∀ i σ H,i < n→Pv i σ H→g (.int (lo + i)) σ H fun σ2 H2=>tb { D with nx:=Pv (i + 1),ct:=Pv (i + 1),bk:=D.nx } σ2 H2) (hd : ∀ σ H,Pv n σ H→D.nx σ H) :
    ∃ W : Nat→Nat→St→Hp→Prop,(∃ m,W 0 m σ H)∧∀ i m σ H,W i m σ H→
      ((Itr lo n).stop i H∧D.nx σ H)∨((Itr lo n).go i H∧∃ N : St→Hp→Prop,(∀ σ' H',N σ' H'→∃ m',m' < m∧W (i + 1) m' σ' H')∧∀ x H',(Itr lo n).yld i H x H'→g x σ H' fun σ2 H2=>tb { D with nx:=N,ct:=N,bk:=D.nx } σ2 H2):=by
  refine ⟨fun i m σ H=>m = n - i∧i≤n∧Pv i σ H,⟨n,by simp,yaF _,h0⟩,?_⟩
  rintro i m σ H ⟨rfl,hi,p⟩
  by_cases hlt : i < n
  · refine .inr ⟨hlt,Pv (i + 1),fun σ' H' p'=>⟨n - (i + 1),by omega,rfl,hlt,p'⟩,fun x H' y=>?_⟩
    obtain ⟨e,y⟩:=y
    subst e y
    exact hs i σ _ hlt p
  · have e : i = n:=by omega
    subst e
    exact .inl ⟨yab _,hd σ H p⟩
theorem zjd {c : TT} {tb : TS} {D : Ends} {σ : St} {H : Hp} (Pv : St→Hp→Prop) (μ : St→Hp→Nat) (h0 : Pv σ H)
    (hs : ∀ σ H,Pv σ H→c σ H fun b H1=>if b = true then tb { D with nx:=fun σ' H'=>Pv σ' H'∧μ σ' H' < μ σ H,ct:=fun σ' H'=>Pv σ' H'∧μ σ' H' < μ σ H,bk:=D.nx } σ H1 else D.nx σ H1)
    (mono : ∀ σ H Q Q',(∀ b H1,Q b H1→Q' b H1)→c σ H Q→c σ H Q') : zhO c tb D σ H:=by
  refine ⟨fun m σ H=>m = μ σ H∧Pv σ H,⟨_,rfl,h0⟩,?_⟩
  rintro m σ H ⟨rfl,p⟩
  refine mono σ H _ _ (fun b H1 q=>?_) (hs σ H p)
  cases b with
  | true=>exact ⟨_,fun σ' H' ⟨p',l⟩=>⟨_,l,rfl,p'⟩,q⟩
  | false=>exact q
end L2
namespace L2
open PySem PySem.Spec PyProof.Rows
abbrev R2:=V→V→Hp→VK→Prop
def OpR (X : Cx) (f : Value→Value→Sem Value) (r : R2) : Prop:=
  ∀ (pins : List (Addr×Obj)) (s : Shared) (σ : St) (H : Hp) (x y : V) (v u : Value) (Q : VK),Inv X pins σ H s→RelV x v→RelV y u→r x y H Q→
    wpAny (model X.prog X.w) X.A (f v u) (EP X pins σ Q) X.xe s
def UnR (X : Cx) (f : Value→Sem Value) (r : V→Hp→VK→Prop) : Prop:=
  ∀ (pins : List (Addr×Obj)) (s : Shared) (σ : St) (H : Hp) (x : V) (v : Value) (Q : VK),Inv X pins σ H s→RelV x v→r x H Q→
    wpAny (model X.prog X.w) X.A (f v) (EP X pins σ Q) X.xe s
def zbU (X : Cx) (f : Value) (r : List V→Hp→VK→Prop) : Prop:=
  ∀ (pins : List (Addr×Obj)) (s : Shared) (σ : St) (H : Hp) (xs : List V) (us : List Value) (Q : VK),Inv X pins σ H s→Vals xs us→r xs H Q→
    wpAny (model X.prog X.w) X.A (call f us) (EP X pins σ Q) X.xe s
def tOp (r : R2) (ta tb : TE) : TE:=fun σ H Q=>ta σ H fun x H1=>tb σ H1 fun y H2=>r x y H2 Q
def tUn (r : V→Hp→VK→Prop) (ta : TE) : TE:=fun σ H Q=>ta σ H fun x H1=>r x H1 Q
def rI (C : Int→Int→Prop) (g : Int→Int→V) : R2:=fun x y H Q=>∃ i j,x = .int i∧y = .int j∧C i j∧Q (g i j) H
def rI0 (g : Int→Int→V) : R2:=fun x y H Q=>∃ i j,x = .int i∧y = .int j∧Q (g i j) H
def rU (g : Int→V) : V→Hp→VK→Prop:=fun x H Q=>∃ i,x = .int i∧Q (g i) H
section
variable {X : Cx} {a b c : Expr} {ta tb tc : TE} {pos : Pos}
theorem binT (ha : PE X a ta) (hb : PE X b tb) {pins : List (Addr×Obj)} {s : Shared} {σ : St} {H : Hp} {R : V→V→Hp→Prop} (I : Inv X pins σ H s)
    (h : ta σ H fun x H1=>tb σ H1 fun y H2=>R x y H2) {Q : Value→Shared→Prop} {f : Value→Value→Sem Value}
    (hf : ∀ v u s2 x y H2,Inv X pins σ H2 s2→RelV x v→RelV y u→R x y H2→wpAny (model X.prog X.w) X.A (f v u) Q X.xe s2) :
    wpAny (model X.prog X.w) X.A (eval a X.env) (fun v s₁=>wpAny (model X.prog X.w) X.A (eval b X.env) (fun u s₂=>wpAny (model X.prog X.w) X.A (f v u) Q X.xe s₂) X.xe s₁) X.xe s:=by
  refine thn (ha pins s σ H _ I h) fun v s1 ⟨x,H1,I1,r1,q1⟩=>?_
  refine thn (hb pins s1 σ H1 _ I1 q1) fun u s2 ⟨y,H2,I2,r2,q2⟩=>?_
  exact hf v u s2 x y H2 I2 r1 r2 q2
theorem zar {op : Operator} {r : R2} (ho : OpR X (binaryOp op) r) (ha : PE X a ta) (hb : PE X b tb) : PE X (.BinOp a op b pos) (tOp r ta tb):=by
  intro pins s σ H Q I h
  exact wpAny_BinOp (binT ha hb I h fun v u s2 x y H2 I2 rx ry q=>ho pins s2 σ H2 x y v u Q I2 rx ry q)
theorem zdY {op : UnaryOp} {r : V→Hp→VK→Prop} (ho : UnR X (unaryOp op) r) (ha : PE X a ta) : PE X (.UnaryOp op a pos) (tUn r ta):=by
  intro pins s σ H Q I h
  exact UnaryOp_ (thn (ha pins s σ H _ I h) fun v s1 ⟨x,H1,I1,r1,q1⟩=>ho pins s1 σ H1 x v Q I1 r1 q1)
theorem opI {f : Value→Value→Sem Value} {C : Int→Int→Prop} {g : Int→Int→Int}
    (rule : ∀ (i j : Int) (t u : Tok) (s : Shared) (Q : Value→Shared→Prop) (E : Value→Shared→Prop),C i j→Q (.int (g i j) s.toks) { s with toks:=s.toks + 1 }→wpAny (model X.prog X.w) X.A (f (.int i t) (.int j u)) Q E s) :
    OpR X f (rI C fun i j=>.int (g i j)):=by
  intro pins s σ H x y v u Q I rx ry h
  obtain ⟨i,j,rfl,rfl,hc,q⟩:=h
  obtain ⟨t,rfl⟩:=rx
  obtain ⟨t',rfl⟩:=ry
  exact rule i j t t' s _ _ hc ⟨.int (g i j),H,I.tok _,⟨_,rfl⟩,q⟩
theorem opI0 {f : Value→Value→Sem Value} {g : Int→Int→Int}
    (rule : ∀ (i j : Int) (t u : Tok) (s : Shared) (Q : Value→Shared→Prop) (E : Value→Shared→Prop),Q (.int (g i j) s.toks) { s with toks:=s.toks + 1 }→wpAny (model X.prog X.w) X.A (f (.int i t) (.int j u)) Q E s) :
    OpR X f (rI0 fun i j=>.int (g i j)):=by
  intro pins s σ H x y v u Q I rx ry h
  obtain ⟨i,j,rfl,rfl,q⟩:=h
  obtain ⟨t,rfl⟩:=rx
  obtain ⟨t',rfl⟩:=ry
  exact rule i j t t' s _ _ ⟨.int (g i j),H,I.tok _,⟨_,rfl⟩,q⟩
theorem opB0 {f : Value→Value→Sem Value} {g : Int→Int→Bool}
    (rule : ∀ (i j : Int) (t u : Tok) (s : Shared) (Q : Value→Shared→Prop) (E : Value→Shared→Prop),Q (.bool (g i j)) s→wpAny (model X.prog X.w) X.A (f (.int i t) (.int j u)) Q E s) :
    OpR X f (rI0 fun i j=>.bl (g i j)):=by
  intro pins s σ H x y v u Q I rx ry h
  obtain ⟨i,j,rfl,rfl,q⟩:=h
  obtain ⟨t,rfl⟩:=rx
  obtain ⟨t',rfl⟩:=ry
  exact rule i j t t' s _ _ ⟨.bl (g i j),H,I,rfl,q⟩
def CDiv (i j : Int) : Prop:=0 < j∧j < 1073741824
def CPow (i j : Int) : Prop:=0≤j∧j≤1000000∧i.natAbs < 2 ^ 64
def CMul (i j : Int) : Prop:=(-(2 ^ 64) < i∧i < 2 ^ 64)∨(-(2 ^ 64) < j∧j < 2 ^ 64)
theorem CMul.ok {i j : Int} (h : CMul i j) : IntMulOk i j:=by
  rcases h with ⟨h1,h2⟩ | ⟨h1,h2⟩
  · exact .of_left (intBits_le_64 h1 h2)
  · exact .of_right (intBits_le_64 h1 h2)
theorem zbI : OpR X (binaryOp .Add) (rI0 fun i j=>.int (i + j)):=opI0 fun _ _ _ _ _ _ _ q=>add_int q
theorem zbs : OpR X (binaryOp .Sub) (rI0 fun i j=>.int (i - j)):=opI0 fun _ _ _ _ _ _ _ q=>sub_int q
theorem zcP : OpR X (binaryOp .Mult) (rI CMul fun i j=>.int (i * j)):=opI fun _ _ _ _ _ _ _ hc q=>mul_int q hc.ok
theorem zge : OpR X (binaryOp .FloorDiv) (rI CDiv fun i j=>.int (i / j)):=opI fun i j _ _ _ _ _ hc q=>by
  have h1 : (0 : Int) < j:=hc.1
  have h2 : j < 1073741824:=hc.2
  exact floordiv_int (by omega) (by rw [Int.fdiv_eq_ediv_of_nonneg i (by omega)]; exact q) (.inl (PyProof.noPylong_small (by omega)))
theorem zd5 : OpR X (binaryOp .Mod) (rI (fun _ j=>0 < j) fun i j=>.int (i % j)):=opI fun i j _ _ _ _ _ hc q=>by
  have h1 : (0 : Int) < j:=hc
  exact mod_int' (by omega) (by rw [Int.fmod_eq_emod_of_nonneg i (by omega)]; exact q)
theorem zdB : OpR X (binaryOp .Pow) (rI CPow fun i j=>.int (i ^ j.toNat)):=opI fun _ _ _ _ _ _ _ hc q=>pow_int_small hc.1 hc.2.1 hc.2.2 q
theorem unI {f : Value→Sem Value} {g : Int→Int}
    (rule : ∀ (i : Int) (t : Tok) (s : Shared) (Q : Value→Shared→Prop) (E : Value→Shared→Prop),Q (.int (g i) s.toks) { s with toks:=s.toks + 1 }→wpAny (model X.prog X.w) X.A (f (.int i t)) Q E s) :
    UnR X f (rU fun i=>.int (g i)):=by
  intro pins s σ H x v Q I rx h
  obtain ⟨i,rfl,q⟩:=h
  obtain ⟨t,rfl⟩:=rx
  exact rule i t s _ _ ⟨.int (g i),H,I.tok _,⟨_,rfl⟩,q⟩
theorem zce : UnR X (unaryOp .USub) (rU fun i=>.int (-i)):=unI fun _ _ _ _ _ q=>neg_int q
end
def scal : V→V→Bool
  | .non,.non=>true | .non,.int _=>true | .int _,.non=>true | .non,.bl _=>true | .bl _,.non=>true | .non,.str _=>true | .str _,.non=>true
  | .int _,.int _=>true | .bl _,.bl _=>true | .str _,.str _=>true | .byt _,.byt _=>true
  | .int _,.str _=>true | .str _,.int _=>true | .bl _,.str _=>true | .str _,.bl _=>true
  | _,_=>false
def rEq : R2:=fun x y H Q=>scal x y = true∧Q (.bl (decide (x = y))) H
def rNe : R2:=fun x y H Q=>scal x y = true∧Q (.bl (!decide (x = y))) H
theorem ziU {i j : Int} : decide (V.int i = V.int j) = (i == j):=by
  rw [ybJ]
  simp
theorem zks {i j : Bool} : decide (V.bl i = V.bl j) = (i == j):=by
  rw [ybJ]
  simp
theorem ziT {i j : Str} : decide (V.str i = V.str j) = (i == j):=by
  rw [ybJ]
  simp
theorem ziV {i j : Array UInt8} : decide (V.byt i = V.byt j) = (i.toList == j.toList):=by
  rw [ybJ]
  cases i
  cases j
  simp
section
variable {X : Cx} {a b c : Expr} {ta tb tc : TE} {pos : Pos}
theorem zaH {pins : List (Addr×Obj)} {σ : St} {H : Hp} {s : Shared} {Q : VK} {k k' : Bool} (I : Inv X pins σ H s) (q : Q (.bl k) H) (e : k = k') : EP X pins σ Q (.bool k') s:=by
  subst e
  exact ⟨.bl k,H,I,rfl,q⟩
theorem zd6 : OpR X (compareOp .Eq) rEq:=by
  intro pins s σ H x y v u Q I rx ry h
  obtain ⟨hs,q⟩:=h
  cases x with
  | non=>
    cases rx
    cases y with
    | non=>cases ry; exact PySem.EqNone.eq_none_none (zaH I q (by simp))
    | bl j=>cases ry; exact PySem.EqNone.eq_none_bool (zaH I q (by simp))
    | int j=>obtain ⟨t',rfl⟩:=ry; exact PySem.EqNone.eq_none_int (zaH I q (by simp))
    | str j=>obtain ⟨t',rfl⟩:=ry; exact PySem.EqNone.eq_none_str (zaH I q (by simp))
    | _=>exact absurd (show false = true from hs) yau
  | bl i=>
    cases rx
    cases y with
    | non=>cases ry; exact PySem.EqNone.eq_bool_none (zaH I q (by simp))
    | bl j=>cases ry; exact eq_bool (zaH I q zks)
    | str j=>obtain ⟨t',rfl⟩:=ry; exact PySem.EqMixed.eq_bool_str (zaH I q (by simp))
    | _=>exact absurd (show false = true from hs) yau
  | int i=>
    obtain ⟨t,rfl⟩:=rx
    cases y with
    | non=>cases ry; exact PySem.EqNone.eq_int_none (zaH I q (by simp))
    | int j=>obtain ⟨t',rfl⟩:=ry; exact eq_int (zaH I q ziU)
    | str j=>obtain ⟨t',rfl⟩:=ry; exact PySem.EqMixed.eq_int_str (zaH I q (by simp))
    | _=>exact absurd (show false = true from hs) yau
  | str i=>
    obtain ⟨t,rfl⟩:=rx
    cases y with
    | non=>cases ry; exact PySem.EqNone.eq_str_none (zaH I q (by simp))
    | bl j=>cases ry; exact PySem.EqMixed.eq_str_bool (zaH I q (by simp))
    | int j=>obtain ⟨t',rfl⟩:=ry; exact PySem.EqMixed.eq_str_int (zaH I q (by simp))
    | str j=>obtain ⟨t',rfl⟩:=ry; exact eq_str (zaH I q ziT)
    | _=>exact absurd (show false = true from hs) yau
  | byt i=>
    obtain ⟨t,rfl⟩:=rx
    cases y with
    | byt j=>obtain ⟨t',rfl⟩:=ry; exact PySem.W.eq_bytes (zaH I q ziV)
    | _=>exact absurd (show false = true from hs) yau
  | _=>cases y <;> exact absurd (show false = true from hs) yau
theorem zfF : OpR X (compareOp .NotEq) rNe:=by
  intro pins s σ H x y v u Q I rx ry h
  obtain ⟨hs,q⟩:=h
  cases x with
  | non=>
    cases rx
    cases y with
    | non=>cases ry; exact PySem.EqNone.ne_none_none (zaH I q (by simp))
    | bl j=>cases ry; exact PySem.EqNone.ne_none_bool (zaH I q (by simp))
    | int j=>obtain ⟨t',rfl⟩:=ry; exact PySem.EqNone.ne_none_int (zaH I q (by simp))
    | str j=>obtain ⟨t',rfl⟩:=ry; exact PySem.EqNone.ne_none_str (zaH I q (by simp))
    | _=>exact absurd (show false = true from hs) yau
  | bl i=>
    cases rx
    cases y with
    | non=>cases ry; exact PySem.EqNone.ne_bool_none (zaH I q (by simp))
    | bl j=>cases ry; exact ne_bool (zaH I q (congrArg not zks))
    | str j=>obtain ⟨t',rfl⟩:=ry; exact PySem.EqMixed.ne_bool_str (zaH I q (by simp))
    | _=>exact absurd (show false = true from hs) yau
  | int i=>
    obtain ⟨t,rfl⟩:=rx
    cases y with
    | non=>cases ry; exact PySem.EqNone.ne_int_none (zaH I q (by simp))
    | int j=>obtain ⟨t',rfl⟩:=ry; exact ne_int (zaH I q (congrArg not ziU))
    | str j=>obtain ⟨t',rfl⟩:=ry; exact PySem.EqMixed.ne_int_str (zaH I q (by simp))
    | _=>exact absurd (show false = true from hs) yau
  | str i=>
    obtain ⟨t,rfl⟩:=rx
    cases y with
    | non=>cases ry; exact PySem.EqNone.ne_str_none (zaH I q (by simp))
    | bl j=>cases ry; exact PySem.EqMixed.ne_str_bool (zaH I q (by simp))
    | int j=>obtain ⟨t',rfl⟩:=ry; exact PySem.EqMixed.ne_str_int (zaH I q (by simp))
    | str j=>obtain ⟨t',rfl⟩:=ry; exact ne_str (zaH I q (congrArg not ziT))
    | _=>exact absurd (show false = true from hs) yau
  | byt i=>
    obtain ⟨t,rfl⟩:=rx
    cases y with
    | byt j=>obtain ⟨t',rfl⟩:=ry; exact PySem.W.ne_bytes (zaH I q (congrArg not ziV))
    | _=>exact absurd (show false = true from hs) yau
  | _=>cases y <;> exact absurd (show false = true from hs) yau
theorem zdF : OpR X (compareOp .Lt) (rI0 fun i j=>.bl (decide (i < j))):=opB0 fun _ _ _ _ _ _ _ q=>lt_int q
theorem zlT : OpR X (compareOp .LtE) (rI0 fun i j=>.bl (decide (i≤j))):=opB0 fun _ _ _ _ _ _ _ q=>le_int q
theorem zeo : OpR X (compareOp .Gt) (rI0 fun i j=>.bl (decide (j < i))):=opB0 fun _ _ _ _ _ _ _ q=>gt_int q
theorem zmt : OpR X (compareOp .GtE) (rI0 fun i j=>.bl (decide (j≤i))):=opB0 fun _ _ _ _ _ _ _ q=>ge_int q
theorem zlU : OpR X (compareOp .Is) (fun x y H Q=>y = .non∧Q (.bl (decide (x = .non))) H):=by
  intro pins s σ H x y v u Q I rx ry h
  obtain ⟨rfl,q⟩:=h
  cases ry
  refine is_none_gen (zaH I q ?_)
  cases x <;> first
    | (cases rx; rfl)
    | (obtain ⟨t,rfl⟩:=rx; rfl)
theorem OpR.or {f : Value→Value→Sem Value} {r r' : R2} (h : OpR X f r) (h' : OpR X f r') : OpR X f (fun x y H Q=>r x y H Q∨r' x y H Q):=by
  intro pins s σ H x y v u Q I rx ry q
  rcases q with q | q
  · exact h pins s σ H x y v u Q I rx ry q
  · exact h' pins s σ H x y v u Q I rx ry q
theorem zau (b : Expr) {op : CmpOp} (h : op≠.In:=by decide) (h2 : op≠.NotIn:=by decide) : behindInMarks op b = false:=by
  have e1 : (op == CmpOp.In) = false:=by cases op <;> first | rfl | exact absurd rfl h
  have e2 : (op == CmpOp.NotIn) = false:=by cases op <;> first | rfl | exact absurd rfl h2
  cases b <;> simp [behindInMarks,e1,e2]
theorem zd0 {op : CmpOp} {r : R2} (ho : OpR X (compareOp op) r) (ha : PE X a ta) (hb : PE X b tb) (hm : behindInMarks op b = false) : PE X (.Compare a [op] [b] pos) (tOp r ta tb):=by
  intro pins s σ H Q I h
  exact wpAny_Compare1 (binT ha hb I h fun v u s2 x y H2 I2 rx ry q=>ho pins s2 σ H2 x y v u Q I2 rx ry q) hm
def zmi (t : TE) : TT:=fun σ H Q=>t σ H fun x H'=>∃ k,x = .bl k∧Q k H'
theorem zap {op : CmpOp} {r : R2} (ho : OpR X (compareOp op) r) (ha : PE X a ta) (hb : PE X b tb) (hm : behindInMarks op b = false) : PT X (.Compare a [op] [b] pos) (zmi (tOp r ta tb)):=by
  intro pins s σ H Q I h
  refine wpAny_isTrue_Compare1 (thn (ha pins s σ H _ I h) fun v s1 ⟨x,H1,I1,r1,q1⟩=>thn (hb pins s1 σ H1 _ I1 q1) fun u s2 ⟨y,H2,I2,r2,q2⟩=>
    thn (ho pins s2 σ H2 x y v u _ I2 r1 r2 q2) fun c s3 ⟨z,H3,I3,r3,k,e,q3⟩=>?_) hm
  subst e
  cases r3
  exact wpAny_truthy_bool ⟨H3,I3,q3⟩
def zlx (r r' : R2) (ta tb tc : TE) : TE:=fun σ H Q=>ta σ H fun x H1=>tb σ H1 fun y H2=>r x y H2 fun z H3=>∃ k,z = .bl k∧
  (if k = true then tc σ H3 fun w' H4=>r' y w' H4 Q else Q (.bl false) H3)
theorem zgS {op op' : CmpOp} {r r' : R2} (ho : OpR X (compareOp op) r) (ho' : OpR X (compareOp op') r') (ha : PE X a ta) (hb : PE X b tb) (hc : PE X c tc)
    (hm : lastMarks [op,op'] [b,c] = false:=by with_unfolding_all rfl) : PE X (.Compare a [op,op'] [b,c] pos) (zlx r r' ta tb tc):=by
  intro pins s σ H Q I h
  refine Compare_chain (thn (ha pins s σ H _ I h) fun v s1 ⟨x,H1,I1,r1,q1⟩=>chain_link (thn (hb pins s1 σ H1 _ I1 q1) fun u s2 ⟨y,H2,I2,r2,q2⟩=>
    thn (ho pins s2 σ H2 x y v u _ I2 r1 r2 q2) fun d s3 ⟨z,H3,I3,r3,k,e,q3⟩=>?_)) hm
  subst e
  cases r3
  refine wpAny_truthy_bool ?_
  cases k with
  | false=>exact ite_ff ⟨.bl false,H3,I3,rfl,q3⟩
  | true=>exact ite_tt (chain_last (thn (hc pins s3 σ H3 _ I3 q3) fun w' s4 ⟨z',H4,I4,r4,q4⟩=>ho' pins s4 σ H4 y z' u w' Q I4 r2 r4 q4))
theorem ziu : (sizeLine : Nat) < 2 ^ 63:=by rw [sizeLine_eq]; decide
theorem zen {x : V} {us : List Value} (r : Vals [x] us) : ∃ u,us = [u]∧RelV x u:=by
  cases r with
  | cons r1 r2=>cases r2; exact ⟨_,rfl,r1⟩
theorem zeM {x y : V} {us : List Value} (r : Vals [x,y] us) : ∃ u w',us = [u,w']∧RelV x u∧RelV y w':=by
  cases r with
  | cons r1 r2=>
    cases r2 with
    | cons r3 r4=>cases r4; exact ⟨_,_,rfl,r1,r3⟩
theorem zg5 : zbU X (.builtin "abs") (fun xs H Q=>∃ i,xs = [.int i]∧Q (.int (if i < 0 then -i else i)) H):=by
  intro pins s σ H xs us Q I r h
  obtain ⟨i,rfl,q⟩:=h
  obtain ⟨u,rfl,t,rfl⟩:=zen r
  exact call_abs_int fun u tk=>⟨.int (if i < 0 then -i else i),H,I.tok _,⟨_,rfl⟩,q⟩
theorem zdj (hc : X.calm = true) : zbU X (.builtin "max") (fun xs H Q=>∃ i j,xs = [.int i,.int j]∧Q (.int (if j > i then j else i)) H):=by
  intro pins s σ H xs us Q I r h
  obtain ⟨i,j,rfl,q⟩:=h
  obtain ⟨u,w',rfl,⟨t,rfl⟩,⟨t',rfl⟩⟩:=zeM r
  refine max_two_ints (I.ok.hd hc) fun h' tk k=>⟨_,H,I.kept k,?_,q⟩
  by_cases hj : j > i
  · rw [if_pos hj,if_pos hj]; exact ⟨_,rfl⟩
  · rw [if_neg hj,if_neg hj]; exact ⟨_,rfl⟩
theorem zi4 (hc : X.calm = true) : zbU X (.builtin "min") (fun xs H Q=>∃ i j,xs = [.int i,.int j]∧Q (.int (if j < i then j else i)) H):=by
  intro pins s σ H xs us Q I r h
  obtain ⟨i,j,rfl,q⟩:=h
  obtain ⟨u,w',rfl,⟨t,rfl⟩,⟨t',rfl⟩⟩:=zeM r
  refine min_two_ints (I.ok.hd hc) fun h' tk k=>⟨_,H,I.kept k,?_,q⟩
  by_cases hj : j < i
  · rw [if_pos hj,if_pos hj]; exact ⟨_,rfl⟩
  · rw [if_neg hj,if_neg hj]; exact ⟨_,rfl⟩
theorem zfY : zbU X (.type "int") (fun xs H Q=>(∃ i,xs = [.int i]∧Q (.int i) H)∨∃ k,xs = [.bl k]∧Q (.int (if k then 1 else 0)) H):=by
  intro pins s σ H xs us Q I r h
  rcases h with ⟨i,rfl,q⟩ | ⟨k,rfl,q⟩
  · obtain ⟨u,rfl,t,rfl⟩:=zen r
    exact call_int_int ⟨.int i,H,I,⟨_,rfl⟩,q⟩
  · obtain ⟨u,rfl,r1⟩:=zen r
    cases r1
    exact call_int_bool ⟨.int (if k then 1 else 0),H,I.tok _,⟨_,rfl⟩,q⟩
end
end L2
namespace L2
open PySem PySem.Spec PyProof.Rows
structure ObjM (h : Heap) (x dx C : Addr) (mA : Str→Option Value) : Prop where
  obj : h.get? x = some (PySem.W.instObj C dx)
  ns : h.Ns1 dx mA
  ne : dx≠x
theorem zit {h : Heap} {dx : Addr} {mA : Str→Option Value} (n : h.Ns1 dx mA) : ∃ od,h.get? dx = some od∧∀ name,PySem.W.lookIn name od = some (mA name):=by
  obtain ⟨o,es,ep,ho,hd,hk,_,hm⟩:=n
  refine ⟨o,ho,fun name=>?_⟩
  have e:=hm name
  unfold nsFind findBy at e
  rw [← Array.find?_toList] at e
  unfold PySem.W.lookIn
  rw [hd]
  dsimp only
  split
  · rename_i y q
    rw [q] at e
    exact congrArg some e
  · rename_i q
    rw [q] at e
    have a : es.toList.any (·.refKey) = false:=by
      rw [List.any_eq_false]
      intro y hy
      obtain ⟨z,t,hkey⟩:=hk y (Array.mem_toList_iff.mp hy)
      simp [DictEntry.refKey,hkey]
    have a' : ¬ es.toList.any (·.refKey) = true:=by rw [a]; exact yau
    rw [if_neg a']
    exact congrArg some e
theorem ObjM.look {h : Heap} {x dx C : Addr} {mA : Str→Option Value} (I : ObjM h x dx C mA) : ∃ od,PySem.W.InstAt h x (PySem.W.instObj C dx) C (some od)∧∀ name,PySem.W.lookIn name od = some (mA name):=
  let ⟨od,ho,hl⟩:=zit I.ns
  ⟨od,⟨I.obj,rfl,rfl,ho⟩,hl⟩
theorem RelO.some_of {v : V} {o : Option Value} (r : RelO (some v) o) : ∃ u,o = some u∧RelV v u:=by
  cases o with
  | none=>exact (show False from r).elim
  | some u=>exact ⟨u,rfl,r⟩
section
variable {P : Program} {w : World} {H H' : Hp} {h h' : Heap} {a C dx : Addr} {fs fs' : List (Str×V)}
theorem zk1 (hok : HOk P w H h) (e : H a = some (.ins C dx fs)) : ∃ mA,ObjM h a dx C mA∧(∀ f,RelO (fs.lookup f) (mA f))∧PySem.Within mA (fs.map (·.1))∧fs.length≤1000∧H dx = some (.own a):=by
  obtain ⟨d,z,ne,ob,mA,n,r,q⟩:=(show zaU P w H h a (.ins C dx fs) from hok a _ e)
  exact ⟨mA,⟨ob,n,ne⟩,r,q,z,d⟩
end
structure Cls (K : Frag) (C : Addr) : Prop where
  pg : PySem.W.plainGet K C Str.empty = true
  hd : PySem.W.hasDictIn K C = true
  po : PySem.W.plainOver K C = true
  sa : findIn K (.ref C) "__setattr__" = some (some (.builtin "object.__setattr__"))
theorem Cls.get {K : Frag} {C : Addr} (c : Cls K C) (f : Str) : PySem.W.plainGet K C f = true:=c.pg
section
variable {X : Cx} {pins : List (Addr×Obj)} {σ : St} {H : Hp} {s : Shared} {A : Around} {E : Value→Shared→Prop} {Q : Value→Shared→Prop} {c : Value} {b : Bool}
inductive TyOf (K : Frag) (H : Hp) : V→Value→Prop where
  | non : TyOf K H .non (.type "NoneType")
  | bl (x : Bool) : TyOf K H (.bl x) (.type "bool")
  | int (i : Int) : TyOf K H (.int i) (.type "int")
  | str (x : Str) : TyOf K H (.str x) (.type "str")
  | flt (x : UInt64) : TyOf K H (.flt x) (.type "float")
  | lst {a : Addr} {xs : List V} (e : H a = some (.lst xs)) : TyOf K H (.ref a) (.type "list")
  | frz {a : Addr} {o : Obj} {xs : List V} (e : H a = some (.frz o (.lst xs))) : TyOf K H (.ref a) (.type "list")
  | tup {a : Addr} {xs : List V} (e : H a = some (.tup xs)) : TyOf K H (.ref a) (.type "tuple")
  | dK {a : Addr} {kvs : List (Key×V)} (e : H a = some (.dK kvs)) : TyOf K H (.ref a) (.type "dict")
  | dT {a : Addr} {kvs : List (List Key×V)} (e : H a = some (.dT kvs)) : TyOf K H (.ref a) (.type "dict")
  | ins {a C dx : Addr} {fs : List (Str×V)} (e : H a = some (.ins C dx fs)) (cl : Cls K C) (ha : findIn K (.ref C) "__class__" = some (some (.builtin "object.__class__")))
      (hn : PySem.W.specialIn K (.builtin "object.__class__") "__get__" = some (some (.builtin "getset_descriptor.__get__"))) (htk : PySem.W.takesIn K (.builtin "object.__class__") = some true)
      (hm : mroIn K C (.type "object") = some true) : TyOf K H (.ref a) (.ref C)
theorem ziF {x : V} {u t : Value} (I : Inv X pins σ H s) (rx : RelV x u) (ty : TyOf X.K H x t) (e : kitOne X.K t c = some b) (h : ∀ tk,Q (.bool b) { s with toks:=tk }) :
    wpAny (model X.prog X.w) A (call (.builtin "isinstance") [u,c]) Q E s:=by
  cases ty with
  | non=>cases (show u = Value.none from rx); exact PySem.W.kia_one PySem.W.kitx_none I.kIn True.intro e (fun z=>nomatch z) h
  | bl y=>cases (show u = Value.bool y from rx); exact PySem.W.kia_one PySem.W.kitx_bool I.kIn True.intro e (fun z=>nomatch z) h
  | int i=>obtain ⟨t,q⟩:=(show ∃ t,u = Value.int i t from rx); cases q; exact PySem.W.kia_one PySem.W.kitx_int I.kIn True.intro e (fun z=>nomatch z) h
  | str y=>obtain ⟨t,q⟩:=(show ∃ t,u = Value.str y t from rx); cases q; exact PySem.W.kia_one PySem.W.kitx_str I.kIn True.intro e (fun z=>nomatch z) h
  | flt y=>obtain ⟨t,q⟩:=(show ∃ t,u = Value.float y t from rx); cases q; exact PySem.W.kia_one PySem.W.kitx_float I.kIn True.intro e (fun z=>nomatch z) h
  | @lst a xs ea=>
    cases (show u = Value.ref a from rx)
    obtain ⟨_,_,n,_,h1⟩:=(show zaU X.prog X.w H s.heap a (.lst xs) from I.hok a _ ea)
    exact PySem.W.kia_one PySem.W.kitx_list I.kIn ⟨_,h1,rfl⟩ e (fun z=>nomatch z) h
  | @frz a ob xs ea=>
    cases (show u = Value.ref a from rx)
    obtain ⟨_,_,_,n,_,h1⟩:=(show zaU X.prog X.w H s.heap a (.frz ob (.lst xs)) from I.hok a _ ea)
    exact PySem.W.kia_one PySem.W.kitx_list I.kIn ⟨_,h1,rfl⟩ e (fun z=>nomatch z) h
  | @tup a xs ea=>
    cases (show u = Value.ref a from rx)
    obtain ⟨_,_,_,p⟩:=(show zaU X.prog X.w H s.heap a (.tup xs) from I.hok a _ ea)
    obtain ⟨o,h1,h2,_⟩:=p
    exact PySem.W.kia_one PySem.W.kitx_tuple I.kIn ⟨o,h1,h2⟩ e (fun z=>nomatch z) h
  | @dK a kvs ea=>
    cases (show u = Value.ref a from rx)
    obtain ⟨_,_,vs,_,p⟩:=(show zaU X.prog X.w H s.heap a (.dK kvs) from I.hok a _ ea)
    obtain ⟨o,es,ep,h1,h2,_⟩:=p
    exact PySem.W.kia_one PySem.W.kitx_dict I.kIn ⟨o,h1,h2.1⟩ e (fun z=>nomatch z) h
  | @dT a kvs ea=>
    cases (show u = Value.ref a from rx)
    obtain ⟨_,_,xs,_,o,es,ep,h1,h2,_⟩:=(show zaU X.prog X.w H s.heap a (.dT kvs) from I.hok a _ ea)
    exact PySem.W.kia_one PySem.W.kitx_dict I.kIn ⟨o,h1,h2.1⟩ e (fun z=>nomatch z) h
  | @ins a C dx fs ea cl ha hn htk hm=>
    cases (show u = Value.ref a from rx)
    obtain ⟨mA,O,_⟩:=zk1 I.hok ea
    obtain ⟨od,J,_⟩:=O.look
    exact PySem.W.kia_one (PySem.W.kitx_own (cl.get _) cl.hd ha hn htk hm) I.kIn J e (fun z=>nomatch z) h
end
end L2
namespace L2
open PySem PySem.Spec PyProof.Rows
structure Room (k : Nat) (A : Around) : Prop where
  hd : A.handled = none
  dp : A.depth + 3 * k + 5 < recursionLimit
  un : A.units + 16 * k + 200 < cLine
  gd : A.guards = some []
theorem Room.mono {j k : Nat} {A : Around} (r : Room k A) (h : j≤k) : Room j A:=⟨r.hd,by have:=r.dp; omega,by have:=r.un; omega,r.gd⟩
theorem Room.deeper {k : Nat} {A : Around} (r : Room (k + 1) A) (env : Env) : Room k (A.deeper env):=
  ⟨r.hd,by have:=r.dp; show A.depth + 1 + 3 * k + 5 < _; omega,by have:=r.un; show A.units + 3 + 16 * k + 200 < _; omega,r.gd⟩
theorem Room.in1 {k : Nat} {A : Around} (r : Room (k + 1) A) : Room k A.in1:=
  ⟨r.hd,by have:=r.dp; show A.depth + 3 * k + 5 < _; omega,by have:=r.un; show A.units + 1 + 16 * k + 200 < _; omega,r.gd⟩
theorem Room.depth {k : Nat} {A : Around} (r : Room k A) : A.depth < recursionLimit:=by have:=r.dp; omega
theorem Room.units {k : Nat} {A : Around} (r : Room k A) : A.units + 64 < cLine:=by have:=r.un; omega
def tNil : TA:=fun _ H Q=>Q [] H
def zkz (ta : TE) (tr : TA) : TA:=fun σ H Q=>ta σ H fun x H1=>tr σ H1 fun xs H2=>Q (x :: xs) H2
section
variable {X : Cx} {e : Expr} {es : List Expr} {te : TE} {t : TA} {pos : Pos}
theorem zab : PA X [] tNil:=fun _ _ _ _ H Q I h=>Calls.spliced_nil ⟨[],H,I,.nil,h⟩
theorem zaa (ha : PE X e te) (hr : PA X es t) (hs : starEach (e :: es) X.env = (false,eval e X.env) :: starEach es X.env:=by rfl) : PA X (e :: es) (zkz te t):=by
  intro pos pins s σ H Q I h
  rw [hs]
  show wpAny _ _ (spliced ((false,eval e X.env) :: backTo pos (starEach es X.env))) _ _ s
  refine Calls.spliced_cons (thn (ha pins s σ H _ I h) fun u s1 ⟨x,H1,I1,r1,q1⟩=>?_)
  exact thn (hr pos pins s1 σ H1 _ I1 q1) fun us s2 ⟨xs,H2,I2,r2,q2⟩=>⟨x :: xs,H2,I2,.cons r1 r2,q2⟩
def tTup (t : TA) : TE:=fun σ H Q=>t σ H fun xs H1=>xs.length≤sizeLine∧∀ p,H1 p = none→Q (.ref p) (upd H1 p (.tup xs))
def tLst (t : TA) : TE:=fun σ H Q=>t σ H fun xs H1=>xs.length≤sizeLine∧∀ p,H1 p = none→Q (.ref p) (upd H1 p (.lst xs))
theorem zcn {x1} (h : PA X es t) : PE X (.Tuple es x1 pos) (tTup t):=by
  intro pins s σ H Q I hq
  refine wpAny_Tuple_spliced (thn (h pos pins s σ H _ I hq) fun us s1 ⟨xs,H1,I1,r,z,q⟩=>⟨by rw [← r.length]; exact z,?_⟩)
  have hf : H1 s1.heap.objs.size = none:=I1.hok.fresh (yab _)
  refine ⟨.ref s1.heap.objs.size,upd H1 s1.heap.objs.size (.tup xs),I1.laid (t':=s1.toks) (fun b u e=>yam _ e) (yab _) ?_,rfl,q _ hf⟩
  exact ⟨z,us,r,⟨_,yaN _ rfl,rfl,_,rfl⟩⟩
theorem zaF (h : PA X es t) : PE X (.List es pos) (tLst t):=by
  intro pins s σ H Q I hq
  refine wpAny_List_spliced (thn (h pos pins s σ H _ I hq) fun us s1 ⟨xs,H1,I1,r,z,q⟩=>⟨by rw [← r.length]; exact z,?_⟩)
  have hf : H1 s1.heap.objs.size = none:=I1.hok.fresh (yab _)
  refine ⟨.ref s1.heap.objs.size,upd H1 s1.heap.objs.size (.lst xs),I1.laid (t':=s1.toks) (fun b u e=>yam _ e) (yab _) ?_,rfl,q _ hf⟩
  exact ⟨z,us,0,r,yaN _ rfl⟩
end
abbrev Sp:=List V→Hp→VK→XK→Prop
abbrev CXT:=List Env→Hp→Shared→XK→Value→Shared→Prop
structure Env0 (P : Program) (w : World) (K : Frag) (mg : Str→Option Value) (base : Heap) (A : Around) (outer : List Env) (s : Shared) (H : Hp) : Prop where
  frames : A.frames = some outer
  mod : Mod K mg base
  bs : ∀ b o,base.get? b = some o→s.heap.get? b = some o∧H b = none
  bsz : base.objs.size≤s.heap.objs.size
  funs : s.heap.FunFrames base outer
  frf : ∀ b∈frs outer,H b = none
  hok : HOk P w H s.heap
  bare : AllBare s.gens
def CE (outer : List Env) (P : Program) (w : World) (H : Hp) (s : Shared) (Q : VK) (u : Value) (s' : Shared) : Prop:=
  ∃ v H',s'.os = s.os∧AllBare s'.gens∧Un (frs outer) [] H H' s.heap s'.heap∧HOk P w H' s'.heap∧RelV v u∧Q v H'
def CR (CX : CXT) (outer : List Env) (P : Program) (w : World) (H : Hp) (s : Shared) (Q : VK) (E : XK) (r : Result) (s' : Shared) : Prop:=
  match r with
  | .ok (.ret u)=>CE outer P w H s Q u s'
  | .ok _=>False
  | .error e=>CX outer H s E e s'
structure FnOk (P : Program) (w : World) (K : Frag) (mg : Str→Option Value) (base : Heap) (CX : CXT) (k : Nat) (f : Addr) (fd : FuncData) (ps : List Str) (sp : Sp) : Prop where
  len : ∀ vs H Q E,sp vs H Q E→vs.length = ps.length
  run : ∀ (A : Around) (outer : List Env) (s : Shared) (H : Hp) (args : Args) (us : List Value) (vs : List V) (Q : VK) (E : XK),Room k A→Env0 P w K mg base A outer s H→BindsTo s fd args (ps.zip us)→Vals vs us→sp vs H Q E→
    codeAny (model P w) A (.call (.ref f) args) (CR CX outer P w H s Q E) s
theorem FnOk.mono {P : Program} {w : World} {K : Frag} {mg : Str→Option Value} {base : Heap} {CX : CXT} {j k : Nat} {f : Addr} {fd : FuncData} {ps : List Str} {sp : Sp} (F : FnOk P w K mg base CX j f fd ps sp) (h : j≤k) :
    FnOk P w K mg base CX k f fd ps sp:=⟨F.len,fun A outer s H args us vs Q E hr=>F.run A outer s H args us vs Q E (hr.mono h)⟩
theorem FnOk.imp {P : Program} {w : World} {K : Frag} {mg : Str→Option Value} {base : Heap} {CX : CXT} {k : Nat} {f : Addr} {fd : FuncData} {ps : List Str} {sp sp' : Sp} (F : FnOk P w K mg base CX k f fd ps sp)
    (h : ∀ vs H Q E,sp' vs H Q E→sp vs H Q E) : FnOk P w K mg base CX k f fd ps sp':=
  ⟨fun vs H Q E q=>F.len vs H Q E (h _ _ _ _ q),fun A outer s H args us vs Q E hr he hb hv hs=>F.run A outer s H args us vs Q E hr he hb hv (h _ _ _ _ hs)⟩
theorem Env0.in1 {P : Program} {w : World} {K : Frag} {mg : Str→Option Value} {base : Heap} {A : Around} {outer : List Env} {s : Shared} {H : Hp} (e : Env0 P w K mg base A outer s H) :
    Env0 P w K mg base A.in1 outer s H:=⟨e.frames,e.mod,e.bs,e.bsz,e.funs,e.frf,e.hok,e.bare⟩
section
variable {X : Cx} {pins : List (Addr×Obj)} {σ : St} {H : Hp} {s s' : Shared}
theorem Inv.env0 (I : Inv X pins σ H s) : Env0 X.prog X.w X.K X.mg X.base X.A X.stack s H:=
  ⟨I.ok.frames,I.ok.mod,I.bs,yaB I.ok.bsz I.sz,I.stack,I.stkFree,I.hok,I.bare⟩
theorem Inv.after {Q : VK} {u : Value} (I : Inv X pins σ H s) (h : CE X.stack X.prog X.w H s Q u s') : EP X pins σ Q u s':=by
  obtain ⟨v,H',os,bare,un,hok,r,q⟩:=h
  obtain ⟨hh,g,d,t,os'⟩:=s'
  obtain rfl : os' = s.os:=os
  exact ⟨v,H',I.call (h':=hh) (g':=g) (d':=d) (t':=t) (ch:=[]) un hok bare (fun b z=>absurd z (by simp)),r,q⟩
end
def zkA (sp : Sp) (dvs : List V) (E : XK) (t : TA) : TE:=fun σ H Q=>t σ H fun vs H1=>sp (vs ++ dvs) H1 Q E
def zem (K : Frag) (fd : FuncData) (ps : List Str) (ds : List Value) : Prop:=
  ∀ (s : Shared) (us : List Value),K.In s.heap→(us ++ ds).length = ps.length→BindsTo s fd ⟨us,[]⟩ (ps.zip (us ++ ds))
theorem zem.all {K : Frag} {fd : FuncData} {ps : List Str} (h : ∀ us : List Value,us.length = ps.length→bindArgs fd ⟨us,[]⟩ = pure (ps.zip us)) : zem K fd ps []:=fun s us _ hl=>by
  rw [yaU] at hl ⊢
  exact .of_eq (h us hl)
def zeH (CX : CXT) (X : Cx) (E : XK) : Prop:=∀ (pins : List (Addr×Obj)) (σ : St) (H : Hp) (s : Shared) (e : Value) (s' : Shared),Inv X pins σ H s→CX X.stack H s E e s'→X.xe e s'
section
variable {X : Cx} {CX : CXT} {k : Nat} {f C : Addr} {fd : FuncData} {ps : List Str} {sp : Sp} {dvs : List V} {ds : List Value} {E : XK} {x m : Str} {p pos apos : Pos} {e o : Expr} {es : List Expr} {ta : TE} {t : TA}
theorem zkc {pins : List (Addr×Obj)} {σ : St} {H : Hp} {s : Shared} {Q : VK} {us : List Value} {vs : List V} (F : FnOk X.prog X.w X.K X.mg X.base CX k f fd ps sp) (hr : Room k X.A) (hb : zem X.K fd ps ds) (hd : Vals dvs ds) (hx : zeH CX X E)
    (I : Inv X pins σ H s) (r : Vals vs us) (h : sp (vs ++ dvs) H Q E) : wpAny (model X.prog X.w) X.A (call (.ref f) us) (EP X pins σ Q) X.xe s:=by
  have r2 : Vals (vs ++ dvs) (us ++ ds):=r.append hd
  have hl : (us ++ ds).length = ps.length:=by rw [← r2.length]; exact F.len _ _ _ _ h
  refine wpAny_call (codeAny_mono (F.run X.A X.stack s H ⟨us,[]⟩ (us ++ ds) (vs ++ dvs) Q E hr I.env0 (hb s us I.kIn hl) r2 h) fun r s' hq=>?_)
  cases r with
  | error e=>exact hx pins σ H s e s' I hq
  | ok fl=>
    cases fl with
    | ret u=>exact I.after hq
    | next=>exact False.elim hq
    | brk=>exact False.elim hq
    | cont=>exact False.elim hq
theorem zkN (F : FnOk X.prog X.w X.K X.mg X.base CX k f fd ps sp) (hr : Room k X.A) (hg : Gl X x) (hm : X.mg x = some (.ref f)) (hk : keepIn X.K (.ref f) = true) (hb : zem X.K fd ps ds) (hd : Vals dvs ds) (hx : zeH CX X E)
    (ha : PA X (e :: es) t) (hdb : (x == ("__debug__" : Str)) = false:=by decide) (he : starEach (e :: es) X.env = (false,eval e X.env) :: starEach es X.env:=by rfl) (hpl : (backTo pos (starEach es X.env)).any (·.1) = false:=by rfl) :
    PE X (.Call (.Name x p) (e :: es) [] pos) (zkA sp dvs E t):=by
  intro pins s σ H Q I h
  refine wpAny_Call_Name_kw (zdt I hg hm ?_ hdb)
  refine PySem.W.callWith_K (h₀:=X.base) I.ok.mod.kin hk (thn (ha pos pins s σ H _ I h) fun us s1 ⟨vs,H1,I1,r,q⟩=>⟨I1.kIn,?_⟩) he hpl
  exact zkc F hr hb hd hx I1 r q
end
structure zaq (N P : List Str) (sc : Scope) : Prop where
  kind : sc.kind = .function
  co : sc.isCoroutine = false
  gen : sc.isGenerator = false
  nd : N.Nodup
  pre : N.take P.length = P
  par : ∀ x∈P,sc.names.lookup x = some .local∨sc.names.lookup x = some .cell
  nofree : ∀ y∈sc.names,y.2≠.free
theorem zfZ {kindOf : Str→Option NameKind} {x : Str} : ∀ {binds : List (Str×Value)} {m : Str→Option Value},(∀ v,(x,v)∉binds)→bindL kindOf binds m x = m x
  | [],_,_=>rfl
  | (n,v) :: r,m,h=>by
    unfold bindL
    rw [zfZ fun w hw=>h w (yal _ hw)]
    split
    · have : x≠n:=by rintro rfl; exact h v yah
      simp [this]
    · rfl
theorem zf1 {kindOf : Str→Option NameKind} {x : Str} : ∀ {binds : List (Str×Value)} {m : Str→Option Value},(∀ v,(x,v)∉binds)→bindC kindOf binds m x = m x
  | [],_,_=>rfl
  | (n,v) :: r,m,h=>by
    unfold bindC
    rw [zf1 fun w hw=>h w (yal _ hw)]
    split
    · rfl
    · have : x≠n:=by rintro rfl; exact h v yah
      simp [this]
theorem zf0 {kindOf : Str→Option NameKind} {x : Str} {v : Value} : ∀ {P : List Str} {vs : List Value} {i : Nat} {m : Str→Option Value},P.Nodup→P[i]? = some x→vs[i]? = some v→kindOf x = some .local→
    bindL kindOf (P.zip vs) m x = some v
  | [],_,_,_,_,h,_,_=>by simp at h
  | _ :: _,[],_,_,_,_,h,_=>by simp at h
  | p :: P,w :: vs,0,m,nd,h1,h2,hk=>by
    simp at h1 h2; subst h1; subst h2
    show bindL kindOf ((p,w) :: P.zip vs) m p = _
    unfold bindL
    rw [zfZ fun v hv=>(yaV.mp nd).1 (ybq hv).1,if_pos hk]
    simp
  | p :: P,w :: vs,i + 1,m,nd,h1,h2,hk=>by
    show bindL kindOf ((p,w) :: P.zip vs) m x = _
    unfold bindL
    exact zf0 (i:=i) (yaV.mp nd).2 (by simpa using h1) (by simpa using h2) hk
theorem zf2 {kindOf : Str→Option NameKind} {x : Str} {v : Value} : ∀ {P : List Str} {vs : List Value} {i : Nat} {m : Str→Option Value},P.Nodup→P[i]? = some x→vs[i]? = some v→kindOf x≠some .local→
    bindC kindOf (P.zip vs) m x = some v
  | [],_,_,_,_,h,_,_=>by simp at h
  | _ :: _,[],_,_,_,_,h,_=>by simp at h
  | p :: P,w :: vs,0,m,nd,h1,h2,hk=>by
    simp at h1 h2; subst h1; subst h2
    show bindC kindOf ((p,w) :: P.zip vs) m p = _
    unfold bindC
    rw [zf1 fun v hv=>(yaV.mp nd).1 (ybq hv).1,if_neg hk]
    simp
  | p :: P,w :: vs,i + 1,m,nd,h1,h2,hk=>by
    show bindC kindOf ((p,w) :: P.zip vs) m x = _
    unfold bindC
    exact zf2 (i:=i) (yaV.mp nd).2 (by simpa using h1) (by simpa using h2) hk
def zdP (N : List Str) (vs : List V) : St:=vs.map some ++ List.replicate (N.length - vs.length) none
def cxOf (CX : CXT) (P : Program) (w : World) (K : Frag) (mg : Str→Option Value) (base : Heap) (N : List Str) (qual : Str) (scope : Scope) (f : Addr) (cd : Value) (A : Around) (outer : List Env) (s : Shared) (H : Hp) (E : XK) : Cx where
  prog:=P
  w:=w
  K:=K
  mg:=mg
  base:=base
  A:=A.deeper (envOfC qual scope s.heap.objs.size f cd)
  N:=N
  s₀:=s
  H₀:=H
  env:=envOfC qual scope s.heap.objs.size f cd
  outer:=outer
  stack:=envOfC qual scope s.heap.objs.size f cd :: outer
  ex:=[]
  calm:=true
  fn:=fun _=>true
  pn:=[]
  xe:=fun e s'=>wpAny (model P w) (A.deeper (envOfC qual scope s.heap.objs.size f cd)) (leaving (envOfC qual scope s.heap.objs.size f cd) e) (fun _ s''=>CX outer H s E e s'') (fun e' s''=>CX outer H s E e' s'') s'
theorem zg4 {sc : Scope} {n : Nat} {x : Str} (h : sc.names.lookup x = some .cell) : ∃ c,(cellsFrom n sc.names []).lookup x = some c:=by
  have q:=PySem.W.cellsFrom_some sc.names n [] (.inl h)
  exact ybK.mp q
theorem ziG {CX : CXT} {P : Program} {w : World} {K : Frag} {mg : Str→Option Value} {base : Heap} {N ps : List Str} {qual : Str} {scope : Scope} {f : Addr} {cd : Value} {A : Around} {outer : List Env} {s s1 : Shared} {H : Hp} {E : XK} {us : List Value} {vs : List V}
    (S : zaq N ps scope) (hd : A.handled = none) (e0 : Env0 P w K mg base A outer s H) (hl : vs.length = ps.length) (r : Vals vs us)
    (x : InCallC s s.heap.objs.size (bindL (envOfC qual scope s.heap.objs.size f cd).kindOf (ps.zip us) fun _=>none) (cellsFrom (s.heap.objs.size + 1) scope.names []) (bindC (envOfC qual scope s.heap.objs.size f cd).kindOf (ps.zip us) fun _=>none) s1) :
    Inv (cxOf CX P w K mg base N qual scope f cd A outer s H E) [] (zdP N vs) H s1:=by
  have hpl : ps.length≤N.length:=by have:=congrArg List.length S.pre; rw [yar] at this; omega
  obtain ⟨h1,tk,rfl,hk⟩:=x.done
  have noA : ∀ b : Addr,b∉(cxOf CX P w K mg base N qual scope f cd A outer s H E).ex:=fun b z=>absurd (show b∈([] : List Addr) from z) (by simp)
  refine ⟨⟨e0.mod,S.kind,rfl,rfl,yab _,fun y z c h1 h2=>?_,fun y hy=>?_,fun y c _ h=>?_,fun _=>hd,Around.frames_deeper e0.frames,.inr ⟨rfl,rfl⟩,fun b z=>absurd z (noA b),e0.bs,e0.bsz,fun b _ _=>noA b,fun b z=>absurd z (noA b),e0.funs,e0.frf⟩,
    rfl,e0.bare,Un.kept hk,⟨_,x.toInCall.ns,fun i y v h1 h2 h3=>?_⟩,fun y c h=>⟨_,x.cell y c h⟩,e0.hok.fresh (yab _),fun y c h=>?_,fun p hp=>absurd (show p∈([] : List (Addr×Obj)) from hp) (by simp),e0.hok.kept hk,?_⟩
  · exact name_of_addr x.apart (PySem.mem_of_lookup h1) (PySem.mem_of_lookup h2)
  · have hy : scope.names.lookup y = some .cell∨scope.names.lookup y = some .free:=hy
    rcases hy with hy | hy
    · exact zg4 hy
    · exact absurd rfl (S.nofree _ (PySem.mem_of_lookup hy))
  · exact ya0 (x.above y c (PySem.mem_of_lookup h))
  · have hi : i < vs.length:=by
      unfold zdP at h2
      by_cases hi : i < vs.length
      · exact hi
      · rw [yaL (by simpa using hi)] at h2
        rw [List.getElem?_replicate] at h2
        split at h2 <;> cases h2
    have ha : vs[i]? = some v:=by
      unfold zdP at h2
      rw [yaO (by simpa using hi),yax] at h2
      cases e : vs[i]? with
      | none=>rw [e] at h2; cases h2
      | some a=>rw [e] at h2; cases h2; rfl
    obtain ⟨u,hu,rv⟩:=r.get ha
    have hp : ps[i]? = some y:=by
      rw [← S.pre,List.getElem?_take_of_lt (by omega)]; exact h1
    have ndP : ps.Nodup:=by rw [← S.pre]; exact S.nd.sublist (List.take_sublist _ _)
    refine ⟨u,rv,?_⟩
    rcases S.par y (yaW hp) with k | k
    · exact .inl ⟨k,zf0 ndP hp hu k⟩
    · obtain ⟨c,e⟩:=zg4 (n:=s.heap.objs.size + 1) k
      refine .inr ⟨.inl k,c,e,?_⟩
      have q:=x.cell y c e
      rw [zf2 ndP hp hu (by show scope.names.lookup y≠_; rw [k]; decide)] at q
      exact q
  · exact e0.hok.fresh (ya0 (x.above y c (PySem.mem_of_lookup h)))
  · unfold zdP
    show _ = N.length
    rw [yae,yaa,ybr]
    omega
theorem zlb {CX : CXT} {P : Program} {w : World} {K : Frag} {mg : Str→Option Value} {base : Heap} {k : Nat} {f : Addr} {name qual : Str} {params : Arguments} {body : List Stmt} {scope : Scope} {dV kV doc pm cdv ct oc : Value} {an od : Option Addr}
    {osl : Array (Option Value)} {N ps : List Str} {sp : Sp} (lk : K.lookup f = some ⟨oc,od,.func (fnOf name qual params body scope dV kV doc pm an cdv ct),osl⟩) (hcd : codeIn K cdv qual = true) (S : zaq N ps scope)
    (len : ∀ vs H Q E,sp vs H Q E→vs.length = ps.length)
    (hbody : ∀ (A : Around) (outer : List Env) (s : Shared) (H : Hp) (vs : List V) (Q : VK) (E : XK),Room k (A.deeper (envOfC qual scope s.heap.objs.size f cdv))→sp vs H Q E→
      ∃ t,PSs (cxOf CX P w K mg base N qual scope f cdv A outer s H E) body t∧t { nx:=fun _ H'=>Q .non H',rt:=Q } (zdP N vs) H) :
    FnOk P w K mg base CX (k + 1) f (fnOf name qual params body scope dV kV doc pm an cdv ct) ps sp:=by
  refine ⟨len,fun A outer s H args us vs Q E hr e0 hb r hsp=>?_⟩
  have hl:=len _ _ _ _ hsp
  have KX : K.In s.heap:=e0.mod.kin.keeps fun b o e=>(e0.bs b o e).1
  have lim : s.heap.NoLimit:=e0.mod.nolimit.keeps fun b o e=>(e0.bs b o e).1
  have hkind : ∀ y∈ps.zip us,scope.names.lookup y.1 = some .local∨(scope.names.lookup y.1 = some .cell∧((cellsFrom (s.heap.objs.size + 1) scope.names []).lookup y.1).isSome = true):=fun ⟨n,v⟩ hy=>by
    rcases S.par n (ybq hy).1 with q | q
    · exact .inl q
    · exact .inr ⟨q,PySem.W.cellsFrom_some _ _ _ (.inl q)⟩
  refine codeAny_call_function hr.depth (KX _ _ lk) rfl S.co S.gen rfl (PySem.W.codeRec_of KX hcd) (hb _ _ _ _ ?_)
  refine wpAny_newFunctionEnv_cells S.kind hkind fun env he s1 x=>?_
  subst he
  refine ⟨lim.keeps x.toInCall.keep,codeAny_func ?_⟩
  obtain ⟨t,ht,hq⟩:=hbody A outer s H vs Q E (hr.deeper _) hsp
  have I : Inv (cxOf CX P w K mg base N qual scope f cdv A outer s H E) [] (zdP N vs) H s1:=ziG S hr.hd e0 hl r x
  refine wpAny_mono (ht [] s1 (zdP N vs) H _ I hq) (fun fl s' hs=>?_) fun e s' hs=>hs
  have fin : ∀ {σ' : St} {H' : Hp} {v : V} {u : Value},Inv (cxOf CX P w K mg base N qual scope f cdv A outer s H E) [] σ' H' s'→RelV v u→Q v H'→CE outer P w H s Q u s':=
    fun {σ' H' v u} J rv q=>⟨v,H',J.os,J.bare,J.base,J.hok,rv,q⟩
  cases fl with
  | ret u=>
    obtain ⟨v,σ',H',J,rv,q⟩:=hs
    exact fin J rv q
  | next=>
    obtain ⟨σ',H',J,q⟩:=hs
    exact fin (v:=V.non) (u:=Value.none) J rfl q
  | brk=>
    obtain ⟨_,_,_,q⟩:=hs
    exact False.elim q
  | cont=>
    obtain ⟨_,_,_,q⟩:=hs
    exact False.elim q
end L2
namespace L2
open PySem PySem.Spec PyProof.Rows
section
variable {X : Cx} {x : Str} {p pos : Pos} {e : Expr} {es : List Expr} {t : TA} {id T : String} {r : List V→Hp→VK→Prop}
def tCB (r : List V→Hp→VK→Prop) (t : TA) : TE:=fun σ H Q=>t σ H fun vs H1=>r vs H1 Q
theorem zam (hc : zbU X (.builtin id) r) (hg : Gl X x) (hm : X.mg x = none) (hv : bootBuiltins x = some (.builtin id)) (ha : PA X (e :: es) t) (hn : x ≠ "__name__":=by decide) (hdb : (x == ("__debug__" : Str)) = false:=by decide)
    (he : starEach (e :: es) X.env = (false,eval e X.env) :: starEach es X.env:=by rfl) (hpl : (backTo pos (starEach es X.env)).any (·.1) = false:=by rfl) : PE X (.Call (.Name x p) (e :: es) [] pos) (tCB r t):=by
  intro pins s σ H Q I h
  refine wpAny_Call_Name_kw (zex I hg hm hv ?_ hn hdb)
  exact PyProof.Rows.callWith_builtin1 (thn (ha pos pins s σ H _ I h) fun us s1 ⟨vs,H1,I1,r1,q1⟩=>hc pins s1 σ H1 vs us Q I1 r1 q1) he hpl
theorem za6 (hc : zbU X (.type T) r) (hg : Gl X x) (hm : X.mg x = none) (hv : bootBuiltins x = some (.type T)) (ha : PA X (e :: es) t) (hn : x ≠ "__name__":=by decide) (hdb : (x == ("__debug__" : Str)) = false:=by decide)
    (he : starEach (e :: es) X.env = (false,eval e X.env) :: starEach es X.env:=by rfl) (hpl : (backTo pos (starEach es X.env)).any (·.1) = false:=by rfl) : PE X (.Call (.Name x p) (e :: es) [] pos) (tCB r t):=by
  intro pins s σ H Q I h
  refine wpAny_Call_Name_kw (zex I hg hm hv ?_ hn hdb)
  exact PyProof.Rows.callWith_type1 (thn (ha pos pins s σ H _ I h) fun us s1 ⟨vs,H1,I1,r1,q1⟩=>hc pins s1 σ H1 vs us Q I1 r1 q1) he hpl
end
end L2
namespace HT
open PySem PyProof.Rows
def lexLt : List Int→List Int→Bool
  | [],[]=>false
  | [],_ :: _=>true
  | _ :: _,[]=>false
  | x :: xs,y :: ys=>if x = y then lexLt xs ys else decide (x < y)
theorem lexLt_cons (x y : Int) (xs ys : List Int) : lexLt (x :: xs) (y :: ys) = if x = y then lexLt xs ys else decide (x < y):=rfl
theorem lexLt_nil_nil : lexLt [] [] = false:=rfl
section
variable {prog : Program} {w : World} {A : Around} {E : Value→Shared→Prop} {s : Shared}
def sIx (n d : Nat) : Option Int→Nat
  | none=>d
  | some v=>if v < 0 then (v + (n : Int)).toNat else min v.toNat n
theorem zcm (n d k : Nat) : sIx n d (some (k : Int)) = min k n:=by
  show (if (k : Int) < 0 then ((k : Int) + (n : Int)).toNat else min (k : Int).toNat n) = min k n
  rw [if_neg (by omega),ybs]
theorem zlG (n d : Nat) (hd : d≤n) (o : Option Int) : sIx n d o≤n:=by
  cases o with
  | none=>exact hd
  | some v=>
    show (if v < 0 then (v + (n : Int)).toNat else min v.toNat n)≤n
    by_cases hv : v < 0
    · rw [if_pos hv]; omega
    · rw [if_neg hv]; exact Nat.min_le_right _ _
theorem zi2 (v : Int) (n d : Nat) : (if v < 0 then max (v + (n : Int)) 0 else min v (n : Int)) = ((sIx n d (some v) : Nat) : Int):=by
  show (if v < 0 then max (v + (n : Int)) 0 else min v (n : Int)) = (((if v < 0 then (v + (n : Int)).toNat else min v.toNat n) : Nat) : Int)
  by_cases hv : v < 0
  · simp only [if_pos hv]; omega
  · simp only [if_neg hv]; omega
theorem zhF (lo hi : Option Int) (n : Nat) : Builtin.Slice.sliceAdjust lo hi 1 (n : Int) = (((sIx n 0 lo : Nat) : Int),((sIx n n hi : Nat) : Int)):=by
  have h1 : ¬ ((1 : Int) < 0):=by omega
  unfold Builtin.Slice.sliceAdjust
  simp only [h1,if_false]
  refine Prod.ext ?_ ?_
  · cases lo with
    | none=>rfl
    | some v=>exact zi2 v n 0
  · cases hi with
    | none=>rfl
    | some v=>exact zi2 v n n
theorem zhj (i j : Nat) : Builtin.Slice.slicePlaces (i : Int) (j : Int) 1 = j - i:=by
  unfold Builtin.Slice.slicePlaces
  have h1 : (1 : Int) > 0:=by omega
  simp only [h1,if_true,Int.ediv_one]
  split <;> omega
theorem zes {v : Value} {o : Option Int} {Q : Option Int→Shared→Prop} (p : IsPart v o) (h : Q o s) : wpAny (model prog w) A (Builtin.Slice.slicePartIndex v) Q E s:=by
  cases p with
  | none=>exact slicePart_none h
  | int i t=>exact slicePart_int h
theorem zca {sl : Addr} {vl vu : Value} {lo hi : Option Int} {n : Nat} {Q : Int×Int×Nat→Shared→Prop} (hs : s.heap.IsSliceOf sl vl vu .none) (pl : IsPart vl lo) (pu : IsPart vu hi)
    (h : Q (((sIx n 0 lo : Nat) : Int),1,sIx n n hi - sIx n 0 lo) s) : wpAny (model prog w) A (Builtin.Slice.sliceApplied (.ref sl) (pure (n : Int))) Q E s:=by
  obtain ⟨os,hos,hcs,hds⟩:=id hs
  unfold Builtin.Slice.sliceApplied Builtin.Slice.sliceFields
  refine wpAny_bind (wpAny_bind (wpAny_field hos hds (x:=vl) rfl (wpAny_bind (wpAny_field hos hds (x:=vu) rfl (wpAny_bind (wpAny_field hos hds (x:=.none) rfl (wpAny_pure ?_)))))))
  refine wpAny_bind (slicePart_none ?_)
  show wpAny _ _ (if ((1 : Int) == 0) = true then _ else _) _ _ s
  rw [if_neg (by decide)]
  refine wpAny_bind (zes pl (wpAny_bind (zes pu (wpAny_bind (wpAny_pure ?_)))))
  show wpAny _ _ (match Builtin.Slice.sliceAdjust lo hi 1 (n : Int) with | (lo,hi)=>pure (lo,(1 : Int),Builtin.Slice.slicePlaces lo hi 1)) _ _ s
  rw [zhF lo hi n]
  show wpAny _ _ (pure (((sIx n 0 lo : Nat) : Int),(1 : Int),Builtin.Slice.slicePlaces ((sIx n 0 lo : Nat) : Int) ((sIx n n hi : Nat) : Int) 1)) _ _ s
  rw [zhj]
  exact wpAny_pure h
theorem zjp (xs : Array Value) (i k : Nat) : ((List.range k).filterMap fun (m : Nat)=>xs[((i : Int) + (m : Int) * 1).toNat]?).toArray = ((xs.toList.drop i).take k).toArray:=by
  have e : (fun (m : Nat)=>xs[((i : Int) + (m : Int) * 1).toNat]?) = fun m=>xs[i + m]?:=by
    funext m
    have : ((i : Int) + (m : Int) * 1).toNat = i + m:=by omega
    rw [this]
  rw [e]
  have:=pick_run xs i k
  rw [List.filterMap_map] at this
  have e2 : ((fun x=>xs[x]?) ∘ fun x=>i + x) = fun m=>xs[i + m]?:=rfl
  rw [e2] at this
  rw [this]
theorem getItem_tuple_cut {t sl : Addr} {items : Array Value} {vl vu : Value} {lo hi : Option Int} {Q : Value→Shared→Prop} (ht : IsTup s.heap t items) (hs : s.heap.IsSliceOf sl vl vu .none) (pl : IsPart vl lo) (pu : IsPart vu hi)
    (hw : ¬ (sIx items.size 0 lo = 0∧sIx items.size items.size hi = items.size))
    (h : Q (.ref s.heap.objs.size) { s with heap:=s.heap.push { cls:=.type "tuple",data:=.seq ((items.toList.drop (sIx items.size 0 lo)).take (sIx items.size items.size hi - sIx items.size 0 lo)).toArray } })
    (hsz : items.size≤sizeLine) : wpAny (model prog w) A (getItem (.ref t) (.ref sl)) Q E s:=by
  have htake : sizeOk (.seq ((items.toList.drop (sIx items.size 0 lo)).take (sIx items.size items.size hi - sIx items.size 0 lo)).toArray):=by
    show ((items.toList.drop (sIx items.size 0 lo)).take (sIx items.size items.size hi - sIx items.size 0 lo)).toArray.size≤sizeLine
    rw [yay,yar,yaG,yao]
    omega
  have hj : sIx items.size items.size hi≤items.size:=zlG _ _ (yab _) hi
  obtain ⟨os,hos,hcs,hds⟩:=id hs
  have hTs : s.TypeIs (.ref sl) "slice":=⟨os,hos,hcs⟩
  unfold getItem
  try with_reducible refine wpAny_holding ?_
  first | refine wpAny_bind (wpAny_pure ?_) | skip
  refine wpAny_bind (wpAny_sequenceKey ht.typeIs (by decide) ?_)
  refine wpAny_bind (wpAny_callSpecial?_slot (name:=Str.ofString "__getitem__") ht.typeIs PyProof.Rows.slot_tuple_getitem
    (wpAny_call_entry PyProof.Rows.slot_tuple_getitem ht.typeIs entry_tuple_getitem ?_ (args_tuple_getitem _ _)))
  show wpAny _ _ (Builtin.Tuple.tupleItemsOf (.ref t) >>= _) _ _ s
  refine wpAny_bind (tupleItemsOf_ ht ?_)
  refine wpAny_bind (wpAny_typeOf hTs ?_)
  rw [if_pos (by decide)]
  refine wpAny_bind (zca hs pl pu ?_)
  have hno : ¬ ((((sIx items.size 0 lo : Nat) : Int) == 0 && (1 : Int) == 1 && (sIx items.size items.size hi - sIx items.size 0 lo) == items.size) = true):=by
    intro q
    rw [ya4,ya4] at q
    have q1 : ((sIx items.size 0 lo : Nat) : Int) = 0:=eq_of_beq q.1.1
    have q2 : sIx items.size items.size hi - sIx items.size 0 lo = items.size:=eq_of_beq q.2
    exact hw ⟨by omega,by omega⟩
  show wpAny _ _ (if (((sIx items.size 0 lo : Nat) : Int) == 0 && (1 : Int) == 1 && (sIx items.size items.size hi - sIx items.size 0 lo) == items.size) = true then _ else _) _ _ s
  rw [if_neg hno,zjp]
  first
    | exact wpAny_bind (m:=Builtin.Tuple.tupleExact _) (wpAny_newObj_type (wpAny_pure ⟨_,rfl,wpAny_pure h⟩) htake)
    | exact wpAny_bind (m:=Builtin.Tuple.tupleExact _) (wpAny_newObj_type (wpAny_bind (wpAny_pure (wpAny_pure ⟨_,rfl,wpAny_pure h⟩))) htake)
    | exact wpAny_bind (wpAny_bind (m:=Builtin.Tuple.tupleExact _) (wpAny_newObj_type (wpAny_pure (wpAny_pure ⟨_,rfl,wpAny_pure h⟩)) htake))
    | exact wpAny_bind (wpAny_bind (m:=Builtin.Tuple.tupleExact _) (wpAny_newObj_type (wpAny_pure ⟨_,rfl,wpAny_pure h⟩) htake))
end
end HT
namespace L2
open PySem PySem.Spec PyProof.Rows
abbrev TO:=St→Hp→(Option Int→Hp→Prop)→Prop
def PO (X : Cx) (e : Option Expr) (t : TO) : Prop:=
  ∀ (pins : List (Addr×Obj)) (s : Shared) (σ : St) (H : Hp) (Q : Option Int→Hp→Prop),Inv X pins σ H s→t σ H Q→
    wpAny (model X.prog X.w) X.A (evalPart e X.env) (fun u s'=>∃ o H',Inv X pins σ H' s'∧IsPart u o∧Q o H') X.xe s
def zhQ : TO:=fun _ H Q=>Q none H
def zmk (t : TE) : TO:=fun σ H Q=>t σ H fun x H1=>∃ i,x = .int i∧Q (some i) H1
section
variable {X : Cx} {e : Expr} {te : TE} {lo hi : Option Expr} {tl th : TO} {pos p2 : Pos}
theorem zcU : PO X none zhQ:=by
  intro pins s σ H Q I h
  rw [evalPart_none]
  exact wpAny_pure ⟨none,H,I,.none,h⟩
theorem zbe (h : PE X e te) : PO X (some e) (zmk te):=by
  intro pins s σ H Q I hw
  rw [evalPart_some]
  refine thn (h pins s σ H _ I hw) fun u s1 ⟨x,H1,I1,r1,q1⟩=>?_
  obtain ⟨i,rfl,q⟩:=q1
  obtain ⟨t,rfl⟩:=r1
  exact ⟨some i,H1,I1,.int i t,q⟩
def SlR (X : Cx) (r : V→Option Int→Option Int→Hp→VK→Prop) : Prop:=
  ∀ (pins : List (Addr×Obj)) (s : Shared) (σ : St) (H : Hp) (x : V) (v vl vu : Value) (lo hi : Option Int) (sl : Addr) (Q : VK),Inv X pins σ H s→RelV x v→s.heap.IsSliceOf sl vl vu .none→IsPart vl lo→IsPart vu hi→r x lo hi H Q→
    ∃ T id,typeLookup (.type T) "__getitem__" = pure (some (.builtin id))∧s.TypeIs v T∧wpAny (model X.prog X.w) X.A (getItem v (.ref sl)) (EP X pins σ Q) X.xe s
theorem SlR.or {r r' : V→Option Int→Option Int→Hp→VK→Prop} (h : SlR X r) (h' : SlR X r') : SlR X (fun x lo hi H Q=>r x lo hi H Q∨r' x lo hi H Q):=by
  intro pins s σ H x v vl vu lo hi sl Q I rx hs pl pu q
  rcases q with q | q
  · exact h pins s σ H x v vl vu lo hi sl Q I rx hs pl pu q
  · exact h' pins s σ H x v vl vu lo hi sl Q I rx hs pl pu q
def tSl (r : V→Option Int→Option Int→Hp→VK→Prop) (te : TE) (tl th : TO) : TE:=fun σ H Q=>te σ H fun x H1=>tl σ H1 fun l H2=>th σ H2 fun u H3=>r x l u H3 Q
theorem zbm {r : V→Option Int→Option Int→Hp→VK→Prop} (hr : SlR X r) (he : PE X e te) (hl : PO X lo tl) (hu : PO X hi th) : PE X (.Subscript e (.Slice lo hi none p2) pos) (tSl r te tl th):=by
  intro pins s σ H Q I h
  refine Subscript_ (thn (he pins s σ H _ I h) fun v s1 ⟨x,H1,I1,r1,q1⟩=>?_)
  refine wpAny_Slice (thn (hl pins s1 σ H1 _ I1 q1) fun vl s2 ⟨l,H2,I2,pl,q2⟩=>thn (hu pins s2 σ H2 _ I2 q2) fun vu s3 ⟨u,H3,I3,pu,q3⟩=>?_)
  rw [evalPart_none]
  refine wpAny_pure ?_
  have I4 : Inv X pins σ H3 { s3 with heap:=s3.heap.push { cls:=.type "slice",data:=.fields #[vl,vu,.none] } }:=I3.kept (t':=s3.toks) fun b ob q=>yam _ q
  obtain ⟨T,id,hT,ht,hg⟩:=hr pins { s3 with heap:=s3.heap.push { cls:=.type "slice",data:=.fields #[vl,vu,.none] } } σ H3 x v vl vu l u s3.heap.objs.size Q I4 r1 (Heap.IsSliceOf.new ..) pl pu q3
  show wpAny (model X.prog X.w) X.A (subscriptTail e (.Slice lo hi none p2) v (.ref s3.heap.objs.size)) (EP X pins σ Q) X.xe { s3 with heap:=s3.heap.push { cls:=.type "slice",data:=.fields #[vl,vu,.none] } }
  exact tail_any (ops:=[.ref s3.heap.objs.size,v]) ht hT hg (by with_unfolding_all rfl)
def cutV (xs : List V) (lo hi : Option Int) : List V:=(xs.drop (HT.sIx xs.length 0 lo)).take (HT.sIx xs.length xs.length hi - HT.sIx xs.length 0 lo)
theorem zee (xs : List V) (lo hi : Option Int) : (cutV xs lo hi).length≤xs.length:=by
  unfold cutV
  rw [yar,yaG]
  omega
def rSlT (K : Frag) : V→Option Int→Option Int→Hp→VK→Prop:=fun x lo hi H Q=>∃ a xs,x = .ref a∧SqT K H a xs∧
  ¬ (HT.sIx xs.length 0 lo = 0∧HT.sIx xs.length xs.length hi = xs.length)∧∀ p,H p = none→Q (.ref p) (upd H p (.tup (cutV xs lo hi)))
theorem zlF : SlR X (rSlT X.K):=by
  intro pins s σ H x v vl vu lo hi sl Q I rx hs pl pu h
  obtain ⟨a,xs,rfl,hx,hw,q⟩:=h
  cases rx
  obtain ⟨its,r,ht,hz⟩:=I.tuple hx
  have hlen : its.toArray.size = xs.length:=by rw [yay]; exact r.length.symm
  refine ⟨"tuple",_,PyProof.Rows.slot_tuple_getitem.lookup,ht.typeIs,?_⟩
  refine HT.getItem_tuple_cut ht hs pl pu (by rw [hlen]; exact hw) ?_ (by rw [hlen]; exact hz)
  rw [hlen]
  refine ⟨.ref s.heap.objs.size,_,I.laid (t':=s.toks) (o:=.tup (cutV xs lo hi)) (fun b ob q=>yam _ q) (yab _) ?_,rfl,q _ (I.hok.fresh (yab _))⟩
  exact ⟨yaB (zee xs lo hi) hz,_,(r.drop (HT.sIx xs.length 0 lo)).take (HT.sIx xs.length xs.length hi - HT.sIx xs.length 0 lo),IsTup.new _ _⟩
end
end L2
namespace L2
open PySem PySem.Spec PyProof.Rows
def ixN (n : Nat) (i : Int) : Option Nat:=if 0≤i then (if i < n then some i.toNat else none) else if -(n : Int)≤i then some (i + n).toNat else none
def atI {α : Type} (xs : List α) (i : Int) : Option α:=(ixN xs.length i).bind fun j=>xs[j]?
theorem zk0 {n : Nat} {i : Int} {j : Nat} (h : ixN n i = some j) : seqIndex? i n = some j∧j < n∧-(n : Int)≤i∧i < n:=by
  unfold ixN at h
  by_cases h0 : 0≤i
  · rw [if_pos h0] at h
    by_cases h1 : i < n
    · rw [if_pos h1] at h
      have e : i.toNat = j:=yai h
      exact ⟨by rw [seqIndex_of h0 h1,e],by omega,by omega,h1⟩
    · rw [if_neg h1] at h; cases h
  · rw [if_neg h0] at h
    by_cases h1 : -(n : Int)≤i
    · rw [if_pos h1] at h
      have e : (i + n).toNat = j:=yai h
      exact ⟨by rw [seqIndex_neg (by omega) h1,e],by omega,h1,by omega⟩
    · rw [if_neg h1] at h; cases h
theorem zjb {α : Type} {xs : List α} {i : Int} {v : α} (h : atI xs i = some v) : ∃ j,seqIndex? i xs.length = some j∧xs[j]? = some v∧j < xs.length∧-(xs.length : Int)≤i∧i < xs.length:=by
  unfold atI at h
  cases e : ixN xs.length i with
  | none=>rw [e] at h; cases h
  | some j=>
    rw [e] at h
    obtain ⟨h1,h2,h3,h4⟩:=zk0 e
    exact ⟨j,h1,h,h2,h3,h4⟩
theorem zbi {α : Type} {xs : List α} {j : Nat} {v : α} (h : xs[j]? = some v) : atI xs (j : Int) = some v:=by
  have hj : j < xs.length:=(yaD.mp h).1
  have e : ixN xs.length (j : Int) = some j:=by
    unfold ixN
    rw [if_pos (by omega),if_pos (by omega)]; simp
  unfold atI; rw [e]; exact h
def zlk (b : Expr) : Prop:=∀ o i,subscripted b false o i = operate [o,i] (getItem o i)
def IxR (X : Cx) (r : R2) : Prop:=
  ∀ (value slice : Expr) (pins : List (Addr×Obj)) (s : Shared) (σ : St) (H : Hp) (x y : V) (v u : Value) (Q : VK),Inv X pins σ H s→RelV x v→RelV y u→r x y H Q→
    subscripted slice false v u = operate [v,u] (getItem v u)→wpAny (model X.prog X.w) X.A (subscriptTail value slice v u) (EP X pins σ Q) X.xe s
def MtR (X : Cx) (id : String) (r : V→List V→Hp→VK→Prop) : Prop:=
  ∀ (pins : List (Addr×Obj)) (s : Shared) (σ : St) (H : Hp) (x : V) (xs : List V) (v : Value) (us : List Value) (Q : VK),Inv X pins σ H s→RelV x v→Vals xs us→r x xs H Q→
    wpAny (model X.prog X.w) X.A (call (.builtin id) (v :: us)) (EP X pins σ Q) X.xe s
section
variable {X : Cx} {a b : Expr} {ta tb : TE} {pos : Pos}
theorem IxR.or {r r' : R2} (h : IxR X r) (h' : IxR X r') : IxR X (fun x y H Q=>r x y H Q∨r' x y H Q):=by
  intro value slice pins s σ H x y v u Q I rx ry q hs
  rcases q with q | q
  · exact h value slice pins s σ H x y v u Q I rx ry q hs
  · exact h' value slice pins s σ H x y v u Q I rx ry q hs
theorem MtR.or {id : String} {r r' : V→List V→Hp→VK→Prop} (h : MtR X id r) (h' : MtR X id r') : MtR X id (fun x xs H Q=>r x xs H Q∨r' x xs H Q):=by
  intro pins s σ H x xs v us Q I rx rs q
  rcases q with q | q
  · exact h pins s σ H x xs v us Q I rx rs q
  · exact h' pins s σ H x xs v us Q I rx rs q
theorem zaE {r : R2} (hr : IxR X r) (ha : PE X a ta) (hb : PE X b tb) (hs : zlk b) : PE X (.Subscript a b pos) (tOp r ta tb):=by
  intro pins s σ H Q I h
  exact Subscript_ (binT ha hb I h fun v u s2 x y H2 I2 rx ry q=>hr a b pins s2 σ H2 x y v u Q I2 rx ry q (hs _ _))
def rIxL (K : Frag) : R2:=fun x y H Q=>∃ p xs i v,x = .ref p∧y = .int i∧SqL K H p xs∧atI xs i = some v∧Q v H
def rIxT (K : Frag) : R2:=fun x y H Q=>∃ p xs i v,x = .ref p∧y = .int i∧SqT K H p xs∧atI xs i = some v∧Q v H
theorem zaw : IxR X (rIxL X.K):=by
  intro value slice pins s σ H x y v u Q I rx ry h hs
  obtain ⟨p,xs,i,z,rfl,rfl,hq,he,q⟩:=h
  cases rx
  obtain ⟨t,rfl⟩:=ry
  obtain ⟨its,r,pl,hz⟩:=I.list hq
  obtain ⟨j,h1,h2,h3,h4,h5⟩:=zjb he
  obtain ⟨w,ew,rw'⟩:=r.get h2
  have hl:=r.length
  have hn:=ziu
  have fin : EP X pins σ Q w s:=⟨z,H,I,rw',q⟩
  by_cases h0 : 0≤i
  · have hj : i.toNat = j:=by
      rw [seqIndex_of h0 h5] at h1
      exact yai h1
    exact item_listR pl.isList h0 (by omega) (by rw [hj]; simpa using ew) fin hs
  · have hj : (i + (its.toArray.size : Int)).toNat = j:=by
      rw [seqIndex_neg (by omega) h4] at h1
      rw [yay,← hl]
      exact yai h1
    exact subscriptTail_builtinR (x:=w) pl.isList.typeIs slot_list_getitem.lookup
      (wpAny_getItem_list_neg (Q:=fun r s'=>r = w∧EP X pins σ Q r s') pl.isList (by omega) (by rw [yay] <;> omega) (by omega) (by rw [hj]; simpa using ew) ⟨rfl,fin⟩) hs
theorem zbQ : IxR X (rIxT X.K):=by
  intro value slice pins s σ H x y v u Q I rx ry h hs
  obtain ⟨p,xs,i,z,rfl,rfl,hq,he,q⟩:=h
  cases rx
  obtain ⟨t,rfl⟩:=ry
  obtain ⟨its,r,pl,hz⟩:=I.tuple hq
  obtain ⟨j,h1,h2,h3,h4,h5⟩:=zjb he
  obtain ⟨w,ew,rw'⟩:=r.get h2
  have hl:=r.length
  have hn:=ziu
  have fin : EP X pins σ Q w s:=⟨z,H,I,rw',q⟩
  exact subscriptTail_builtinR (x:=w) pl.typeIs slot_tuple_getitem.lookup
    (getItem_tuple (j:=j) (Q:=fun r s'=>r = w∧EP X pins σ Q r s') pl (by omega) (by omega) (by rw [yay,← hl]; exact h1) (by simpa using ew) ⟨rfl,fin⟩) hs
theorem Inv.lst {pins : List (Addr×Obj)} {σ : St} {H : Hp} {s : Shared} {p : Addr} {xs : List V} (I : Inv X pins σ H s) (h : H p = some (.lst xs)) :
    ∃ (its : List Value) (n : Nat),Vals xs its∧s.heap.get? p = some { cls:=.type "list",data:=.seq its.toArray n }∧xs.length≤sizeLine:=by
  obtain ⟨z,its,n,r,e⟩:=I.hok p _ h
  exact ⟨its,n,r,e,z⟩
theorem zfz (lo hi : Option Int) (n : Nat) : (sliceBounds lo hi none n).1 = ((HT.sIx n 0 lo : Nat) : Int)∧(sliceBounds lo hi none n).2.1 = ((HT.sIx n n hi : Nat) : Int)∧(sliceBounds lo hi none n).2.2 = 1:=by
  refine ⟨?_,?_,rfl⟩
  · cases lo with
    | none=>simp [sliceBounds,HT.sIx]
    | some i=>
      simp only [sliceBounds,HT.sIx,Option.getD_none,show (1 : Int) > 0 by decide,if_true]
      by_cases h : i < 0
      · simp only [h,if_true] <;> omega
      · simp only [h,if_false] <;> omega
  · cases hi with
    | none=>simp [sliceBounds,HT.sIx]
    | some i=>
      simp only [sliceBounds,HT.sIx,Option.getD_none,show (1 : Int) > 0 by decide,if_true]
      by_cases h : i < 0
      · simp only [h,if_true] <;> omega
      · simp only [h,if_false] <;> omega
theorem zeU (its : List Value) (lo hi : Option Int) : slicePick its.toArray lo hi none = ((its.drop (HT.sIx its.length 0 lo)).take (HT.sIx its.length its.length hi - HT.sIx its.length 0 lo)).toArray:=by
  obtain ⟨h1,h2,h3⟩:=zfz lo hi its.toArray.size
  unfold slicePick
  rw [h1,h2,h3]
  simp only [sliceRange_one,pick_run,yay] <;> rfl
def rSlL (K : Frag) : V→Option Int→Option Int→Hp→VK→Prop:=fun x lo hi H Q=>∃ a xs,x = .ref a∧SqL K H a xs∧∀ p,H p = none→Q (.ref p) (upd H p (.lst (cutV xs lo hi)))
theorem zcS : SlR X (rSlL X.K):=by
  intro pins s σ H x v vl vu lo hi sl Q I rx hs pl pu h
  obtain ⟨a,xs,rfl,hx,q⟩:=h
  cases rx
  obtain ⟨its,r,ht,hz⟩:=I.list hx
  have hlen:=r.length
  refine ⟨"list",_,slot_list_getitem.lookup,ht.isList.typeIs,?_⟩
  refine wpAny_getItem_list_slice ht.isList hs pl pu .none (by simp) ?_ (by rw [yay] <;> omega)
  rw [zeU,← hlen]
  refine ⟨.ref s.heap.objs.size,_,I.laid (t':=s.toks) (o:=.lst (cutV xs lo hi)) (fun b ob q=>yam _ q) (yab _) ?_,rfl,q _ (I.hok.fresh (yab _))⟩
  exact ⟨yaB (zee xs lo hi) hz,_,0,(r.drop (HT.sIx xs.length 0 lo)).take (HT.sIx xs.length xs.length hi - HT.sIx xs.length 0 lo),yaN _ rfl⟩
def zfk : V→Bool
  | .non=>true
  | .bl _=>true
  | .int _=>true
  | .str _=>true
  | _=>false
def eqV : V→V→Bool
  | .non,.non=>true
  | .bl a,.bl b=>a == b
  | .bl a,.int b=>(if a then 1 else 0) == b
  | .int a,.bl b=>a == (if b then 1 else 0)
  | .int a,.int b=>a == b
  | .str a,.str b=>a == b
  | _,_=>false
theorem zmd {A : Around} {s : Shared} {y x : V} {u v : Value} (ry : RelV y u) (rx : RelV x v) (fy : zfk y = true) (fx : zfk x = true) : SeqAt.EqAt A s u v (eqV y x):=by
  cases y with
  | non=>
    cases ry
    cases x with
    | non=>cases rx; exact SeqAt.EqAt.same _
    | bl b=>cases rx; exact SeqAt.EqAt.none_bool b
    | int b=>obtain ⟨t,rfl⟩:=rx; exact SeqAt.EqAt.none_int b t
    | str b=>obtain ⟨t,rfl⟩:=rx; exact SeqAt.EqAt.none_str b t
    | _=>exact absurd (show false = true from fx) yau
  | bl a=>
    cases ry
    cases x with
    | non=>cases rx; exact SeqAt.EqAt.bool_none a
    | bl b=>cases rx; exact SeqAt.EqAt.bool_bool a b
    | int b=>obtain ⟨t,rfl⟩:=rx; exact SeqAt.EqAt.bool_int a b t
    | str b=>obtain ⟨t,rfl⟩:=rx; exact SeqAt.EqAt.bool_str a b t
    | _=>exact absurd (show false = true from fx) yau
  | int a=>
    obtain ⟨t',rfl⟩:=ry
    cases x with
    | non=>cases rx; exact SeqAt.EqAt.int_none a t'
    | bl b=>cases rx; exact SeqAt.EqAt.int_bool a t' b
    | int b=>obtain ⟨t,rfl⟩:=rx; exact SeqAt.EqAt.int_int a t' b t
    | str b=>obtain ⟨t,rfl⟩:=rx; exact SeqAt.EqAt.int_str a t' b t
    | _=>exact absurd (show false = true from fx) yau
  | str a=>
    obtain ⟨t',rfl⟩:=ry
    cases x with
    | non=>cases rx; exact SeqAt.EqAt.str_none a t'
    | bl b=>cases rx; exact SeqAt.EqAt.str_bool a t' b
    | int b=>obtain ⟨t,rfl⟩:=rx; exact SeqAt.EqAt.str_int a t' b t
    | str b=>obtain ⟨t,rfl⟩:=rx; exact SeqAt.EqAt.str_str a t' b t
    | _=>exact absurd (show false = true from fx) yau
  | _=>exact absurd (show false = true from fy) yau
def eqU (x : V) (u : Value) : Bool:=match u with
  | .none=>eqV .non x
  | .bool b=>eqV (.bl b) x
  | .int i _=>eqV (.int i) x
  | .str z _=>eqV (.str z) x
  | _=>false
theorem zkq {x y : V} {u : Value} (r : RelV y u) (f : zfk y = true) : eqU x u = eqV y x:=by
  cases y with
  | non=>cases r; rfl
  | bl b=>cases r; rfl
  | int i=>obtain ⟨t,rfl⟩:=r; rfl
  | str z=>obtain ⟨t,rfl⟩:=r; rfl
  | _=>exact absurd (show false = true from f) yau
theorem zgz {x : V} : ∀ {xs : List V} {us : List Value},Vals xs us→xs.all zfk = true→us.any (eqU x) = xs.any fun y=>eqV y x
  | _,_,.nil,_=>rfl
  | y :: xs,u :: us,.cons r t,f=>by
    rw [ybL,ya4] at f
    rw [ybg,ybg,zkq r f.1,zgz t f.2]
theorem zfe {A : Around} {s : Shared} {x : V} {v : Value} (rx : RelV x v) (fx : zfk x = true) : ∀ {xs : List V} {us : List Value},Vals xs us→xs.all zfk = true→∀ u∈us,SeqAt.EqAt A s u v (eqU x u)
  | _,_,.nil,_=>fun u hu=>by cases hu
  | y :: xs,u :: us,.cons r t,f=>fun u' hu=>by
    rw [ybL,ya4] at f
    rcases yaj.mp hu with rfl | hu
    · rw [zkq r f.1]; exact zmd r rx f.1 fx
    · exact zfe rx fx t f.2 u' hu
def inV (x : V) (xs : List V) : Bool:=xs.any fun y=>eqV y x
def rIn (K : Frag) (neg : Bool) : R2:=fun x y H Q=>∃ p xs,y = .ref p∧(SqL K H p xs∨SqT K H p xs)∧zfk x = true∧xs.all zfk = true∧Q (.bl (if neg then !inV x xs else inV x xs)) H
theorem zia : OpR X (compareOp .In) (rIn X.K false):=by
  intro pins s σ H x y v u Q I rx ry h
  obtain ⟨p,xs,rfl,hq,fx,fs,q⟩:=h
  cases ry
  rcases hq with hq | hq
  · obtain ⟨its,r,pl,hz⟩:=I.list hq
    refine SeqAt.in_listAt (eqU x) pl.isList (fun w hw=>zfe rx fx r fs w (by simpa using hw)) ⟨.bl _,H,I,rfl,?_⟩
    rw [show its.toArray.any (eqU x) = its.any (eqU x) by simp,zgz r fs]
    exact q
  · obtain ⟨its,r,pl,hz⟩:=I.tuple hq
    refine SeqAt.in_tupleAt (eqU x) pl (fun w hw=>zfe rx fx r fs w (by simpa using hw)) ⟨.bl _,H,I,rfl,?_⟩
    rw [show its.toArray.any (eqU x) = its.any (eqU x) by simp,zgz r fs]
    exact q
theorem zak : zbU X (.builtin "len") (fun xs H Q=>∃ p ys,xs = [.ref p]∧(SqL X.K H p ys∨SqT X.K H p ys)∧Q (.int ys.length) H):=by
  intro pins s σ H xs us Q I r h
  obtain ⟨p,ys,rfl,hq,q⟩:=h
  obtain ⟨u,rfl,rx⟩:=zen r
  cases rx
  have hn:=ziu
  rcases hq with hq | hq
  · obtain ⟨its,r',pl,hz⟩:=I.list hq
    have hlen:=r'.length
    exact Calls.call_len_list pl.isList (by simp only [yay] <;> omega) ⟨.int ys.length,H,I.tok _,⟨s.toks + 1,by rw [yay,hlen]⟩,q⟩
  · obtain ⟨its,r',pl,hz⟩:=I.tuple hq
    have hlen:=r'.length
    exact len_tuple pl (by simp only [yay] <;> omega) ⟨.int ys.length,H,I.tok _,⟨s.toks + 1,by rw [yay,hlen]⟩,q⟩
theorem zbU.or {f : Value} {r r' : List V→Hp→VK→Prop} (h : zbU X f r) (h' : zbU X f r') : zbU X f (fun xs H Q=>r xs H Q∨r' xs H Q):=by
  intro pins s σ H xs us Q I rs q
  rcases q with q | q
  · exact h pins s σ H xs us Q I rs q
  · exact h' pins s σ H xs us Q I rs q
theorem zcx : zbU X (.type "list") (fun xs H Q=>∃ p ys,xs = [.ref p]∧(SqL X.K H p ys∨SqT X.K H p ys)∧∀ l,H l = none→Q (.ref l) (upd H l (.lst ys))):=by
  intro pins s σ H xs us Q I r h
  obtain ⟨p,ys,rfl,hq,q⟩:=h
  obtain ⟨u,rfl,rx⟩:=zen r
  cases rx
  have fin : ∀ (its : List Value),Vals ys its→ys.length≤sizeLine→∀ (h' : Heap) (c' : Nat),(∀ b o',s.heap.get? b = some o'→h'.get? b = some o')→
      h'.get? s.heap.objs.size = some { cls:=.type "list",dict:=none,data:=.seq its.toArray c',slots:=#[] }→EP X pins σ Q (.ref s.heap.objs.size) { s with heap:=h' }:=fun its r' hz h' c' kp e=>
    ⟨.ref s.heap.objs.size,_,I.laid (t':=s.toks) kp (yab _) (show zaU X.prog X.w _ h' _ (.lst ys) from ⟨hz,its,c',r',e⟩),rfl,q _ (I.hok.fresh (yab _))⟩
  rcases hq with hq | hq
  · obtain ⟨its,r',pl,hz⟩:=I.list hq
    have hlen:=r'.length
    obtain ⟨o,ho,hc,n,hd⟩:=pl.isList
    exact call_list_seq p (.inl rfl) ho hc hd (fun h' c' kp e=>fin its r' hz h' c' kp e) (by simp only [yay] <;> omega)
  · obtain ⟨its,r',pl,hz⟩:=I.tuple hq
    have hlen:=r'.length
    obtain ⟨o,ho,hc,n,hd⟩:=pl
    exact call_list_seq p (.inr rfl) ho hc hd (fun h' c' kp e=>fin its r' hz h' c' kp e) (by simp only [yay] <;> omega)
theorem zbA : zbU X (.type "tuple") (fun xs H Q=>∃ p ys,xs = [.ref p]∧((SqL X.K H p ys∧∀ l,H l = none→Q (.ref l) (upd H l (.tup ys)))∨(SqT X.K H p ys∧Q (.ref p) H))):=by
  intro pins s σ H xs us Q I r h
  obtain ⟨p,ys,rfl,h⟩:=h
  obtain ⟨u,rfl,rx⟩:=zen r
  cases rx
  rcases h with ⟨hq,q⟩ | ⟨hq,q⟩
  · obtain ⟨its,r',pl,hz⟩:=I.list hq
    have hlen:=r'.length
    refine call_tuple_list pl.isList (fun h' kp=>?_) (by simp only [yay] <;> omega)
    have I1 : Inv X pins σ H { s with heap:=h' }:=I.kept (t':=s.toks) kp
    have I2 : Inv X pins σ (upd H h'.objs.size (.tup ys)) { s with heap:=h'.push { cls:=.type "tuple",data:=.seq its.toArray } }:=
      I1.laid (t':=s.toks) (fun b o e=>yam _ e) (yab _) (show zaU X.prog X.w _ _ _ (.tup ys) from ⟨hz,its,r',IsTup.new _ _⟩)
    exact ⟨.ref h'.objs.size,_,I2,rfl,q _ (I1.hok.fresh (yab _))⟩
  · obtain ⟨its,r',pl,hz⟩:=I.tuple hq
    exact call_tuple_same pl ⟨.ref p,H,I,rfl,q⟩
def tyV (K : Frag) (T : String) (x : V) (H : Hp) : Prop:=match x with
  | .str _=>T = "str"
  | .int _=>T = "int"
  | .ref p=>(T = "list"∧∃ xs,SqL K H p xs)∨(T = "tuple"∧∃ o,K.lookup p = some o∧o.cls = .type "tuple"∧o.dict = none)∨
      (T = "dict"∧((∃ kvs,H p = some (.dK kvs))∨∃ kvs,H p = some (.dT kvs)))∨(T = "set"∧∃ S n,H p = some (.set S n))
  | _=>False
theorem zlr {pins : List (Addr×Obj)} {σ : St} {H : Hp} {s : Shared} {T : String} {x : V} {v : Value} (I : Inv X pins σ H s) (r : RelV x v) (ty : tyV X.K T x H) :
    s.TypeIs v T∧∀ a,v = .ref a→∃ ob,s.heap.get? a = some ob∧ob.dict = none:=by
  cases x with
  | str z=>
    obtain ⟨t,rfl⟩:=r
    cases (show T = "str" from ty)
    exact ⟨typeIs_str s z t,fun _ e=>nomatch e⟩
  | int i=>
    obtain ⟨t,rfl⟩:=r
    cases (show T = "int" from ty)
    exact ⟨typeIs_int s i t,fun _ e=>nomatch e⟩
  | ref p=>
    cases r
    rcases ty with ⟨rfl,xs,hq⟩ | ⟨rfl,o,hk,hc,hd⟩ | ⟨rfl,hk⟩ | ⟨rfl,S,n,hk⟩
    · obtain ⟨its,_,pl,_⟩:=I.list hq
      refine ⟨pl.isList.typeIs,fun a e=>?_⟩
      cases e
      obtain ⟨o,n,e,c,hd,_⟩:=pl
      exact ⟨o,e,hd⟩
    · refine ⟨⟨o,I.kIn p o hk,hc⟩,fun a e=>?_⟩
      cases e
      exact ⟨o,I.kIn _ o hk,hd⟩
    · have z : ∃ o,s.heap.get? p = some o∧o.ExactDict:=by
        rcases hk with ⟨kvs,hk⟩ | ⟨kvs,hk⟩
        · obtain ⟨_,_,_,_,o,_,_,e,ex,_⟩:=I.hok p _ hk
          exact ⟨o,e,ex⟩
        · obtain ⟨_,_,_,_,o,_,_,e,ex,_⟩:=I.hok p _ hk
          exact ⟨o,e,ex⟩
      obtain ⟨o,e,ex⟩:=z
      refine ⟨⟨o,e,ex.1⟩,fun a e2=>?_⟩
      cases e2
      exact ⟨o,e,ex.2.1⟩
    · obtain ⟨o,_,_,_,e,ex,_⟩:=I.hok p _ hk
      refine ⟨⟨o,e,ex.1⟩,fun a e2=>?_⟩
      cases e2
      exact ⟨o,e,ex.2.1⟩
  | _=>exact False.elim ty
def tBM (K : Frag) (T : String) (r : V→List V→Hp→VK→Prop) (to : TE) (t : TA) : TE:=fun σ H Q=>to σ H fun x H1=>tyV K T x H1∧t σ H1 fun xs H2=>r x xs H2 Q
variable {o e : Expr} {es : List Expr} {to : TE} {t : TA} {name : Str} {apos cpos : Pos} {T id : String} {r : V→List V→Hp→VK→Prop}
theorem zh8 (pa : PlainAttrs T) (slot : Slot T name id) (hty : typeOf (.builtin id) = pure (.type "method_descriptor")) (hm : MtR X id r) (ho : PE X o to) (ha : PA X (e :: es) t)
    (hbase : attributeBase o name X.env (eval o X.env) = eval o X.env:=by rfl)
    (hfew : ((backTo cpos (starEach (e :: es) X.env)).all (fun x=>!x.1) && (backToKw cpos (keywordEach [] X.env)).all (fun x=>x.1.isSome)
      && decide ((e :: es).length + ([] : List Keyword).length + (if ([] : List Keyword).isEmpty then 0 else 1) < 30)) = true:=by rfl)
    (hline : (apos.endLine == cpos.line) = true:=by rfl) (hs : starEach (e :: es) X.env = (false,eval e X.env) :: starEach es X.env:=by rfl) (hplain : (backTo cpos (starEach es X.env)).any (·.1) = false:=by rfl) :
    PE X (.Call (.Attribute o name apos) (e :: es) [] cpos) (tBM X.K T r to t):=by
  intro pins s σ H Q I h
  refine wpAny_Call_method_late hbase hfew hline rfl (thn (ho pins s σ H _ I h) fun v s1 ⟨x,H1,I1,r1,ty,q1⟩=>?_)
  obtain ⟨h1,h2⟩:=zlr I1 r1 ty
  refine ⟨T,id,pa,slot,hty,h1,h2,?_⟩
  have hA:=ha cpos pins s1 σ H1 _ I1 q1
  rw [hs] at hA ⊢
  refine Calls.callWith_builtin (by show (false || (backTo cpos (starEach es X.env)).any (·.1)) = false; rw [hplain] <;> rfl) (Calls.evalArgs_plain ?_)
  exact thn hA fun us s2 ⟨vs,H2,I2,r2,q2⟩=>hm pins s2 σ H2 x vs v us Q I2 r1 r2 q2
end
end L2
namespace L2
open PySem PySem.Spec PyProof.Rows
def MtM (X : Cx) (id : String) (r : V→List V→Hp→VK→Prop) : Prop:=
  ∀ (pins : List (Addr×Obj)) (s : Shared) (σ : St) (H : Hp) (x : V) (xs : List V) (v : Value) (us : List Value) (Q : VK),Inv X pins σ H s→RelV x v→Vals xs us→r x xs H Q→
    wpAny (model X.prog X.w) X.A (call (.builtin id) (v :: us)) (EP X pins σ Q) X.xe s
theorem Vals.one : ∀ {x : V} {us : List Value},Vals [x] us→∃ u,us = [u]∧RelV x u
  | _,_,.cons r .nil=>⟨_,rfl,r⟩
theorem Vals.zero : ∀ {us : List Value},Vals [] us→us = []
  | _,.nil=>rfl
theorem Vals.dropLast {xs : List V} {us : List Value} (h : Vals xs us) : Vals xs.dropLast us.dropLast:=by
  induction h with
  | nil=>exact .nil
  | cons r t ih=>
    cases t with
    | nil=>exact .nil
    | cons q t'=>exact .cons r ih
theorem Vals.eraseIdx : ∀ {xs : List V} {us : List Value} (i : Nat),Vals xs us→Vals (xs.eraseIdx i) (us.eraseIdx i)
  | _,_,_,.nil=>.nil
  | _,_,0,.cons _ t=>t
  | _,_,i + 1,.cons r t=>.cons r (Vals.eraseIdx i t)
theorem Vals.reverse {xs : List V} {us : List Value} (h : Vals xs us) : Vals xs.reverse us.reverse:=by
  induction h with
  | nil=>exact .nil
  | cons r t ih=>rw [ya5,ya5]; exact Vals.append ih (.cons r .nil)
section
variable {X : Cx} {pins : List (Addr×Obj)} {σ : St} {H : Hp} {s : Shared} {l b : Addr} {xs ys zs : List V}
theorem Inv.lset {its its' : List Value} {n : Nat} {f : Array Value→Array Value} {t' : Nat} (I : Inv X pins σ H s) (hH : H l = some (.lst xs))
    (e : s.heap.get? l = some { cls:=.type "list",data:=.seq its.toArray n }) (hf : f its.toArray = its'.toArray) (hv : Vals ys its') (hz : ys.length≤sizeLine) :
    Inv X pins σ (upd H l (.lst ys)) { s with heap:=s.heap.update l (Obj.mapSeq f),toks:=t' }:=by
  have q:=PySem.IsL.update e f
  rw [hf] at q
  refine I.write (x:=l) (e:=l) (by rw [hH]; exact trivial) (.inl rfl) (fun b' u hb hu=>(ybt s.heap (Obj.mapSeq f) (Ne.symm hb)).trans hu) ⟨_,q⟩ ?_
  exact ⟨hz,its',_,hv,q⟩
theorem Inv.lnew {its : List Value} {t' : Nat} (I : Inv X pins σ H s) (hv : Vals ys its) (hz : ys.length≤sizeLine) :
    Inv X pins σ (upd H s.heap.objs.size (.lst ys)) { s with heap:=s.heap.push { cls:=.type "list",data:=.seq its.toArray },toks:=t' }:=
  I.laid (fun _ _ q=>yam _ q) (yab _) ⟨hz,its,0,hv,yaN _ rfl⟩
theorem Inv.fresh (I : Inv X pins σ H s) : H s.heap.objs.size = none:=I.hok.fresh (yab _)
theorem Inv.lstM (I : Inv X pins σ H s) (hH : H l = some (.lst xs)) : xs.length≤sizeLine∧∃ (its : List Value) (n : Nat),Vals xs its∧xs.length = its.length∧s.heap.get? l = some { cls:=.type "list",data:=.seq its.toArray n }:=by
  obtain ⟨z,its,n,r,e⟩:=I.hok l _ hH
  exact ⟨z,its,n,r,r.length,e⟩
theorem zjH {n : Nat} (h : n≤sizeLine) : Builtin.List.listTooLong n = false:=by
  unfold Builtin.List.listTooLong
  exact yak (by omega)
end
section
variable {X : Cx}
def zkF : V→List V→Hp→VK→Prop:=fun x vs H Q=>∃ l xs y,x = .ref l∧vs = [y]∧H l = some (.lst xs)∧xs.length < sizeLine∧Q .non (upd H l (.lst (xs ++ [y])))
theorem zcq : MtM X "list.append" zkF:=by
  intro pins s σ H x vs v us Q I rx rv h
  obtain ⟨l,xs,y,rfl,rfl,hH,hz,q⟩:=h
  cases rx
  obtain ⟨u,rfl,ru⟩:=rv.one
  obtain ⟨z,its,n,r,hl,e⟩:=I.lstM hH
  refine call_meets F.slot_list_append ⟨_,e,rfl⟩ F.entry_list_append (F.args_list_append_2 _ _) (PySem.list_append l its.toArray n u (by rw [yay]; omega)) ⟨e,?_⟩
  refine ⟨.non,_,I.lset (its':=its ++ [u]) hH e (by simp) (r.append (.cons ru .nil)) ?_,rfl,q⟩
  rw [yae,yaH]
  omega
def zkE : V→List V→Hp→VK→Prop:=fun x vs H Q=>∃ l b xs zs,x = .ref l∧vs = [.ref b]∧H l = some (.lst xs)∧H b = some (.lst zs)∧xs.length + zs.length≤sizeLine∧Q .non (upd H l (.lst (xs ++ zs)))
theorem zis : MtM X "list.extend" zkE:=by
  intro pins s σ H x vs v us Q I rx rv h
  obtain ⟨l,b,xs,zs,rfl,rfl,hH,hB,hz,q⟩:=h
  cases rx
  obtain ⟨u,rfl,ru⟩:=rv.one
  cases ru
  obtain ⟨z,its,n,r,hl,e⟩:=I.lstM hH
  obtain ⟨z2,its2,n2,r2,hl2,e2⟩:=I.lstM hB
  have hsz : its.toArray.size + its2.toArray.size≤sizeLine:=by rw [yay,yay]; omega
  have hlong : ¬ (!its.toArray.isEmpty && Builtin.List.listTooLong (its.toArray.size + its2.toArray.size)) = true:=by
    rw [zjH hsz,ya7]
    exact yau
  refine call_meets F.slot_list_extend ⟨_,e,rfl⟩ F.entry_list_extend (F.args_list_extend_2 _ _)
    (AutoSeq1.list_extend_list_list_0 l its.toArray n b its2.toArray n2 hlong (by rw [yay]; omega) (by omega)) ⟨e,e2,?_⟩
  refine ⟨.non,_,I.lset (its':=its ++ its2) hH e (by simp) (r.append r2) ?_,rfl,q⟩
  rw [yae]
  omega
def rCat : R2:=fun x y H Q=>∃ l b xs zs,x = .ref l∧y = .ref b∧H l = some (.lst xs)∧H b = some (.lst zs)∧xs.length + zs.length≤sizeLine∧∀ p,H p = none→Q (.ref p) (upd H p (.lst (xs ++ zs)))
theorem zbH : OpR X (binaryOp .Add) rCat:=by
  intro pins s σ H x y v u Q I rx ry h
  obtain ⟨l,b,xs,zs,rfl,rfl,hH,hB,hz,q⟩:=h
  cases rx
  cases ry
  obtain ⟨z,its,n,r,hl,e⟩:=I.lstM hH
  obtain ⟨z2,its2,n2,r2,hl2,e2⟩:=I.lstM hB
  refine PySem.P.add_list e e2 ?_ (by rw [yay,yay]; omega)
  have ea : its.toArray ++ its2.toArray = (its ++ its2).toArray:=by simp
  rw [ea]
  exact ⟨.ref _,_,I.lnew (t':=s.toks) (r.append r2) (by rw [yae]; omega),rfl,q _ I.fresh⟩
end
end L2
namespace L2
open PySem PySem.Spec PyProof.Rows
section
variable {κ : Type} [DecidableEq κ]
def valV (kvs : List (κ×V)) (k : κ) : Option V:=(kvs.find? fun kv=>decide (kv.1 = k)).map (·.2)
def putK (kvs : List (κ×V)) (k : κ) (v : V) : List (κ×V):=
  if (kvs.any fun kv=>decide (kv.1 = k)) = true then kvs.map (fun kv=>if kv.1 = k then (kv.1,v) else kv) else kvs ++ [(k,v)]
def zme (kvs : List (κ×V)) (k : κ) : List (κ×V):=kvs.filter fun kv=>decide (kv.1≠k)
theorem zcy {p : κ×V} {r : List (κ×V)} {k : κ} (e : p.1 = k) : valV (p :: r) k = some p.2:=by simp [valV,ybh,e]
theorem zbv {p : κ×V} {r : List (κ×V)} {k : κ} (e : ¬ p.1 = k) : valV (p :: r) k = valV r k:=by simp [valV,ybh,e]
theorem zeN (k : κ) : ∀ kvs : List (κ×V),(kvs.any fun kv=>decide (kv.1 = k)) = (valV kvs k).isSome
  | []=>rfl
  | p :: r=>by
    rw [ybg]
    by_cases e : p.1 = k
    · simp only [zcy e,yap e,Bool.true_or,Option.isSome_some]
    · rw [zbv e,yak e,Bool.false_or]; exact zeN k r
theorem zb7 (kvs : List (κ×V)) (k : κ) (v : V) : (putK kvs k v).length≤kvs.length + 1:=by
  unfold putK
  split
  · rw [yaa]; omega
  · rw [yae,yav,ybi]; omega
theorem ze2 {kvs : List (κ×V)} {k : κ} (v : V) (h : valV kvs k = none) : putK kvs k v = kvs ++ [(k,v)]:=by
  unfold putK
  rw [zeN,h]
  exact if_neg (by decide)
theorem RelO.isSome_eq {o : Option V} {u : Option Value} (r : RelO o u) : o.isSome = u.isSome:=by
  cases o with
  | none=>cases u with
    | none=>rfl
    | some _=>exact (show False from r).elim
  | some _=>cases u with
    | none=>exact (show False from r).elim
    | some _=>rfl
theorem RelO.getD {o : Option V} {u : Option Value} {d : V} {d' : Value} (r : RelO o u) (rd : RelV d d') : RelV (o.getD d) (u.getD d'):=by
  cases o with
  | none=>cases u with
    | none=>exact rd
    | some _=>exact (show False from r).elim
  | some _=>cases u with
    | none=>exact (show False from r).elim
    | some _=>exact r
theorem KV.val {kvs : List (κ×V)} {vs : List (κ×Value)} (r : KV kvs vs) (k : κ) : RelO (valV kvs k) (valueAt vs k):=by
  unfold KV at r
  induction r with
  | nil=>exact True.intro
  | @cons p q ps qs h t ih=>
    obtain ⟨h1,h2⟩:=h
    by_cases e : p.1 = k
    · have e' : q.1 = k:=h1.symm.trans e
      have b : valueAt (q :: qs) k = some q.2:=by simp [valueAt,ybh,e']
      rw [zcy e,b]; exact h2
    · have e' : ¬ q.1 = k:=fun z=>e (h1.trans z)
      have b : valueAt (q :: qs) k = valueAt qs k:=by simp [valueAt,ybh,e']
      rw [zbv e,b]; exact ih
theorem KV.any {kvs : List (κ×V)} {vs : List (κ×Value)} (r : KV kvs vs) (k : κ) : (kvs.any fun kv=>decide (kv.1 = k)) = vs.any fun kv=>decide (kv.1 = k):=by
  unfold KV at r
  induction r with
  | nil=>rfl
  | cons h t ih=>rw [ybg,ybg,ih,h.1]
theorem KV.repl {kvs : List (κ×V)} {vs : List (κ×Value)} (r : KV kvs vs) (k : κ) {y : V} {u : Value} (ry : RelV y u) :
    KV (kvs.map fun kv=>if kv.1 = k then (kv.1,y) else kv) (vs.map fun kv=>if kv.1 = k then (kv.1,u) else kv):=by
  unfold KV at r ⊢
  induction r with
  | nil=>exact .nil
  | @cons p q ps qs h t ih=>
    rw [yaA,yaA]
    refine .cons ?_ ih
    obtain ⟨h1,h2⟩:=h
    by_cases e : p.1 = k
    · rw [if_pos e,if_pos (h1.symm.trans e)]; exact ⟨h1,ry⟩
    · rw [if_neg e,if_neg (fun z=>e (h1.trans z))]; exact ⟨h1,h2⟩
theorem KV.put {kvs : List (κ×V)} {vs : List (κ×Value)} (r : KV kvs vs) (k : κ) {y : V} {u : Value} (ry : RelV y u) : KV (putK kvs k y) (stored vs k u):=by
  unfold putK stored
  rw [r.any k]
  by_cases e : (vs.any fun kv=>decide (kv.1 = k)) = true
  · rw [if_pos e,if_pos e]; exact r.repl k ry
  · rw [if_neg e,if_neg e]; exact Paired.snoc r ⟨rfl,ry⟩
theorem KV.drop {kvs : List (κ×V)} {vs : List (κ×Value)} (r : KV kvs vs) (k : κ) : KV (zme kvs k) (without vs k):=by
  unfold KV at r ⊢
  unfold zme without
  induction r with
  | nil=>exact .nil
  | @cons p q ps qs h t ih=>
    obtain ⟨h1,h2⟩:=h
    rw [List.filter_cons,List.filter_cons]
    by_cases e : p.1 = k
    · have a : ¬ decide (p.1≠k) = true:=by simp [e]
      have b : ¬ decide (q.1≠k) = true:=by simp [h1.symm.trans e]
      rw [if_neg a,if_neg b]; exact ih
    · have e' : ¬ q.1 = k:=fun z=>e (h1.trans z)
      have a : decide (p.1≠k) = true:=by simp [e]
      have b : decide (q.1≠k) = true:=by simp [e']
      rw [if_pos a,if_pos b]; exact .cons ⟨h1,h2⟩ ih
theorem KV.keys {kvs : List (κ×V)} {vs : List (κ×Value)} (r : KV kvs vs) : kvs.map (·.1) = vs.map (·.1):=by
  unfold KV at r
  induction r with
  | nil=>rfl
  | cons h t ih=>rw [yaA,yaA,ih,h.1]
theorem KV.length {kvs : List (κ×V)} {vs : List (κ×Value)} (r : KV kvs vs) : kvs.length = vs.length:=Paired.length r
end
theorem zjO {P : Program} {w : World} {k : Key} {u : Value} (r : RelV (kV k) u) : (zaS P w).is k u = true:=by
  cases k with
  | inl i=>obtain ⟨t,e⟩:=(show ∃ t,u = Value.int i t from r); subst e; exact zgh P w i t
  | inr x=>obtain ⟨t,e⟩:=(show ∃ t,u = Value.str x t from r); subst e; exact zgg P w x t
theorem zfQ {P : Program} {w : World} : ∀ {ks : List Key} {us : List Value},Vals (ks.map kV) us→ItemsAre (zaS P w) ks us
  | [],_,r=>by rw [ybu] at r; cases r; exact .nil
  | k :: ks,_,r=>by
    rw [yaA] at r
    cases r with
    | cons h t=>exact .cons (zjO h) (zfQ t)
abbrev KT (H : Hp) : List (List Key×V)→List (List Key×Addr×Value)→Prop:=Paired fun p q=>p.1 = q.1∧H q.2.1 = some (.tup (p.1.map kV))∧RelV p.2 q.2.2
theorem KT.val {H : Hp} {kvs : List (List Key×V)} {xs : List (List Key×Addr×Value)} (r : KT H kvs xs) (k : List Key) : RelO (valV kvs k) ((atKey xs k).map (·.2)):=by
  induction r with
  | nil=>exact True.intro
  | @cons p q ps qs h t ih=>
    obtain ⟨h1,_,h2⟩:=h
    by_cases e : p.1 = k
    · have e' : q.1 = k:=h1.symm.trans e
      have b : atKey (q :: qs) k = some q.2:=by simp [atKey,ybh,e']
      rw [zcy e,b]; exact h2
    · have e' : ¬ q.1 = k:=fun z=>e (h1.trans z)
      have b : atKey (q :: qs) k = atKey qs k:=by simp [atKey,ybh,e']
      rw [zbv e,b]; exact ih
theorem KT.repl {H : Hp} {kvs : List (List Key×V)} {xs : List (List Key×Addr×Value)} (r : KT H kvs xs) (k : List Key) {y : V} {u : Value} (ry : RelV y u) :
    KT H (kvs.map fun kv=>if kv.1 = k then (kv.1,y) else kv) (xs.map (putAt k u)):=by
  induction r with
  | nil=>exact .nil
  | @cons p q ps qs h t ih=>
    rw [yaA,yaA]
    refine .cons ?_ ih
    obtain ⟨h1,h2,h3⟩:=h
    unfold putAt
    by_cases e : p.1 = k
    · rw [if_pos e,if_pos (h1.symm.trans e)]; exact ⟨h1,h2,ry⟩
    · rw [if_neg e,if_neg (fun z=>e (h1.trans z))]; exact ⟨h1,h2,h3⟩
theorem KT.put {H : Hp} {kvs : List (List Key×V)} {xs : List (List Key×Addr×Value)} (r : KT H kvs xs) (k : List Key) {b : Addr} {y : V} {u : Value} (hb : H b = some (.tup (k.map kV))) (ry : RelV y u) :
    KT H (putK kvs k y) (storedH xs k b u):=by
  have e : (kvs.any fun kv=>decide (kv.1 = k)) = (atKey xs k).isSome:=by
    rw [zeN,(r.val k).isSome_eq,Option.isSome_map]
  unfold putK storedH
  rw [e]
  by_cases q : (atKey xs k).isSome = true
  · rw [if_pos q,if_pos q]; exact r.repl k ry
  · rw [if_neg q,if_neg q]; exact Paired.snoc r ⟨rfl,hb,ry⟩
theorem KT.keeps {H H' : Hp} {kvs : List (List Key×V)} {xs : List (List Key×Addr×Value)} (r : KT H kvs xs) (ht : ∀ b ys,H b = some (.tup ys)→H' b = some (.tup ys)) : KT H' kvs xs:=
  Paired.mapP r fun _ _ z=>⟨z.1,ht _ _ z.2.1,z.2.2⟩
section
variable {P : Program} {w : World} {H : Hp} {h : Heap} {a : Addr}
theorem zlI {u : HO} (ok : HOk P w H h) (e : Rd H a u) : zaU P w H h a u:=e.ok ok
theorem zlg {kvs : List (Key×V)} (ok : HOk P w H h) (e : Rd H a (.dK kvs)) : kvs.length≤sizeLine∧(a == sysModules) = false∧∃ vs,KV kvs vs∧h.DictOf (zaS P w) a vs:=
  show zaU P w H h a (.dK kvs) from zlI ok e
theorem zlh {kvs : List (Key×V)} (ok : HOk P w H h) (e : H a = some (.dK kvs)) : kvs.length≤sizeLine∧(a == sysModules) = false∧∃ vs,KV kvs vs∧h.DictOf (zaS P w) a vs:=zlg ok (.inl e)
theorem ziB {ks : List Key} (ok : HOk P w H h) (e : H a = some (.tup (ks.map kV))) : (tupleKind (zaS P w)).is h ks a:=by
  obtain ⟨_,its,r,o,h1,h2,n,h3⟩:=(show zaU P w H h a (.tup (ks.map kV)) from ok a _ e)
  exact ⟨o,its.toArray,n,h1,h2,h3,by simpa using zfQ r⟩
theorem zlf {kvs : List (List Key×V)} (ok : HOk P w H h) (e : Rd H a (.dT kvs)) : kvs.length≤sizeLine∧(a == sysModules) = false∧
    ∃ xs,KT H kvs xs∧h.DictOfH (tupleKind (zaS P w)) a xs:=by
  obtain ⟨z,y,xs,r,o,es,ep,h1,h2,h3,h4,h5⟩:=(show zaU P w H h a (.dT kvs) from zlI ok e)
  refine ⟨z,y,xs,r,o,es,ep,h1,h2,h3,h4,fun x hx=>?_,h5⟩
  have all : ∀ {l : List (List Key×V)} {m : List (List Key×Addr×Value)},KT H l m→∀ x∈m,(tupleKind (zaS P w)).is h x.1 x.2.1:=by
    intro l m q
    induction q with
    | nil=>intro x hx; exact nomatch hx
    | @cons p q ps qs hq t ih=>
      intro x hx
      rcases yaj.mp hx with e | hx
      · subst e
        exact ziB ok (by rw [← hq.1]; exact hq.2.1)
      · exact ih x hx
  exact all r x hx
theorem zmA {kvs : List (List Key×V)} (ok : HOk P w H h) (e : H a = some (.dT kvs)) : kvs.length≤sizeLine∧(a == sysModules) = false∧
    ∃ xs,KT H kvs xs∧h.DictOfH (tupleKind (zaS P w)) a xs:=zlf ok (.inl e)
end
def DGet (H : Hp) (a : Addr) (y : V) (r : Option V) : Prop:=
  (∃ kvs k,Rd H a (.dK kvs)∧y = kV k∧r = valV kvs k)∨∃ kvs k b,Rd H a (.dT kvs)∧y = .ref b∧H b = some (.tup (k.map kV))∧r = valV kvs k
def DPut (H : Hp) (a : Addr) (y v : V) (H' : Hp) : Prop:=
  (∃ kvs k,H a = some (.dK kvs)∧y = kV k∧kvs.length < sizeLine∧H' = upd H a (.dK (putK kvs k v)))∨
  ∃ kvs k b,H a = some (.dT kvs)∧y = .ref b∧H b = some (.tup (k.map kV))∧kvs.length < sizeLine∧H' = upd H a (.dT (putK kvs k v))
theorem DGet.k {H : Hp} {a : Addr} {kvs : List (Key×V)} {k : Key} (e : H a = some (.dK kvs)) : DGet H a (kV k) (valV kvs k):=.inl ⟨kvs,k,.inl e,rfl,rfl⟩
theorem DGet.t {H : Hp} {a b : Addr} {kvs : List (List Key×V)} {k : List Key} (e : H a = some (.dT kvs)) (eb : H b = some (.tup (k.map kV))) : DGet H a (.ref b) (valV kvs k):=.inr ⟨kvs,k,b,.inl e,rfl,eb,rfl⟩
theorem DPut.k {H : Hp} {a : Addr} {kvs : List (Key×V)} {k : Key} {v : V} (e : H a = some (.dK kvs)) (hl : kvs.length < sizeLine) : DPut H a (kV k) v (upd H a (.dK (putK kvs k v))):=.inl ⟨kvs,k,e,rfl,hl,rfl⟩
theorem DPut.t {H : Hp} {a b : Addr} {kvs : List (List Key×V)} {k : List Key} {v : V} (e : H a = some (.dT kvs)) (eb : H b = some (.tup (k.map kV))) (hl : kvs.length < sizeLine) :
    DPut H a (.ref b) v (upd H a (.dT (putK kvs k v))):=.inr ⟨kvs,k,b,e,rfl,eb,hl,rfl⟩
section
variable {X : Cx} {pins : List (Addr×Obj)} {σ : St} {H : Hp} {s : Shared} {a : Addr} {y v : V} {u r : Value} {o : Option V} {A : Around} {E : Value→Shared→Prop}
theorem Inv.big (I : Inv X pins σ H s) : sysModules < s.heap.objs.size:=by
  have h : mainGlobals < s.heap.objs.size:=(I.mod.glob.keeps I.bk).lt
  exact Nat.lt_trans (by decide) h
theorem ziX {Q : Value→Shared→Prop} (hu : A.units + 1 < cLine) (I : Inv X pins σ H s) (g : DGet H a y (some v)) (ry : RelV y u) (h : ∀ w' s',Inv X pins σ H s'→RelV v w'→Q w' s') :
    wpAny (model X.prog X.w) A (getItem (.ref a) u) Q E s:=by
  rcases g with ⟨kvs,k,e,ey,l⟩ | ⟨kvs,k,b,e,ey,eb,l⟩
  · subst ey
    obtain ⟨z,hd,vs,rel,dd⟩:=zlg I.hok e
    obtain ⟨w',hw,rw'⟩:=RelO.some_of (v:=v) (o:=valueAt vs k) (by rw [l]; exact rel.val k)
    exact wpAny_getItem_of (zjO ry) dd.mapOf hw (h w' _ (I.tok _) rw')
  · subst ey
    cases (show u = Value.ref b from ry)
    obtain ⟨z,hd,xs,rel,dd⟩:=zlf I.hok e
    obtain ⟨w',hw,rw'⟩:=RelO.some_of (v:=v) (o:=(atKey xs k).map (·.2)) (by rw [l]; exact rel.val k)
    obtain ⟨p,hp,hp2⟩:=ya1.mp hw
    refine wpAny_getItem_heap (tupleKind_room_in1 hu) (ziB I.hok eb) dd hp ?_
    rw [hp2]
    exact h w' _ (I.tok _) rw'
theorem zgu {h' : Heap} {t' : Nat} {ob : HO} (I : Inv X pins σ H s) (mu : Mut (H a)) (hs : Heap.SameBut a s.heap h') (he : ∃ q,h'.get? a = some q) (new : zaU X.prog X.w (upd H a ob) h' a ob) :
    Inv X pins σ (upd H a ob) { s with heap:=h',toks:=t' }:=
  I.write (x:=a) (e:=a) mu (.inl rfl) (fun b q hb z=>(hs.2 b hb).trans z) he new
theorem zkr {P : Program} {w : World} {H' : Hp} {h' : Heap} {kvs : List (Key×V)} {vs : List (Key×Value)} (z : kvs.length≤sizeLine) (hd : (a == sysModules) = false) (rel : KV kvs vs) (dd : h'.DictOf (zaS P w) a vs) :
    zaU P w H' h' a (.dK kvs):=⟨z,hd,vs,rel,dd⟩
theorem ziW {H' : Hp} {Q : Unit→Shared→Prop} (hu : A.units + 1 < cLine) (I : Inv X pins σ H s) (g : DPut H a y v H') (ry : RelV y u) (rv : RelV v r) (h : ∀ s',Inv X pins σ H' s'→Q () s') :
    wpAny (model X.prog X.w) A (setItem (.ref a) u r) Q E s:=by
  rcases g with ⟨kvs,k,e,ey,l,eH⟩ | ⟨kvs,k,b,e,ey,eb,l,eH⟩
  · subst ey eH
    obtain ⟨z,hd,vs,rel,dd⟩:=zlh I.hok e
    have hz : vs.length≤sizeLine:=by rw [← rel.length]; exact z
    have hl : (putK kvs k v).length≤sizeLine:=by have:=zb7 kvs k v; omega
    refine wpAny_setItem_pairs (hsz:=hz) (zjO ry) dd fun h' dd' hs=>h _ ?_
    have he : ∃ q,h'.get? a = some q:=let ⟨q,_,_,hq,_⟩:=dd'; ⟨q,hq⟩
    exact zgu I (by rw [e]; exact True.intro) hs he (zkr hl hd (rel.put k rv) dd')
  · subst ey eH
    cases (show u = Value.ref b from ry)
    obtain ⟨z,hd,xs,rel,dd⟩:=zmA I.hok e
    have hz : xs.length≤sizeLine:=by rw [← Paired.length rel]; exact z
    have hl : (putK kvs k v).length≤sizeLine:=by have:=zb7 kvs k v; omega
    refine wpAny_setItem_heap (hsz:=hz) (tupleKind_room_in1 hu) (ziB I.hok eb) dd fun h' dd' hs=>h _ ?_
    obtain ⟨q,es,ep,hq,h2,h3,h4,_,h5⟩:=dd'
    refine zgu I (by rw [e]; exact True.intro) hs ⟨q,hq⟩ ⟨hl,hd,_,(rel.put k eb rv).keeps fun c ys ec=>?_,q,es,ep,hq,h2,h3,h4,h5⟩
    rw [zaj (zlZ ec e (fun z=>nomatch z))]
    exact ec
end
def NoSl (i : Expr) : Prop:=∀ ov iv,subscripted i false ov iv = operate [ov,iv] (getItem ov iv)
theorem zkB {prog : Program} {w : World} {A : Around} {E : Value→Shared→Prop} {s : Shared} {env : Env} {value slice : Expr} {pos : Pos} {T id : String} {Q : Value→Shared→Prop}
    (hl : typeLookup (.type T) "__getitem__" = pure (some (.builtin id))) (hs : NoSl slice)
    (h : wpAny (model prog w) A (eval value env) (fun o s₁=>wpAny (model prog w) A (eval slice env) (fun i s₂=>s₂.TypeIs o T∧wpAny (model prog w) A (getItem o i) Q E s₂) E s₁) E s) :
    wpAny (model prog w) A (eval (.Subscript value slice pos) env) Q E s:=by
  refine Subscript_ (wpAny_mono h (fun o s₁ h₁=>wpAny_mono h₁ (fun i s₂ h₂=>?_) fun _ _ x=>x) fun _ _ x=>x)
  obtain ⟨hT,h₂⟩:=h₂
  unfold subscriptTail
  refine wpAny_bind ?_
  rw [getitemInPython_of_ne hT.not_modules]
  refine wpAny_bind (wpAny_specialOf hT hl ?_)
  have fin : wpAny (model prog w) A (subscripted slice false o i) (fun r s₃=>wpAny (model prog w) A (letTemporaryGo value o r >>= fun _=>pure r) Q E s₃) E s₂:=by
    rw [hs o i]
    exact wpAny_operating (wpAny_mono h₂ (fun r s₃ h₃=>wpAny_bind (wpAny_letTemporaryGo (wpAny_pure h₃))) fun _ _ x=>x)
  first
    | exact wpAny_pure (wpAny_bind fin)
    | exact wpAny_bind (wpAny_pure (wpAny_bind fin))
    | exact wpAny_bind fin
theorem zgt {X : Cx} {pins : List (Addr×Obj)} {σ : St} {H : Hp} {s : Shared} {a : Addr} {y : V} {o : Option V} (I : Inv X pins σ H s) (g : DGet H a y o) : s.TypeIs (.ref a) "dict":=by
  rcases g with ⟨kvs,k,e,_,_⟩ | ⟨kvs,k,b,e,_,_,_⟩
  · obtain ⟨_,_,vs,_,dd⟩:=zlg I.hok e
    exact dd.typeIs
  · obtain ⟨_,_,xs,_,dd⟩:=zlf I.hok e
    exact dd.typeIs
def zmp (td ty : TE) : TE:=fun σ H Q=>td σ H fun x H1=>ty σ H1 fun y H2=>∃ a v,x = .ref a∧DGet H2 a y (some v)∧Q v H2
def zmr (td ty tv : TE) : TS:=fun D σ H=>tv σ H fun v H1=>td σ H1 fun x H2=>ty σ H2 fun y H3=>∃ a H4,x = .ref a∧DPut H3 a y v H4∧D.nx σ H4
section
variable {X : Cx} {o i e value : Expr} {pos pos' tpos : Pos} {td ty tv : TE}
theorem zdZ (hu : X.A.units + 1 < cLine) (ho : PE X o td) (hi : PE X i ty) (hs : NoSl i) : PE X (.Subscript o i pos) (zmp td ty):=by
  intro pins s σ H Q I h
  refine zkB PySem.F.slot_dict_getitem.lookup hs (thn (ho pins s σ H _ I h) fun u s1 ⟨x,H1,I1,rx,q1⟩=>thn (hi pins s1 σ H1 _ I1 q1) fun iv s2 ⟨y,H2,I2,ry,a,v,ex,g,q2⟩=>?_)
  subst ex
  obtain rfl : u = Value.ref a:=rx
  exact ⟨zgt I2 g,ziX hu I2 g ry fun w' s3 I3 rw'=>⟨v,H2,I3,rw',q2⟩⟩
theorem ze4 (hu : X.A.units + 1 < cLine) (ho : PE X o td) (hi : PE X i ty) (hv : PE X value tv) (hs : swapsWith value (some (.Subscript o i pos')) pos.line X.env = pure false) :
    PS X (.Assign [.Subscript o i pos'] value pos) (zmr td ty tv):=by
  intro pins s σ H D I h
  refine wpAny_Assign_Subscript (thn (hv pins s σ H _ I h) fun r s1 ⟨v,H1,I1,rv,q1⟩=>thn (ho pins s1 σ H1 _ I1 q1) fun u s2 ⟨x,H2,I2,rx,q2⟩=>thn (hi pins s2 σ H2 _ I2 q2) fun iv s3 ⟨y,H3,I3,ry,a,H4,ex,g,q3⟩=>?_) hs
  subst ex
  obtain rfl : u = Value.ref a:=rx
  exact ziW hu I3 g ry rv fun s4 I4=>⟨σ,H4,I4,q3⟩
end
theorem zg1 {P : Program} {w : World} {H : Hp} (h : Heap) (hb : sysModules < h.objs.size) : zaU P w H (h.push { cls:=.type "dict",data:=.dict #[] }) h.objs.size (.dK []):=
  ⟨yaF _,beq_eq_false_iff_ne.mpr (Ne.symm (yaw hb)),[],.nil,Heap.DictOf.new h⟩
def zlv : TE:=fun _ H Q=>∀ p,H p = none→Q (.ref p) (upd H p (.dK []))
section
variable {X : Cx} {pos : Pos}
theorem zgR : PE X (.Dict [] [] pos) zlv:=fun pins s σ H Q I h=>
  wpAny_Dict_empty ⟨.ref s.heap.objs.size,_,I.laid (a:=s.heap.objs.size) (o:=.dK []) (t':=s.toks) (fun _ _ q=>yam _ q) (yab _) (zg1 s.heap I.big),rfl,h _ (I.hok.fresh (yab _))⟩
end
def zhP : List (TE×TE)→St→Hp→(List (V×V)→Hp→Prop)→Prop
  | [],_,H,Q=>Q [] H
  | (tk,tv) :: r,σ,H,Q=>tk σ H fun x H1=>tv σ H1 fun y H2=>zhP r σ H2 fun ps H3=>Q ((x,y) :: ps) H3
abbrev VV : List (V×V)→List (Value×Value)→Prop:=Paired fun p q=>RelV p.1 q.1∧RelV p.2 q.2
def PPs (X : Cx) (pos : Pos) (keys : List (Option Expr)) (values : List Expr) (trs : List (TE×TE)) : Prop:=
  ∀ (pins : List (Addr×Obj)) (s : Shared) (σ : St) (H : Hp) (Q : List (V×V)→Hp→Prop),Inv X pins σ H s→zhP trs σ H Q→
    wpAny (model X.prog X.w) X.A (evalPairs (pairTrees keys values X.env pos)) (fun vs s'=>∃ ps H',Inv X pins σ H' s'∧VV ps vs∧Q ps H') X.xe s
theorem zkK {X : Cx} {pos : Pos} : PPs X pos [] [] []:=fun pins s σ H Q I h=>pairTrees_nil_walk ⟨[],H,I,.nil,h⟩
theorem ze5 {X : Cx} {pos : Pos} {k v : Expr} {ks : List (Option Expr)} {vs : List Expr} {tk tv : TE} {trs : List (TE×TE)} (hk : PE X k tk) (hv : PE X v tv) (hr : PPs X pos ks vs trs) :
    PPs X pos (some k :: ks) (v :: vs) ((tk,tv) :: trs):=fun pins s σ H Q I h=>
  pairTrees_cons_walk (thn (hk pins s σ H _ I h) fun u s1 ⟨x,H1,I1,rx,q1⟩=>thn (hv pins s1 σ H1 _ I1 q1) fun w2 s2 ⟨y,H2,I2,ry,q2⟩=>
    thn (hr pins s2 σ H2 _ I2 q2) fun ws s3 ⟨ps,H3,I3,rel,q3⟩=>⟨(x,y) :: ps,H3,I3,.cons ⟨rx,ry⟩ rel,q3⟩)
def zdC (kvs more : List (Key×V)) : List (Key×V):=more.foldl (fun acc kv=>putK acc kv.1 kv.2) kvs
theorem KV.merge : ∀ {more : List (Key×V)} {rs : List (Key×Value)} {kvs : List (Key×V)} {vs : List (Key×Value)},KV more rs→KV kvs vs→KV (zdC kvs more) (merged vs rs):=by
  intro more rs kvs vs r
  unfold KV at r
  induction r generalizing kvs vs with
  | nil=>intro q; exact q
  | @cons p q ps qs h t ih=>
    intro r0
    have e : KV (putK kvs p.1 p.2) (stored vs q.1 q.2):=by
      have:=r0.put p.1 h.2
      rw [← h.1]; exact this
    exact ih e
theorem zdd : ∀ (more kvs : List (Key×V)),(zdC kvs more).length≤kvs.length + more.length
  | [],kvs=>by show kvs.length≤kvs.length + 0; omega
  | p :: r,kvs=>by
    have h1:=zdd r (putK kvs p.1 p.2)
    have h2:=zb7 kvs p.1 p.2
    show (zdC (putK kvs p.1 p.2) r).length≤_
    rw [yav]; omega
theorem zeE {P : Program} {w : World} : ∀ {kvs : List (Key×V)} {ws : List (Value×Value)},VV (kvs.map fun kv=>(kV kv.1,kv.2)) ws→∃ rs,Carries (zaS P w) ws rs∧KV kvs rs
  | [],_,r=>by rw [ybu] at r; cases r; exact ⟨[],True.intro,.nil⟩
  | p :: kvs,_,r=>by
    rw [yaA] at r
    cases r with
    | @cons a b as bs h t=>
      obtain ⟨rs,c,q⟩:=zeE (P:=P) (w:=w) t
      obtain ⟨b1,b2⟩:=b
      exact ⟨(p.1,b2) :: rs,⟨zjO h.1,rfl,c⟩,.cons ⟨rfl,h.2⟩ q⟩
def zmo (trs : List (TE×TE)) : TE:=fun σ H Q=>∀ p,H p = none→zhP trs σ (upd H p (.dK [])) fun ps H2=>H2 p = some (.dK [])∧∃ kvs : List (Key×V),ps = kvs.map (fun kv=>(kV kv.1,kv.2))∧kvs.length≤15∧Q (.ref p) (upd H2 p (.dK (zdC [] kvs)))
theorem zkM {X : Cx} {pos : Pos} {keys : List (Option Expr)} {values : List Expr} {trs : List (TE×TE)} (h : PPs X pos keys values trs) (hall : keys.all (·.isSome) = true) (hl : keys.length = values.length) (h0 : keys≠[])
    (h15 : keys.length≤15) : PE X (.Dict keys values pos) (zmo trs):=by
  intro pins s σ H Q I q
  have hn:=I.hok.fresh (yab s.heap.objs.size)
  have I1:=I.laid (a:=s.heap.objs.size) (o:=.dK []) (h':=s.heap.push { cls:=.type "dict",data:=.dict #[] }) (t':=s.toks) (fun _ _ q=>yam _ q) (yab _) (zg1 s.heap I.big)
  refine wpAny_Dict_walk (knd:=zaS X.prog X.w) hall hl h0 h15 (thn (h pins _ σ _ _ I1 (q _ hn)) fun ws s2 ⟨ps,H2,I2,rel,e,kvs,ep,lk,q2⟩=>?_)
  subst ep
  obtain ⟨rs,c,rk⟩:=zeE (P:=X.prog) (w:=X.w) rel
  obtain ⟨z,hd,vs0,r0,dd⟩:=zlh I2.hok e
  cases r0
  refine ⟨rs,c,dd,fun h' dd' hs=>⟨.ref s.heap.objs.size,_,?_,rfl,q2⟩⟩
  have hz : (zdC [] kvs).length≤sizeLine:=by
    have h1:=zdd kvs []
    rw [ybi] at h1
    rw [sizeLine_eq]; omega
  have he : ∃ q,h'.get? s.heap.objs.size = some q:=let ⟨q,_,_,hq,_⟩:=dd'; ⟨q,hq⟩
  exact zgu I2 (by rw [e]; exact True.intro) hs he (zkr hz hd (rk.merge .nil) dd')
end L2
namespace Att
open PySem PySem.W PySem.Calls PyProof.Rows
theorem zd9 {P : Params} {h : Heap} : ∀ (ns : List Int) (vs : List Value),WellAll P h vs (ns.map WData.int)→IntsAre vs ns:=by
  intro ns
  induction ns with
  | nil=>
    intro vs w
    rw [ybu] at w
    cases w
    exact .nil
  | cons n ns ih=>
    intro vs w
    rw [yaA] at w
    cases w with
    | cons a b=>
      cases a
      exact .cons _ _ (ih _ b)
theorem zh1 {l : OpenLaw} {n : Nat} (hn : l.most = some n) {P : Params} {h : Heap} {args : List WData} {vals : List Value}
    (hpre : l.row.toRowW.claim.pre args = true) (hwl : WellAll P h vals args) :
    ∃ a vs ns,vals = [Value.ref a]∧args = [WData.list (ns.map WData.int)]∧h.get? a = some { cls:=.type "list",data:=.seq vs.toArray }∧IntsAre vs ns∧ns.length≤n:=by
  have hsh : WShape.hasAll [] args [.list .int] = true:=(pre_splitW hpre).1
  have hc : l.pre.holds [] { args:=args } = true:=(pre_splitW hpre).2
  obtain ⟨d,r,rfl,h1,h2⟩:=hasAllW_cons hsh
  obtain rfl:=hasAllW_nil h2
  obtain ⟨xs,rfl,h3⟩:=hasW_list h1
  obtain ⟨ns,rfl⟩:=items_int h3
  have hlen : ns.length≤n:=by
    unfold OpenLaw.pre at hc
    have h4 : (WTm.not (.lt (.lit (.int (n : Int))) (.len (.arg 0)))).holds [] { args:=[.list (ns.map .int)] } = true:=by
      have h4:=(holds_andW hc).1
      rw [hn] at h4
      exact h4
    have h5:=condW_of h4 (w_not (w_lt w_lit (w_len_list (w_arg rfl))))
    rw [yaa] at h5
    refine Nat.le_of_not_lt fun q=>?_
    have q' : (n : Int) < ((ns.length : Nat) : Int):=by omega
    first
      | (rw [yap q'] at h5; exact absurd h5 (by decide))
      | (simp at h5; omega)
  cases hwl with
  | cons w1 w2=>
    cases w2
    cases w1 with
    | list ho hall=>exact ⟨_,_,ns,rfl,rfl,ho,zd9 ns _ hall,hlen⟩
theorem zh6 (l : OpenLaw) (args : List WData) : l.row.toRowW.claim.post args (.bool true) args = true:=
  postW_of (r:=l.row.toRowW) (X:=(true == true))
    (show WShape.has [] (.bool true) .bool = true by first | rfl | decide | simp [WShape.has,WShape.arms,WShape.armsAll])
    (show (WTm.eq .res (.lit (.bool true))).value [] { args:=args,res:=some (.bool true),after:=args } = some (.bool (true == true)) from w_eq_bool (w_res rfl) w_lit) rfl
theorem attach_call {l : OpenLaw} {n : Nat} {q : Program} {loose : List Str} {XP : (Str→Option Value)→Heap→Prop} {YP : World→Heap→Prop} {d : DefRec}
    (hn : l.most = some n) (hdf : d.params.defaults = [])
    (call : ∀ (w : World) (s₀ s₁ : Shared) (mg mb : Str→Option Value) (fa : Addr) (o : Obj) (pm cd doc : Value) (a : Addr) (vs : List Value) (ns : List Int),
      Ground q loose [] XP w s₀ mg mb s₁.heap→YP w s₁.heap→
      s₁.heap.get? fa = some o→o.data = .func (docDef d.name d.params d.body d.scope pm cd doc)→s₁.heap.CodeRec cd d.name→mg d.name = some (.ref fa)→
      s₁.heap.get? a = some { cls:=.type "list",data:=.seq vs.toArray }→IntsAre vs ns→ns.length≤n→s₁.gens = #[]→
      codeAny (model l.prog w) callerA (.call (.ref fa) ⟨[.ref a],[]⟩) (fun r s'=>r = .ok (.ret (.bool true))∧OldK s₁.heap s'.heap∧s'.os = s₁.os∧AllBare s'.gens) s₁) :
    WalkO q loose XP YP l.row.toRowW d [] (fun f vs=>PySem.call f vs):=by
  intro w s₀ s₁ mg mb G Y fa o pm cd doc dV kV ho hd hcd hD hmg hg args vals as hpre hlay hrd hwl hlo
  obtain rfl : dV = .none:=Dflts.none hD hdf
  obtain rfl : kV = .none:=Dflts.noKw hD
  obtain ⟨a,vs,ns,rfl,rfl,hobj,hints,hlen⟩:=zh1 hn hpre hwl
  refine enter_call (codeAny_mono (call w s₀ s₁ mg mb fa o pm cd doc a vs ns G Y ho (fd_plain hd) hcd hmg hobj hints hlen hg) fun r s' hq=>?_)
  obtain ⟨rfl,h2,h3,h4⟩:=hq
  exact ⟨.inl ⟨.bool true,.bool true,[],rfl,fun _=>rfl,.bool true,zh6 l _,fun _=>⟨List.Pairwise.nil,fun _ hm=>(nomatch hm)⟩⟩,h2,h3,h4⟩
end Att
namespace L2
open PySem PySem.Spec PyProof.Rows
theorem zfu : ∀ {vs : List Value} {ns : List Int},IntsAre vs ns→Vals (ns.map V.int) vs
  | _,_,.nil=>.nil
  | _,_,.cons n t h=>.cons ⟨t,rfl⟩ (zfu h)
end L2
namespace L2
open PySem PySem.Spec PyProof.Rows
def zbT (s : Stmt) : Arguments:=match s with
  | .FunctionDef _ a _ _ _ _ _ _ _ _=>a
  | _=>{ posonlyargs:=[],args:=[],vararg:=none,kwonlyargs:=[],kw_defaults:=[],kwarg:=none,defaults:=[] }
def zbg (s : Stmt) : List Stmt:=match s with
  | .FunctionDef _ _ b _ _ _ _ _ _ _=>b
  | _=>[]
def zai (s : Stmt) : Scope:=match s with
  | .FunctionDef _ _ _ _ _ _ sc _ _ _=>sc
  | _=>{ kind:=.function,names:=[],isGenerator:=false,isCoroutine:=false }
abbrev CX0 : CXT:=fun _ _ _ _ _ _=>False
abbrev E0 : XK:=fun _ _ _=>False
theorem zlQ {X : Cx} : zeH CX0 X E0:=fun _ _ _ _ _ _ _ h=>h.elim
structure Fun (K : Frag) (x qual : Str) (st : Stmt) (f : Addr) (fd : FuncData) : Prop where
  ex : ∃ (oc : Value) (od : Option Addr) (kV doc pm : Value) (an : Option Addr) (cdv ct : Value) (osl : Array (Option Value)),
    fd = fnOf x qual (zbT st) (zbg st) (zai st) .none kV doc pm an cdv ct∧K.lookup f = some ⟨oc,od,.func fd,osl⟩∧codeIn K cdv qual = true
  kp : keepIn K (.ref f) = true
section
variable {P : Program} {w : World} {K : Frag} {mg : Str→Option Value} {base : Heap}
theorem Fun.ok {x qual : Str} {st : Stmt} {f : Addr} {fd : FuncData} {N ps : List Str} {k : Nat} {sp : Sp} (F : Fun K x qual st f fd) (S : zaq N ps (zai st)) (len : ∀ vs H Q E,sp vs H Q E→vs.length = ps.length)
    (hbody : ∀ (cdv : Value) (A : Around) (outer : List Env) (s : Shared) (H : Hp) (vs : List V) (Q : VK) (E : XK),Room k (A.deeper (envOfC qual (zai st) s.heap.objs.size f cdv))→sp vs H Q E→
      ∃ t,PSs (cxOf CX0 P w K mg base N qual (zai st) f cdv A outer s H E).nox (zbg st) t∧t { nx:=fun _ H'=>Q .non H',rt:=Q } (zdP N vs) H) : FnOk P w K mg base CX0 (k + 1) f fd ps sp:=by
  obtain ⟨oc,od,kV,doc,pm,an,cdv,ct,osl,rfl,lk,hcd⟩:=F.ex
  refine zlb lk hcd S len fun A outer s H vs Q E hr hsp=>?_
  obtain ⟨t,h,q⟩:=hbody cdv A outer s H vs Q E hr hsp
  exact ⟨t,h.nox,q⟩
theorem Fun.binds {x qual : Str} {st : Stmt} {f : Addr} {fd : FuncData} {ps : List Str} (F : Fun K x qual st f fd)
    (h : ∀ (kV doc pm : Value) (an : Option Addr) (cdv ct : Value) (us : List Value),us.length = ps.length→bindArgs (fnOf x qual (zbT st) (zbg st) (zai st) .none kV doc pm an cdv ct) ⟨us,[]⟩ = pure (ps.zip us)) : zem K fd ps []:=by
  obtain ⟨oc,od,kV,doc,pm,an,cdv,ct,osl,rfl,lk,hcd⟩:=F.ex
  exact .all (h kV doc pm an cdv ct)
theorem ziM {x qual : Str} {st : Stmt} {f : Addr} {oc : Value} {od an : Option Addr} {osl : Array (Option Value)} {kV doc pm cdv ct : Value} (l : K.lookup f = some ⟨oc,od,.func (fnOf x qual (zbT st) (zbg st) (zai st) .none kV doc pm an cdv ct),osl⟩)
    (c : codeIn K cdv qual = true) (k : keepIn K (.ref f) = true) : Fun K x qual st f (fnOf x qual (zbT st) (zbg st) (zai st) .none kV doc pm an cdv ct):=⟨⟨oc,od,kV,doc,pm,an,cdv,ct,osl,rfl,l,c⟩,k⟩
end
theorem zfh {A : Around} {k : Nat} (hr : Room k A) : A.units + 1 < cLine:=yaP (yb3 (by decide : 1≤64) _) hr.units
theorem zaC {n : Nat} (h : n≤1000) : n < sizeLine:=yaP h (by decide)
section
variable {X : Cx}
theorem pv (i : Nat) {x : Str} {pos : Pos} (hN : X.N[i]? = some x:=by rfl) (hv : Vis X.env.scope x:=by first | exact Or.inl rfl | exact Or.inr (Or.inl rfl) | exact Or.inr (Or.inr rfl)) (hd : (x == ("__debug__" : Str)) = false:=by decide)
    (hcd : (x == ("__classdict__" : Str)) = false:=by decide) : PE X (.Name x pos) (tVar i):=zlO hN hv hd hcd
end
theorem iteF {A B : Prop} (h : B) : if false = true then A else B:=by
  rw [if_neg yau]
  exact h
theorem iteT {A B : Prop} (h : A) : if true = true then A else B:=by
  rw [if_pos rfl]
  exact h
theorem ite2 {c A B : Prop} [Decidable c] (h1 : c→A) (h2 : ¬ c→B) : if c then A else B:=by
  by_cases h : c
  · rw [if_pos h]
    exact h1 h
  · rw [if_neg h]
    exact h2 h
theorem zjP {c A B : Prop} [Decidable c] (hc : c) (h : B) : if (!decide c) = true then A else B:=by
  rw [yap hc]
  exact iteF h
def Same (H H' : Hp) : Prop:=∀ b o,H b = some o→H' b = some o
theorem Same.refl (H : Hp) : Same H H:=fun _ _ h=>h
theorem Same.trans {H H1 H2 : Hp} (a : Same H H1) (b : Same H1 H2) : Same H H2:=fun c o h=>b c o (a c o h)
theorem Same.free {H H' : Hp} (e : Same H H') {l : Addr} (h : H' l = Option.none) : H l = Option.none:=by
  cases q : H l with
  | none=>rfl
  | some o=>
    rw [e l o q] at h
    cases h
theorem Same.seq {K : Frag} {H H' : Hp} {a : Addr} {xs : List V} (e : Same H H') (h : SqL K H a xs) : SqL K H' a xs:=by
  rcases h with (h | ⟨o,h⟩) | h
  · exact .inl (.inl (e _ _ h))
  · exact .inl (.inr ⟨o,e _ _ h⟩)
  · exact .inr h
end L2
namespace Tim
open PySem PyProof.Rows
set_option autoImplicit false
section
variable {prog : Program} {w : World} {A : Around} {E : Value→Shared→Prop} {s : Shared} {κ : KeyKind} {kd : SortKind} {a₀ : Array Keyed}
def LtG (prog : Program) (w : World) (A : Around) (s : Shared) (κ : KeyKind) (kd : SortKind) : Prop:=
 ∀ (E : Value→Shared→Prop) (x y : Value) (a b : κ.α) (Q : Bool→Shared→Prop),κ.keyOf x = some a→κ.keyOf y = some b→Q (κ.blt a b) s→wpAny (model prog w) A (keyLt' kd x y) Q E s
def ky (κ : KeyKind) (p : Keyed) : κ.α:=(κ.keyOf p.1).getD κ.dflt
def Keyd (κ : KeyKind) (p : Keyed) : Prop:=∃ a,κ.keyOf p.1 = some a
theorem Keyd.eq {p : Keyed} (h : Keyd κ p) : κ.keyOf p.1 = some (ky κ p):=by
 obtain ⟨a,e⟩:=h
 unfold ky
 rw [e]
 rfl
theorem lt_G {x y : Keyed} {st : SortSt} {Q : Option Bool→SortSt→Prop} (hO : LtG prog w A s κ kd) (hk : kindOf st = kd) (hx : Keyd κ x) (hy : Keyd κ y) (h : Q (some (κ.blt (ky κ x) (ky κ y))) st) : wpS (model prog w) A E s (lt' x y) Q st:=by
 rw [lt'_eq]
 refine wpS_bind (wpS_get ?_)
 rw [hk]
 refine wpS_bind (wpS_lift (wpAny_attempt (hO _ x.1 y.1 _ _ _ hx.eq hy.eq ⟨rfl,?_⟩)))
 exact wpS_pure h
theorem zaT {xs : Array Keyed} {i : Nat} {st : SortSt} {Q : Keyed→SortSt→Prop} (hi : i < xs.size) (h : Q xs[i] st) : wpS (model prog w) A E s (elem' xs i) Q st:=by
 rw [elem'_eq,yaQ hi]
 exact wpS_pure h
structure TB (κ : KeyKind) (kd : SortKind) (n : Nat) (st : SortSt) : Prop where
 kind : kindOf st = kd
 keys : ∀ p∈(arrOf st).toList,Keyd κ p
 failed : failedOf st = none
 size : (arrOf st).size = n
def kAt (κ : KeyKind) (xs : Array Keyed) (i : Nat) : κ.α:=match xs[i]? with
 | some p=>ky κ p
 | none=>κ.dflt
theorem zaW {xs : Array Keyed} {i : Nat} (h : i < xs.size) : kAt κ xs i = ky κ xs[i]:=by
 unfold kAt
 rw [yaQ h]
theorem za7 {xs ys : Array Keyed} {i j : Nat} (h : xs[i]? = ys[j]?) : kAt κ xs i = kAt κ ys j:=by
 unfold kAt
 rw [h]
theorem zfK {i j n : Nat} {st : SortSt} {Q : Option Bool→SortSt→Prop} (hO : LtG prog w A s κ kd) (hB : TB κ kd n st) (hi : i < n) (hj : j < n) (h : Q (some (κ.blt (kAt κ (arrOf st) i) (kAt κ (arrOf st) j))) st) : wpS (model prog w) A E s (ltAt' i j) Q st:=by
 have hi' : i < (arrOf st).size:=by rw [hB.size]; exact hi
 have hj' : j < (arrOf st).size:=by rw [hB.size]; exact hj
 rw [ltAt'_eq]
 refine wpS_bind (wpS_get ?_)
 refine wpS_bind (zaT hi' (wpS_bind (zaT hj' ?_)))
 refine lt_G hO hB.kind (hB.keys _ (by simp)) (hB.keys _ (by simp)) ?_
 rw [zaW hi',zaW hj'] at h
 exact h
def Up (κ : KeyKind) (xs : Array Keyed) (lo hi : Nat) : Prop:=∀ i j,lo≤i→i≤j→j < hi→κ.kle (kAt κ xs i) (kAt κ xs j)
def Dn (κ : KeyKind) (xs : Array Keyed) (lo hi : Nat) : Prop:=∀ i j,lo≤i→i≤j→j < hi→κ.kle (kAt κ xs j) (kAt κ xs i)
structure Off (xs ys : Array Keyed) (lo hi : Nat) : Prop where
 perm : ys.Perm xs
 out : ∀ k,k < lo∨hi≤k→ys[k]? = xs[k]?
theorem Off.refl (xs : Array Keyed) (lo hi : Nat) : Off xs xs lo hi:=⟨Array.Perm.refl _,fun _ _=>rfl⟩
theorem Off.trans {xs ys zs : Array Keyed} {lo hi : Nat} (a : Off xs ys lo hi) (b : Off ys zs lo hi) : Off xs zs lo hi:=⟨b.perm.trans a.perm,fun k h=>(b.out k h).trans (a.out k h)⟩
theorem Off.wide {xs ys : Array Keyed} {lo hi lo' hi' : Nat} (a : Off xs ys lo hi) (h1 : lo'≤lo) (h2 : hi≤hi') : Off xs ys lo' hi':=⟨a.perm,fun k h=>a.out k (by omega)⟩
theorem Off.size {xs ys : Array Keyed} {lo hi : Nat} (a : Off xs ys lo hi) : ys.size = xs.size:=a.perm.size_eq
theorem TB.off {n lo hi : Nat} {st : SortSt} {ys : Array Keyed} (hB : TB κ kd n st) (h : Off (arrOf st) ys lo hi) : TB κ kd n (setArr st ys):=
 ⟨hB.kind,fun p hp=>hB.keys p ((yb4.mp h.perm).mem_iff.mp hp),hB.failed,h.size.trans hB.size⟩
theorem zbZ {xs : Array Keyed} {i j : Nat} (hj : j≤xs.size) : Off xs (mirror xs i j ((j - i) / 2)) i j:=⟨mirror_perm _ _ _ _,fun k hk=>by rw [getElem?_mirror_all hj,if_neg (by omega)]⟩
theorem zdu {xs : Array Keyed} {i j k : Nat} (hj : j≤xs.size) (hk : i≤k∧k < j) : kAt κ (mirror xs i j ((j - i) / 2)) k = kAt κ xs (i + j - 1 - k):=by
 apply za7
 rw [getElem?_mirror_all hj,if_pos hk]
theorem zgm {xs ys : Array Keyed} {lo hi k : Nat} (h : Off xs ys lo hi) (hk : k < lo∨hi≤k) : kAt κ ys k = kAt κ xs k:=za7 (h.out k hk)
theorem zfg {xs : Array Keyed} {i j : Nat} (hj : j≤xs.size) (he : ∀ k,i≤k→k < j→kAt κ xs k = kAt κ xs (j - 1)) (k : Nat) : kAt κ (mirror xs i j ((j - i) / 2)) k = kAt κ xs k:=by
 by_cases hk : i≤k∧k < j
 ·rw [zdu hj hk,he _ (by omega) (by omega),he k hk.1 hk.2]
 ·exact zgm (zbZ hj) (by omega)
theorem zeL {i j : Nat} {st : SortSt} {Q : Unit→SortSt→Prop} (h : Q () (setArr st (mirror (arrOf st) i j ((j - i) / 2)))) : wpS (model prog w) A E s (reverseSlice' i j) Q st:=by
 rw [reverseSlice'_eq]
 exact wpS_modify h
theorem zb3 {σ : Type} {n : String} {Q : Unit→σ→Prop} {st : σ} (h : Q () st) : wpS (model prog w) A E s (liftM (rule n) : StateT σ Sem Unit) Q st:=wpS_lift (wpAny_rule ⟨rfl,h⟩)
end
end Tim
namespace Tim
open PySem PyProof.Rows
set_option autoImplicit false
section
variable {prog : Program} {w : World} {A : Around} {E : Value→Shared→Prop} {s : Shared} {κ : KeyKind} {kd : SortKind}
def zgA (κ : KeyKind) (st : SortSt) (lo least nrem : Nat) (r : Option Nat) (st' : SortSt) : Prop:=
 ∃ n ys,r = some n∧least≤n∧n≤nrem∧st' = setArr st ys∧Off (arrOf st) ys lo (lo + n)∧Up κ ys lo (lo + n)
theorem zlq {xs : Array Keyed} {lo : Nat} : Up κ xs lo (lo + 1):=fun i j h1 h2 h3=>by
 have : i = j:=by omega
 subst this
 exact KeyOrd.kle_refl _
theorem Up.more {xs : Array Keyed} {lo hi : Nat} (h : Up κ xs lo hi) (hlo : lo < hi) (hn : κ.kle (kAt κ xs (hi - 1)) (kAt κ xs hi)) : Up κ xs lo (hi + 1):=fun i j h1 h2 h3=>by
 by_cases hj : j < hi
 ·exact h i j h1 h2 hj
 ·have e : j = hi:=by omega
  subst e
  by_cases hi' : i = j
  ·subst hi'; exact KeyOrd.kle_refl _
  ·exact KeyOrd.kle_trans (h i (j - 1) h1 (by omega) (by omega)) hn
theorem Dn.more {xs : Array Keyed} {lo hi : Nat} (h : Dn κ xs lo hi) (hlo : lo < hi) (hn : κ.kle (kAt κ xs hi) (kAt κ xs (hi - 1))) : Dn κ xs lo (hi + 1):=fun i j h1 h2 h3=>by
 by_cases hj : j < hi
 ·exact h i j h1 h2 hj
 ·have e : j = hi:=by omega
  subst e
  by_cases hi' : i = j
  ·subst hi'; exact KeyOrd.kle_refl _
  ·exact KeyOrd.kle_trans hn (h i (j - 1) h1 (by omega) (by omega))
theorem zj4 {st : SortSt} {N lo n nrem : Nat} {Q : Option (Option Nat)×Nat→SortSt→Prop} (hO : LtG prog w A s κ kd) (hB : TB κ kd N st) (hlo : lo + nrem≤N) (h1 : 1≤n) (hn : n≤nrem) (hU : Up κ (arrOf st) lo (lo + n))
  (h : ∀ m,n≤m→m≤nrem→Up κ (arrOf st) lo (lo + m)→(m < nrem→κ.klt (kAt κ (arrOf st) (lo + m)) (kAt κ (arrOf st) (lo + m - 1)))→Q (none,m) st) :
  wpS (model prog w) A E s (forIn [n:nrem] ((none,n) : Option (Option Nat)×Nat) fun _ __s=>do
   let __x ← ltAt' (lo + __s.snd) (lo + __s.snd - 1)
   match __x with
   | some smaller=>if smaller = true then pure (ForInStep.done (none,__s.snd)) else pure (ForInStep.yield (none,__s.snd + 1))
   | _=>pure (ForInStep.done (some none,__s.snd))) Q st:=by
 refine wpS_forRange (I:=fun i c st'=>st' = st∧c = (none,i)∧n≤i∧i≤nrem∧Up κ (arrOf st) lo (lo + i)) ?_ ?_ ⟨rfl,rfl,yab _,hn,hU⟩
 ·rintro i c st' hi1 hi2 ⟨rfl,rfl,h3,h4,hU'⟩
  refine wpS_bind (zfK hO hB (by omega) (by omega) ?_)
  dsimp only
  cases e : κ.blt (kAt κ (arrOf st') (lo + i)) (kAt κ (arrOf st') (lo + i - 1)) with
  | true=>exact wpS_pure (h i h3 h4 hU' fun _=>e)
  | false=>exact wpS_pure ⟨rfl,rfl,by omega,by omega,hU'.more (by omega) e⟩
 ·rintro c st' ⟨rfl,rfl,h3,h4,hU'⟩
  exact h _ h3 h4 hU' fun z=>absurd z (by omega)
theorem zhH {st : SortSt} {N lo n nrem : Nat} {Q : Option Nat→SortSt→Prop} {k : Option (Option Nat)×Nat→StateT SortSt Sem (Option Nat)} (hk : ∀ m,k (none,m) = pure (some m)) (hO : LtG prog w A s κ kd) (hB : TB κ kd N st) (hlo : lo + nrem≤N) (h1 : 1≤n) (hn : n≤nrem) (hD : Dn κ (arrOf st) lo (lo + n))
  (h : ∀ r st',zgA κ st lo n nrem r st'→Q r st') :
  wpS (model prog w) A E s (do
   reverseSlice' lo (lo + n)
   let c ← forIn [n:nrem] ((none,n) : Option (Option Nat)×Nat) fun _ __s=>do
    let __x ← ltAt' (lo + __s.snd) (lo + __s.snd - 1)
    match __x with
    | some smaller=>if smaller = true then pure (ForInStep.done (none,__s.snd)) else pure (ForInStep.yield (none,__s.snd + 1))
    | _=>pure (ForInStep.done (some none,__s.snd))
   k c) Q st:=by
 have hz : lo + n≤(arrOf st).size:=by rw [hB.size]; omega
 have hoff:=zbZ (xs:=arrOf st) (i:=lo) (j:=lo + n) hz
 refine wpS_bind (zeL ?_)
 refine wpS_bind (zj4 hO (hB.off hoff) hlo h1 hn (fun i j q1 q2 q3=>?_) fun m m1 m2 hU _=>?_)
 ·rw [zdu hz (by omega),zdu hz (by omega)]
  exact hD _ _ (by omega) (by omega) (by omega)
 ·rw [hk]
  exact wpS_pure (h _ _ ⟨m,_,rfl,m1,m2,rfl,hoff.wide (yab _) (by omega),hU⟩)
theorem zhI {st : SortSt} {N lo n nrem : Nat} {Q : Option (Option Nat)×Nat×Nat→SortSt→Prop} (hO : LtG prog w A s κ kd) (hB : TB κ kd N st) (hlo : lo + nrem≤N) (h1 : 1≤n) (hn : n≤nrem) (hD : Dn κ (arrOf st) lo (lo + n))
  (h : ∀ m neq ys,n≤m→m≤nrem→neq < m→Off (arrOf st) ys lo (lo + m)→Dn κ ys lo (lo + m)→(∀ k,lo + m - (neq + 1)≤k→k < lo + m→kAt κ ys k = kAt κ ys (lo + m - 1))→Q (none,m,neq) (setArr st ys)) :
  wpS (model prog w) A E s (forIn [n:nrem] ((none,n,0) : Option (Option Nat)×Nat×Nat) fun _ __s=>do
   let __x ← ltAt' (lo + __s.snd.fst) (lo + __s.snd.fst - 1)
   match __x with
   | some smaller=>
    if smaller = true then
     if __s.snd.snd > 0 then do
      let _ ← reverseSlice' (lo + __s.snd.fst - (__s.snd.snd + 1)) (lo + __s.snd.fst)
      pure (ForInStep.yield (none,__s.snd.fst + 1,0))
     else pure (ForInStep.yield (none,__s.snd.fst + 1,0))
    else do
     let __x ← ltAt' (lo + __s.snd.fst - 1) (lo + __s.snd.fst)
     match __x with
     | some larger=>
      if larger = true then pure (ForInStep.done (none,__s.snd.fst,__s.snd.snd))
      else pure (ForInStep.yield (none,__s.snd.fst + 1,__s.snd.snd + 1))
     | _=>pure (ForInStep.done (some none,__s.snd.fst,__s.snd.snd))
   | _=>pure (ForInStep.done (some none,__s.snd.fst,__s.snd.snd))) Q st:=by
 refine wpS_forRange (I:=fun i c st'=>∃ neq ys,st' = setArr st ys∧c = (none,i,neq)∧n≤i∧i≤nrem∧neq < i∧Off (arrOf st) ys lo (lo + i)∧Dn κ ys lo (lo + i)∧∀ k,lo + i - (neq + 1)≤k→k < lo + i→kAt κ ys k = kAt κ ys (lo + i - 1)) ?_ ?_ ⟨0,arrOf st,rfl,rfl,yab _,hn,h1,Off.refl _ _ _,hD,fun k q1 q2=>by rw [show k = lo + n - 1 by omega]⟩
 ·rintro i c st' hi1 hi2 ⟨neq,ys,rfl,rfl,h3,h4,h5,ho,hD',he⟩
  have hB' : TB κ kd N (setArr st ys):=hB.off ho
  have hz : lo + i≤ys.size:=by rw [ho.size,hB.size]; omega
  dsimp only
  refine wpS_bind (zfK hO hB' (by omega) (by omega) ?_)
  dsimp only
  cases e : κ.blt (kAt κ ys (lo + i)) (kAt κ ys (lo + i - 1)) with
  | true=>
   simp only [if_true]
   by_cases hq : neq > 0
   ·rw [if_pos hq]
    have hoff:=zbZ (xs:=ys) (i:=lo + i - (neq + 1)) (j:=lo + i) hz
    have hk:=zfg (κ:=κ) hz he
    refine wpS_bind (zeL (wpS_pure ⟨0,_,rfl,rfl,by omega,by omega,by omega,ho.wide (yab _) (by omega) |>.trans (hoff.wide (by omega) (by omega)),?_,fun k q1 q2=>by rw [show k = lo + (i + 1) - 1 by omega]⟩))
    have : Dn κ (mirror ys (lo + i - (neq + 1)) (lo + i) ((lo + i - (lo + i - (neq + 1))) / 2)) lo (lo + i):=fun a b q1 q2 q3=>by rw [hk,hk]; exact hD' a b q1 q2 q3
    exact this.more (by omega) (by rw [hk,hk]; exact KeyOrd.kle_of_klt e)
   ·rw [if_neg hq]
    exact wpS_pure ⟨0,ys,rfl,rfl,by omega,by omega,by omega,ho.wide (yab _) (by omega),hD'.more (by omega) (KeyOrd.kle_of_klt e),fun k q1 q2=>by rw [show k = lo + (i + 1) - 1 by omega]⟩
  | false=>
   simp only [yaE,if_false]
   refine wpS_bind (zfK hO hB' (by omega) (by omega) ?_)
   dsimp only
   cases e2 : κ.blt (kAt κ ys (lo + i - 1)) (kAt κ ys (lo + i)) with
   | true=>exact wpS_pure (h i neq ys h3 h4 h5 ho hD' he)
   | false=>
    have eq : kAt κ ys (lo + i) = kAt κ ys (lo + i - 1):=κ.total _ _ e e2
    refine wpS_pure ⟨neq + 1,ys,rfl,rfl,by omega,by omega,by omega,ho.wide (yab _) (by omega),hD'.more (by omega) (by rw [eq]; exact KeyOrd.kle_refl _),fun k q1 q2=>?_⟩
    rw [show lo + (i + 1) - 1 = lo + i by omega,eq]
    by_cases hk : k = lo + i
    ·rw [hk]; exact eq
    ·exact he k (by omega) (by omega)
 ·rintro c st' ⟨neq,ys,rfl,rfl,h3,h4,h5,ho,hD',he⟩
  exact h _ neq ys h3 h4 h5 ho hD' he
theorem zgE {st : SortSt} {N lo n nrem m neq : Nat} {ys : Array Keyed} {Q : Option Nat→SortSt→Prop} {t : StateT SortSt Sem (Option Nat)} (hB : TB κ kd N st) (hlo : lo + nrem≤N) (m1 : n + 1≤m) (m2 : m≤nrem) (m3 : neq < m)
  (ho : Off (arrOf st) ys lo (lo + m)) (hD : Dn κ ys lo (lo + m)) (he : ∀ k,lo + m - (neq + 1)≤k→k < lo + m→kAt κ ys k = kAt κ ys (lo + m - 1)) (h : ∀ r st',zgA κ st lo (n + 1) nrem r st'→Q r st')
  (ht : ∀ st',TB κ kd N st'→Dn κ (arrOf st') lo (lo + m)→(∀ r st'',zgA κ st' lo m nrem r st''→Q r st'')→wpS (model prog w) A E s t Q st') :
  wpS (model prog w) A E s (if neq > 0 then do
   let _ ← reverseSlice' (lo + m - (neq + 1)) (lo + m)
   t else t) Q (setArr st ys):=by
 have hz : lo + m≤ys.size:=by rw [ho.size,hB.size]; omega
 have back : ∀ zs,Off (arrOf st) zs lo (lo + m)→∀ r st',zgA κ (setArr st zs) lo m nrem r st'→Q r st':=fun zs hz r st' hr=>by
  obtain ⟨q,vs,e1,e2,e3,e4,e5,e6⟩:=hr
  exact h r st' ⟨q,vs,e1,by omega,e3,e4,(hz.wide (yab _) (by omega)).trans e5,e6⟩
 by_cases hq : neq > 0
 ·rw [if_pos hq]
  have hoff:=zbZ (xs:=ys) (i:=lo + m - (neq + 1)) (j:=lo + m) hz
  have hk:=zfg (κ:=κ) hz he
  have ho2:=ho.trans (hoff.wide (by omega) (yab _))
  refine wpS_bind (zeL ?_)
  refine ht _ (hB.off ho2) (fun a b q1 q2 q3=>?_) (back _ ho2)
  show κ.kle (kAt κ (mirror ys (lo + m - (neq + 1)) (lo + m) ((lo + m - (lo + m - (neq + 1))) / 2)) b) (kAt κ (mirror ys (lo + m - (neq + 1)) (lo + m) ((lo + m - (lo + m - (neq + 1))) / 2)) a)
  rw [hk,hk]
  exact hD a b q1 q2 q3
 ·rw [if_neg hq]
  exact ht _ (hB.off ho) hD (back _ ho)
theorem zf7 {st : SortSt} {N lo nrem : Nat} {Q : Option Nat→SortSt→Prop} (hO : LtG prog w A s κ kd) (hB : TB κ kd N st) (hlo : lo + nrem≤N) (h1 : 1≤nrem) (h : ∀ r st',zgA κ st lo 1 nrem r st'→Q r st') :
  wpS (model prog w) A E s (countRun' lo nrem) Q st:=by
 rw [countRun'_eq]
 refine wpS_bind (zj4 hO hB hlo (yab 1) h1 zlq fun m m1 m2 hU hnext=>?_)
 dsimp only
 by_cases hm : m = nrem
 ·rw [if_pos (by simpa using hm)]
  exact wpS_pure (h _ _ ⟨m,arrOf st,rfl,m1,m2,rfl,Off.refl _ _ _,hU⟩)
 ·rw [if_neg (by simpa using hm)]
  have hnx:=hnext (by omega)
  by_cases hm1 : m > 1
  ·rw [if_pos hm1]
   refine wpS_bind (zfK hO hB (by omega) (by omega) ?_)
   cases e : κ.blt (kAt κ (arrOf st) lo) (kAt κ (arrOf st) (lo + m - 1)) with
   | true=>
    simp only [if_true]
    exact wpS_pure (h _ _ ⟨m,arrOf st,rfl,m1,m2,rfl,Off.refl _ _ _,hU⟩)
   | false=>
    simp only [yaE,if_false]
    have hz : lo + m≤(arrOf st).size:=by rw [hB.size]; omega
    have hoff:=zbZ (xs:=arrOf st) (i:=lo) (j:=lo + m) hz
    have all : ∀ k,lo≤k→k < lo + m→kAt κ (arrOf st) k = kAt κ (arrOf st) (lo + m - 1):=fun k q1 q2=>
     KeyOrd.kle_antisymm (hU k (lo + m - 1) q1 (by omega) (by omega)) (KeyOrd.kle_trans (show κ.kle (kAt κ (arrOf st) (lo + m - 1)) (kAt κ (arrOf st) lo) from e) (hU lo k (yab _) q1 q2))
    have hk:=zfg (κ:=κ) hz all
    refine wpS_bind (zeL ?_)
    have fin : ∀ r st',zgA κ (setArr st (mirror (arrOf st) lo (lo + m) ((lo + m - lo) / 2))) lo (m + 1) nrem r st'→Q r st':=fun r st' hr=>by
     obtain ⟨q,vs,e1,e2,e3,e4,e5,e6⟩:=hr
     exact h r st' ⟨q,vs,e1,by omega,e3,e4,(hoff.wide (yab _) (by omega)).trans e5,e6⟩
    refine wpS_bind (zb3 (wpS_bind (zhI hO (hB.off hoff) hlo (by omega) (by omega) ?_ fun m' neq ys p1 p2 p3 ho hD' he=>?_)))
    rotate_left
    ·dsimp only
     exact zgE (n:=m) (hB.off hoff) hlo p1 p2 p3 ho hD' he fin fun st' hB' hDD hh=>zhH (fun _=>rfl) hO hB' hlo (by omega) p2 hDD hh
    ·have d0 : Dn κ (arrOf st) lo (lo + m):=fun a b q1 q2 q3=>by rw [all a q1 (by omega),all b (by omega) q3]; exact KeyOrd.kle_refl _
     have d1:=d0.more (by omega) (KeyOrd.kle_of_klt hnx)
     intro a b q1 q2 q3
     show κ.kle (kAt κ (mirror (arrOf st) lo (lo + m) ((lo + m - lo) / 2)) b) (kAt κ (mirror (arrOf st) lo (lo + m) ((lo + m - lo) / 2)) a)
     rw [hk,hk]
     exact d1 a b q1 q2 (by omega)
  ·rw [if_neg hm1]
   have e1 : m = 1:=by omega
   subst e1
   have fin : ∀ r st',zgA κ st lo (1 + 1) nrem r st'→Q r st':=fun r st' hr=>by
    obtain ⟨q,vs,e1,e2,e3,e4,e5,e6⟩:=hr
    exact h r st' ⟨q,vs,e1,by omega,e3,e4,e5,e6⟩
   refine wpS_bind (zb3 (wpS_bind (zhI hO hB hlo (by omega) (by omega) ?_ fun m' neq ys p1 p2 p3 ho hD' he=>?_)))
   rotate_left
   ·dsimp only
    exact zgE (n:=1) hB hlo p1 p2 p3 ho hD' he fin fun st' hB' hDD hh=>zhH (fun _=>rfl) hO hB' hlo (by omega) p2 hDD hh
   ·intro a b q1 q2 q3
    by_cases hab : a = b
    ·subst hab; exact KeyOrd.kle_refl _
    ·have ea : a = lo + 1 - 1:=by omega
     have eb : b = lo + 1:=by omega
     rw [ea,eb]
     exact KeyOrd.kle_of_klt hnx
end
end Tim
namespace Tim
open PySem PyProof.Rows
set_option autoImplicit false
section
variable {prog : Program} {w : World} {A : Around} {E : Value→Shared→Prop} {s : Shared} {κ : KeyKind} {kd : SortKind}
theorem zhq {xs : Array Keyed} {src dst hi : Nat} (hs : src < xs.size) (hd : dst≤src) (hh : src < hi) : Off xs (bubble xs src (src - dst)) dst hi:=
 ⟨bubble_perm _ _ _,fun k hk=>by
  rw [getElem?_bubble hs _ (by omega)]
  rw [if_neg (by omega),if_neg (by omega)]⟩
theorem zez {xs : Array Keyed} {src dst : Nat} (hs : src < xs.size) (hd : dst≤src) (k : Nat) : kAt κ (bubble xs src (src - dst)) k = if k = dst then kAt κ xs src else if dst < k∧k≤src then kAt κ xs (k - 1) else kAt κ xs k:=by
 have e:=getElem?_bubble hs (src - dst) (by omega) k
 rw [show src - (src - dst) = dst by omega] at e
 by_cases h1 : k = dst
 ·rw [if_pos h1] at e ⊢; exact za7 e
 ·rw [if_neg h1] at e ⊢
  by_cases h2 : dst < k∧k≤src
  ·rw [if_pos h2] at e ⊢; exact za7 e
  ·rw [if_neg h2] at e ⊢; exact za7 e
theorem zeK {st : SortSt} {N lo n ok : Nat} {Q : Bool→SortSt→Prop} (hO : LtG prog w A s κ kd) (hB : TB κ kd N st) (hlo : lo + n≤N) (hok : ok≤n) (hU : Up κ (arrOf st) lo (lo + ok))
  (h : ∀ ys,Off (arrOf st) ys lo (lo + n)→Up κ ys lo (lo + n)→Q true (setArr st ys)) : wpS (model prog w) A E s (binarySort' lo n ok) Q st:=by
 rw [binarySort'_eq]
 refine wpS_bind (wpS_mono (wpS_forRange (I:=fun k c st'=>c = (none,())∧∃ ys,st' = setArr st ys∧Off (arrOf st) ys lo (lo + n)∧Up κ ys lo (lo + min k n))
  (Q:=fun c st'=>c = (none,())∧∃ ys,st' = setArr st ys∧Off (arrOf st) ys lo (lo + n)∧Up κ ys lo (lo + n)) ?step ?fin ?init) ?post)
 case post=>
  rintro c st' ⟨rfl,ys,rfl,ho,hu⟩
  exact wpS_pure (h ys ho hu)
 case init=>
  refine ⟨rfl,arrOf st,rfl,Off.refl _ _ _,fun i j h1 h2 h3=>?_⟩
  by_cases hz : j < lo + ok
  ·exact hU i j h1 h2 hz
  ·have : i = j:=by omega
   subst this
   exact KeyOrd.kle_refl _
 case fin=>
  rintro c st' ⟨rfl,ys,rfl,ho,hu⟩
  refine ⟨rfl,ys,rfl,ho,?_⟩
  rwa [show min (max (max ok 1) n) n = n by omega] at hu
 case step=>
  rintro k c st' hk1 hk2 ⟨rfl,ys,rfl,ho,hu⟩
  rw [show min k n = k by omega] at hu
  have hB' : TB κ kd N (setArr st ys):=hB.off ho
  have hz : ys.size = N:=by rw [ho.size,hB.size]
  refine wpS_bind (wpS_mono (wpS_forRange (I:=fun x c st''=>st'' = setArr st ys∧∃ l r,c = (none,l,r)∧l≤r∧r≤k∧r - l≤k - x∧
    (∀ i,i < l→κ.kle (kAt κ ys (lo + i)) (kAt κ ys (lo + k)))∧(∀ i,r≤i→i < k→κ.klt (kAt κ ys (lo + k)) (kAt κ ys (lo + i))))
   (Q:=fun c st''=>st'' = setArr st ys∧∃ l r,c = (none,l,r)∧l≤k∧
    (∀ i,i < l→κ.kle (kAt κ ys (lo + i)) (kAt κ ys (lo + k)))∧(∀ i,l≤i→i < k→κ.klt (kAt κ ys (lo + k)) (kAt κ ys (lo + i)))) ?istep ?ifin ?iinit) ?ipost)
  case iinit=>exact ⟨rfl,0,k,rfl,by omega,by omega,by omega,fun i hi=>by omega,fun i h1 h2=>by omega⟩
  case ifin=>
   rintro c st'' ⟨rfl,l,r,rfl,hlr,hrk,hm,a1,a2⟩
   have : l = r:=by omega
   subst this
   exact ⟨rfl,l,l,rfl,hrk,a1,a2⟩
  case istep=>
   rintro x c st'' _ hxk ⟨rfl,l,r,rfl,hlr,hrk,hm,a1,a2⟩
   dsimp only
   by_cases hge : l ≥ r
   ·rw [if_pos hge]
    have : l = r:=by omega
    subst this
    exact wpS_pure ⟨rfl,l,l,rfl,hrk,a1,a2⟩
   ·rw [if_neg hge]
    refine wpS_bind (zfK hO hB' (by omega) (by omega) ?_)
    dsimp only
    cases e : κ.blt (kAt κ ys (lo + k)) (kAt κ ys (lo + (l + r) / 2)) with
    | true=>
     refine wpS_pure ⟨rfl,l,(l + r) / 2,rfl,by omega,by omega,by omega,a1,fun i h1 h2=>?_⟩
     exact KeyOrd.klt_of_klt_of_kle e (hu _ _ (by omega) (by omega) (by omega))
    | false=>
     refine wpS_pure ⟨rfl,(l + r) / 2 + 1,r,rfl,by omega,by omega,by omega,fun i h1=>?_,a2⟩
     exact KeyOrd.kle_trans (hu (lo + i) (lo + (l + r) / 2) (by omega) (by omega) (by omega)) (show κ.kle (kAt κ ys (lo + (l + r) / 2)) (kAt κ ys (lo + k)) from e)
  case ipost=>
   rintro c st'' ⟨rfl,l,r,rfl,hlk,a1,a2⟩
   dsimp only
   rw [moveDown'_eq]
   refine wpS_bind (wpS_modify (wpS_pure ⟨rfl,_,rfl,ho.trans ((zhq (hi:=lo + n) (by rw [hz]; omega) (by omega) (by omega)).wide (by omega) (yab _)),?_⟩))
   rw [show min (k + 1) n = k + 1 by omega]
   intro i j h1 h2 h3
   show κ.kle (kAt κ (bubble ys (lo + k) (lo + k - (lo + l))) i) (kAt κ (bubble ys (lo + k) (lo + k - (lo + l))) j)
   rw [zez (by rw [hz]; omega) (by omega),zez (by rw [hz]; omega) (by omega)]
   have lowS : ∀ i,lo≤i→i < lo + l→κ.kle (kAt κ ys i) (kAt κ ys (lo + k)):=fun i q1 q2=>by
    have:=a1 (i - lo) (by omega)
    rw [show lo + (i - lo) = i by omega] at this
    exact this
   have highS : ∀ i,lo + l≤i→i < lo + k→κ.kle (kAt κ ys (lo + k)) (kAt κ ys i):=fun i q1 q2=>by
    have:=a2 (i - lo) (by omega) (by omega)
    rw [show lo + (i - lo) = i by omega] at this
    exact KeyOrd.kle_of_klt this
   by_cases i1 : i = lo + l
   ·rw [if_pos i1]
    by_cases j1 : j = lo + l
    ·rw [if_pos j1]; exact KeyOrd.kle_refl _
    ·rw [if_neg j1,if_pos (by omega)]
     exact highS _ (by omega) (by omega)
   ·rw [if_neg i1]
    by_cases i2 : lo + l < i∧i≤lo + k
    ·rw [if_pos i2,if_neg (by omega),if_pos (by omega)]
     exact hu _ _ (by omega) (by omega) (by omega)
    ·rw [if_neg i2]
     by_cases j1 : j = lo + l
     ·rw [if_pos j1]
      exact lowS i h1 (by omega)
     ·rw [if_neg j1]
      by_cases j2 : lo + l < j∧j≤lo + k
      ·rw [if_pos j2]
       exact hu _ _ h1 (by omega) (by omega)
      ·rw [if_neg j2]
       exact hu _ _ h1 h2 (by omega)
end
end Tim
namespace Tim
open PySem PyProof.Rows
set_option autoImplicit false
section
variable {M : Model} {A : Around} {E : Value→Shared→Prop} {s : Shared} {st : SortSt} {n hint : Nat} {p : Nat→Bool}
abbrev C2:=Option (Option Nat)×Nat×Nat
theorem zjc {Q : C2→SortSt→Prop} {f : Nat→C2→StateT SortSt Sem (ForInStep C2)} (hn : hint < n) (hp : p hint = true)
  (f1 : ∀ x l o,o ≥ n - hint→f x (none,l,o) = pure (.done (none,l,o)))
  (f2 : ∀ x l o (R : ForInStep C2→SortSt→Prop),o < n - hint→(p (hint + o) = true→R (.yield (none,o,2 * o + 1)) st)→(p (hint + o) = false→R (.done (none,l,o)) st)→wpS M A E s (f x (none,l,o)) R st)
  (h : ∀ l o,l < o→hint + l < n→p (hint + l) = true→(o < n - hint→p (hint + o) = false)→Q (none,l,o) st) : wpS M A E s (forIn [:n] ((none,0,1) : C2) f) Q st:=by
 refine wpS_forRange (I:=fun i c st'=>st' = st∧∃ l o,c = (none,l,o)∧l < o∧i + 1≤o∧hint + l < n∧p (hint + l) = true) ?_ ?_ ⟨rfl,0,1,rfl,by omega,by omega,by omega,hp⟩
 ·rintro i c st' _ hi ⟨rfl,l,o,rfl,h1,h2,h3,h4⟩
  by_cases ho : o ≥ n - hint
  ·rw [f1 i l o ho]
   exact wpS_pure (h l o h1 h3 h4 fun z=>absurd z (by omega))
  ·refine f2 i l o _ (by omega) (fun e=>?_) fun e=>?_
   ·exact ⟨rfl,o,2 * o + 1,rfl,by omega,by omega,by omega,e⟩
   ·exact h l o h1 h3 h4 fun _=>e
 ·rintro c st' ⟨rfl,l,o,rfl,h1,h2,h3,h4⟩
  exact h l o h1 h3 h4 fun z=>absurd z (by omega)
theorem zku {Q : C2→SortSt→Prop} {f : Nat→C2→StateT SortSt Sem (ForInStep C2)} (hn : hint < n) (hp : p hint = false)
  (f1 : ∀ x l o,o ≥ hint + 1→f x (none,l,o) = pure (.done (none,l,o)))
  (f2 : ∀ x l o (R : ForInStep C2→SortSt→Prop),o < hint + 1→(p (hint - o) = false→R (.yield (none,o,2 * o + 1)) st)→(p (hint - o) = true→R (.done (none,l,o)) st)→wpS M A E s (f x (none,l,o)) R st)
  (h : ∀ l o,l < o→l≤hint→p (hint - l) = false→(o < hint + 1→p (hint - o) = true)→Q (none,l,o) st) : wpS M A E s (forIn [:n] ((none,0,1) : C2) f) Q st:=by
 refine wpS_forRange (I:=fun i c st'=>st' = st∧∃ l o,c = (none,l,o)∧l < o∧i + 1≤o∧l≤hint∧p (hint - l) = false) ?_ ?_ ⟨rfl,0,1,rfl,by omega,by omega,by omega,hp⟩
 ·rintro i c st' _ hi ⟨rfl,l,o,rfl,h1,h2,h3,h4⟩
  by_cases ho : o ≥ hint + 1
  ·rw [f1 i l o ho]
   exact wpS_pure (h l o h1 h3 h4 fun z=>absurd z (by omega))
  ·refine f2 i l o _ (by omega) (fun e=>?_) fun e=>?_
   ·exact ⟨rfl,o,2 * o + 1,rfl,by omega,by omega,by omega,e⟩
   ·exact h l o h1 h3 h4 fun _=>e
 ·rintro c st' ⟨rfl,l,o,rfl,h1,h2,h3,h4⟩
  exact h l o h1 h3 h4 fun z=>absurd z (by omega)
theorem zgD {Q : Option Nat→SortSt→Prop} {lo hi : Nat} {f : Nat→C2→StateT SortSt Sem (ForInStep C2)} {k : C2→StateT SortSt Sem (Option Nat)}
  (anti : ∀ i j,i≤j→j < n→p j = true→p i = true) (h1 : lo≤hi) (h2 : hi≤n) (hl : ∀ i,i < lo→p i = true) (hh : ∀ i,hi≤i→i < n→p i = false)
  (f1 : ∀ x l r,l ≥ r→f x (none,l,r) = pure (.done (none,l,r)))
  (f2 : ∀ x l r (R : ForInStep C2→SortSt→Prop),l < r→r≤n→(p (l + (r - l) / 2) = true→R (.yield (none,l + (r - l) / 2 + 1,r)) st)→(p (l + (r - l) / 2) = false→R (.yield (none,l,l + (r - l) / 2)) st)→wpS M A E s (f x (none,l,r)) R st)
  (hk : ∀ l r,k (none,l,r) = pure (some r))
  (h : ∀ m,m≤n→(∀ i,i < m→p i = true)→(∀ i,m≤i→i < n→p i = false)→Q (some m) st) : wpS M A E s (do let c ← forIn [:n] ((none,lo,hi) : C2) f; k c) Q st:=by
 refine wpS_bind (wpS_mono (wpS_forRange (I:=fun x c st'=>st' = st∧∃ l r,c = (none,l,r)∧l≤r∧r≤n∧r - l≤n - x∧(∀ i,i < l→p i = true)∧∀ i,r≤i→i < n→p i = false)
  (Q:=fun c st'=>st' = st∧∃ m,c = (none,m,m)∧m≤n∧(∀ i,i < m→p i = true)∧∀ i,m≤i→i < n→p i = false) ?_ ?_ ⟨rfl,lo,hi,rfl,h1,h2,by omega,hl,hh⟩) ?_)
 ·rintro x c st' _ hx ⟨rfl,l,r,rfl,a1,a2,a3,a4,a5⟩
  by_cases hge : l ≥ r
  ·rw [f1 x l r hge]
   have : l = r:=by omega
   subst this
   exact wpS_pure ⟨rfl,l,rfl,a2,a4,a5⟩
  ·refine f2 x l r _ (by omega) a2 (fun e=>?_) fun e=>?_
   ·exact ⟨rfl,_,r,rfl,by omega,a2,by omega,fun i hi=>anti i _ (by omega) (by omega) e,a5⟩
   ·refine ⟨rfl,l,_,rfl,by omega,by omega,by omega,a4,fun i q1 q2=>?_⟩
    cases z : p i with
    | false=>rfl
    | true=>rw [anti _ i q1 q2 z] at e; cases e
 ·rintro c st' ⟨rfl,l,r,rfl,a1,a2,a3,a4,a5⟩
  have : l = r:=by omega
  subst this
  exact ⟨rfl,l,rfl,a2,a4,a5⟩
 ·rintro c st' ⟨rfl,m,rfl,a2,a4,a5⟩
  rw [hk]
  exact wpS_pure (h m a2 a4 a5)
end
def zgs : Bool→Keyed→Array Keyed→Nat→Nat→Nat→StateT SortSt Sem (Option Nat):=sortPriv% PySem.Builtin.gallop
section
variable {prog : Program} {w : World} {A : Around} {E : Value→Shared→Prop} {s : Shared} {κ : KeyKind} {kd : SortKind}
def bey (κ : KeyKind) (left : Bool) (key : Keyed) (arr : Array Keyed) (base i : Nat) : Bool:=if left = true then κ.blt (kAt κ arr (base + i)) (ky κ key) else !κ.blt (ky κ key) (kAt κ arr (base + i))
theorem zbV {st : SortSt} {left : Bool} {key : Keyed} {arr : Array Keyed} {base n hint : Nat} {Q : Option Nat→SortSt→Prop} (hO : LtG prog w A s κ kd) (hkd : kindOf st = kd) (hkey : Keyd κ key) (hks : ∀ q∈arr.toList,Keyd κ q)
  (hz : base + n≤arr.size) (hn : hint < n) (hU : Up κ arr base (base + n))
  (h : ∀ m,m≤n→(∀ i,i < m→bey κ left key arr base i = true)→(∀ i,m≤i→i < n→bey κ left key arr base i = false)→Q (some m) st) : wpS (model prog w) A E s (zgs left key arr base n hint) Q st:=by
 have anti : ∀ i j,i≤j→j < n→bey κ left key arr base j = true→bey κ left key arr base i = true:=by
  intro i j hij hj
  have hle:=hU (base + i) (base + j) (by omega) (by omega) (by omega)
  unfold bey
  cases left with
  | true=>
   simp only [if_true]
   intro e
   exact KeyOrd.klt_of_kle_of_klt hle e
  | false=>
   simp only [yaE,if_false]
   intro e
   cases z : κ.blt (ky κ key) (kAt κ arr (base + i)) with
   | false=>rfl
   | true=>
    have : κ.blt (ky κ key) (kAt κ arr (base + j)) = true:=KeyOrd.klt_of_klt_of_kle z hle
    rw [this] at e
    cases e
 have hb : ∀ i (R : Option Bool→SortSt→Prop),i < n→R (some (bey κ left key arr base i)) st→wpS (model prog w) A E s (do
   let x ← elem' arr (base + i)
   if left = true then lt' x key else do
    let r ← lt' key x
    pure (Option.map (fun b=>!b) r)) R st:=fun i R hi hR=>by
  have hi' : base + i < arr.size:=by omega
  refine wpS_bind (zaT hi' ?_)
  have hkx : Keyd κ arr[base + i]:=hks _ (by simp)
  unfold bey at hR
  rw [zaW hi'] at hR
  cases left with
  | true=>
   rw [if_pos rfl] at hR ⊢
   exact lt_G hO hkd hkx hkey hR
  | false=>
   rw [if_neg (by decide)] at hR ⊢
   exact wpS_bind (lt_G hO hkd hkey hkx (wpS_pure hR))
 refine wpS_bind (hb hint _ hn ?_)
 dsimp only
 generalize bey κ left key arr base = p at *
 cases e0 : p hint with
 | true=>
  simp only [if_true]
  refine wpS_bind (zjc (p:=p) hn e0 (fun x l o ho=>?_) (fun x l o R ho r1 r2=>?_) fun l o a1 a2 a3 a4=>?_)
  ·dsimp only
   rw [if_pos ho]
  ·dsimp only
   rw [if_neg (by omega)]
   refine wpS_bind (hb (hint + o) _ (by omega) ?_)
   dsimp only
   cases e : p (hint + o) with
   | true=>exact wpS_pure (r1 e)
   | false=>exact wpS_pure (r2 e)
  ·dsimp only
   refine zgD (p:=p) anti (by omega) (by omega) (fun i hi=>anti i (hint + l) (by omega) a2 a3) (fun i q1 q2=>?_) (fun x l r hge=>?_) (fun x l r R q1 q2 r1 r2=>?_) (fun _ _=>rfl) h
   ·by_cases ho : o < n - hint
    ·cases z : p i with
     | false=>rfl
     | true=>
      have:=anti (hint + o) i (by omega) q2 z
      rw [a4 ho] at this
      cases this
    ·exact absurd q2 (by omega)
   ·dsimp only
    rw [if_pos hge]
   ·dsimp only
    rw [if_neg (by omega)]
    refine wpS_bind (hb _ _ (by omega) ?_)
    dsimp only
    cases e : p (l + (r - l) / 2) with
    | true=>exact wpS_pure (r1 e)
    | false=>exact wpS_pure (r2 e)
 | false=>
  simp only [yaE,if_false]
  refine wpS_bind (zku (p:=p) hn e0 (fun x l o ho=>?_) (fun x l o R ho r1 r2=>?_) fun l o a1 a2 a3 a4=>?_)
  ·dsimp only
   rw [if_pos ho]
  ·dsimp only
   rw [if_neg (by omega)]
   refine wpS_bind (hb (hint - o) _ (by omega) ?_)
   dsimp only
   cases e : p (hint - o) with
   | true=>exact wpS_pure (r2 e)
   | false=>exact wpS_pure (r1 e)
  ·dsimp only
   refine zgD (p:=p) anti (by omega) (by omega) (fun i hi=>?_) (fun i q1 q2=>?_) (fun x l r hge=>?_) (fun x l r R q1 q2 r1 r2=>?_) (fun _ _=>rfl) h
   ·by_cases ho : o < hint + 1
    ·exact anti i (hint - o) (by omega) (by omega) (a4 ho)
    ·exact absurd hi (by omega)
   ·cases z : p i with
    | false=>rfl
    | true=>
     have:=anti (hint - l) i (by omega) q2 z
     rw [a3] at this
     cases this
   ·dsimp only
    rw [if_pos hge]
   ·dsimp only
    rw [if_neg (by omega)]
    refine wpS_bind (hb _ _ (by omega) ?_)
    dsimp only
    cases e : p (l + (r - l) / 2) with
    | true=>exact wpS_pure (r1 e)
    | false=>exact wpS_pure (r2 e)
end
end Tim
namespace Tim
open PySem PyProof.Rows
set_option autoImplicit false
section
variable {κ : KeyKind}
def le (κ : KeyKind) (x y : Keyed) : Prop:=κ.kle (ky κ x) (ky κ y)
theorem le_refl (x : Keyed) : le κ x x:=KeyOrd.kle_refl _
theorem le_trans {x y z : Keyed} (h1 : le κ x y) (h2 : le κ y z) : le κ x z:=KeyOrd.kle_trans h1 h2
abbrev SL (κ : KeyKind) (l : List Keyed) : Prop:=l.Pairwise (le κ)
theorem SL.drop {l : List Keyed} (h : SL κ l) (n : Nat) : SL κ (l.drop n):=h.sublist (List.drop_sublist n l)
theorem SL.take {l : List Keyed} (h : SL κ l) (n : Nat) : SL κ (l.take n):=h.sublist (List.take_sublist n l)
theorem zdi {xs : Array Keyed} {i : Nat} (h : i < xs.size) : xs.toList.drop i = xs[i] :: xs.toList.drop (i + 1):=by
 have h' : i < xs.toList.length:=by simpa using h
 rw [yb5 h']
 simp
theorem zcu {xs : Array Keyed} {i : Nat} (hs : SL κ xs.toList) (h : i < xs.size) : ∀ y∈xs.toList.drop i,le κ xs[i] y:=by
 intro y hy
 have q:=hs.drop i
 rw [zdi h] at q hy
 rcases yaj.mp hy with rfl | hy
 ·exact le_refl _
 ·exact (ybv.mp q).1 y hy
theorem zcX {xs : Array Keyed} {i k : Nat} {x : Keyed} (h : x∈(xs.toList.drop i).take k) : ∃ j,j < k∧i + j < xs.size∧xs[i + j]? = some x:=by
 obtain ⟨j,hj,e⟩:=List.mem_iff_getElem.mp h
 have hj':=hj
 rw [yar,yaG,yao] at hj'
 refine ⟨j,by omega,by omega,?_⟩
 rw [List.getElem_take,ybM] at e
 rw [yaQ (by omega)]
 simpa using e
theorem zb9 {xs : Array Keyed} {i : Nat} {x : Keyed} (h : xs[i]? = some x) : kAt κ xs i = ky κ x:=by
 unfold kAt
 rw [h]
theorem zeO {xs : Array Keyed} (hs : SL κ xs.toList) (lo hi : Nat) (hh : hi≤xs.size) : Up κ xs lo hi:=by
 intro i j h1 h2 h3
 have hj : j < xs.size:=by omega
 have hi : i < xs.size:=by omega
 rw [zaW hi,zaW hj]
 refine zcu hs hi _ ?_
 rw [List.mem_iff_getElem]
 refine ⟨j - i,by rw [yaG,yao]; omega,?_⟩
 rw [ybM]
 simp [show i + (j - i) = j by omega]
theorem zkY {xs : Array Keyed} (h : Up κ xs 0 xs.size) : SL κ xs.toList:=by
 rw [SL,ybw]
 intro i j hi hj hij
 have hi' : i < xs.size:=by simpa using hi
 have hj' : j < xs.size:=by simpa using hj
 have:=h i j (yaF _) (by omega) hj'
 rw [zaW hi',zaW hj'] at this
 simpa [le] using this
structure MI (κ : KeyKind) (a b : Array Keyed) (out : Array Keyed) (ia ib : Nat) : Prop where
 perm : (out.toList ++ (a.toList.drop ia ++ b.toList.drop ib)).Perm (a.toList ++ b.toList)
 srt : SL κ out.toList
 low : ∀ x∈out.toList,∀ y∈a.toList.drop ia ++ b.toList.drop ib,le κ x y
variable {a b out : Array Keyed} {ia ib : Nat}
theorem MI.goA {out' : Array Keyed} {k : Nat} (h : MI κ a b out ia ib) (sa : SL κ a.toList) (ho : out'.toList = out.toList ++ (a.toList.drop ia).take k) (hle : ∀ x∈(a.toList.drop ia).take k,∀ y∈b.toList.drop ib,le κ x y) : MI κ a b out' (ia + k) ib:=by
 have e : a.toList.drop ia = (a.toList.drop ia).take k ++ a.toList.drop (ia + k):=by
  rw [← ybN,yaX]
 have s1:=sa.drop ia
 rw [e] at s1
 obtain ⟨p1,p2,p3⟩:=yaC.mp s1
 refine ⟨?_,?_,?_⟩
 ·have q:=h.perm
  rw [e] at q
  rw [ho]
  simpa [yaR] using q
 ·rw [ho]
  exact yaC.mpr ⟨h.srt,p1,fun x hx y hy=>h.low x hx y (yaJ _ (ybj hy))⟩
 ·intro x hx y hy
  rw [ho] at hx
  rcases yaf.mp hx with hx | hx
  ·refine h.low x hx y ?_
   rcases yaf.mp hy with hy | hy
   ·refine yaJ _ ?_
    rw [e]
    exact yaq _ hy
   ·exact yaq _ hy
  ·rcases yaf.mp hy with hy | hy
   ·exact p3 x hx y hy
   ·exact hle x hx y hy
theorem MI.goB {out' : Array Keyed} {k : Nat} (h : MI κ a b out ia ib) (sb : SL κ b.toList) (ho : out'.toList = out.toList ++ (b.toList.drop ib).take k) (hle : ∀ x∈(b.toList.drop ib).take k,∀ y∈a.toList.drop ia,le κ x y) : MI κ a b out' ia (ib + k):=by
 have e : b.toList.drop ib = (b.toList.drop ib).take k ++ b.toList.drop (ib + k):=by
  rw [← ybN,yaX]
 have s1:=sb.drop ib
 rw [e] at s1
 obtain ⟨p1,p2,p3⟩:=yaC.mp s1
 refine ⟨?_,?_,?_⟩
 ·have q:=h.perm
  rw [e] at q
  rw [ho]
  refine List.Perm.trans ?_ q
  rw [yaR]
  refine List.Perm.append_left _ ?_
  rw [← yaR,← yaR]
  exact List.Perm.append_right _ ybO
 ·rw [ho]
  exact yaC.mpr ⟨h.srt,p1,fun x hx y hy=>h.low x hx y (yaq _ (ybj hy))⟩
 ·intro x hx y hy
  rw [ho] at hx
  rcases yaf.mp hx with hx | hx
  ·refine h.low x hx y ?_
   rcases yaf.mp hy with hy | hy
   ·exact yaJ _ hy
   ·refine yaq _ ?_
    rw [e]
    exact yaq _ hy
  ·rcases yaf.mp hy with hy | hy
   ·exact hle x hx y hy
   ·exact p3 x hx y hy
theorem zcW {xs : Array Keyed} {i : Nat} (h : i < xs.size) : (xs.toList.drop i).take 1 = [xs[i]]:=by
 rw [zdi h]
 rfl
theorem MI.pa (h : MI κ a b out ia ib) (sa : SL κ a.toList) (hia : ia < a.size) (hle : ∀ y∈b.toList.drop ib,le κ a[ia] y) : MI κ a b (out.push a[ia]) (ia + 1) ib:=
 h.goA (k:=1) sa (by rw [zcW hia,ybx]) (by
  rw [zcW hia]
  intro x hx
  rw [yag.mp hx]
  exact hle)
theorem MI.pb (h : MI κ a b out ia ib) (sb : SL κ b.toList) (hib : ib < b.size) (hle : ∀ y∈a.toList.drop ia,le κ b[ib] y) : MI κ a b (out.push b[ib]) ia (ib + 1):=
 h.goB (k:=1) sb (by rw [zcW hib,ybx]) (by
  rw [zcW hib]
  intro x hx
  rw [yag.mp hx]
  exact hle)
structure zbu (κ : KeyKind) (a b m : Array Keyed) : Prop where
 perm : m.toList.Perm (a.toList ++ b.toList)
 srt : SL κ m.toList
theorem zdv {xs : Array Keyed} {i k : Nat} : (xs.extract i (i + k)).toList = (xs.toList.drop i).take k:=by
 rw [ybP,ybQ,Nat.add_sub_cancel_left]
theorem zdw {xs : Array Keyed} {i : Nat} : (xs.extract i xs.size).toList = xs.toList.drop i:=by
 rw [ybP,ybQ]
 exact yaz (by rw [yaG,yao]; exact yab _)
theorem MI.done (h : MI κ a b out ia ib) (sa : SL κ a.toList) (hib : b.size≤ib) : zbu κ a b (out ++ a.extract ia a.size ++ b.extract ib b.size):=by
 have e : b.toList.drop ib = []:=ya8 (by rw [yao]; exact hib)
 have e2 : (out ++ a.extract ia a.size ++ b.extract ib b.size).toList = out.toList ++ (a.toList.drop ia ++ b.toList.drop ib):=by
  rw [yaI,yaI,zdw,zdw,yaR]
 refine ⟨by rw [e2]; exact h.perm,?_⟩
 rw [e2,e,yaU]
 refine yaC.mpr ⟨h.srt,sa.drop ia,fun x hx y hy=>h.low x hx y (yaJ _ hy)⟩
theorem MI.doneA (h : MI κ a b out ia ib) (sb : SL κ b.toList) (hia : a.size≤ia) : zbu κ a b (out ++ a.extract ia a.size ++ b.extract ib b.size):=by
 have e : a.toList.drop ia = []:=ya8 (by rw [yao]; exact hia)
 have e2 : (out ++ a.extract ia a.size ++ b.extract ib b.size).toList = out.toList ++ (a.toList.drop ia ++ b.toList.drop ib):=by
  rw [yaI,yaI,zdw,zdw,yaR]
 refine ⟨by rw [e2]; exact h.perm,?_⟩
 rw [e2,e,ybR]
 refine yaC.mpr ⟨h.srt,sb.drop ib,fun x hx y hy=>h.low x hx y (yaq _ hy)⟩
theorem MI.last (h : MI κ a b out ia ib) (sa : SL κ a.toList) (sb : SL κ b.toList) (hl : ∀ y∈b.toList,∀ x∈a.toList.drop ia,le κ y x) : zbu κ a b (out ++ b.extract ib b.size ++ a.extract ia a.size):=by
 have e2 : (out ++ b.extract ib b.size ++ a.extract ia a.size).toList = out.toList ++ (b.toList.drop ib ++ a.toList.drop ia):=by
  rw [yaI,yaI,zdw,zdw,yaR]
 refine ⟨?_,?_⟩
 ·rw [e2]
  exact (List.Perm.append_left _ ybO).trans h.perm
 ·rw [e2]
  refine yaC.mpr ⟨h.srt,yaC.mpr ⟨sb.drop ib,sa.drop ia,fun x hx y hy=>hl x (yby hx) y hy⟩,fun x hx y hy=>h.low x hx y ?_⟩
  rcases yaf.mp hy with q | q
  ·exact yaq _ q
  ·exact yaJ _ q
end
end Tim
namespace Tim
open PySem PyProof.Rows
set_option autoImplicit false
def zgV : Array Keyed→Array Keyed→StateT SortSt Sem (Array Keyed):=sortPriv% PySem.Builtin.mergeLo
def zhg : Nat→StateT SortSt Sem Unit:=sortPriv% PySem.Builtin.setMinGallop
structure SG (st st' : SortSt) : Prop where
 kind : kindOf st' = kindOf st
 arr : arrOf st' = arrOf st
 pend : pendingOf st' = pendingOf st
 failed : failedOf st' = failedOf st
theorem SG.refl (st : SortSt) : SG st st:=⟨rfl,rfl,rfl,rfl⟩
theorem SG.trans {s1 s2 s3 : SortSt} (h : SG s1 s2) (g : SG s2 s3) : SG s1 s3:=⟨g.kind.trans h.kind,g.arr.trans h.arr,g.pend.trans h.pend,g.failed.trans h.failed⟩
section
variable {prog : Program} {w : World} {A : Around} {E : Value→Shared→Prop} {s : Shared} {κ : KeyKind} {kd : SortKind}
theorem zbM {g : Nat} {st st0 : SortSt} {Q : Unit→SortSt→Prop} (hg : SG st0 st) (h : ∀ st',SG st0 st'→Q () st') : wpS (model prog w) A E s (zhg g) Q st:=by
 refine wpS_modify (h _ (hg.trans ⟨rfl,rfl,rfl,rfl⟩))
theorem mp2 {P g : Prop} (k : P) (m : P→g) : g:=m k
set_option maxHeartbeats 4000000 in
theorem zg9 {st : SortSt} {a b : Array Keyed} {Q : Array Keyed→SortSt→Prop} (hO : LtG prog w A s κ kd) (hkd : kindOf st = kd) (ka : ∀ q∈a.toList,Keyd κ q) (kb : ∀ q∈b.toList,Keyd κ q) (sa : SL κ a.toList) (sb : SL κ b.toList)
  (ha : 0 < a.size) (hb : 0 < b.size) (h0 : ∀ y∈a.toList,le κ b[0] y) (hl : ∀ y∈b.toList,∀ i,i + 1 = a.size→∀ x∈a.toList.drop i,le κ y x)
  (h : ∀ m st',zbu κ a b m→SG st st'→Q m st') : wpS (model prog w) A E s (zgV a b) Q st:=by
 have m0 : MI κ a b #[b[0]] 0 1:=by
  have z : MI κ a b #[] 0 0:=⟨by simp,by simp,by simp⟩
  have:=z.pb sb hb (by simpa using h0)
  simpa using this
 refine wpS_bind (zb3 ?_)
 dsimp only
 refine wpS_bind (zaT hb ?_)
 by_cases e1 : 1 = b.size
 ·rw [if_pos (by simpa using e1)]
  exact wpS_pure (h _ _ (m0.done sa (by omega)) (SG.refl st))
 rw [if_neg (by simpa using e1)]
 by_cases e2 : 0 + 1 = a.size
 ·rw [if_pos (by simpa using e2)]
  exact wpS_pure (h _ _ (m0.last sa sb (fun y hy x hx=>hl y hy 0 e2 x hx)) (SG.refl st))
 rw [if_neg (by simpa using e2)]
 refine wpS_bind (wpS_get ?_)
 refine wpS_bind (wpS_mono (wpS_forRange (I:=fun i c st'=>SG st st'∧∃ out ia ib g,c = (none,out,ia,ib,g)∧MI κ a b out ia ib∧ia + 1 < a.size∧ib < b.size∧i + 1≤ia + ib)
  (Q:=fun c st'=>SG st st'∧∃ m r,c = (some m,r)∧zbu κ a b m) ?step ?fin ⟨SG.refl st,_,0,1,_,rfl,m0,by omega,by omega,by omega⟩) ?post)
 case post=>
  rintro c st' ⟨g,m,r,rfl,hm⟩
  exact wpS_pure (h m st' hm g)
 case fin=>
  rintro c st' ⟨g,out,ia,ib,gg,rfl,hm,q1,q2,q3⟩
  exact absurd q3 (by omega)
 case step=>
  rintro i c st1 _ hi ⟨g1,out,ia,ib,gg,rfl,hm,q1,q2,q3⟩
  dsimp only
  refine wpS_bind (wpS_mono (wpS_forRange (I:=fun x c st'=>st' = st1∧∃ out' ia' ib' ca cb,c = (none,out',ia',ib',ca,cb)∧MI κ a b out' ia' ib'∧ia' + 1 < a.size∧ib' < b.size∧ia + ib + x≤ia' + ib')
   (Q:=fun c st'=>st' = st1∧((∃ m r,c = (some m,r)∧zbu κ a b m)∨∃ out' ia' ib' ca cb,c = (none,out',ia',ib',ca,cb)∧MI κ a b out' ia' ib'∧ia' + 1 < a.size∧ib' < b.size∧ia + ib + 1≤ia' + ib')) ?istep ?ifin ⟨rfl,out,ia,ib,0,0,rfl,hm,q1,q2,by omega⟩) ?ipost)
  case ifin=>
   rintro c st' ⟨rfl,out',ia',ib',ca,cb,rfl,hm',r1,r2,r3⟩
   exact ⟨rfl,.inr ⟨out',ia',ib',ca,cb,rfl,hm',r1,r2,by omega⟩⟩
  case istep=>
   rintro x c st' _ hx ⟨rfl,out',ia',ib',ca,cb,rfl,hm',r1,r2,r3⟩
   dsimp only
   refine wpS_bind (zaT r2 (wpS_bind (zaT (show ia' < a.size by omega) (wpS_bind (lt_G hO (by rw [g1.kind]; exact hkd) (kb _ (by simp)) (ka _ (by simp)) ?_)))))
   dsimp only
   cases e : κ.blt (ky κ b[ib']) (ky κ (a[ia']'(by omega))) with
   | true=>
    simp only [if_true]
    have hm2:=hm'.pb sb r2 (fun y hy=>le_trans (show le κ b[ib'] (a[ia']'(by omega)) from KeyOrd.kle_of_klt e) (zcu sa (by omega) y hy))
    refine wpS_bind (zaT r2 ?_)
    by_cases z : ib' + 1 = b.size
    ·rw [if_pos (by simpa using z)]
     exact wpS_pure ⟨rfl,.inl ⟨_,_,rfl,hm2.done sa (by omega)⟩⟩
    ·rw [if_neg (by simpa using z)]
     split
     ·exact wpS_pure ⟨rfl,.inr ⟨_,_,_,_,_,rfl,hm2,by omega,by omega,by omega⟩⟩
     ·exact wpS_pure ⟨rfl,_,_,_,_,_,rfl,hm2,by omega,by omega,by omega⟩
   | false=>
    simp only [yaE,if_false]
    have hm2:=hm'.pa sa (show ia' < a.size by omega) (fun y hy=>le_trans (show le κ (a[ia']'(by omega)) b[ib'] from e) (zcu sb r2 y hy))
    refine wpS_bind (zaT (show ia' < a.size by omega) ?_)
    by_cases z : ia' + 1 + 1 = a.size
    ·rw [if_pos (by simpa using z)]
     exact wpS_pure ⟨rfl,.inl ⟨_,_,rfl,hm2.last sa sb (fun y hy x hx=>hl y hy _ z x hx)⟩⟩
    ·rw [if_neg (by simpa using z)]
     split
     ·exact wpS_pure ⟨rfl,.inr ⟨_,_,_,_,_,rfl,hm2,by omega,by omega,by omega⟩⟩
     ·exact wpS_pure ⟨rfl,_,_,_,_,_,rfl,hm2,by omega,by omega,by omega⟩
  case ipost=>
   rintro c st' ⟨rfl,⟨m,r,rfl,hmm⟩ | ⟨out,ia',ib',ca,cb,rfl,hm,q1,q2,q4⟩⟩
   ·exact wpS_pure ⟨g1,m,_,rfl,hmm⟩
   dsimp only
   refine wpS_bind (zb3 ?_)
   refine wpS_bind (wpS_mono (wpS_forRange (I:=fun x c st''=>SG st st''∧∃ out1 ia1 ib1 gg ca cb,c = (none,out1,ia1,ib1,gg,ca,cb)∧MI κ a b out1 ia1 ib1∧ia1 + 1 < a.size∧ib1 < b.size∧ia + ib + 1≤ia1 + ib1)
    (Q:=fun c st''=>SG st st''∧((∃ m r,c = (some m,r)∧zbu κ a b m)∨∃ out1 ia1 ib1 gg ca cb,c = (none,out1,ia1,ib1,gg,ca,cb)∧MI κ a b out1 ia1 ib1∧ia1 + 1 < a.size∧ib1 < b.size∧ia + ib + 1≤ia1 + ib1)) ?jstep ?jfin ⟨g1,_,_,_,_,_,_,rfl,hm,q1,q2,q4⟩) ?jpost)
   case jfin=>
    rintro c st'' ⟨g2,out1,ia1,ib1,gg1,ca1,cb1,rfl,r⟩
    exact ⟨g2,.inr ⟨_,_,_,_,_,_,rfl,r⟩⟩
   case jpost=>
    rintro c st'' ⟨g2,⟨m,r,rfl,hmm⟩ | ⟨out1,ia1,ib1,gg1,ca1,cb1,rfl,hm1,t1,t2,t3⟩⟩
    ·exact wpS_pure ⟨g2,m,_,rfl,hmm⟩
    ·dsimp only
     exact wpS_bind (zbM g2 fun st3 g3=>wpS_pure ⟨g3,_,_,_,_,rfl,hm1,t1,t2,by omega⟩)
   case jstep=>
    rintro x c st'' _ hx ⟨g2,out1,ia1,ib1,gg1,ca1,cb1,rfl,hm1,t1,t2,t3⟩
    dsimp only
    apply mp2
    case m=>
     intro key
     by_cases hg : gg1 > 1
     ·rw [if_pos hg]
      generalize gg1 - 1 = gg2
      revert gg2
      exact key
     ·rw [if_neg hg]
      generalize gg1 = gg2
      revert gg2
      exact key
    intro gg2
    refine wpS_bind (zbM g2 fun st3 g3=>?_)
    refine wpS_bind (zaT t2 (wpS_bind (zbV hO (by rw [g3.kind]; exact hkd) (kb _ (by simp)) ka (by omega) (by omega) (zeO sa _ _ (by omega)) fun k k1 k2 k3=>?_)))
    dsimp only
    have hmk : MI κ a b (out1 ++ a.extract ia1 (ia1 + k)) (ia1 + k) ib1:=hm1.goA sa (by rw [yaI,zdv]) fun x hx y hy=>by
     obtain ⟨j,j1,j2,j3⟩:=zcX hx
     have q:=k2 j j1
     unfold bey at q
     rw [if_neg (by decide),zb9 j3,ybz] at q
     exact le_trans (show le κ x b[ib1] from q) (zcu sb t2 y hy)
    have bk : ∀ hq : ia1 + k < a.size,∀ y∈a.toList.drop (ia1 + k),le κ b[ib1] y:=fun hq y hy=>by
     have q:=k3 k (yab _) (by omega)
     unfold bey at q
     rw [if_neg (by decide),zaW hq,yb6] at q
     exact le_trans (show le κ b[ib1] a[ia1 + k] from KeyOrd.kle_of_klt q) (zcu sa hq y hy)
    apply mp2
    case m=>
     by_cases hk : k > 0
     ·by_cases z : ia1 + k + 1 = a.size
      ·intro h
       clear h
       rw [if_pos hk,if_pos (by simpa using z)]
       exact wpS_pure ⟨g3,.inl ⟨_,_,rfl,hmk.last sa sb (fun y hy x hx=>hl y hy _ z x hx)⟩⟩
      have z0 : ¬(ia1 + k + 1 == a.size) = true:=by simpa using z
      by_cases z' : ia1 + k = a.size
      ·intro h
       clear h
       rw [if_pos hk,if_neg z0,if_pos (by simpa using z')]
       exact wpS_pure ⟨g3,.inl ⟨_,_,rfl,hmk.doneA sb (by omega)⟩⟩
      have z1 : ¬(ia1 + k == a.size) = true:=by simpa using z'
      have u2:=bk (by omega)
      have w1 : ia1 + k + 1 < a.size:=by omega
      have w3 : ia + ib + 1≤ia1 + k + ib1:=by omega
      intro key
      rw [if_pos hk,if_neg z0,if_neg z1]
      refine (?_ : MI κ a b (out1 ++ a.extract ia1 (ia1 + k)) (ia1 + k) ib1→(∀ y∈a.toList.drop (ia1 + k),le κ (b[ib1]'t2) y)→ia1 + k + 1 < a.size→ia + ib + 1≤ia1 + k + ib1→_) hmk u2 w1 w3
      generalize out1 ++ a.extract ia1 (ia1 + k) = out2
      generalize ia1 + k = ja
      generalize k = cnt
      revert out2 ja cnt
      exact key
     ·have e0 : k = 0:=by omega
      have u2:=bk (by omega)
      rw [e0,Nat.add_zero] at u2
      intro key
      rw [if_neg hk]
      refine (?_ : MI κ a b out1 ia1 ib1→(∀ y∈a.toList.drop ia1,le κ (b[ib1]'t2) y)→ia1 + 1 < a.size→ia + ib + 1≤ia1 + ib1→_) hm1 u2 t1 t3
      generalize k = cnt
      generalize ia1 = ja
      generalize out1 = out2
      exact key out2 ja cnt
    intro out2 ja cnt hm2 u2 w1 w3
    refine wpS_bind (zaT t2 ?_)
    have hm3:=hm2.pb sb t2 u2
    by_cases z2 : ib1 + 1 = b.size
    ·rw [if_pos (by simpa using z2)]
     exact wpS_pure ⟨g3,.inl ⟨_,_,rfl,hm3.done sa (by omega)⟩⟩
    ·rw [if_neg (by simpa using z2)]
     refine wpS_bind (zaT (show ja < a.size by omega) (wpS_bind (zbV hO (by rw [g3.kind]; exact hkd) (ka _ (by simp)) kb (by omega) (by omega) (zeO sb _ _ (by omega)) fun k' c1 c2 c3=>?_)))
     dsimp only
     have ge5 : ∀ hq : ib1 + 1 + k' < b.size,le κ (a[ja]'(by omega)) b[ib1 + 1 + k']:=fun hq=>by
      have q:=c3 k' (yab _) (by omega)
      unfold bey at q
      rw [if_pos rfl,zaW hq] at q
      exact q
     have hm4 : MI κ a b (out2.push b[ib1] ++ b.extract (ib1 + 1) (ib1 + 1 + k')) ja (ib1 + 1 + k'):=hm3.goB sb (by rw [yaI (ys:=b.extract (ib1 + 1) (ib1 + 1 + k')),zdv (xs:=b)]) fun x hx y hy=>by
      obtain ⟨j,j1,j2,j3⟩:=zcX hx
      have q:=c2 j j1
      unfold bey at q
      rw [if_pos rfl,zb9 j3] at q
      exact le_trans (show le κ x (a[ja]'(by omega)) from KeyOrd.kle_of_klt q) (zcu sa (by omega) y hy)
     by_cases hk' : k' > 0
     ·rw [if_pos hk']
      by_cases z3 : ib1 + 1 + k' = b.size
      ·rw [if_pos (by simpa using z3)]
       exact wpS_pure ⟨g3,.inl ⟨_,_,rfl,hm4.done sa (by omega)⟩⟩
      ·rw [if_neg (by simpa using z3)]
       refine wpS_bind (zaT (show ja < a.size by omega) ?_)
       have hm5:=hm4.pa sa (show ja < a.size by omega) fun y hy=>le_trans (show le κ (a[ja]'(by omega)) (b[ib1 + 1 + k']'(by omega)) from ge5 (by omega)) (zcu sb (by omega) y hy)
       by_cases z4 : ja + 1 + 1 = a.size
       ·rw [if_pos (by simpa using z4)]
        exact wpS_pure ⟨g3,.inl ⟨_,_,rfl,hm5.last sa sb (fun y hy x hx=>hl y hy _ z4 x hx)⟩⟩
       ·rw [if_neg (by simpa using z4)]
        split
        ·exact wpS_pure ⟨g3,.inr ⟨_,_,_,_,_,_,rfl,hm5,by omega,by omega,by omega⟩⟩
        ·exact wpS_pure ⟨g3,_,_,_,_,_,_,rfl,hm5,by omega,by omega,by omega⟩
     ·rw [if_neg hk']
      have e0 : k' = 0:=by omega
      subst e0
      replace hm4:=hm3
      refine wpS_bind (zaT (show ja < a.size by omega) ?_)
      have hm5:=hm4.pa sa (show ja < a.size by omega) fun y hy=>le_trans (show le κ (a[ja]'(by omega)) (b[ib1 + 1]'(by omega)) from ge5 (by omega)) (zcu sb (by omega) y hy)
      by_cases z4 : ja + 1 + 1 = a.size
      ·rw [if_pos (by simpa using z4)]
       exact wpS_pure ⟨g3,.inl ⟨_,_,rfl,hm5.last sa sb (fun y hy x hx=>hl y hy _ z4 x hx)⟩⟩
      ·rw [if_neg (by simpa using z4)]
       split
       ·exact wpS_pure ⟨g3,.inr ⟨_,_,_,_,_,_,rfl,hm5,by omega,by omega,by omega⟩⟩
       ·exact wpS_pure ⟨g3,_,_,_,_,_,_,rfl,hm5,by omega,by omega,by omega⟩
end
end Tim
namespace Tim
open PySem PyProof.Rows
set_option autoImplicit false
section
variable {κ : KeyKind} {a b out : Array Keyed} {na nb : Nat}
structure MH (κ : KeyKind) (a b : Array Keyed) (out : Array Keyed) (na nb : Nat) : Prop where
 perm : ((a.toList.take na ++ b.toList.take nb) ++ out.toList.reverse).Perm (a.toList ++ b.toList)
 srt : SL κ out.toList.reverse
 high : ∀ x∈out.toList.reverse,∀ y∈a.toList.take na ++ b.toList.take nb,le κ y x
theorem zdo {l : List Keyed} {n m : Nat} (h : n≤m) : l.take m = l.take n ++ (l.take m).drop n:=by
 have e : (l.take m).take n = l.take n:=by rw [List.take_take,ybk h]
 rw [← e,yaX]
theorem MH.goA {out' : Array Keyed} {n : Nat} (h : MH κ a b out na nb) (sa : SL κ a.toList) (hn : n≤na) (ho : out'.toList.reverse = (a.toList.take na).drop n ++ out.toList.reverse) (hle : ∀ x∈(a.toList.take na).drop n,∀ y∈b.toList.take nb,le κ y x) : MH κ a b out' n nb:=by
 have e:=zdo (l:=a.toList) hn
 have s1:=sa.take na
 rw [e] at s1
 obtain ⟨p1,p2,p3⟩:=yaC.mp s1
 refine ⟨?_,?_,?_⟩
 ·refine List.Perm.trans ?_ h.perm
  rw [ho,e,← yaR]
  refine List.Perm.append_right _ ?_
  rw [yaR,yaR,← e]
  exact List.Perm.append_left _ ybO
 ·rw [ho]
  exact yaC.mpr ⟨p2,h.srt,fun x hx y hy=>h.high y hy x (yaJ _ (yby hx))⟩
 ·intro x hx y hy
  rw [ho] at hx
  rcases yaf.mp hx with hx | hx
  ·rcases yaf.mp hy with hy | hy
   ·exact p3 y hy x hx
   ·exact hle x hx y hy
  ·refine h.high x hx y ?_
   rcases yaf.mp hy with hy | hy
   ·refine yaJ _ ?_
    rw [e]
    exact yaJ _ hy
   ·exact yaq _ hy
theorem MH.goB {out' : Array Keyed} {n : Nat} (h : MH κ a b out na nb) (sb : SL κ b.toList) (hn : n≤nb) (ho : out'.toList.reverse = (b.toList.take nb).drop n ++ out.toList.reverse) (hle : ∀ x∈(b.toList.take nb).drop n,∀ y∈a.toList.take na,le κ y x) : MH κ a b out' na n:=by
 have e:=zdo (l:=b.toList) hn
 have s1:=sb.take nb
 rw [e] at s1
 obtain ⟨p1,p2,p3⟩:=yaC.mp s1
 refine ⟨?_,?_,?_⟩
 ·refine List.Perm.trans (List.Perm.of_eq ?_) h.perm
  rw [ho,← yaR,yaR (a.toList.take na),← e]
 ·rw [ho]
  exact yaC.mpr ⟨p2,h.srt,fun x hx y hy=>h.high y hy x (yaq _ (yby hx))⟩
 ·intro x hx y hy
  rw [ho] at hx
  rcases yaf.mp hx with hx | hx
  ·rcases yaf.mp hy with hy | hy
   ·exact hle x hx y hy
   ·exact p3 y hy x hx
  ·refine h.high x hx y ?_
   rcases yaf.mp hy with hy | hy
   ·exact yaJ _ hy
   ·refine yaq _ ?_
    rw [e]
    exact yaJ _ hy
theorem zde {xs : Array Keyed} {n : Nat} (h0 : 0 < n) (h : n≤xs.size) : (xs.toList.take n).drop (n - 1) = [xs[n - 1]'(by omega)]:=by
 have h' : n - 1 < xs.size:=by omega
 rw [ybS,show n - (n - 1) = 1 by omega,zdi h']
 rfl
theorem zdp {xs : Array Keyed} {n : Nat} (hs : SL κ xs.toList) (h0 : 0 < n) (h : n≤xs.size) : ∀ y∈xs.toList.take n,le κ y (xs[n - 1]'(by omega)):=by
 intro y hy
 have q:=hs.take n
 rw [zdo (l:=xs.toList) (show n - 1≤n by omega),zde h0 h] at q hy
 rcases yaf.mp hy with hy | hy
 ·exact (yaC.mp q).2.2 y hy _ (yag.mpr rfl)
 ·rw [yag.mp hy]
  exact le_refl _
theorem MH.pa (h : MH κ a b out na nb) (sa : SL κ a.toList) (h0 : 0 < na) (hn : na≤a.size) (hle : ∀ y∈b.toList.take nb,le κ y (a[na - 1]'(by omega))) : MH κ a b (out.push (a[na - 1]'(by omega))) (na - 1) nb:=
 h.goA (n:=na - 1) sa (by omega) (by rw [zde h0 hn,ybx,ybT]; rfl) (by
  rw [zde h0 hn]
  intro x hx
  rw [yag.mp hx]
  exact hle)
theorem MH.pb (h : MH κ a b out na nb) (sb : SL κ b.toList) (h0 : 0 < nb) (hn : nb≤b.size) (hle : ∀ y∈a.toList.take na,le κ y (b[nb - 1]'(by omega))) : MH κ a b (out.push (b[nb - 1]'(by omega))) na (nb - 1):=
 h.goB (n:=nb - 1) sb (by omega) (by rw [zde h0 hn,ybx,ybT]; rfl) (by
  rw [zde h0 hn]
  intro x hx
  rw [yag.mp hx]
  exact hle)
theorem zcN {xs : Array Keyed} {n : Nat} : (xs.extract 0 n).toList = xs.toList.take n:=by
 rw [ybP,ybQ,ya6,ybA]
theorem ziP {xs : Array Keyed} {n m : Nat} : (xs.extract n m).toList = (xs.toList.take m).drop n:=by
 rw [ybP,ybQ,ybS]
theorem MH.done (h : MH κ a b out na nb) (sb : SL κ b.toList) (hna : na = 0) : zbu κ a b (a.extract 0 na ++ b.extract 0 nb ++ out.reverse):=by
 have e2 : (a.extract 0 na ++ b.extract 0 nb ++ out.reverse).toList = (a.toList.take na ++ b.toList.take nb) ++ out.toList.reverse:=by
  rw [yaI,yaI,zcN,zcN,ybB]
 refine ⟨by rw [e2]; exact h.perm,?_⟩
 rw [e2]
 subst hna
 refine yaC.mpr ⟨?_,h.srt,fun x hx y hy=>h.high y hy x hx⟩
 rw [List.take_zero,ybR]
 exact sb.take nb
theorem MH.doneB (h : MH κ a b out na nb) (sa : SL κ a.toList) (hnb : nb = 0) : zbu κ a b (a.extract 0 na ++ b.extract 0 nb ++ out.reverse):=by
 have e2 : (a.extract 0 na ++ b.extract 0 nb ++ out.reverse).toList = (a.toList.take na ++ b.toList.take nb) ++ out.toList.reverse:=by
  rw [yaI,yaI,zcN,zcN,ybB]
 refine ⟨by rw [e2]; exact h.perm,?_⟩
 rw [e2]
 subst hnb
 refine yaC.mpr ⟨?_,h.srt,fun x hx y hy=>h.high y hy x hx⟩
 rw [List.take_zero,yaU]
 exact sa.take na
theorem MH.first (h : MH κ a b out na nb) (sa : SL κ a.toList) (sb : SL κ b.toList) (hl : ∀ y∈b.toList.take nb,∀ x∈a.toList,le κ y x) : zbu κ a b (b.extract 0 nb ++ a.extract 0 na ++ out.reverse):=by
 have e2 : (b.extract 0 nb ++ a.extract 0 na ++ out.reverse).toList = (b.toList.take nb ++ a.toList.take na) ++ out.toList.reverse:=by
  rw [yaI,yaI,zcN,zcN,ybB]
 refine ⟨?_,?_⟩
 ·rw [e2]
  exact (List.Perm.append_right _ ybO).trans h.perm
 ·rw [e2]
  refine yaC.mpr ⟨yaC.mpr ⟨sb.take nb,sa.take na,fun x hx y hy=>hl x hx y (ybj hy)⟩,h.srt,fun x hx y hy=>h.high y hy x ?_⟩
  rcases yaf.mp hx with q | q
  ·exact yaq _ q
  ·exact yaJ _ q
end
def zgW : Array Keyed→Array Keyed→StateT SortSt Sem (Array Keyed):=sortPriv% PySem.Builtin.mergeHi
end Tim
namespace Tim
open PySem PyProof.Rows
set_option autoImplicit false
section
variable {prog : Program} {w : World} {A : Around} {E : Value→Shared→Prop} {s : Shared} {κ : KeyKind} {kd : SortKind}
set_option maxHeartbeats 4000000 in
theorem zha {st : SortSt} {a b : Array Keyed} {Q : Array Keyed→SortSt→Prop} (hO : LtG prog w A s κ kd) (hkd : kindOf st = kd) (ka : ∀ q∈a.toList,Keyd κ q) (kb : ∀ q∈b.toList,Keyd κ q) (sa : SL κ a.toList) (sb : SL κ b.toList)
  (ha : 0 < a.size) (hb : 0 < b.size) (h0 : ∀ y∈a.toList,le κ b[0] y) (hl : ∀ y∈b.toList,le κ y (a[a.size - 1]'(by omega)))
  (h : ∀ m st',zbu κ a b m→SG st st'→Q m st') : wpS (model prog w) A E s (zgW a b) Q st:=by
 have fst : ∀ n,n≤1→∀ y∈b.toList.take n,∀ x∈a.toList,le κ y x:=fun n hn y hy x hx=>by
  have hy' : y∈b.toList.take 1:=by
   rcases ybC n 1 with z | z
   ·rw [show n = 0 by omega] at hy; simp at hy
   ·rwa [show n = 1 by omega] at hy
  have e : b.toList.take 1 = [b[0]]:=by
   have:=zcW hb
   rwa [ya6] at this
  rw [e] at hy'
  rw [yag.mp hy']
  exact h0 x hx
 have m0 : MH κ a b #[a[a.size - 1]'(by omega)] (a.size - 1) b.size:=by
  have z : MH κ a b #[] a.size b.size:=⟨by
   rw [yaz (by simp),yaz (by simp)]
   simp,by simp,by simp⟩
  have:=z.pa sa ha (yab _) (fun y hy=>hl y (ybj hy))
  simpa using this
 refine wpS_bind (zb3 ?_)
 dsimp only
 refine wpS_bind (zaT (show a.size - 1 < a.size by omega) ?_)
 by_cases e1 : a.size - 1 = 0
 ·rw [if_pos (by simpa using e1)]
  exact wpS_pure (h _ _ (m0.done sb e1) (SG.refl st))
 rw [if_neg (by simpa using e1)]
 by_cases e2 : b.size = 1
 ·rw [if_pos (by simpa using e2)]
  exact wpS_pure (h _ _ (m0.first sa sb (fst _ (by omega))) (SG.refl st))
 rw [if_neg (by simpa using e2)]
 refine wpS_bind (wpS_get ?_)
 refine wpS_bind (wpS_mono (wpS_forRange (I:=fun i c st'=>SG st st'∧∃ na nb out g,c = (none,na,nb,out,g)∧MH κ a b out na nb∧0 < na∧na≤a.size∧1 < nb∧nb≤b.size∧i + 1 + (na + nb)≤a.size + b.size)
  (Q:=fun c st'=>SG st st'∧∃ m r,c = (some m,r)∧zbu κ a b m) ?step ?fin ⟨SG.refl st,_,_,_,_,rfl,m0,by omega,by omega,by omega,by omega,by omega⟩) ?post)
 case post=>
  rintro c st' ⟨g,m,r,rfl,hm⟩
  exact wpS_pure (h m st' hm g)
 case fin=>
  rintro c st' ⟨g,na,nb,out,gg,rfl,hm,q1,q2,q3,q4,q5⟩
  exact absurd q5 (by omega)
 case step=>
  rintro i c st1 _ hi ⟨g1,na,nb,out,gg,rfl,hm,q1,q2,q3,q4,q5⟩
  dsimp only
  refine wpS_bind (wpS_mono (wpS_forRange (I:=fun x c st'=>st' = st1∧∃ na' nb' out' ca cb,c = (none,na',nb',out',ca,cb)∧MH κ a b out' na' nb'∧0 < na'∧na'≤a.size∧1 < nb'∧nb'≤b.size∧x + (na' + nb')≤na + nb)
   (Q:=fun c st'=>st' = st1∧((∃ m r,c = (some m,r)∧zbu κ a b m)∨∃ na' nb' out' ca cb,c = (none,na',nb',out',ca,cb)∧MH κ a b out' na' nb'∧0 < na'∧na'≤a.size∧1 < nb'∧nb'≤b.size∧1 + (na' + nb')≤na + nb)) ?istep ?ifin ⟨rfl,na,nb,out,0,0,rfl,hm,q1,q2,q3,q4,by omega⟩) ?ipost)
  case ifin=>
   rintro c st' ⟨rfl,na',nb',out',ca,cb,rfl,hm',r1,r2,r3,r4,r5⟩
   exact ⟨rfl,.inr ⟨_,_,_,ca,cb,rfl,hm',r1,r2,r3,r4,by omega⟩⟩
  case istep=>
   rintro x c st' _ hx ⟨rfl,na',nb',out',ca,cb,rfl,hm',r1,r2,r3,r4,r5⟩
   dsimp only
   refine wpS_bind (zaT (show nb' - 1 < b.size by omega) (wpS_bind (zaT (show na' - 1 < a.size by omega) (wpS_bind (lt_G hO (by rw [g1.kind]; exact hkd) (kb _ (by simp)) (ka _ (by simp)) ?_)))))
   dsimp only
   cases e : κ.blt (ky κ (b[nb' - 1]'(by omega))) (ky κ (a[na' - 1]'(by omega))) with
   | true=>
    simp only [if_true]
    have hm2:=hm'.pa sa r1 r2 (fun y hy=>le_trans (zdp sb (by omega) r4 y hy) (show le κ (b[nb' - 1]'(by omega)) (a[na' - 1]'(by omega)) from KeyOrd.kle_of_klt e))
    refine wpS_bind (zaT (show na' - 1 < a.size by omega) ?_)
    by_cases z : na' - 1 = 0
    ·rw [if_pos (by simpa using z)]
     exact wpS_pure ⟨rfl,.inl ⟨_,_,rfl,hm2.done sb z⟩⟩
    ·rw [if_neg (by simpa using z)]
     split
     ·exact wpS_pure ⟨rfl,.inr ⟨_,_,_,_,_,rfl,hm2,by omega,by omega,by omega,by omega,by omega⟩⟩
     ·exact wpS_pure ⟨rfl,_,_,_,_,_,rfl,hm2,by omega,by omega,by omega,by omega,by omega⟩
   | false=>
    simp only [yaE,if_false]
    have hm2:=hm'.pb sb (by omega) r4 (fun y hy=>le_trans (zdp sa r1 r2 y hy) (show le κ (a[na' - 1]'(by omega)) (b[nb' - 1]'(by omega)) from e))
    refine wpS_bind (zaT (show nb' - 1 < b.size by omega) ?_)
    by_cases z : nb' - 1 = 1
    ·rw [if_pos (by simpa using z)]
     exact wpS_pure ⟨rfl,.inl ⟨_,_,rfl,hm2.first sa sb (fst _ (by omega))⟩⟩
    ·rw [if_neg (by simpa using z)]
     split
     ·exact wpS_pure ⟨rfl,.inr ⟨_,_,_,_,_,rfl,hm2,by omega,by omega,by omega,by omega,by omega⟩⟩
     ·exact wpS_pure ⟨rfl,_,_,_,_,_,rfl,hm2,by omega,by omega,by omega,by omega,by omega⟩
  case ipost=>
   rintro c st' ⟨rfl,⟨m,r,rfl,hmm⟩ | ⟨na',nb',out,ca,cb,rfl,hm,q1,q2,q3,q4,q6⟩⟩
   ·exact wpS_pure ⟨g1,m,_,rfl,hmm⟩
   dsimp only
   refine wpS_bind (zb3 ?_)
   refine wpS_bind (wpS_mono (wpS_forRange (I:=fun x c st''=>SG st st''∧∃ na1 nb1 out1 gg ca cb,c = (none,na1,nb1,out1,gg,ca,cb)∧MH κ a b out1 na1 nb1∧0 < na1∧na1≤a.size∧1 < nb1∧nb1≤b.size∧1 + (na1 + nb1)≤na + nb)
    (Q:=fun c st''=>SG st st''∧((∃ m r,c = (some m,r)∧zbu κ a b m)∨∃ na1 nb1 out1 gg ca cb,c = (none,na1,nb1,out1,gg,ca,cb)∧MH κ a b out1 na1 nb1∧0 < na1∧na1≤a.size∧1 < nb1∧nb1≤b.size∧1 + (na1 + nb1)≤na + nb)) ?jstep ?jfin ⟨g1,_,_,_,_,_,_,rfl,hm,q1,q2,q3,q4,q6⟩) ?jpost)
   case jfin=>
    rintro c st'' ⟨g2,na1,nb1,out1,gg1,ca1,cb1,rfl,r⟩
    exact ⟨g2,.inr ⟨_,_,_,_,_,_,rfl,r⟩⟩
   case jpost=>
    rintro c st'' ⟨g2,⟨m,r,rfl,hmm⟩ | ⟨na1,nb1,out1,gg1,ca1,cb1,rfl,hm1,t1,t2,t3,t4,t5⟩⟩
    ·exact wpS_pure ⟨g2,m,_,rfl,hmm⟩
    ·dsimp only
     exact wpS_bind (zbM g2 fun st3 g3=>wpS_pure ⟨g3,_,_,_,_,rfl,hm1,t1,t2,t3,t4,by omega⟩)
   case jstep=>
    rintro x c st'' _ hx ⟨g2,na1,nb1,out1,gg1,ca1,cb1,rfl,hm1,t1,t2,t3,t4,t5⟩
    dsimp only
    apply mp2
    case m=>
     intro key
     by_cases hg : gg1 > 1
     ·rw [if_pos hg]
      generalize gg1 - 1 = gg2
      revert gg2
      exact key
     ·rw [if_neg hg]
      generalize gg1 = gg2
      revert gg2
      exact key
    intro gg2
    refine wpS_bind (zbM g2 fun st3 g3=>?_)
    refine wpS_bind (zaT (show nb1 - 1 < b.size by omega) (wpS_bind (zbV hO (by rw [g3.kind]; exact hkd) (kb _ (by simp)) ka (by omega) (by omega) (zeO sa _ _ (by omega)) fun at0 k1 k2 k3=>?_)))
    dsimp only
    have hmk : MH κ a b (out1 ++ (a.extract at0 na1).reverse) at0 nb1:=hm1.goA sa k1 (by
     rw [yaI,ybT,ybB,List.reverse_reverse,ziP]) fun x hx y hy=>by
     rw [ybS] at hx
     obtain ⟨j,j1,j2,j3⟩:=zcX hx
     have q:=k3 (at0 + j) (by omega) (by omega)
     unfold bey at q
     rw [if_neg (by decide),Nat.zero_add,zb9 j3,yb6] at q
     exact le_trans (zdp sb (by omega) t4 y hy) (show le κ (b[nb1 - 1]'(by omega)) x from KeyOrd.kle_of_klt q)
    have hnb : nb1 - 1 < b.size:=by omega
    have bk : ∀ y∈a.toList.take at0,le κ y (b[nb1 - 1]'hnb):=fun y hy=>by
     have hy' : y∈(a.toList.drop 0).take at0:=by rw [ya6]; exact hy
     obtain ⟨j,j1,j2,j3⟩:=zcX hy'
     have q:=k2 j j1
     unfold bey at q
     rw [if_neg (by decide),zb9 j3,ybz] at q
     exact q
    apply mp2
    case m=>
     by_cases hk : na1 - at0 > 0
     ·by_cases z : at0 = 0
      ·intro h
       clear h
       rw [if_pos hk,if_pos (by simpa using z)]
       exact wpS_pure ⟨g3,.inl ⟨_,_,rfl,hmk.done sb z⟩⟩
      have w1 : 0 < at0:=by omega
      have w2 : at0≤a.size:=by omega
      have w3 : 1 + (at0 + nb1)≤na + nb:=by omega
      have z0 : ¬(at0 == 0) = true:=by simpa using z
      intro key
      rw [if_pos hk,if_neg z0]
      refine (?_ : MH κ a b (out1 ++ (a.extract at0 na1).reverse) at0 nb1→(∀ y∈a.toList.take at0,le κ y (b[nb1 - 1]'hnb))→0 < at0→at0≤a.size→1 + (at0 + nb1)≤na + nb→_) hmk bk w1 w2 w3
      generalize out1 ++ (a.extract at0 na1).reverse = out2
      generalize na1 - at0 = cnt
      generalize at0 = na2
      revert out2 cnt na2
      exact key
     ·have e0 : at0 = na1:=by omega
      rw [e0] at bk
      intro key
      rw [if_neg hk]
      refine (?_ : MH κ a b out1 na1 nb1→(∀ y∈a.toList.take na1,le κ y (b[nb1 - 1]'hnb))→0 < na1→na1≤a.size→1 + (na1 + nb1)≤na + nb→_) hm1 bk t1 t2 t5
      generalize na1 - at0 = cnt
      generalize na1 = na2
      generalize out1 = out2
      exact key out2 cnt na2
    intro out2 cnt na2 hm2 u2 w1 w2 w3
    refine wpS_bind (zaT (show nb1 - 1 < b.size by omega) ?_)
    have hm3:=hm2.pb sb (by omega) (by omega) u2
    by_cases z2 : nb1 - 1 = 1
    ·rw [if_pos (by simpa using z2)]
     exact wpS_pure ⟨g3,.inl ⟨_,_,rfl,hm3.first sa sb (fst _ (by omega))⟩⟩
    ·rw [if_neg (by simpa using z2)]
     refine wpS_bind (zaT (show na2 - 1 < a.size by omega) (wpS_bind (zbV hO (by rw [g3.kind]; exact hkd) (ka _ (by simp)) kb (by omega) (by omega) (zeO sb _ _ (by omega)) fun at' c1 c2 c3=>?_)))
     dsimp only
     have lt5 : ∀ hq : 0 < at',le κ (b[at' - 1]'(by omega)) (a[na2 - 1]'(by omega)):=fun hq=>by
      have q:=c2 (at' - 1) (by omega)
      unfold bey at q
      rw [if_pos rfl,Nat.zero_add,zaW (by omega)] at q
      exact KeyOrd.kle_of_klt q
     have hm4 : MH κ a b (out2.push (b[nb1 - 1]'(by omega)) ++ (b.extract at' (nb1 - 1)).reverse) na2 at':=hm3.goB sb c1 (by
      rw [yaI (ys:=(b.extract at' (nb1 - 1)).reverse),ybT,ybB,List.reverse_reverse,ziP]) fun x hx y hy=>by
      rw [ybS] at hx
      obtain ⟨j,j1,j2,j3⟩:=zcX hx
      have q:=c3 (at' + j) (by omega) (by omega)
      unfold bey at q
      rw [if_pos rfl,Nat.zero_add,zb9 j3] at q
      exact le_trans (zdp sa (by omega) (by omega) y hy) (show le κ (a[na2 - 1]'(by omega)) x from q)
     by_cases hk' : nb1 - 1 - at' > 0
     ·rw [if_pos hk']
      by_cases z3 : at' = 1
      ·rw [if_pos (by simpa using z3)]
       exact wpS_pure ⟨g3,.inl ⟨_,_,rfl,hm4.first sa sb (fst _ (by omega))⟩⟩
      rw [if_neg (by simpa using z3)]
      by_cases z3' : at' = 0
      ·rw [if_pos (by simpa using z3')]
       exact wpS_pure ⟨g3,.inl ⟨_,_,rfl,hm4.doneB sa z3'⟩⟩
      rw [if_neg (by simpa using z3')]
      refine wpS_bind (zaT (show na2 - 1 < a.size by omega) ?_)
      have hm5:=hm4.pa sa (by omega) (by omega) fun y hy=>le_trans (zdp sb (by omega) (by omega) y hy) (lt5 (by omega))
      by_cases z4 : na2 - 1 = 0
      ·rw [if_pos (by simpa using z4)]
       exact wpS_pure ⟨g3,.inl ⟨_,_,rfl,hm5.done sb z4⟩⟩
      ·rw [if_neg (by simpa using z4)]
       split
       ·exact wpS_pure ⟨g3,.inr ⟨_,_,_,_,_,_,rfl,hm5,by omega,by omega,by omega,by omega,by omega⟩⟩
       ·exact wpS_pure ⟨g3,_,_,_,_,_,_,rfl,hm5,by omega,by omega,by omega,by omega,by omega⟩
     ·rw [if_neg hk']
      have e0 : at' = nb1 - 1:=by omega
      subst e0
      replace hm4:=hm3
      refine wpS_bind (zaT (show na2 - 1 < a.size by omega) ?_)
      have hm5:=hm4.pa sa (by omega) (by omega) fun y hy=>le_trans (zdp sb (by omega) (by omega) y hy) (lt5 (by omega))
      by_cases z4 : na2 - 1 = 0
      ·rw [if_pos (by simpa using z4)]
       exact wpS_pure ⟨g3,.inl ⟨_,_,rfl,hm5.done sb z4⟩⟩
      ·rw [if_neg (by simpa using z4)]
       split
       ·exact wpS_pure ⟨g3,.inr ⟨_,_,_,_,_,_,rfl,hm5,by omega,by omega,by omega,by omega,by omega⟩⟩
       ·exact wpS_pure ⟨g3,_,_,_,_,_,_,rfl,hm5,by omega,by omega,by omega,by omega,by omega⟩
end
end Tim
namespace Tim
open PySem PyProof.Rows
set_option autoImplicit false
section
variable {κ : KeyKind}
def seg (xs : Array Keyed) (lo n : Nat) : List Keyed:=(xs.toList.drop lo).take n
theorem zdT {xs : Array Keyed} {lo n i : Nat} (h : lo + n≤xs.size) (hi : i < n) : (seg xs lo n)[i]? = xs[lo + i]?:=by
 unfold seg
 rw [yb7,if_pos hi,yb8,yaS]
theorem zbC {xs : Array Keyed} {lo n : Nat} (h : lo + n≤xs.size) : (seg xs lo n).length = n:=by
 unfold seg
 rw [yar,yaG,yao]
 omega
theorem zkb {xs : Array Keyed} {lo n : Nat} (h : lo + n≤xs.size) (hU : Up κ xs lo (lo + n)) : SL κ (seg xs lo n):=by
 rw [SL,ybw]
 intro i j hi hj hij
 have hi':=hi
 have hj':=hj
 rw [zbC h] at hi' hj'
 have e1 : (seg xs lo n)[i] = xs[lo + i]'(by omega):=by
  have:=zdT h hi'
  rw [yad hi,yaQ (by omega)] at this
  exact yai this
 have e2 : (seg xs lo n)[j] = xs[lo + j]'(by omega):=by
  have:=zdT h hj'
  rw [yad hj,yaQ (by omega)] at this
  exact yai this
 rw [e1,e2]
 have:=hU (lo + i) (lo + j) (by omega) (by omega) (by omega)
 rw [zaW (by omega),zaW (by omega)] at this
 exact this
theorem zhh {xs : Array Keyed} {lo n m : Nat} : seg xs lo (n + m) = seg xs lo n ++ seg xs (lo + n) m:=by
 unfold seg
 rw [List.take_add,ybN]
theorem zeX {xs : Array Keyed} {lo n : Nat} : (xs.extract lo (lo + n)).toList = seg xs lo n:=zdv
theorem zh0 {xs : Array Keyed} {lo n : Nat} (h : lo + n≤xs.size) : xs.toList = xs.toList.take lo ++ (seg xs lo n ++ xs.toList.drop (lo + n)):=by
 unfold seg
 rw [← ybN,yaX,yaX]
def back (xs : Array Keyed) (lo : Nat) (m : Array Keyed) : Array Keyed:=m.toList.zipIdx.foldl (fun a (q : Keyed×Nat)=>a.setIfInBounds (lo + q.2) q.1) xs
theorem zgy (lo : Nat) : ∀ (l : List Keyed) (k : Nat) (xs : Array Keyed),lo + k + l.length≤xs.size→∀ i : Nat,
  ((l.zipIdx k).foldl (fun a (q : Keyed×Nat)=>a.setIfInBounds (lo + q.2) q.1) xs)[i]? = if lo + k≤i∧i < lo + k + l.length then l[i - (lo + k)]? else xs[i]?
 | [],k,xs,h,i=>by
  rw [if_neg (by simp only [ybi]; omega)]
  rfl
 | x :: l,k,xs,h,i=>by
  rw [yav] at h
  rw [List.zipIdx_cons,List.foldl_cons,zgy lo l (k + 1) (xs.setIfInBounds (lo + k) x) (by rw [Array.size_setIfInBounds]; omega) i,yav]
  by_cases h1 : lo + (k + 1)≤i∧i < lo + (k + 1) + l.length
  ·rw [if_pos h1,if_pos (by omega),show i - (lo + k) = (i - (lo + (k + 1))) + 1 by omega,yb9]
  ·rw [if_neg h1,Array.getElem?_setIfInBounds]
   by_cases h2 : lo + k = i
   ·rw [if_pos h2,if_pos (by omega),if_pos (by omega)]
    subst h2
    simp
   ·rw [if_neg h2,if_neg (by omega)]
theorem zi8 {xs m : Array Keyed} {lo : Nat} (h : lo + m.size≤xs.size) : (back xs lo m).toList = xs.toList.take lo ++ (m.toList ++ xs.toList.drop (lo + m.size)):=by
 apply List.ext_getElem?
 intro i
 have q:=zgy lo m.toList 0 xs (by rw [yao]; omega) i
 unfold back
 rw [yaS,q,yao,Nat.add_zero]
 have l1 : (xs.toList.take lo).length = lo:=by rw [yar,yao]; omega
 by_cases h1 : i < lo
 ·rw [if_neg (by omega),yaO (by rw [l1]; exact h1),yb7,if_pos h1,yaS]
 ·rw [yaL (by rw [l1]; omega),l1]
  by_cases h2 : i < lo + m.size
  ·rw [if_pos (by omega),yaO (by rw [yao]; omega)]
  ·rw [if_neg (by omega),yaL (by rw [yao]; omega),yao,yb8,show lo + m.size + (i - lo - m.size) = i by omega,yaS]
theorem zdl {xs m : Array Keyed} {lo : Nat} (h : lo + m.size≤xs.size) (i : Nat) : (back xs lo m)[i]? = if lo≤i∧i < lo + m.size then m[i - lo]? else xs[i]?:=by
 have q:=zgy lo m.toList 0 xs (by rw [yao]; omega) i
 rw [yao,Nat.add_zero,yaS] at q
 exact q
theorem zeW {xs : Array Keyed} {lo n : Nat} {p : Keyed} (h : lo + n≤xs.size) (hp : p∈seg xs lo n) : ∃ q,lo≤q∧q < lo + n∧xs[q]? = some p:=by
 obtain ⟨i,hi,e⟩:=ya9 hp
 have hi':=hi
 rw [zbC h] at hi'
 refine ⟨lo + i,by omega,by omega,?_⟩
 rw [← zdT h hi',yad hi,e]
theorem zhs {xs m : Array Keyed} {sa na nb k nb' : Nat} (hz : sa + na + nb≤xs.size) (ua : Up κ xs sa (sa + na)) (ub : Up κ xs (sa + na) (sa + na + nb)) (hk : k < na) (hnb : nb'≤nb) (hb0 : 0 < nb')
  (k2 : ∀ i,i < k→κ.kle (kAt κ xs (sa + i)) (kAt κ xs (sa + na))) (c3 : ∀ i,nb'≤i→i < nb→κ.kle (kAt κ xs (sa + na - 1)) (kAt κ xs (sa + na + i)))
  (hm : zbu κ (xs.extract (sa + k) (sa + na)) (xs.extract (sa + na) (sa + na + nb')) m) :
  Off xs (back xs (sa + k) m) sa (sa + (na + nb))∧Up κ (back xs (sa + k) m) sa (sa + (na + nb)):=by
 have ex : (xs.extract (sa + k) (sa + na)).toList = seg xs (sa + k) (na - k):=by
  have:=zeX (xs:=xs) (lo:=sa + k) (n:=na - k)
  rwa [show sa + k + (na - k) = sa + na by omega] at this
 have ey : (xs.extract (sa + na) (sa + na + nb')).toList = seg xs (sa + na) nb':=zeX
 have hp:=hm.perm
 rw [ex,ey] at hp
 have ms : m.size = na - k + nb':=by
  have:=hp.length_eq
  rw [yao,yae,zbC (by omega),zbC (by omega)] at this
  exact this
 have hzm : sa + k + m.size≤xs.size:=by omega
 have bl:=zi8 hzm
 have mid : seg xs (sa + k) m.size = seg xs (sa + k) (na - k) ++ seg xs (sa + na) nb':=by
  rw [ms,zhh,show sa + k + (na - k) = sa + na by omega]
 have perm : (back xs (sa + k) m).toList.Perm xs.toList:=by
  have e:=zh0 hzm
  rw [mid] at e
  refine (List.Perm.of_eq bl).trans (List.Perm.trans ?_ (List.Perm.of_eq e.symm))
  exact List.Perm.append_left _ (List.Perm.append_right _ hp)
 have inm : ∀ i,sa + k≤i→i < sa + k + m.size→∃ q,sa + k≤q∧q < sa + na + nb'∧kAt κ (back xs (sa + k) m) i = kAt κ xs q:=by
  intro i h1 h2
  have g:=zdl hzm i
  rw [if_pos ⟨h1,h2⟩,yaQ (show i - (sa + k) < m.size by omega)] at g
  have hmem : m[i - (sa + k)]'(by omega)∈m.toList:=by simp
  rcases yaf.mp (hp.mem_iff.mp hmem) with z | z
  ·obtain ⟨q,q1,q2,e⟩:=zeW (by omega) z
   exact ⟨q,q1,by omega,za7 (g.trans e.symm)⟩
  ·obtain ⟨q,q1,q2,e⟩:=zeW (by omega) z
   exact ⟨q,by omega,q2,za7 (g.trans e.symm)⟩
 have outm : ∀ i,(i < sa + k∨sa + k + m.size≤i)→kAt κ (back xs (sa + k) m) i = kAt κ xs i:=fun i h=>za7 (by rw [zdl hzm,if_neg (by omega)])
 have am : ∀ i q,sa≤i→i < sa + k→sa + k≤q→q < sa + na + nb→κ.kle (kAt κ xs i) (kAt κ xs q):=fun i q h1 h2 h3 h4=>by
  by_cases z : q < sa + na
  ·exact ua i q h1 (by omega) z
  ·have t:=k2 (i - sa) (by omega)
   rw [show sa + (i - sa) = i by omega] at t
   exact KeyOrd.kle_trans t (ub _ q (yab _) (by omega) h4)
 have mc : ∀ q j,sa + k≤q→q < sa + na + nb'→sa + na + nb'≤j→j < sa + na + nb→κ.kle (kAt κ xs q) (kAt κ xs j):=fun q j h1 h2 h3 h4=>by
  by_cases z : q < sa + na
  ·have t:=c3 (j - (sa + na)) (by omega) (by omega)
   rw [show sa + na + (j - (sa + na)) = j by omega] at t
   exact KeyOrd.kle_trans (ua q (sa + na - 1) (by omega) (by omega) (by omega)) t
  ·exact ub q j (by omega) (by omega) h4
 refine ⟨⟨yb4.mpr perm,fun i hi=>by rw [zdl hzm,if_neg (by omega)]⟩,fun i j h1 h2 h3=>?_⟩
 by_cases i1 : i < sa + k
 ·rw [outm i (.inl i1)]
  by_cases j1 : j < sa + k
  ·rw [outm j (.inl j1)]; exact ua i j h1 h2 (by omega)
  ·by_cases j2 : j < sa + k + m.size
   ·obtain ⟨q,q1,q2,e⟩:=inm j (by omega) j2
    rw [e]; exact am i q h1 i1 q1 (by omega)
   ·rw [outm j (.inr (by omega))]; exact am i j h1 i1 (by omega) (by omega)
 ·by_cases i2 : i < sa + k + m.size
  ·by_cases j2 : j < sa + k + m.size
   ·by_cases e : i = j
    ·subst e; exact KeyOrd.kle_refl _
    ·have gi:=zdl hzm i
     have gj:=zdl hzm j
     rw [if_pos ⟨by omega,i2⟩] at gi
     rw [if_pos ⟨by omega,j2⟩] at gj
     rw [za7 gi,za7 gj,zaW (show i - (sa + k) < m.size by omega),zaW (show j - (sa + k) < m.size by omega)]
     have:=ybw.mp hm.srt (i - (sa + k)) (j - (sa + k)) (by rw [yao]; omega) (by rw [yao]; omega) (by omega)
     simpa [le] using this
   ·obtain ⟨q,q1,q2,e⟩:=inm i (by omega) i2
    rw [e,outm j (.inr (by omega))]; exact mc q j q1 q2 (by omega) (by omega)
  ·rw [outm i (.inr (by omega)),outm j (.inr (by omega))]; exact ub i j (by omega) h2 (by omega)
theorem zhJ {xs : Array Keyed} {sa na nb : Nat} (ua : Up κ xs sa (sa + na)) (ub : Up κ xs (sa + na) (sa + na + nb)) (hna : 0 < na) (hle : κ.kle (kAt κ xs (sa + na - 1)) (kAt κ xs (sa + na))) : Up κ xs sa (sa + (na + nb)):=by
 intro i j h1 h2 h3
 by_cases z : j < sa + na
 ·exact ua i j h1 h2 z
 ·by_cases y : i < sa + na
  ·exact KeyOrd.kle_trans (ua i (sa + na - 1) h1 (by omega) (by omega)) (KeyOrd.kle_trans hle (ub (sa + na) j (yab _) (by omega) (by omega)))
  ·exact ub i j (by omega) h2 (by omega)
end
end Tim
namespace Tim
open PySem PyProof.Rows
set_option autoImplicit false
theorem zgi (i : Nat) : mergeAt' i = (do
 let s ← get
 let (some (sa,na,power),some (sb,nb,_)):=((pendingOf s)[i]?,(pendingOf s)[i + 1]?) | unsupported "internal:list.sort.pending"
 set (setPending s (((pendingOf s).setIfInBounds i (sa,na + nb,power)).eraseIdxIfInBounds (i + 1)))
 let some k ← zgs false (← elem' (arrOf s) sb) (arrOf s) sa na 0 | return false
 let (sa,na):=(sa + k,na - k)
 if na == 0 then return true
 let some nb ← zgs true (← elem' (arrOf s) (sa + na - 1)) (arrOf s) sb nb (nb - 1) | return false
 if nb == 0 then return true
 let x:=(arrOf s).extract sa sb
 let y:=(arrOf s).extract sb (sb + nb)
 let merged ← if na≤nb then zgV x y else zgW x y
 modify fun s=>setArr s (merged.toList.zipIdx.foldl (fun a (p,j)=>a.setIfInBounds (sa + j) p) (arrOf s))
 return (failedOf (← get)).isNone):=rfl
section
variable {prog : Program} {w : World} {A : Around} {E : Value→Shared→Prop} {s : Shared} {κ : KeyKind} {kd : SortKind}
theorem zkv {σ : Type} {x : σ} {Q : PUnit→σ→Prop} {st : σ} (h : Q ⟨⟩ x) : wpS (model prog w) A E s (set x : StateT σ Sem PUnit) Q st:=by
 unfold wpS; rw [StateT.run_set]; exact wpAny_pure ⟨rfl,h⟩
set_option maxHeartbeats 4000000 in
theorem zhb {st : SortSt} {N i sa na pa nb pb : Nat} {Q : Bool→SortSt→Prop} (hO : LtG prog w A s κ kd) (hB : TB κ kd N st)
  (h1 : (pendingOf st)[i]? = some (sa,na,pa)) (h2 : (pendingOf st)[i + 1]? = some (sa + na,nb,pb)) (hna : 0 < na) (hnb : 0 < nb) (hz : sa + na + nb≤N)
  (ua : Up κ (arrOf st) sa (sa + na)) (ub : Up κ (arrOf st) (sa + na) (sa + na + nb))
  (h : ∀ st',TB κ kd N st'→Off (arrOf st) (arrOf st') sa (sa + (na + nb))→Up κ (arrOf st') sa (sa + (na + nb))→pendingOf st' = ((pendingOf st).setIfInBounds i (sa,na + nb,pa)).eraseIdxIfInBounds (i + 1)→Q true st') :
  wpS (model prog w) A E s (mergeAt' i) Q st:=by
 have hsz:=hB.size
 rw [zgi]
 refine wpS_bind (wpS_get ?_)
 rw [h1,h2]
 dsimp only
 refine wpS_bind (zkv ?_)
 generalize hp : ((pendingOf st).setIfInBounds i (sa,na + nb,pa)).eraseIdxIfInBounds (i + 1) = pend at h
 have same : ∀ st',SG (setPending st pend) st'→TB κ kd N st'∧arrOf st' = arrOf st∧pendingOf st' = pend:=fun st' g=>by
  have ga : arrOf st' = arrOf st:=g.arr
  refine ⟨⟨g.kind.trans hB.kind,by rw [ga]; exact hB.keys,g.failed.trans hB.failed,by rw [ga]; exact hB.size⟩,ga,g.pend⟩
 obtain ⟨B0,_,_⟩:=same _ (SG.refl _)
 have hbz : sa + na < (arrOf st).size:=by omega
 refine wpS_bind (zaT hbz ?_)
 refine wpS_bind (zbV hO B0.kind (hB.keys _ (by simp)) hB.keys (by omega) hna ua fun k k1 k2 k3=>?_)
 dsimp only
 have kk : kAt κ (arrOf st) (sa + na) = ky κ (arrOf st)[sa + na]:=zaW hbz
 have k2' : ∀ i,i < k→κ.kle (kAt κ (arrOf st) (sa + i)) (kAt κ (arrOf st) (sa + na)):=fun i hi=>by
  have:=k2 i hi
  unfold bey at this
  simp only [yaE,if_false,ybz] at this
  rw [kk]
  exact this
 have k3' : ∀ i,k≤i→i < na→κ.klt (kAt κ (arrOf st) (sa + na)) (kAt κ (arrOf st) (sa + i)):=fun i hi hj=>by
  have:=k3 i hi hj
  unfold bey at this
  simp only [yaE,if_false,yb6] at this
  rw [kk]
  exact this
 by_cases e1 : na - k = 0
 ·rw [if_pos (by simpa using e1)]
  obtain ⟨b1,b2,b3⟩:=same _ (SG.refl _)
  refine wpS_pure (h _ b1 (by rw [b2]; exact Off.refl _ _ _) ?_ b3)
  rw [b2]
  refine zhJ ua ub hna ?_
  have:=k2' (na - 1) (by omega)
  rwa [show sa + (na - 1) = sa + na - 1 by omega] at this
 rw [if_neg (by simpa using e1)]
 have e2 : sa + k + (na - k) - 1 = sa + na - 1:=by omega
 have hlz : sa + k + (na - k) - 1 < (arrOf st).size:=by omega
 refine wpS_bind (zaT hlz ?_)
 refine wpS_bind (zbV hO B0.kind (hB.keys _ (by simp)) hB.keys (by omega) (by omega) ub fun c c1 c2 c3=>?_)
 dsimp only
 have ck : ky κ ((arrOf st)[sa + k + (na - k) - 1]'hlz) = kAt κ (arrOf st) (sa + na - 1):=by
  rw [← zaW hlz,e2]
 have c2' : ∀ i,i < c→κ.klt (kAt κ (arrOf st) (sa + na + i)) (kAt κ (arrOf st) (sa + na - 1)):=fun i hi=>by
  have:=c2 i hi
  unfold bey at this
  simp only [if_true] at this
  rw [← ck]
  exact this
 have c3' : ∀ i,c≤i→i < nb→κ.kle (kAt κ (arrOf st) (sa + na - 1)) (kAt κ (arrOf st) (sa + na + i)):=fun i hi hj=>by
  have:=c3 i hi hj
  unfold bey at this
  simp only [if_true] at this
  rw [← ck]
  exact this
 by_cases e3 : c = 0
 ·rw [if_pos (by simpa using e3)]
  obtain ⟨b1,b2,b3⟩:=same _ (SG.refl _)
  refine wpS_pure (h _ b1 (by rw [b2]; exact Off.refl _ _ _) ?_ b3)
  rw [b2]
  exact zhJ ua ub hna (c3' 0 (by omega) hnb)
 rw [if_neg (by simpa using e3)]
 generalize hX : (arrOf st).extract (sa + k) (sa + na) = X
 generalize hY : (arrOf st).extract (sa + na) (sa + na + c) = Y
 have xl : X.toList = seg (arrOf st) (sa + k) (na - k):=by
  have:=zeX (xs:=arrOf st) (lo:=sa + k) (n:=na - k)
  rw [← hX]
  rwa [show sa + k + (na - k) = sa + na by omega] at this
 have yl : Y.toList = seg (arrOf st) (sa + na) c:=by rw [← hY]; exact zeX
 have xz : X.size = na - k:=by
  have:=congrArg List.length xl
  rwa [yao,zbC (by omega)] at this
 have yz : Y.size = c:=by
  have:=congrArg List.length yl
  rwa [yao,zbC (by omega)] at this
 have xg : ∀ i (hi : i < X.size),X[i] = (arrOf st)[sa + k + i]'(by omega):=fun i hi=>by
  have e : X[i]? = (arrOf st)[sa + k + i]?:=by
   rw [← yaS,xl]
   exact zdT (by omega) (by omega)
  rw [yaQ hi,yaQ (by omega)] at e
  exact yai e
 have yg : ∀ i (hi : i < Y.size),Y[i] = (arrOf st)[sa + na + i]'(by omega):=fun i hi=>by
  have e : Y[i]? = (arrOf st)[sa + na + i]?:=by
   rw [← yaS,yl]
   exact zdT (by omega) (by omega)
  rw [yaQ hi,yaQ (by omega)] at e
  exact yai e
 have xm : ∀ q∈X.toList,∃ i,k≤i∧i < na∧ky κ q = kAt κ (arrOf st) (sa + i)∧q∈(arrOf st).toList:=fun q hq=>by
  rw [xl] at hq
  obtain ⟨j,j1,j2,e⟩:=zeW (by omega) hq
  refine ⟨j - sa,by omega,by omega,?_,?_⟩
  ·rw [show sa + (j - sa) = j by omega,zb9 e]
  ·rw [← yaS] at e
   exact yaW e
 have ym : ∀ q∈Y.toList,∃ i,i < c∧ky κ q = kAt κ (arrOf st) (sa + na + i)∧q∈(arrOf st).toList:=fun q hq=>by
  rw [yl] at hq
  obtain ⟨j,j1,j2,e⟩:=zeW (by omega) hq
  refine ⟨j - (sa + na),by omega,?_,?_⟩
  ·rw [show sa + na + (j - (sa + na)) = j by omega,zb9 e]
  ·rw [← yaS] at e
   exact yaW e
 have kX : ∀ q∈X.toList,Keyd κ q:=fun q hq=>by obtain ⟨_,_,_,_,z⟩:=xm q hq; exact hB.keys q z
 have kY : ∀ q∈Y.toList,Keyd κ q:=fun q hq=>by obtain ⟨_,_,_,z⟩:=ym q hq; exact hB.keys q z
 have sX : SL κ X.toList:=by
  rw [xl]
  exact zkb (by omega) (fun i j q1 q2 q3=>ua i j (by omega) q2 (by omega))
 have sY : SL κ Y.toList:=by
  rw [yl]
  exact zkb (by omega) (fun i j q1 q2 q3=>ub i j q1 q2 (by omega))
 have y0 : ∀ (hb : 0 < Y.size),ky κ Y[0] = kAt κ (arrOf st) (sa + na):=fun hb=>by
  rw [yg 0 hb,← zaW]
  rfl
 have lo0 : ∀ (hb : 0 < Y.size),∀ q∈X.toList,le κ Y[0] q:=fun hb q hq=>by
  obtain ⟨i,i1,i2,e,_⟩:=xm q hq
  unfold le
  rw [y0 hb,e]
  exact KeyOrd.kle_of_klt (k3' i i1 i2)
 have xlast : ∀ (ha : X.size - 1 < X.size),ky κ X[X.size - 1] = kAt κ (arrOf st) (sa + na - 1):=fun ha=>by
  rw [xg _ ha,← zaW]
  congr 1
  omega
 have hi0 : ∀ (ha : X.size - 1 < X.size),∀ q∈Y.toList,le κ q X[X.size - 1]:=fun ha q hq=>by
  obtain ⟨i,i1,e,_⟩:=ym q hq
  unfold le
  rw [xlast ha,e]
  exact KeyOrd.kle_of_klt (c2' i i1)
 have fin : ∀ m st',zbu κ X Y m→SG (setPending st pend) st'→wpS (model prog w) A E s (do
   modify fun s=>setArr s (m.toList.zipIdx.foldl (fun a (q : Keyed×Nat)=>a.setIfInBounds (sa + k + q.2) q.1) (arrOf s))
   return (failedOf (← get)).isNone) Q st':=fun m st' hm g=>by
  obtain ⟨b1,b2,b3⟩:=same _ g
  refine wpS_bind (wpS_modify ?_)
  refine wpS_bind (wpS_get ?_)
  have hf : failedOf (setArr st' (m.toList.zipIdx.foldl (fun a (q : Keyed×Nat)=>a.setIfInBounds (sa + k + q.2) q.1) (arrOf st'))) = none:=b1.failed
  rw [hf]
  rw [← hX,← hY] at hm
  obtain ⟨o1,o2⟩:=zhs (by omega) ua ub (by omega) c1 (by omega) k2' c3' hm
  refine wpS_pure (h _ ?_ ?_ ?_ b3)
  ·refine b1.off (lo:=sa) (hi:=sa + (na + nb)) ?_
   rw [b2]
   exact o1
  ·show Off (arrOf st) (back (arrOf st') (sa + k) m) _ _
   rw [b2]
   exact o1
  ·show Up κ (back (arrOf st') (sa + k) m) _ _
   rw [b2]
   exact o2
 by_cases e4 : na - k≤c
 ·rw [if_pos e4]
  refine wpS_bind ?_
  refine zg9 hO B0.kind kX kY sX sY (by omega) (by omega) (lo0 _) ?_ fun m st' hm g=>fin m st' hm g
  intro q hq i hi x hx
  have : x = X[X.size - 1]'(by omega):=by
   rw [show i = X.size - 1 by omega,zdi (by omega),ya8 (by rw [yao]; omega)] at hx
   exact yag.mp hx
  rw [this]
  exact hi0 _ q hq
 ·rw [if_neg e4]
  refine wpS_bind ?_
  exact zha hO B0.kind kX kY sX sY (by omega) (by omega) (lo0 _) (hi0 (by omega)) fun m st' hm g=>fin m st' hm g
end
end Tim
namespace Tim
open PySem PyProof.Rows
set_option autoImplicit false
section
variable {κ : KeyKind} {xs ys : Array Keyed}
def Runs (κ : KeyKind) (xs : Array Keyed) : List (Nat×Nat×Nat)→Nat→Nat→Prop
 | [],a,b=>a = b
 | (s,n,_) :: r,a,b=>s = a∧0 < n∧Up κ xs a (a + n)∧Runs κ xs r (a + n) b
theorem Runs.le : ∀ {l : List (Nat×Nat×Nat)} {a b : Nat},Runs κ xs l a b→a + l.length≤b
 | [],_,_,h=>by rw [show _ = _ from h]; simp
 | (s,n,p) :: r,a,b,⟨_,h1,_,h2⟩=>by
  have:=Runs.le h2
  rw [yav]
  omega
theorem Runs.split : ∀ {l m : List (Nat×Nat×Nat)} {a b : Nat},Runs κ xs (l ++ m) a b→∃ c,Runs κ xs l a c∧Runs κ xs m c b
 | [],m,a,b,h=>⟨a,rfl,h⟩
 | (s,n,p) :: r,m,a,b,⟨h0,h1,h2,h3⟩=>by
  obtain ⟨c,c1,c2⟩:=Runs.split (l:=r) h3
  exact ⟨c,⟨h0,h1,h2,c1⟩,c2⟩
theorem Runs.glue : ∀ {l m : List (Nat×Nat×Nat)} {a b c : Nat},Runs κ xs l a c→Runs κ xs m c b→Runs κ xs (l ++ m) a b
 | [],m,a,b,c,h,g=>by rw [show a = c from h]; exact g
 | (s,n,p) :: r,m,a,b,c,⟨h0,h1,h2,h3⟩,g=>⟨h0,h1,h2,Runs.glue h3 g⟩
theorem Up.off {lo hi a b : Nat} (h : Up κ xs a b) (o : Off xs ys lo hi) (d : b≤lo∨hi≤a) : Up κ ys a b:=fun i j h1 h2 h3=>by
 rw [zgm o (by omega),zgm o (by omega)]
 exact h i j h1 h2 h3
theorem Runs.off {lo hi : Nat} (o : Off xs ys lo hi) : ∀ {l : List (Nat×Nat×Nat)} {a b : Nat},Runs κ xs l a b→(b≤lo∨hi≤a)→Runs κ ys l a b
 | [],_,_,h,_=>h
 | (s,n,p) :: r,a,b,⟨h0,h1,h2,h3⟩,d=>by
  have:=Runs.le h3
  exact ⟨h0,h1,h2.off o (by omega),Runs.off o h3 (by omega)⟩
theorem zfA {α : Type} {x y v : α} {post : List α} : ∀ pre : List α,((pre ++ x :: y :: post).set pre.length v).eraseIdx (pre.length + 1) = pre ++ v :: post
 | []=>rfl
 | p :: pre=>by
  rw [List.cons_append,yav,List.set_cons_succ,List.eraseIdx_cons_succ,zfA pre,List.cons_append]
end
section
variable {prog : Program} {w : World} {A : Around} {E : Value→Shared→Prop} {s : Shared} {κ : KeyKind} {kd : SortKind}
structure SI (κ : KeyKind) (kd : SortKind) (a₀ : Array Keyed) (lo : Nat) (st : SortSt) : Prop where
 tb : TB κ kd a₀.size st
 perm : (arrOf st).Perm a₀
 le : lo≤a₀.size
 runs : Runs κ (arrOf st) (pendingOf st).toList 0 lo
theorem zcd {a₀ : Array Keyed} {st : SortSt} {lo i : Nat} {Q : Bool→SortSt→Prop} (hO : LtG prog w A s κ kd) (hI : SI κ kd a₀ lo st) (hi : i + 1 < (pendingOf st).size)
  (h : ∀ st',SI κ kd a₀ lo st'→Off (arrOf st) (arrOf st') 0 lo→(pendingOf st').size + 1 = (pendingOf st).size→Q true st') : wpS (model prog w) A E s (mergeAt' i) Q st:=by
 have hl : (pendingOf st).toList.length = (pendingOf st).size:=yao
 obtain ⟨pre,x,y,post,e,hp⟩ : ∃ pre x y post,(pendingOf st).toList = pre ++ x :: y :: post∧pre.length = i:=by
  refine ⟨(pendingOf st).toList.take i,(pendingOf st).toList[i]'(by omega),(pendingOf st).toList[i + 1]'(by omega),(pendingOf st).toList.drop (i + 2),?_,?_⟩
  ·rw [← yb5,← yb5,yaX]
  ·rw [yar]
   omega
 obtain ⟨sa,na,pa⟩:=x
 obtain ⟨sb,nb,pb⟩:=y
 have hr:=hI.runs
 rw [e] at hr
 obtain ⟨c,r1,h0,h1,ua,h2,h3,ub,r2⟩:=hr.split
 subst h0 h2
 have l1:=r2.le
 have l0:=hI.le
 have g1 : (pendingOf st)[i]? = some (sa,na,pa):=by
  rw [← yaS,e,← hp]
  simp
 have g2 : (pendingOf st)[i + 1]? = some (sa + na,nb,pb):=by
  rw [← yaS,e,← hp,yaL (by omega),show pre.length + 1 - pre.length = 1 by omega]
  rfl
 refine zhb hO hI.tb g1 g2 h1 h3 (by omega) ua ub fun st' b1 b2 b3 b4=>?_
 have e' : (pendingOf st').toList = pre ++ (sa,na + nb,pa) :: post:=by
  rw [b4,Array.toList_eraseIdxIfInBounds,Array.toList_setIfInBounds,e,← hp]
  exact zfA pre
 refine h st' ⟨b1,b2.perm.trans hI.perm,hI.le,?_⟩ (b2.wide (yaF _) (by omega)) ?_
 ·rw [e']
  refine (r1.off b2 (.inl (yab _))).glue ⟨rfl,by omega,b3,?_⟩
  have:=r2.off b2 (.inr (by omega))
  rwa [show sa + na + nb = sa + (na + nb) by omega] at this
 ·have z1:=congrArg List.length e
  have z2:=congrArg List.length e'
  rw [yao,yae,yav] at z1 z2
  rw [yav] at z1
  omega
end
end Tim
namespace Tim
open PySem PyProof.Rows
set_option autoImplicit false
section
variable {prog : Program} {w : World} {A : Around} {E : Value→Shared→Prop} {s : Shared} {κ : KeyKind} {kd : SortKind}
theorem Runs.modify {xs : Array Keyed} {p : Nat} : ∀ {l : List (Nat×Nat×Nat)} {a b : Nat} (i : Nat),Runs κ xs l a b→Runs κ xs (l.modify i fun x=>(x.fst,x.2.fst,p)) a b
 | [],_,_,i,h=>by
  cases i <;> exact h
 | (s,n,q) :: r,a,b,0,h=>h
 | (s,n,q) :: r,a,b,i + 1,⟨h0,h1,h2,h3⟩=>⟨h0,h1,h2,Runs.modify i h3⟩
theorem SI.setp {a₀ : Array Keyed} {lo hi : Nat} {st : SortSt} {p : Array (Nat×Nat×Nat)} (hI : SI κ kd a₀ lo st) (hz : hi≤a₀.size) (hr : Runs κ (arrOf st) p.toList 0 hi) : SI κ kd a₀ hi (setPending st p):=
 ⟨⟨hI.tb.kind,hI.tb.keys,hI.tb.failed,hI.tb.size⟩,hI.perm,hz,hr⟩
theorem SI.pushed {a₀ : Array Keyed} {st : SortSt} {lo n : Nat} (hI : SI κ kd a₀ lo st) (hn : 0 < n) (hz : lo + n≤a₀.size) (hU : Up κ (arrOf st) lo (lo + n)) : SI κ kd a₀ (lo + n) (setPending st ((pendingOf st).push (lo,n,0))):=by
 refine hI.setp hz ?_
 rw [ybx]
 exact hI.runs.glue ⟨rfl,hn,hU,rfl⟩
theorem SI.marked {a₀ : Array Keyed} {st : SortSt} {lo p : Nat} (hI : SI κ kd a₀ lo st) : SI κ kd a₀ lo (setPending st ((pendingOf st).modify ((pendingOf st).size - 1) fun x=>(x.fst,x.2.fst,p))):=by
 refine hI.setp hI.le ?_
 rw [Array.toList_modify]
 exact hI.runs.modify _
theorem zjf {c : Prop} [Decidable c] {n : Nat} (h : 2≤n) : (if c then n - 2 - 1 else n - 2) + 1 < n:=by
 split <;> omega
theorem zf6 {a₀ : Array Keyed} {st : SortSt} {Q : Unit→SortSt→Prop} (hO : LtG prog w A s κ kd) (hI : SI κ kd a₀ 0 st) (h2 : 2≤a₀.size)
  (h : ∀ st',(arrOf st').Perm a₀→failedOf st' = none→Up κ (arrOf st') 0 a₀.size→Q () st') : wpS (model prog w) A E s sortRuns' Q st:=by
 rw [sortRuns'_eq]
 refine wpS_bind (wpS_get ?_)
 dsimp only
 simp only [hI.tb.size]
 generalize minRun' a₀.size a₀.size 0 = mr
 refine wpS_bind (wpS_mono (wpS_forRange (I:=fun x c st'=>∃ lo,c = (none,lo)∧x≤lo∧SI κ kd a₀ lo st') (Q:=fun c st'=>c = (none,a₀.size)∧SI κ kd a₀ a₀.size st') ?step ?fin ⟨0,rfl,yab _,hI⟩) ?post)
 case fin=>
  rintro c st' ⟨lo,rfl,hx,hI'⟩
  have e : lo = a₀.size:=by
   have:=hI'.le
   omega
  subst e
  exact ⟨rfl,hI'⟩
 case step=>
  rintro x c st' _ hx ⟨lo,rfl,hxl,hI'⟩
  have hle:=hI'.le
  dsimp only
  by_cases hlo : lo ≥ a₀.size
  ·rw [if_pos hlo]
   have e : lo = a₀.size:=by omega
   subst e
   exact wpS_pure ⟨rfl,hI'⟩
  ·rw [if_neg hlo]
   refine wpS_bind (zf7 hO hI'.tb (by omega) (by omega) fun r st2 hr=>?_)
   obtain ⟨n,ys,rfl,n1,n2,rfl,ho,hU⟩:=hr
   have hI2 : SI κ kd a₀ lo (setArr st' ys):=⟨hI'.tb.off ho,ho.perm.trans hI'.perm,hle,hI'.runs.off ho (.inl (yab _))⟩
   dsimp only
   by_cases hmr : n < mr
   ·rw [if_pos hmr]
    refine wpS_bind (zb3 (wpS_bind (zeK hO hI2.tb (by omega) (by omega) hU fun zs oz uz=>?_)))
    simp only [ybD,yaE,if_false]
    have hI3 : SI κ kd a₀ lo (setArr st' zs):=⟨hI2.tb.off oz,oz.perm.trans hI2.perm,hle,hI2.runs.off oz (.inl (yab _))⟩
    refine wpS_bind (wpS_get ?_)
    cases hb : (pendingOf (setArr st' zs)).back? with
    | none=>
     dsimp only
     exact wpS_bind (wpS_modify (wpS_pure ⟨_,rfl,by omega,hI3.pushed (by omega) (by omega) uz⟩))
    | some x1=>
     obtain ⟨s1,n1',p1⟩:=x1
     dsimp only
     refine wpS_bind (wpS_mono (wpS_forRange (I:=fun _ c st5=>c = (none,())∧SI κ kd a₀ lo st5∧Up κ (arrOf st5) lo (lo + (min (a₀.size - lo) mr))) (Q:=fun c st5=>c = (none,())∧SI κ kd a₀ lo st5∧Up κ (arrOf st5) lo (lo + (min (a₀.size - lo) mr))) ?_ (fun _ _ z=>z) ⟨rfl,hI3,uz⟩) ?_)
     ·rintro i c st5 _ _ ⟨rfl,hI5,hU5⟩
      refine wpS_bind (wpS_get ?_)
      by_cases h1 : (pendingOf st5).size > 1
      ·rw [if_pos h1,yaQ (by omega)]
       obtain ⟨q1,q2,q3⟩:=(pendingOf st5)[(pendingOf st5).size - 2]'(by omega)
       dsimp only
       split
       ·exact wpS_pure ⟨rfl,hI5,hU5⟩
       ·refine wpS_bind (zcd hO hI5 (by omega) fun st6 h3 h4 _=>?_)
        simp only [ybD,yaE,if_false]
        exact wpS_pure ⟨rfl,h3,hU5.off h4 (.inr (yab _))⟩
      ·rw [if_neg h1]
       exact wpS_pure ⟨rfl,hI5,hU5⟩
     ·rintro c st5 ⟨rfl,hI5,hU5⟩
      dsimp only
      exact wpS_bind (wpS_modify (wpS_bind (wpS_modify (wpS_pure ⟨_,rfl,by omega,SI.pushed (SI.marked hI5) (by omega) (by omega) hU5⟩))))
   ·rw [if_neg hmr]
    refine wpS_bind (wpS_get ?_)
    cases hb : (pendingOf (setArr st' ys)).back? with
    | none=>
     dsimp only
     exact wpS_bind (wpS_modify (wpS_pure ⟨_,rfl,by omega,hI2.pushed (by omega) (by omega) hU⟩))
    | some x1=>
     obtain ⟨s1,n1',p1⟩:=x1
     dsimp only
     refine wpS_bind (wpS_mono (wpS_forRange (I:=fun _ c st5=>c = (none,())∧SI κ kd a₀ lo st5∧Up κ (arrOf st5) lo (lo + n)) (Q:=fun c st5=>c = (none,())∧SI κ kd a₀ lo st5∧Up κ (arrOf st5) lo (lo + n)) ?_ (fun _ _ z=>z) ⟨rfl,hI2,hU⟩) ?_)
     ·rintro i c st5 _ _ ⟨rfl,hI5,hU5⟩
      refine wpS_bind (wpS_get ?_)
      by_cases h1 : (pendingOf st5).size > 1
      ·rw [if_pos h1,yaQ (by omega)]
       obtain ⟨q1,q2,q3⟩:=(pendingOf st5)[(pendingOf st5).size - 2]'(by omega)
       dsimp only
       split
       ·exact wpS_pure ⟨rfl,hI5,hU5⟩
       ·refine wpS_bind (zcd hO hI5 (by omega) fun st6 h3 h4 _=>?_)
        simp only [ybD,yaE,if_false]
        exact wpS_pure ⟨rfl,h3,hU5.off h4 (.inr (yab _))⟩
      ·rw [if_neg h1]
       exact wpS_pure ⟨rfl,hI5,hU5⟩
     ·rintro c st5 ⟨rfl,hI5,hU5⟩
      dsimp only
      exact wpS_bind (wpS_modify (wpS_bind (wpS_modify (wpS_pure ⟨_,rfl,by omega,SI.pushed (SI.marked hI5) (by omega) (by omega) hU5⟩))))
 case post=>
  rintro c st' ⟨rfl,hI'⟩
  dsimp only
  refine wpS_bind (wpS_mono (wpS_forRange (I:=fun x c st''=>c = (none,())∧SI κ kd a₀ a₀.size st''∧(pendingOf st'').size + x≤a₀.size + 1) (Q:=fun c st''=>c = (none,())∧SI κ kd a₀ a₀.size st''∧(pendingOf st'').size≤1) ?_ ?_ ⟨rfl,hI',?_⟩) ?_)
  ·rintro x c st'' _ hx ⟨rfl,hJ,hz⟩
   refine wpS_bind (wpS_get ?_)
   by_cases h1 : (pendingOf st'').size≤1
   ·rw [if_pos h1]
    exact wpS_pure ⟨rfl,hJ,h1⟩
   ·rw [if_neg h1]
    refine wpS_bind (zcd hO hJ ?_ fun st3 h3 _ h4=>?_)
    ·exact zjf (by omega)
    ·simp only [ybD,yaE,if_false]
     exact wpS_pure ⟨rfl,h3,by omega⟩
  ·rintro c st'' ⟨rfl,hJ,hz⟩
   exact ⟨rfl,hJ,by omega⟩
  ·have:=hI'.runs.le
   rw [yao] at this
   omega
  ·rintro c st'' ⟨rfl,hJ,hz⟩
   dsimp only
   refine wpS_pure (h _ hJ.perm hJ.tb.failed ?_)
   have hr:=hJ.runs
   rw [← yao] at hz
   match e : (pendingOf st'').toList,hz,hr with
   | [],_,hr=>
    have : 0 = a₀.size:=hr
    omega
   | [(s1,n1,p1)],_,hr=>
    obtain ⟨_,_,u,z⟩:=hr
    have z : 0 + n1 = a₀.size:=z
    rw [z] at u
    exact u
end
end Tim
namespace Tim
open PySem PyProof.Rows
set_option autoImplicit false
section
variable {prog : Program} {w : World} {A : Around} {E : Value→Shared→Prop} {s : Shared} {κ : KeyKind} {kd : SortKind}
def zel (a : Addr) (h h' : Heap) : Prop:=∀ b o,b≠a→h.get? b = some o→h'.get? b = some o
def keyV (κ : KeyKind) (v : Value) : κ.α:=(κ.keyOf v).getD κ.dflt
theorem zf5 : ∀ vs : List Value,vs.zip vs = vs.map fun v=>(v,v)
 | []=>rfl
 | v :: vs=>by rw [yca,zf5 vs,yaA]
theorem ze8 {vs : List Value} {p : Keyed} (h : p∈(pairsOf vs).toList) : p.1 = p.2∧p.1∈vs:=by
 have e : (pairsOf vs).toList = vs.zip vs:=by
  unfold pairsOf
  simp
 rw [e] at h
 rw [zf5] at h
 obtain ⟨v,hv,rfl⟩:=yaY.mp h
 exact ⟨rfl,hv⟩
theorem zh9 (vs : List Value) : (pairsOf vs).toList.map (·.2) = vs:=by
 have e : (pairsOf vs).toList = vs.zip vs:=by
  unfold pairsOf
  simp
 rw [e,zf5,List.map_map]
 have z : ((fun x : Keyed=>x.2) ∘ fun v : Value=>(v,v)) = id:=rfl
 first
  | rw [z,List.map_id]
  | exact List.map_id vs
theorem zlR {vs : List Value} {xs : Array Keyed} (hp : xs.Perm (pairsOf vs)) (hU : Up κ xs 0 (pairsOf vs).size) :
  (xs.toList.map (·.2)).Perm vs∧(xs.toList.map (·.2)).Pairwise (fun x y=>κ.kle (keyV κ x) (keyV κ y)):=by
 have hpl:=yb4.mp hp
 refine ⟨?_,?_⟩
 ·have:=hpl.map (·.2)
  rwa [zh9] at this
 ·have hs : SL κ xs.toList:=zkY (by rw [hp.size_eq]; exact hU)
  refine List.pairwise_map.mpr (hs.imp_of_mem fun {a b} ha hb hab=>?_)
  have ea:=(ze8 (hpl.mem_iff.mp ha)).1
  have eb:=(ze8 (hpl.mem_iff.mp hb)).1
  unfold le ky at hab
  unfold keyV
  rw [← ea,← eb]
  exact hab
theorem zlD {a : Addr} {vs : List Value} {n : Nat} {P : Fin→Shared→Prop} (ho : s.heap.get? a = some (seqObj "list" vs.toArray n)) (hz : vs.length≤sizeLine) (keys : ∀ v∈vs,∃ k,κ.keyOf v = some k)
  (hlt : ∀ h',zel a s.heap h'→LtG prog w A { s with heap:=h' } κ kd)
  (hkd : ∀ (h' : Heap) (E : Value→Shared→Prop) (Q : SortKind→Shared→Prop),zel a s.heap h'→2≤vs.length→Q kd { s with heap:=h' }→wpAny (model prog w) A (keyKind' vs.toArray) Q E { s with heap:=h' })
  (h : ∀ out : List Value,out.Perm vs→out.Pairwise (fun x y=>κ.kle (keyV κ x) (keyV κ y))→P (.done (.ret .none)) { s with heap:=sortedHeap s.heap a vs out.toArray }) :
  wpAny (model prog w) A (Builtin.«list.sort» ⟨[.ref a],[]⟩) P E s:=by
 rw [list_sort_plain]
 have hlt0 : a < s.heap.objs.size:=yac ho
 refine wpAny_bind (listItems_at ho rfl ?_)
 refine wpAny_bind (listUpdate_at ho rfl ?_ (by simpa using hz) (yaF _))
 obtain ⟨m,ho1⟩ : ∃ m,(s.heap.update a (Obj.mapSeq fun _=>#[])).get? a = some (seqObj "list" #[] m):=⟨_,get?_update_seq ho (fun _=>#[])⟩
 refine wpAny_bind (seqEpoch_at ho1 rfl ?_)
 refine wpAny_bind (wpAny_newTuple ?_ (by simpa using hz))
 refine wpAny_bind (wpAny_newList ?_)
 refine wpAny_holding ?_
 have z1 : (s.heap.update a (Obj.mapSeq fun _=>#[])).objs.size = s.heap.objs.size:=by rw [Heap.size_update]
 have hk : zel a s.heap (((s.heap.update a (Obj.mapSeq fun _=>#[])).push (seqObj "tuple" vs.toArray 0)).push (seqObj "list" #[] 0)):=fun b o hb e=>
  yam _ (yam _ ((ybt _ _ (Ne.symm hb)).trans e))
 have ho6 : (((s.heap.update a (Obj.mapSeq fun _=>#[])).push (seqObj "tuple" vs.toArray 0)).push (seqObj "list" #[] 0)).get? a = some (seqObj "list" #[] m):=yam _ (yam _ ho1)
 show wpAny (model prog w) A _ P E { s with heap:=((s.heap.update a (Obj.mapSeq fun _=>#[])).push (seqObj "tuple" vs.toArray 0)).push (seqObj "list" #[] 0) }
 dsimp only
 have fin : ∀ st' : SortSt,(arrOf st').Perm (pairsOf vs)→failedOf st' = none→Up κ (arrOf st') 0 (pairsOf vs).size→wpAny (model prog w) A (do
   let touched:=(← seqEpoch a) != m
   Builtin.List.listUpdate (.ref a) fun _=>(arrOf st').map (·.2)
   if let some e:=failedOf st' then rule "list.sort.comparison-raised"; throw e
   if touched then rule "list.sort.modified"; raiseError "ValueError" "list modified during sort"
   ret .none) P E { s with heap:=((s.heap.update a (Obj.mapSeq fun _=>#[])).push (seqObj "tuple" vs.toArray 0)).push (seqObj "list" #[] 0) }:=fun st' hp hf hU=>by
  refine wpAny_bind (seqEpoch_at ho6 rfl ?_)
  refine wpAny_bind (listUpdate_at ho6 rfl ?_ (yaF _) (by
   refine yaB (Nat.le_of_eq ((Array.size_map ..).trans (hp.size_eq.trans (pairsOf_size _)))) ?_
   omega))
  rw [hf]
  simp only [bne_self_eq_false,yaE,if_false]
  obtain ⟨o1,o2⟩:=zlR hp hU
  have:=h _ o1 o2
  have e : ((arrOf st').toList.map (·.2)).toArray = (arrOf st').map (·.2):=by rw [← Array.toList_map,Array.toArray_toList]
  rw [e] at this
  exact wpAny_pure this
 by_cases h2 : vs.toArray.size < 2
 ·rw [if_pos h2,if_pos h2]
  refine wpAny_bind (wpAny_pure ?_)
  rw [StateT.run_pure]
  refine wpAny_bind (wpAny_pure ?_)
  refine fin (SortSt.mk' general' (vs.toArray.zip vs.toArray) #[] 7 none) (Array.Perm.refl _) rfl ?_
  intro i j q1 q2 q3
  have : i = j:=by
   rw [pairsOf_size] at q3
   simp at h2
   omega
  subst this
  exact KeyOrd.kle_refl _
 ·rw [if_neg h2,if_neg h2]
  have h2' : 2≤vs.length:=by
   simp at h2
   omega
  refine wpAny_bind (hkd _ _ _ hk h2' ?_)
  refine wpAny_bind (wpAny_mono (zf6 (κ:=κ) (hlt _ hk) (a₀:=pairsOf vs) (st:=SortSt.mk' kd (vs.toArray.zip vs.toArray) #[] 7 none)
   (Q:=fun _ st'=>(arrOf st').Perm (pairsOf vs)∧failedOf st' = none∧Up κ (arrOf st') 0 (pairsOf vs).size)
   ⟨⟨rfl,fun p hp=>keys _ (ze8 hp).2,rfl,rfl⟩,Array.Perm.refl _,yaF _,rfl⟩ (by rw [pairsOf_size]; omega) fun st' a1 a2 a3=>⟨a1,a2,a3⟩) ?_ fun _ _ e=>e)
  rintro ⟨⟨⟩,st'⟩ s' ⟨rfl,hp,hf,hs⟩
  exact fin st' hp hf hs
theorem zgl {h : Heap} {a : Addr} {vs out : List Value} {n : Nat} (ho : h.get? a = some (seqObj "list" vs.toArray n)) : zel a h (sortedHeap h a vs out.toArray)∧∃ c,(sortedHeap h a vs out.toArray).get? a = some (seqObj "list" out.toArray c):=by
 unfold sortedHeap
 refine ⟨fun b o hb e=>(ybt _ _ (Ne.symm hb)).trans (yam _ (yam _ ((ybt _ _ (Ne.symm hb)).trans e))),?_⟩
 exact ⟨_,get?_update_seq (yam _ (yam _ (get?_update_seq ho (fun _=>#[])))) fun _=>out.toArray⟩
theorem zjl {l : Addr} {vs : List Value} {Q : Value→Shared→Prop} (hl : s.heap.IsList l vs.toArray) (hz : vs.length≤sizeLine) (keys : ∀ v∈vs,∃ k,κ.keyOf v = some k)
  (hlt : ∀ h',(∀ b o,s.heap.get? b = some o→h'.get? b = some o)→LtG prog w A.in1.in1 { s with heap:=h' } κ kd)
  (hkd : ∀ (h' : Heap) (E : Value→Shared→Prop) (Q : SortKind→Shared→Prop),(∀ b o,s.heap.get? b = some o→h'.get? b = some o)→2≤vs.length→Q kd { s with heap:=h' }→wpAny (model prog w) A.in1.in1 (keyKind' vs.toArray) Q E { s with heap:=h' })
  (h : ∀ (out : List Value) (h' : Heap) (c : Nat),out.Perm vs→out.Pairwise (fun x y=>κ.kle (keyV κ x) (keyV κ y))→(∀ b o,s.heap.get? b = some o→h'.get? b = some o)→
   h'.get? (s.heap.objs.size + 1) = some (seqObj "list" out.toArray c)→Q (.ref (s.heap.objs.size + 1)) { s with heap:=h' }) :
  wpAny (model prog w) A (call (.builtin "sorted") [.ref l]) Q E s:=by
 refine Calls.call_function_entry kind_sorted plain_sorted entry_sorted (args_sorted1 _) ?_
 unfold Builtin.«sorted»
 refine wpAny_bind (m:=checkCount "sorted" 1 1 _) (wpAny_pure ?_)
 refine wpAny_bind (collect_list hl ?_ hz)
 refine wpAny_bind (wpAny_newList ?_ (by simpa using hz))
 have z1 : ((s.heap.push (seqObj "list" #[] 0)).update s.heap.objs.size (Obj.mapSeq (· ++ vs.toArray))).objs.size = s.heap.objs.size + 1:=by
  rw [Heap.size_update,size_push']
 have hn : (((s.heap.push (seqObj "list" #[] 0)).update s.heap.objs.size (Obj.mapSeq (· ++ vs.toArray))).push (seqObj "list" vs.toArray 0)).get? (s.heap.objs.size + 1) = some (seqObj "list" vs.toArray 0):=by
  rw [← z1]
  exact yaN _ rfl
 have hk : ∀ b o,s.heap.get? b = some o→(((s.heap.push (seqObj "list" #[] 0)).update s.heap.objs.size (Obj.mapSeq (· ++ vs.toArray))).push (seqObj "list" vs.toArray 0)).get? b = some o:=fun b o e=>
  yam _ ((ybt _ _ (Nat.ne_of_gt (yac e))).trans (yam _ e))
 show wpAny _ _ _ _ _ { s with heap:=((s.heap.push (seqObj "list" #[] 0)).update s.heap.objs.size (Obj.mapSeq (· ++ vs.toArray))).push (seqObj "list" vs.toArray 0) }
 rw [z1]
 generalize ((s.heap.push (seqObj "list" #[] 0)).update s.heap.objs.size (Obj.mapSeq (· ++ vs.toArray))).push (seqObj "list" vs.toArray 0) = h1 at hn hk ⊢
 have up : ∀ h',zel (s.heap.objs.size + 1) h1 h'→∀ b o,s.heap.get? b = some o→h'.get? b = some o:=fun h' kb b o e=>kb b o (fun z=>by
  have:=yac e
  rw [z] at this
  exact absurd this (Nat.not_lt.mpr (Nat.le_succ _))) (hk b o e)
 refine wpAny_bind (wpAny_holding (wpAny_call_entry slot_list_sort ⟨_,hn,rfl⟩ entry_list_sort (zlD (s:={ s with heap:=h1 }) hn hz keys (fun h' kb=>hlt h' (up h' kb)) (fun h' E Q kb h2 q=>hkd h' E Q (up h' kb) h2 q) fun out p1 p2=>⟨_,rfl,?_⟩) (args_list_sort _)))
 obtain ⟨kb,c,hc⟩:=zgl (out:=out) hn
 exact wpAny_pure ⟨_,rfl,h out _ c p1 p2 (up _ kb) hc⟩
end
end Tim
namespace Tim
open PySem PySem.Spec PyProof.Rows PySem.W
set_option autoImplicit false
set_option maxRecDepth 100000
def RawD (d : Addr) (es : Array DictEntry) (ep : Nat) (h : Heap) : Prop:=∃ o,h.get? d = some o∧o.ExactDict∧o.data = .dict es ep
section
variable {prog : Program} {w : World} {A : Around} {E : Value→Shared→Prop} {s : Shared} {d it : Addr} {es : Array DictEntry} {ep : Nat}
theorem RawD.ty (x : RawD d es ep s.heap) : s.TypeIs (.ref d) "dict":=by
 obtain ⟨o,e,c,_⟩:=x
 exact ⟨o,e,c.1⟩
theorem RawD.keep {h h' : Heap} (x : RawD d es ep h) (k : ∀ o,h.get? d = some o→h'.get? d = some o) : RawD d es ep h':=by
 obtain ⟨o,e,r⟩:=x
 exact ⟨o,k o e,r⟩
end
end Tim
namespace L2
open PySem PySem.Spec PyProof.Rows
structure DF (K : Frag) (mg : Str→Option Value) (x : Str) (st : Stmt) (ps : List Str) : Prop where
 ex : ∃ f fd,Fun K x x st f fd∧zem K fd ps []∧mg x = some (.ref f)
structure FC (P : Program) (w : World) (K : Frag) (mg : Str→Option Value) (base : Heap) (k : Nat) (x : Str) (ps : List Str) (sp : Sp) : Prop where
 ex : ∃ f fd,FnOk P w K mg base CX0 k f fd ps sp∧zem K fd ps []∧keepIn K (.ref f) = true∧mg x = some (.ref f)∧∃ oc od osl,K.lookup f = some ⟨oc,od,.func fd,osl⟩
theorem FC.at {P : Program} {w : World} {K : Frag} {mg : Str→Option Value} {base : Heap} {k : Nat} {x : Str} {ps : List Str} {sp : Sp} {f : Addr} {fd : FuncData} {oc : Value} {od : Option Addr} {osl : Array (Option Value)} (F : FC P w K mg base k x ps sp) (m : mg x = some (.ref f)) (l : K.lookup f = some ⟨oc,od,.func fd,osl⟩) : FnOk P w K mg base CX0 k f fd ps sp:=by
 obtain ⟨f',fd',ok,_,_,m',oc',od',osl',l'⟩:=F.ex
 rw [m] at m'
 cases m'
 rw [l] at l'
 cases l'
 exact ok
theorem DF.ok {P : Program} {w : World} {K : Frag} {mg : Str→Option Value} {base : Heap} {x : Str} {st : Stmt} {N ps : List Str} {k : Nat} {sp : Sp} (D : DF K mg x st ps) (S : zaq N ps (zai st)) (len : ∀ vs H Q E,sp vs H Q E→vs.length = ps.length)
  (hbody : ∀ (f : Addr) (cdv : Value) (A : Around) (outer : List Env) (s : Shared) (H : Hp) (vs : List V) (Q : VK) (E : XK),Room k (A.deeper (envOfC x (zai st) s.heap.objs.size f cdv))→sp vs H Q E→
   ∃ t,PSs (cxOf CX0 P w K mg base N x (zai st) f cdv A outer s H E).nox (zbg st) t∧t { nx:=fun _ H'=>Q .non H',rt:=Q } (zdP N vs) H) : FC P w K mg base (k + 1) x ps sp:=by
 obtain ⟨f,fd,F,b,m⟩:=D.ex
 exact ⟨f,fd,F.ok S len fun cdv A outer s H vs Q E hr h=>hbody f cdv A outer s H vs Q E hr h,b,F.kp,m,by
  obtain ⟨oc,od,kV,doc,pm,an,cdv,ct,osl,rfl,lk,hcd⟩:=F.ex
  exact ⟨oc,od,osl,lk⟩⟩
theorem zas {X : Cx} {j k : Nat} {x : Str} {ps : List Str} {sp : Sp} {e : Expr} {es : List Expr} {t : TA} {p pos : Pos} (F : FC X.prog X.w X.K X.mg X.base j x ps sp) (hr : Room k X.A) (ha : PA X (e :: es) t) (hjk : j≤k:=by decide) (hg : Gl X x:=by rfl)
  (hdb : (x == ("__debug__" : Str)) = false:=by decide) (he : starEach (e :: es) X.env = (false,eval e X.env) :: starEach es X.env:=by rfl) (hpl : (backTo pos (starEach es X.env)).any (·.1) = false:=by rfl) : PE X (.Call (.Name x p) (e :: es) [] pos) (zkA sp [] E0 t):=by
 obtain ⟨f,fd,ok,b,kp,m,_⟩:=F.ex
 exact zkN ok (hr.mono hjk) hg m kp b .nil zlQ ha hdb he hpl
def zmj (t u : TS) : TS:=fun D σ H=>∃ M : St→Hp→Prop,t { D with nx:=M } σ H∧∀ σ' H',M σ' H'→u D σ' H'
theorem zaD {X : Cx} {st : Stmt} {rest : List Stmt} {t u : TS} (h1 : PS X st t) (h2 : PSs X rest u) : PSs X (st :: rest) (zmj t u):=by
 intro pins s σ H D I h
 obtain ⟨M,h,hM⟩:=h
 refine wpAny_execs_cons (thn (h1 pins s σ H { D with nx:=M } I h) fun f s1 q=>?_)
 cases f with
 | next=>
  obtain ⟨σ',H',I',q⟩:=q
  exact h2 pins s1 σ' H' D I' (hM σ' H' q)
 | ret v=>exact q
 | brk=>exact q
 | cont=>exact q
def zmB (i j : Int) : Prop:=0 < j∧j < 2 ^ 4000
section
variable {X : Cx}
def kitO (a b : String) : Option Bool:=if (Value.type a == Value.type b) = true then some true else if PySem.W.kitMeta b = true then (PySem.fastBuiltinMro a).map (·.contains (.type b)) else none
theorem zkZ {K : Frag} {a b : String} : kitOne K (.type a) (.type b) = kitO a b:=rfl
def rIsi (K : Frag) : List V→Hp→VK→Prop:=fun xs H Q=>∃ x n t b,xs = [x,.ty n]∧TyOf K H x (.type t)∧kitO t n = some b∧Q (.bl b) H
theorem zdO : zbU X (.builtin "isinstance") (rIsi X.K):=by
 intro pins s σ H xs us Q I r h
 obtain ⟨x,n,t,b,e,ty,ki,q⟩:=h
 subst e
 obtain ⟨u,w',e,r1,r2⟩:=zeM r
 subst e
 cases r2
 exact ziF I r1 ty (zkZ.trans ki) fun tk=>⟨.bl b,H,I.tok tk,rfl,q⟩
theorem zl2 : kitO "int" "int" = some true:=by decide +kernel
theorem zl3 : kitO "int" "bool" = some false:=by decide +kernel
theorem ziy : kitO "list" "list" = some true:=by decide +kernel
theorem zl4 : kitO "bool" "bool" = some true:=by decide +kernel
end
theorem ziE {c A B : Prop} [Decidable c] (hc : ¬ c) (h : B) : if decide c = true then A else B:=by
 rw [yak hc]
 exact iteF h
theorem zhu {c A B : Prop} [Decidable c] (hc : c) (h : A) : if decide c = true then A else B:=by
 rw [yap hc]
 exact iteT h
def zb8 (L : Addr) (a l : Int) : HO:=.dK [(.inr "script",.ref L),(.inr "at",.int a),(.inr "left",.int l)]
def Keep (d : Addr) (H H' : Hp) : Prop:=∀ b o,b≠d→H b = some o→H' b = some o
theorem Keep.refl (d : Addr) (H : Hp) : Keep d H H:=fun _ _ _ h=>h
theorem Keep.trans {d : Addr} {H H1 H2 : Hp} (a : Keep d H H1) (b : Keep d H1 H2) : Keep d H H2:=fun c o n h=>b c o n (a c o n h)
theorem Same.keep {d : Addr} {H H' : Hp} (s : Same H H') : Keep d H H':=fun b o _ h=>s b o h
structure LS (K : Frag) (L d : Addr) (H : Hp) : Prop where
 ex : ∃ (ns : List Int) (a l : Int),H d = some (zb8 L a l)∧SqL K H L (ns.map V.int)
theorem zeV {K : Frag} {H H' : Hp} {L d : Addr} {xs : List V} {L' : Addr} {a l : Int} (hd : H d = some (zb8 L' a l)) (k : Keep d H H') (h : SqL K H L xs) : SqL K H' L xs:=by
 have ne : ∀ o,H L = some o→(∀ kvs,o≠.dK kvs)→L≠d:=fun o e n z=>by
  rw [z,hd] at e
  cases e
  exact n _ rfl
 rcases h with (h | ⟨o,h⟩) | h
 ·exact .inl (.inl (k L _ (ne _ h (fun _ z=>nomatch z)) h))
 ·exact .inl (.inr ⟨o,k L _ (ne _ h (fun _ z=>nomatch z)) h⟩)
 ·exact .inr h
theorem LS.set {K : Frag} {d L : Addr} {H : Hp} {ns : List Int} {a l a' l' : Int} (hd : H d = some (zb8 L a l)) (h : SqL K H L (ns.map V.int)) : LS K L d (upd H d (zb8 L a' l'))∧Keep d H (upd H d (zb8 L a' l')):=by
 have k : Keep d H (upd H d (zb8 L a' l')):=fun b o n e=>by rw [zaj n]; exact e
 exact ⟨⟨ns,a',l',zac,zeV hd k h⟩,k⟩
theorem LS.same {K : Frag} {L d : Addr} {H H' : Hp} (s : LS K L d H) (k : Same H H') : LS K L d H':=by
 obtain ⟨ns,a,l,e,q⟩:=s.ex
 exact ⟨ns,a,l,k _ _ e,k.seq q⟩
theorem zah {H : Hp} {p : Addr} (h : H p = none) (o : HO) : Same H (upd H p o):=fun b u q=>by rw [zaj (zad q h)]; exact q
theorem LS.put {K : Frag} {L d p : Addr} {H0 H2 : Hp} {o : HO} (s : LS K L d H0) (hp : H0 p = none) (k : ∀ b o,b≠d→b≠p→H0 b = some o→H2 b = some o) (s2 : LS K L d H2) : LS K L d (upd H2 p o):=by
 obtain ⟨ns,a,l,e,q⟩:=s.ex
 obtain ⟨ns2,a2,l2,e2,_⟩:=s2.ex
 have hdp : d≠p:=zad e hp
 have go : ∀ u,H0 L = some u→(∀ kvs,u≠.dK kvs)→upd H2 p o L = some u:=fun u hu hn=>by
  have h1 : L≠p:=zad hu hp
  have h2 : L≠d:=fun z=>by
   rw [z,e] at hu
   cases hu
   exact hn _ rfl
  rw [zaj h1]
  exact k L u h2 h1 hu
 refine ⟨ns,a2,l2,by rw [zaj hdp]; exact e2,?_⟩
 rcases q with (h | ⟨ob,h⟩) | h
 ·exact .inl (.inl (go _ h (fun _ z=>nomatch z)))
 ·exact .inl (.inr ⟨ob,go _ h (fun _ z=>nomatch z)⟩)
 ·exact .inr h
section
variable {H : Hp} {d L : Addr} {a l : Int}
theorem zcQ {x y : Str} (h : x≠y) : (Sum.inr x : Key)≠Sum.inr y:=fun z=>h (Sum.inr.inj z)
theorem zhw (h : H d = some (zb8 L a l)) : DGet H d (.str "script") (some (.ref L)):=.inl ⟨_,.inr "script",.inl h,rfl,by rw [zcy rfl]⟩
theorem zma (h : H d = some (zb8 L a l)) : DGet H d (.str "at") (some (.int a)):=.inl ⟨_,.inr "at",.inl h,rfl,by rw [zbv (zcQ (show ("script" : Str) ≠ "at" by decide +kernel)),zcy rfl]⟩
theorem zfi (h : H d = some (zb8 L a l)) : DGet H d (.str "left") (some (.int l)):=.inl ⟨_,.inr "left",.inl h,rfl,by rw [zbv (zcQ (show ("script" : Str) ≠ "left" by decide +kernel)),zbv (zcQ (show ("at" : Str) ≠ "left" by decide +kernel)),zcy rfl]⟩
theorem zkf {k : Key} {v : V} {kvs kvs' : List (Key×V)} (h : H d = some (.dK kvs)) (hl : kvs.length < sizeLine) (e : putK kvs k v = kvs') : DPut H d (kV k) v (upd H d (.dK kvs')):=by
 subst e
 exact DPut.k h hl
theorem zlM {a' : Int} (h : H d = some (zb8 L a l)) : DPut H d (.str "at") (.int a') (upd H d (zb8 L a' l)):=
 zkf (k:=.inr "at") h (by show 3 < sizeLine; decide) (by
  unfold putK
  rw [if_pos (by simp)]
  simp only [yaA,ybu,if_neg (zcQ (show ("script" : Str) ≠ "at" by decide +kernel)),if_neg (zcQ (show ("left" : Str) ≠ "at" by decide +kernel)),if_true])
theorem zgN {l' : Int} (h : H d = some (zb8 L a l)) : DPut H d (.str "left") (.int l') (upd H d (zb8 L a l')):=
 zkf (k:=.inr "left") h (by show 3 < sizeLine; decide) (by
  unfold putK
  rw [if_pos (by simp)]
  simp only [yaA,ybu,if_neg (zcQ (show ("script" : Str) ≠ "left" by decide +kernel)),if_neg (zcQ (show ("at" : Str) ≠ "left" by decide +kernel)),if_true])
end
def zcY (K : Frag) : Sp:=fun vs H Q _=>∃ (d L : Addr) (m : Int),vs = [.ref d,.int m]∧(0 < m∧m < 1073741824)∧LS K L d H∧∀ (v : Int) (H' : Hp),0≤v→v < m→Keep d H H'→LS K L d H'→Q (.int v) H'
def zhT : Sp:=fun vs H Q _=>∃ c k : Int,vs = [.int c,.int k]∧∀ v : Int,Q (.int v) H
def zhY (K : Frag) : Sp:=fun vs H Q _=>∃ (L : Addr) (ns : List Int),vs = [.ref L]∧SqL K H L (ns.map V.int)∧∀ (d : Addr) (H' : Hp),H d = none→Same H H'→LS K L d H'→Q (.ref d) H'
theorem zmf {ns : List Int} {k : Int} (h : 0 < ns.length) : ∃ v : Int,atI (ns.map V.int) (k % (((ns.map V.int).length : Nat) : Int)) = some (.int v):=by
 have e : (ns.map V.int).length = ns.length:=yaa _
 have h1 : (0 : Int) < (((ns.map V.int).length : Nat) : Int):=by rw [e]; omega
 have z0:=ybU k (Int.ne_of_gt h1)
 have z1:=ybV k h1
 generalize hj : k % (((ns.map V.int).length : Nat) : Int) = j at z0 z1
 rw [e] at z1
 have hk : j.toNat < ns.length:=by omega
 obtain ⟨n,rfl⟩ : ∃ n : Nat,j = (n : Int):=⟨j.toNat,by omega⟩
 have hn : n < ns.length:=by omega
 exact ⟨ns[n],zbi (by rw [yax,yad hn]; rfl)⟩
end L2
namespace L2
open PySem PySem.Spec PyProof.Rows PySem.SeqAt
def Ext (H H' : Hp) : Prop:=∀ b o,H b = some o→(∀ kvs,o≠.dK kvs)→H' b = some o
theorem Ext.refl (H : Hp) : Ext H H:=fun _ _ h _=>h
theorem Ext.trans {H H1 H2 : Hp} (a : Ext H H1) (b : Ext H1 H2) : Ext H H2:=fun c o h n=>b c o (a c o h n) n
theorem Same.ext {H H' : Hp} (s : Same H H') : Ext H H':=fun b o h _=>s b o h
theorem Keep.ext {d L : Addr} {a l : Int} {H H' : Hp} (k : Keep d H H') (h : H d = some (zb8 L a l)) : Ext H H':=fun b o e n=>k b o (fun z=>by
 rw [z,h] at e
 cases e
 exact n _ rfl) e
theorem LS.ext {K : Frag} {L d : Addr} {H H' : Hp} (s : LS K L d H) (k : Keep d H H') : Ext H H':=by
 obtain ⟨ns,a,l,e,_⟩:=s.ex
 exact k.ext e
theorem LS.of_new {K : Frag} {L d : Addr} {H : Hp} (s : LS K L d H) {p : Addr} (hp : H p = none) (o : HO) : LS K L d (upd H p o):=s.same (zah hp o)
theorem SqL.ext {K : Frag} {H H' : Hp} {a : Addr} {xs : List V} (e : Ext H H') (h : SqL K H a xs) : SqL K H' a xs:=by
 rcases h with (h | ⟨o,h⟩) | h
 ·exact .inl (.inl (e _ _ h (fun _ z=>nomatch z)))
 ·exact .inl (.inr ⟨o,e _ _ h (fun _ z=>nomatch z)⟩)
 ·exact .inr h
theorem SqT.ext {K : Frag} {H H' : Hp} {a : Addr} {xs : List V} (e : Ext H H') (h : SqT K H a xs) : SqT K H' a xs:=by
 rcases h with (h | ⟨o,h⟩) | h
 ·exact .inl (.inl (e _ _ h (fun _ z=>nomatch z)))
 ·exact .inl (.inr ⟨o,e _ _ h (fun _ z=>nomatch z)⟩)
 ·exact .inr h
class Rep (α : Type) where
 dec : DecidableEq α
 depth : Nat
 has : Frag→Hp→α→V→Prop
 mono : ∀ {K : Frag} {H H' : Hp} {a : α} {v : V},Ext H H'→has K H a v→has K H' a v
 inj : ∀ {X : Cx} {pins : List (Addr×Obj)} {σ : St} {H : Hp} {s : Shared} {a b : α} {v : V},Inv X pins σ H s→has X.K H a v→has X.K H b v→a = b
 rc : ∀ {X : Cx} {pins : List (Addr×Obj)} {σ : St} {H : Hp} {s : Shared} {A : Around} {a b : α} {x y : V} {u v : Value},Inv X pins σ H s→A.units + depth < cLine→has X.K H a x→has X.K H b y→RelV x u→RelV y v→RcAt A s u v (dec a b).decide
 rn : ∀ {X : Cx} {pins : List (Addr×Obj)} {σ : St} {H : Hp} {s : Shared} {A : Around} {a b : α} {x y : V} {u v : Value},Inv X pins σ H s→A.units + depth < cLine→has X.K H a x→has X.K H b y→RelV x u→RelV y v→RcNeAt A s u v (!(dec a b).decide)
 eq : ∀ {X : Cx} {pins : List (Addr×Obj)} {σ : St} {H : Hp} {s : Shared} {A : Around} {a b : α} {x y : V} {u v : Value},Inv X pins σ H s→A.units + depth < cLine→has X.K H a x→has X.K H b y→RelV x u→RelV y v→EqAt A s u v (dec a b).decide
instance (priority:=low) repDec {α : Type} [Rep α] : DecidableEq α:=Rep.dec
theorem zgw {i j : Int} : (i == j) = (Int.instDecidableEq i j).decide:=by
 by_cases h : i = j
 ·subst h; simp
 ·rw [beq_eq_false_iff_ne.mpr h]; exact (yak h).symm
instance : Rep Int where
 dec:=Int.instDecidableEq
 depth:=0
 has:=fun _ _ i v=>v = .int i
 mono:=fun _ h=>h
 inj:=fun _ h1 h2=>V.int.inj (h1.symm.trans h2)
 rc:=fun _ _ h1 h2 r1 r2=>by
  subst h1 h2
  obtain ⟨t,rfl⟩:=r1
  obtain ⟨t',rfl⟩:=r2
  rw [← zgw]
  exact RcAt.int_int _ _ _ _
 rn:=fun _ _ h1 h2 r1 r2=>by
  subst h1 h2
  obtain ⟨t,rfl⟩:=r1
  obtain ⟨t',rfl⟩:=r2
  rw [← zgw]
  exact RcNeAt.int_int _ _ _ _
 eq:=fun _ _ h1 h2 r1 r2=>by
  subst h1 h2
  obtain ⟨t,rfl⟩:=r1
  obtain ⟨t',rfl⟩:=r2
  rw [← zgw]
  exact EqAt.int_int _ _ _ _
instance : Rep Bool where
 dec:=instDecidableEqBool
 depth:=0
 has:=fun _ _ i v=>v = .bl i
 mono:=fun _ h=>h
 inj:=fun _ h1 h2=>V.bl.inj (h1.symm.trans h2)
 rc:=fun {_ _ _ _ _ _ a b _ _ _ _} _ _ h1 h2 r1 r2=>by
  subst h1 h2
  cases r1
  cases r2
  have e : (a == b) = (instDecidableEqBool a b).decide:=by cases a <;> cases b <;> rfl
  rw [← e]
  exact RcAt.bool_bool _ _
 rn:=fun {_ _ _ _ _ _ a b _ _ _ _} _ _ h1 h2 r1 r2=>by
  subst h1 h2
  cases r1
  cases r2
  have e : (a == b) = (instDecidableEqBool a b).decide:=by cases a <;> cases b <;> rfl
  rw [← e]
  exact RcNeAt.bool_bool _ _
 eq:=fun {_ _ _ _ _ _ a b _ _ _ _} _ _ h1 h2 r1 r2=>by
  subst h1 h2
  cases r1
  cases r2
  have e : (a == b) = (instDecidableEqBool a b).decide:=by cases a <;> cases b <;> rfl
  rw [← e]
  exact EqAt.bool_bool _ _
def zal {α : Type} [Rep α] (K : Frag) (H : Hp) : List α→List V→Prop:=Paired (Rep.has K H)
section
variable {α : Type} [Rep α] {K : Frag} {H H' : Hp}
theorem zal.mono (e : Ext H H') : ∀ {as : List α} {xs : List V},zal K H as xs→zal K H' as xs
 | _,_,.nil=>.nil
 | _,_,.cons h t=>.cons (Rep.mono e h) (zal.mono e t)
theorem zal.length {as : List α} {xs : List V} (h : zal K H as xs) : as.length = xs.length:=Paired.length h
theorem zal.get : ∀ {as : List α} {xs : List V} {i : Nat} {x : V},zal K H as xs→xs[i]? = some x→∃ a,as[i]? = some a∧Rep.has K H a x
 | _,_,_,_,.nil,e=>by simp at e
 | _,_,0,_,.cons h _,e=>by simp at e; subst e; exact ⟨_,rfl,h⟩
 | _,_,i + 1,x,.cons _ t,e=>by
  obtain ⟨a,h1,h2⟩:=zal.get (i:=i) (x:=x) t (by simpa using e)
  exact ⟨a,by simpa using h1,h2⟩
theorem zal.append : ∀ {as bs : List α} {xs ys : List V},zal K H as xs→zal K H bs ys→zal K H (as ++ bs) (xs ++ ys)
 | _,_,_,_,.nil,s=>s
 | _,_,_,_,.cons r t,s=>.cons r (zal.append t s)
theorem zal.take : ∀ {as : List α} {xs : List V} (n : Nat),zal K H as xs→zal K H (as.take n) (xs.take n)
 | _,_,0,_=>.nil
 | _,_,_ + 1,.nil=>.nil
 | _,_,n + 1,.cons r t=>.cons r (zal.take n t)
theorem zal.drop : ∀ {as : List α} {xs : List V} (n : Nat),zal K H as xs→zal K H (as.drop n) (xs.drop n)
 | _,_,0,r=>r
 | _,_,_ + 1,.nil=>.nil
 | _,_,n + 1,.cons _ t=>zal.drop n t
theorem zal.one {a : α} {x : V} (h : Rep.has K H a x) : zal K H [a] [x]:=.cons h .nil
theorem zal.ints : ∀ {ns : List Int},zal K H ns (ns.map V.int)
 | []=>.nil
 | _ :: _=>.cons rfl zal.ints
theorem zal.toInts : ∀ {ns : List Int} {xs : List V},zal K H ns xs→xs = ns.map V.int
 | [],_,.nil=>rfl
 | n :: ns,_,.cons h t=>by
  have e : _ = V.int n:=h
  rw [e,zal.toInts t]
  rfl
theorem zal.inj {X : Cx} {pins : List (Addr×Obj)} {σ : St} {s : Shared} (I : Inv X pins σ H s) : ∀ {as bs : List α} {xs : List V},zal X.K H as xs→zal X.K H bs xs→as = bs
 | _,_,_,.nil,.nil=>rfl
 | _,_,_,.cons h t,.cons h' t'=>by rw [Rep.inj I h h',zal.inj I t t']
end
theorem zdz {α : Type} [DecidableEq α] : ∀ (as bs : List α),as.length = bs.length→((List.range as.length).all fun j=>decide (as[j]? = bs[j]?)) = decide (as = bs):=by
 intro as bs hl
 by_cases h : as = bs
 ·subst h
  simp
 ·rw [yak h,ybE]
  false_or_by_contra
  rename_i z
  apply h
  apply List.ext_getElem?
  intro i
  by_cases hi : i < as.length
  ·false_or_by_contra
   rename_i q
   exact z ⟨i,ya3.mpr hi,by simpa using q⟩
  ·rw [ycb (by omega),ycb (by omega)]
section
variable {α : Type} [r : Rep α]
theorem zb0 {A : Around} : A.in1.units≤A.units + 1:=by
 first
  | exact yab _
  | (unfold Around.in1; simp)
theorem zdN {X : Cx} {pins : List (Addr×Obj)} {σ : St} {H : Hp} {s : Shared} {A : Around} {as bs : List α} {xs ys : List V} {us vs : List Value} (I : Inv X pins σ H s) (hu : A.units + Rep.depth α < cLine)
  (h1 : zal X.K H as xs) (h2 : zal X.K H bs ys) (r1 : Vals xs us) (r2 : Vals ys vs) : ∀ j (q1 : j < us.toArray.size) (q2 : j < vs.toArray.size),EqAt A s us.toArray[j] vs.toArray[j] (decide (as[j]? = bs[j]?)):=by
 intro j q1 q2
 have l1:=r1.length
 have l2:=r2.length
 have m1:=h1.length
 have m2:=h2.length
 have j1 : j < us.length:=by simpa using q1
 have j2 : j < vs.length:=by simpa using q2
 obtain ⟨a,ea,ha⟩:=h1.get (i:=j) (yad (by omega))
 obtain ⟨b,eb,hb⟩:=h2.get (i:=j) (yad (by omega))
 obtain ⟨u,eu,ru⟩:=r1.get (i:=j) (yad (by omega))
 obtain ⟨v,ev,rv⟩:=r2.get (i:=j) (yad (by omega))
 have gu : us.toArray[j] = u:=by
  have : us[j]? = some us[j]:=yad j1
  rw [eu] at this
  simpa using (yai this).symm
 have gv : vs.toArray[j] = v:=by
  have : vs[j]? = some vs[j]:=yad j2
  rw [ev] at this
  simpa using (yai this).symm
 rw [gu,gv,ea,eb]
 have e : decide (some a = some b) = (Rep.dec a b).decide:=by
  by_cases z : a = b
  ·subst z; simp
  ·rw [yak (fun q=>z (yai q))]; exact (yak z).symm
 rw [e]
 exact Rep.eq I hu ha hb ru rv
end
def hasL {α : Type} [Rep α] (K : Frag) (H : Hp) (as : List α) (v : V) : Prop:=∃ a xs,v = .ref a∧SqL K H a xs∧zal K H as xs
section
variable {α : Type} [r : Rep α] {X : Cx} {pins : List (Addr×Obj)} {σ : St} {H : Hp} {s : Shared} {A : Around} {as bs : List α} {x y : V} {u v : Value}
theorem zjV (I : Inv X pins σ H s) (h1 : hasL X.K H as x) (h2 : hasL X.K H bs x) : as = bs:=by
 obtain ⟨a,xs,rfl,q1,h1⟩:=h1
 obtain ⟨b,ys,e,q2,h2⟩:=h2
 cases e
 rw [I.list_inj q2 q1] at h2
 exact h1.inj I h2
theorem ziL (I : Inv X pins σ H s) (hu : A.units + (Rep.depth α + 1) < cLine) (h1 : hasL X.K H as x) (h2 : hasL X.K H bs y) (r1 : RelV x u) (r2 : RelV y v) : RcAt A s u v (decide (as = bs)):=by
 obtain ⟨a,xs,rfl,q1,h1⟩:=h1
 obtain ⟨b,ys,rfl,q2,h2⟩:=h2
 cases r1
 cases r2
 obtain ⟨us,ru,pu,_⟩:=I.list q1
 obtain ⟨vs,rv,pv,_⟩:=I.list q2
 have l1:=ru.length
 have l2:=rv.length
 have m1:=h1.length
 have m2:=h2.length
 have hin : A.in1.units + Rep.depth α < cLine:=yaP (ybl zb0 _) (by omega)
 by_cases hl : as.length = bs.length
 ·have e:=zdz as bs hl
  rw [← e]
  have z : as.length = us.toArray.size:=by simp; omega
  rw [z]
  exact RcAt.lists pu.isList pv.isList (by simp; omega) (by omega) (zdN I hin h1 h2 ru rv)
 ·rw [yak (fun z=>hl (by rw [z]))]
  exact RcAt.lists_lengths pu.isList pv.isList (by simp; omega) (by omega)
theorem zk4 (I : Inv X pins σ H s) (hu : A.units + (Rep.depth α + 1) < cLine) (h1 : hasL X.K H as x) (h2 : hasL X.K H bs y) (r1 : RelV x u) (r2 : RelV y v) : RcNeAt A s u v (!decide (as = bs)):=by
 obtain ⟨a,xs,rfl,q1,h1⟩:=h1
 obtain ⟨b,ys,rfl,q2,h2⟩:=h2
 cases r1
 cases r2
 obtain ⟨us,ru,pu,_⟩:=I.list q1
 obtain ⟨vs,rv,pv,_⟩:=I.list q2
 have l1:=ru.length
 have l2:=rv.length
 have m1:=h1.length
 have m2:=h2.length
 have hin : A.in1.units + Rep.depth α < cLine:=yaP (ybl zb0 _) (by omega)
 by_cases hl : as.length = bs.length
 ·have e:=zdz as bs hl
  rw [← e]
  have z : as.length = us.toArray.size:=by simp; omega
  rw [z]
  exact RcNeAt.lists pu.isList pv.isList (by simp; omega) (by omega) (zdN I hin h1 h2 ru rv)
 ·rw [yak (fun z=>hl (by rw [z])),Bool.not_false]
  exact RcNeAt.lists_lengths pu.isList pv.isList (by simp; omega) (by omega)
theorem zk5 (I : Inv X pins σ H s) (hu : A.units + (Rep.depth α + 1) < cLine) (h1 : hasL X.K H as x) (h2 : hasL X.K H bs y) (r1 : RelV x u) (r2 : RelV y v) : EqAt A s u v (decide (as = bs)):=by
 have rc:=ziL (A:=A) I hu h1 h2 r1 r2
 obtain ⟨a,xs,rfl,q1,h1⟩:=h1
 obtain ⟨b,ys,rfl,q2,h2⟩:=h2
 cases r1
 cases r2
 by_cases hab : a = b
 ·subst hab
  rw [I.list_inj q2 q1] at h2
  rw [yap (h1.inj I h2)]
  exact EqAt.same _
 ·exact EqAt.of_refs hab rc
end
instance {α : Type} [Rep α] : Rep (List α) where
 dec:=inferInstance
 depth:=Rep.depth α + 1
 has:=hasL
 mono:=fun e ⟨a,xs,h1,h2,h3⟩=>⟨a,xs,h1,h2.ext e,h3.mono e⟩
 inj:=fun I h1 h2=>zjV I h1 h2
 rc:=fun I hu h1 h2 r1 r2=>ziL I hu h1 h2 r1 r2
 rn:=fun I hu h1 h2 r1 r2=>zk4 I hu h1 h2 r1 r2
 eq:=fun I hu h1 h2 r1 r2=>zk5 I hu h1 h2 r1 r2
def hasP {α β : Type} [Rep α] [Rep β] (K : Frag) (H : Hp) (p : α×β) (v : V) : Prop:=∃ a x y,v = .ref a∧H a = some (.tup [x,y])∧Rep.has K H p.1 x∧Rep.has K H p.2 y
section
variable {α β : Type} [ra : Rep α] [rb : Rep β] {X : Cx} {pins : List (Addr×Obj)} {σ : St} {H : Hp} {s : Shared} {A : Around} {p q : α×β} {x y : V} {u v : Value}
theorem zg0 (I : Inv X pins σ H s) (h1 : hasP X.K H p x) (h2 : hasP X.K H q x) : p = q:=by
 obtain ⟨a,x1,x2,rfl,q1,e1,e2⟩:=h1
 obtain ⟨b,y1,y2,e,q2,f1,f2⟩:=h2
 cases e
 have z:=I.tuple_inj (SqT.of q2) (SqT.of q1)
 cases z
 have g1:=Rep.inj I e1 f1
 have g2:=Rep.inj I e2 f2
 obtain ⟨p1,p2⟩:=p
 obtain ⟨s1,s2⟩:=q
 cases g1
 cases g2
 rfl
theorem zgo (I : Inv X pins σ H s) (hu : A.units + (Rep.depth α + Rep.depth β + 1) < cLine) (h1 : hasP X.K H p x) (h2 : hasP X.K H q y) (r1 : RelV x u) (r2 : RelV y v) : RcAt A s u v (decide (p = q)):=by
 obtain ⟨a,x1,x2,rfl,q1,e1,e2⟩:=h1
 obtain ⟨b,y1,y2,rfl,q2,f1,f2⟩:=h2
 cases r1
 cases r2
 obtain ⟨us,ru,pu,_⟩:=I.tuple (SqT.of q1)
 obtain ⟨vs,rv,pv,_⟩:=I.tuple (SqT.of q2)
 obtain ⟨u1,u2,rfl,ru1,ru2⟩:=zeM ru
 obtain ⟨v1,v2,rfl,rv1,rv2⟩:=zeM rv
 have hin : ∀ n,n≤Rep.depth α + Rep.depth β→A.in1.units + n < cLine:=fun n hn=>yaP (ybl zb0 _) (by omega)
 have c1:=Rep.eq (A:=A.in1) I (hin _ (by omega)) e1 f1 ru1 rv1
 have c2:=Rep.eq (A:=A.in1) I (hin _ (by omega)) e2 f2 ru2 rv2
 have:=RcAt.tuples (A:=A) (s:=s) (l:=a) (b:=b) (items:=#[u1,u2]) (items2:=#[v1,v2]) (e:=fun j=>if j = 0 then (Rep.dec p.1 q.1).decide else (Rep.dec p.2 q.2).decide) pu pv (by omega) (by
  intro j h1 h2
  have h1' : j < 2:=h1
  have z : j = 0∨j = 1:=by omega
  rcases z with rfl | rfl
  ·exact c1
  ·exact c2)
 have e : ((List.range (min (#[u1,u2] : Array Value).size (#[v1,v2] : Array Value).size)).all (fun j=>if j = 0 then (Rep.dec p.1 q.1).decide else (Rep.dec p.2 q.2).decide) && (#[u1,u2] : Array Value).size == (#[v1,v2] : Array Value).size) = decide (p = q):=by
  obtain ⟨p1,p2⟩:=p
  obtain ⟨s1,s2⟩:=q
  show (((List.range 2).all fun j=>if j = 0 then (Rep.dec p1 s1).decide else (Rep.dec p2 s2).decide) && true) = _
  rw [show List.range 2 = [0,1] from rfl]
  simp only [ybL,List.all_nil,Bool.and_true,if_true]
  rw [if_neg (by decide)]
  by_cases z1 : p1 = s1
  ·by_cases z2 : p2 = s2
   ·subst z1 z2; simp
   ·subst z1; simp [z2]
  ·simp [z1]
 rw [e] at this
 exact this
theorem ziJ (I : Inv X pins σ H s) (hu : A.units + (Rep.depth α + Rep.depth β + 1) < cLine) (h1 : hasP X.K H p x) (h2 : hasP X.K H q y) (r1 : RelV x u) (r2 : RelV y v) : RcNeAt A s u v (!decide (p = q)):=by
 obtain ⟨a,x1,x2,rfl,q1,e1,e2⟩:=h1
 obtain ⟨b,y1,y2,rfl,q2,f1,f2⟩:=h2
 cases r1
 cases r2
 obtain ⟨us,ru,pu,_⟩:=I.tuple (SqT.of q1)
 obtain ⟨vs,rv,pv,_⟩:=I.tuple (SqT.of q2)
 obtain ⟨u1,u2,rfl,ru1,ru2⟩:=zeM ru
 obtain ⟨v1,v2,rfl,rv1,rv2⟩:=zeM rv
 have hin : ∀ n,n≤Rep.depth α + Rep.depth β→A.in1.units + n < cLine:=fun n hn=>yaP (ybl zb0 _) (by omega)
 have c1:=Rep.eq (A:=A.in1) I (hin _ (by omega)) e1 f1 ru1 rv1
 have c2:=Rep.eq (A:=A.in1) I (hin _ (by omega)) e2 f2 ru2 rv2
 have:=RcNeAt.tuples (A:=A) (s:=s) (l:=a) (b:=b) (items:=#[u1,u2]) (items2:=#[v1,v2]) (e:=fun j=>if j = 0 then (Rep.dec p.1 q.1).decide else (Rep.dec p.2 q.2).decide) pu pv (by omega) (by
  intro j h1 h2
  have h1' : j < 2:=h1
  have z : j = 0∨j = 1:=by omega
  rcases z with rfl | rfl
  ·exact c1
  ·exact c2)
 have e : ((List.range (min (#[u1,u2] : Array Value).size (#[v1,v2] : Array Value).size)).all (fun j=>if j = 0 then (Rep.dec p.1 q.1).decide else (Rep.dec p.2 q.2).decide) && (#[u1,u2] : Array Value).size == (#[v1,v2] : Array Value).size) = decide (p = q):=by
  obtain ⟨p1,p2⟩:=p
  obtain ⟨s1,s2⟩:=q
  show (((List.range 2).all fun j=>if j = 0 then (Rep.dec p1 s1).decide else (Rep.dec p2 s2).decide) && true) = _
  rw [show List.range 2 = [0,1] from rfl]
  simp only [ybL,List.all_nil,Bool.and_true,if_true]
  rw [if_neg (by decide)]
  by_cases z1 : p1 = s1
  ·by_cases z2 : p2 = s2
   ·subst z1 z2; simp
   ·subst z1; simp [z2]
  ·simp [z1]
 rw [e] at this
 exact this
theorem ziK (I : Inv X pins σ H s) (hu : A.units + (Rep.depth α + Rep.depth β + 1) < cLine) (h1 : hasP X.K H p x) (h2 : hasP X.K H q y) (r1 : RelV x u) (r2 : RelV y v) : EqAt A s u v (decide (p = q)):=by
 have rc:=zgo (A:=A) I hu h1 h2 r1 r2
 have h1':=id h1
 have h2':=id h2
 obtain ⟨a,x1,x2,rfl,q1,e1,e2⟩:=h1
 obtain ⟨b,y1,y2,rfl,q2,f1,f2⟩:=h2
 cases r1
 cases r2
 by_cases hab : a = b
 ·subst hab
  rw [yap (zg0 I h1' h2')]
  exact EqAt.same _
 ·exact EqAt.of_refs hab rc
end
instance {α β : Type} [Rep α] [Rep β] : Rep (α×β) where
 dec:=inferInstance
 depth:=Rep.depth α + Rep.depth β + 1
 has:=hasP
 mono:=fun e ⟨a,x,y,h1,h2,h3,h4⟩=>⟨a,x,y,h1,e _ _ h2 (fun _ z=>nomatch z),Rep.mono e h3,Rep.mono e h4⟩
 inj:=fun I h1 h2=>zg0 I h1 h2
 rc:=fun I hu h1 h2 r1 r2=>zgo I hu h1 h2 r1 r2
 rn:=fun I hu h1 h2 r1 r2=>ziJ I hu h1 h2 r1 r2
 eq:=fun I hu h1 h2 r1 r2=>ziK I hu h1 h2 r1 r2
theorem huD {A : Around} {k : Nat} {α : Type} [Rep α] (hr : Room k A) (h : Rep.depth α≤64:=by decide) : A.units + Rep.depth α < cLine:=yaP (yb3 h _) hr.units
def rEqD (α : Type) [Rep α] (K : Frag) : R2:=fun x y H Q=>∃ a b : α,Rep.has K H a x∧Rep.has K H b y∧Q (.bl (decide (a = b))) H
def rNeD (α : Type) [Rep α] (K : Frag) : R2:=fun x y H Q=>∃ a b : α,Rep.has K H a x∧Rep.has K H b y∧Q (.bl (!decide (a = b))) H
section
variable {X : Cx}
theorem zkj (α : Type) [Rep α] (hu : X.A.units + Rep.depth α < cLine) : OpR X (compareOp .Eq) (rEqD α X.K):=by
 intro pins s σ H x y v u Q I rx ry h
 obtain ⟨a,b,ha,hb,q⟩:=h
 refine Rep.rc I hu ha hb rx ry X.prog X.w X.xe _ ⟨.bl _,H,I,rfl,?_⟩
 have e : (Rep.dec a b).decide = decide (a = b):=rfl
 rw [e]
 exact q
theorem zlS (α : Type) [Rep α] (hu : X.A.units + Rep.depth α < cLine) : OpR X (compareOp .NotEq) (rNeD α X.K):=by
 intro pins s σ H x y v u Q I rx ry h
 obtain ⟨a,b,ha,hb,q⟩:=h
 refine Rep.rn I hu ha hb rx ry X.prog X.w X.xe _ ⟨.bl _,H,I,rfl,?_⟩
 have e : (Rep.dec a b).decide = decide (a = b):=rfl
 rw [e]
 exact q
end
end L2
namespace L2
open PySem PySem.Spec PyProof.Rows
section
variable {X : Cx} {pins : List (Addr×Obj)} {σ : St} {H : Hp} {s : Shared} {h' : Heap}
theorem Inv.turnedNew {t' : Nat} {fp : List Addr} {p : Addr} {o : HO} (I : Inv X pins σ H s) (k : ∀ b ob,b∉fp→s.heap.get? b = some ob→h'.get? b = some ob) (hf : ∀ b∈fp,FpOk X pins H b)
  (hp : s.heap.objs.size≤p) (new : zaU X.prog X.w (upd H p o) h' p o) : Inv X pins σ (upd H p o) { s with heap:=h',toks:=t' }:=by
 have hn : H p = none:=I.hok.fresh hp
 have nfp : ∀ b u,H b = some u→b∉fp:=fun b u e z=>by rw [(hf b z).1] at e; cases e
 have nep : ∀ b ob,s.heap.get? b = some ob→b≠p:=fun b ob e=>yaw (yat (yac e) hp)
 refine I.step (g':=s.gens) (d':=s.drawn) (ch:=fp) (fun b hb=>?_) (fun b ob _ _ hc e _=>k b ob hc e) (fun b ob _ _ hc e _=>⟨ob.slots,k b ob hc e⟩) (fun b ob _ e n=>by rw [zaj (nep b ob e)]; exact n)
  (fun b ob hc e=>⟨ob,k b ob hc e⟩) (fun b xs e=>by rw [zaj (zad e hn)]; exact e) (fun b ob u e=>by rw [zaj (zad e hn)]; exact e) (fun b ps e=>⟨#[],by rw [zaj (zad e hn),e]; simp⟩) (fun m hm=>?_) (fun b u e=>?_) I.bare
 ·obtain ⟨_,h2,_,h4,h5,h6⟩:=hf b hb
  exact ⟨h4,h2,h5,h6⟩
 ·obtain ⟨ob,es,ep,ho,r⟩:=hm
  exact ⟨ob,es,ep,k _ ob (fun z=>(hf _ z).2.1 rfl) ho,r⟩
 ·by_cases hb : b = p
  ·subst hb; rw [zac] at e; cases e; exact new
  ·rw [zaj hb] at e
   refine (I.hok b u e).stay (fun c v hc q=>k c v ?_ q) (fun c q=>by rw [zaj (zad q hn)]; exact q) fun c xs q=>by rw [zaj (zad q hn)]; exact q
   rcases hc with z | z
   ·rw [z]; exact nfp b u e
   ·exact nfp c _ z
theorem zky {P : Program} {w : World} {H : Hp} {h : Heap} {p : Addr} {x y : V} {u v : Value} (rx : RelV x u) (ry : RelV y v) (e : h.get? p = some { cls:=.type "tuple",data:=.seq #[u,v] }) : zaU P w H h p (.tup [x,y]):=
 ⟨by show 2≤sizeLine; decide,[u,v],.cons rx (.cons ry .nil),_,e,rfl,0,rfl⟩
end
def Itz (K : Frag) (a b : Addr) : It:=
 ⟨fun i H=>∃ xs ys x y,SqL K H a xs∧SqL K H b ys∧xs[i]? = some x∧ys[i]? = some y,fun i H x H'=>∃ p y z,x = .ref p∧H p = none∧(∀ xs,SqL K H a xs→xs[i]? = some y)∧(∀ xs,SqL K H b xs→xs[i]? = some z)∧H' = upd H p (.tup [y,z]),fun i H=>∃ xs ys,SqL K H a xs∧SqL K H b ys∧(xs.length≤i∨ys.length≤i)⟩
theorem zjg {P : Program} {w : World} {K : Frag} {es : List Expr} {k0} {pos : Pos} {a b z TI TO i1 i2 : Addr} (D : ZipApart z TI TO i1 i2 a b) : Turn P w K (.Tuple es k0 pos) (Itz K a b) [z,TI,TO,i1,i2] z
  (fun i h=>IsZip h z TI TO .none∧IsPair h TI (.ref i1) (.ref i2)∧(∃ u v,IsPair h TO u v)∧h.IsListIter i1 a i∧h.IsListIter i2 b i) where
 mem:=by simp
 obj:=fun i h st c hc=>by
  obtain ⟨hz,hTI,⟨u,v,hTO⟩,⟨o1,e1,_,d1⟩,⟨o2,e2,_,d2⟩⟩:=st
  simp only [yaj,yaM,or_false] at hc
  rcases hc with rfl | rfl | rfl | rfl | rfl
  ·exact ⟨_,hz,fun v q=>by cases q⟩
  ·exact ⟨_,hTI,fun v q=>by cases q⟩
  ·exact ⟨_,hTO,fun v q=>by cases q⟩
  ·exact ⟨o1,e1,fun v q=>by rw [d1] at q; cases q⟩
  ·exact ⟨o2,e2,fun v q=>by rw [d2] at q; cases q⟩
 keep:=fun i h h' st k=>by
  obtain ⟨hz,hTI,⟨u,v,hTO⟩,h1,h2⟩:=st
  exact ⟨k z (by simp) _ hz,k TI (by simp) _ hTI,⟨u,v,k TO (by simp) _ hTO⟩,h1.at fun o q=>k i1 (by simp) o q,h2.at fun o q=>k i2 (by simp) o q⟩
 item:=by
  intro X hP hw hK hc i pins s σ H E I hf st hg
  subst hP hw hK
  obtain ⟨hz,hTI,⟨u0,v0,hTO⟩,h1,h2⟩:=st
  obtain ⟨xs,ys,x,y,hqa,hqb,hx,hy⟩:=hg
  obtain ⟨its,rv,p,_⟩:=I.list hqa
  obtain ⟨jts,rw',p',_⟩:=I.list hqb
  obtain ⟨u,hu,ru⟩:=rv.get hx
  obtain ⟨v,hv,rv'⟩:=rw'.get hy
  refine wpAny_pyNext_zip_item D hz hTI hTO h1 h2 p.isList p'.isList (x:=u) (y:=v) (by simpa using hu) (by simpa using hv) fun h1' hz1 hTO1 hi1 hi2 ht1 _ k1=>?_
  refine ⟨_,rfl,wpAny_letOwnedTupleGo_zip (s:={ s with heap:=h1' }) hz1 fun h2' hz2 sb=>?_⟩
  have np : s.heap.objs.size≠z:=Nat.ne_of_gt (yac hz)
  have ht2 : h2'.get? s.heap.objs.size = some { cls:=.type "tuple",data:=.seq #[u,v] }:=(sb.2 _ np).trans ht1
  have I2 : Inv X pins σ (upd H s.heap.objs.size (.tup [x,y])) { s with heap:=h2',toks:=s.toks }:=
   I.turnedNew (fp:=[z,TI,TO,i1,i2]) (fun c ob hb q=>(sb.2 c (fun r=>hb (by simp [r]))).trans (k1 c ob (fun r=>hb (by simp [r])) (fun r=>hb (by simp [r])) (fun r=>hb (by simp [r])) (fun r=>hb (by simp [r])) q)) hf (yab _) (zky ru rv' ht2)
  refine ⟨.ref s.heap.objs.size,_,I2,rfl,⟨_,x,y,rfl,I.hok.fresh (yab _),fun ys hy'=>by rw [I.list_inj hy' hqa]; exact hx,fun ys hy'=>by rw [I.list_inj hy' hqb]; exact hy,rfl⟩,⟨hz2,(sb.2 _ D.TIz).trans (k1 TI _ D.TIz D.TITO D.TIi1 D.TIi2 hTI),⟨_,_,(sb.2 _ D.TOz).trans hTO1⟩,hi1.at fun o q=>(sb.2 i1 D.i1z).trans q,hi2.at fun o q=>(sb.2 i2 D.i2z).trans q⟩,fun c hb=>?_⟩
  have zf:=(hf c hb).1
  have lt : c < s.heap.objs.size:=by
   simp only [yaj,yaM,or_false] at hb
   obtain ⟨o1,e1,_⟩:=h1
   obtain ⟨o2,e2,_⟩:=h2
   rcases hb with rfl | rfl | rfl | rfl | rfl
   ·exact yac hz
   ·exact yac hTI
   ·exact yac hTO
   ·exact yac e1
   ·exact yac e2
  rw [zaj (yaw lt)]
  exact zf
 done:=by
  intro X hP hw hK hc i pins s σ H E I hf st hg
  subst hP hw hK
  obtain ⟨hz,hTI,⟨u0,v0,hTO⟩,h1,h2⟩:=st
  obtain ⟨xs,ys,hqa,hqb,hend⟩:=hg
  obtain ⟨its,rv,p,_⟩:=I.list hqa
  obtain ⟨jts,rw',p',_⟩:=I.list hqb
  have l1:=rv.length
  have l2:=rw'.length
  refine wpAny_pyNext_zip_end (I.ok.hd hc) D hz hTI hTO h1 h2 p.isList p'.isList (by
   rcases hend with q | q
   ·left; simp; omega
   ·right; simp; omega) fun h' kk=>⟨rfl,?_⟩
  refine I.step (g':=s.gens) (d':=s.drawn) (t':=s.toks) (ch:=[z,TI,TO,i1,i2]) (fun c hb=>?_) (fun c ob _ _ hn q _=>kk c ob (fun r=>hn (by simp [r])) (fun r=>hn (by simp [r])) (fun r=>hn (by simp [r])) (fun r=>hn (by simp [r])) q)
   (fun c ob _ _ hn q _=>⟨ob.slots,kk c ob (fun r=>hn (by simp [r])) (fun r=>hn (by simp [r])) (fun r=>hn (by simp [r])) (fun r=>hn (by simp [r])) q⟩) (fun _ _ _ _ n=>n)
   (fun c ob hn q=>⟨ob,kk c ob (fun r=>hn (by simp [r])) (fun r=>hn (by simp [r])) (fun r=>hn (by simp [r])) (fun r=>hn (by simp [r])) q⟩) (fun _ _ q=>q) (fun _ _ _ q=>q) (fun c ps q=>⟨#[],by rw [q]; simp⟩) (fun m hm=>?_) (fun c u e=>?_) I.bare
  ·obtain ⟨_,q2,_,q4,q5,q6⟩:=hf c hb
   exact ⟨q4,q2,q5,q6⟩
  ·obtain ⟨ob,es,ep,ho,r⟩:=hm
   have nL : ∀ c∈[z,TI,TO,i1,i2],X.env.locals≠c:=fun c hc=>Ne.symm (hf c hc).2.1
   exact ⟨ob,es,ep,kk _ ob (nL z (by simp)) (nL TO (by simp)) (nL i1 (by simp)) (nL i2 (by simp)) ho,r⟩
  ·have nf : ∀ c' u,H c' = some u→∀ q∈[z,TI,TO,i1,i2],c'≠q:=fun c' u e q hq r=>by rw [r,(hf q hq).1] at e; cases e
   refine (I.hok c u e).stay (fun c' v hc' q=>?_) (fun _ q=>q) fun _ _ q=>q
   have go : ∀ u',H c' = some u'→h'.get? c' = some v:=fun u' e'=>kk c' v (nf c' _ e' z (by simp)) (nf c' _ e' TO (by simp)) (nf c' _ e' i1 (by simp)) (nf c' _ e' i2 (by simp)) q
   rcases hc' with r | r
   ·exact go u (by rw [r]; exact e)
   ·exact go _ r
 self:=fun _ _ _ _ _ st h=>wpAny_pyIter_zip st.1 h
theorem zhG {l l' n : Nat} (hl : l < n) (hl' : l' < n) : ZipApart (n + 4) (n + 2) (n + 3) n (n + 1) l l':=by
 constructor <;> (intro z; have z' : (_ : Nat) = _:=z; omega)
theorem zln {n c : Nat} (h : c∈[n + 4,n + 2,n + 3,n,n + 1]) : n≤c:=by
 simp only [yaj,yaM,or_false] at h
 omega
def iZip (K : Frag) (ta : TA) : TI:=fun σ H R=>ta σ H fun vs H1=>∃ a b,vs = [.ref a,.ref b]∧(∃ xs,SqL K H1 a xs)∧(∃ xs,SqL K H1 b xs)∧R (Itz K a b) H1
section
variable {X : Cx}
theorem zkg {es : List Expr} {k0} {tp : Pos} {a b : Expr} {ta : TA} {p pos : Pos} (hg : Gl X "zip") (hm : X.mg "zip" = none) (ha : PA X [a,b] ta) (hs : starEach [a,b] X.env = [(false,eval a X.env),(false,eval b X.env)]:=by rfl) (hs2 : starEach [b] X.env = [(false,eval b X.env)]:=by rfl) : PI X (.Tuple es k0 tp) (.Call (.Name "zip" p) [a,b] [] pos) (iZip X.K ta):=by
 intro pins s σ H R I h
 refine Call_ (zex I hg hm boot_zip (PyProof.Rows.callWith_type1 (thn (ha pos pins s σ H _ I h) fun us s1 ⟨vs,H1,I1,r1,q1⟩=>?_) (by rw [hs,hs2]) (by rw [hs2]; rfl)))
 obtain ⟨l,l',e,⟨xs,hq⟩,⟨ys,hq'⟩,q⟩:=q1
 subst e
 cases r1 with
 | cons r rr=>
  cases rr with
  | cons r' rr=>
   cases rr
   cases r
   cases r'
   obtain ⟨its,rv,pl,hz⟩:=I1.list hq
   obtain ⟨jts,rv',pl',hz'⟩:=I1.list hq'
   have hl : l < s1.heap.objs.size:=by obtain ⟨o,_,e,_⟩:=pl; exact yac e
   have hl' : l' < s1.heap.objs.size:=by obtain ⟨o,_,e,_⟩:=pl'; exact yac e
   refine call_zip_2 pl.isList pl'.isList fun h' hz hTI hTO hi hi' _ hk=>?_
   have I2 : Inv X pins σ H1 { s1 with heap:=h' }:=I1.kept (t':=s1.toks) hk
   refine wpAny_pyIter_zip (s:={ s1 with heap:=h' }) hz ⟨_,[s1.heap.objs.size + 4,s1.heap.objs.size + 2,s1.heap.objs.size + 3,s1.heap.objs.size,s1.heap.objs.size + 1],_,_,H1,rfl,I2,zjg (zhG hl hl'),⟨hz,hTI,⟨_,_,hTO⟩,hi,hi'⟩,fun c hb=>?_,q⟩
   have hb' : s1.heap.objs.size≤c:=zln hb
   exact I1.fpOk hb' (I1.hok.fresh hb')
end
end L2
namespace L2
open PySem PySem.Spec PyProof.Rows
def zbh (X : Cx) (N : List Str) (scope : Scope) (cl : List (Str×Addr)) (C : Addr) (s₂ : Shared) (H₂ : Hp) (fp : List Addr) : Cx:=
 { X with N:=N,s₀:=s₂,H₀:=H₂,env:=compEnvC scope cl C X.env,outer:=X.stack,stack:=X.stack,ex:=fp,fn:=fun _=>false,xe:=fun _ _=>False }
structure zf4 (scope : Scope) (env : Env) (cl : List (Str×Addr)) : Prop where
 eq : closureFor scope env = pure cl
 sub : ∀ x c,cl.lookup x = some c→env.cells.lookup x = some c
 has : ∀ x,(x,NameKind.free)∈scope.names→∃ c,cl.lookup x = some c
theorem zeg {env : Env} : ∀ (names : List (Str×NameKind)) (cs : List (Str×Addr)),(∀ x,(x,NameKind.free)∈names→∃ c,env.cells.lookup x = some c)→(∀ x c,cs.lookup x = some c→env.cells.lookup x = some c)→
  ∃ cl : List (Str×Addr),(forIn names cs (fun (x : Str×NameKind) (r : List (Str×Addr))=>if (x.2 == NameKind.free) = true then (do let c ← cellOf env x.1; pure (ForInStep.yield ((x.1,c) :: r))) else pure (ForInStep.yield r)) : Sem (List (Str×Addr))) = pure cl∧
   (∀ x c,cl.lookup x = some c→env.cells.lookup x = some c)∧(∀ x c,cs.lookup x = some c→∃ c',cl.lookup x = some c')∧∀ x,(x,NameKind.free)∈names→∃ c,cl.lookup x = some c
 | [],cs,_,h2=>⟨cs,by rw [List.forIn_nil],h2,fun x c e=>⟨c,e⟩,fun _ z=>nomatch z⟩
 | (n,k) :: r,cs,h1,h2=>by
  by_cases hk : k = .free
  ·subst hk
   obtain ⟨c,hc⟩:=h1 n yah
   have hn : ∀ x c',((n,c) :: cs).lookup x = some c'→env.cells.lookup x = some c':=fun x c' e=>by
    rw [yaT] at e
    cases hx : x == n with
    | true=>
     rw [hx] at e
     cases e
     rw [eq_of_beq hx]
     exact hc
    | false=>
     rw [hx] at e
     exact h2 x c' e
   obtain ⟨cl,e,s1,s2,s3⟩:=zeg r ((n,c) :: cs) (fun x hx=>h1 x (yal _ hx)) hn
   have here : ∃ c',cl.lookup n = some c':=s2 n c (by rw [yaT,beq_self_eq_true])
   refine ⟨cl,?_,s1,fun x c' q=>?_,fun x hx=>?_⟩
   ·rw [List.forIn_cons,if_pos (by rfl)]
    have q : cellOf env n = pure c:=by unfold cellOf; rw [hc]
    rw [q]
    simp only [pure_bind]
    exact e
   ·cases hxn : x == n with
    | true=>rw [eq_of_beq hxn]; exact here
    | false=>exact s2 x c' (by rw [yaT,hxn]; exact q)
   ·rcases yaj.mp hx with z | z
    ·cases z; exact here
    ·exact s3 x z
  ·obtain ⟨cl,e,s1,s2,s3⟩:=zeg r cs (fun x hx=>h1 x (yal _ hx)) h2
   refine ⟨cl,?_,s1,s2,fun x hx=>?_⟩
   ·have hb : (k == NameKind.free) = false:=by simpa using hk
    rw [List.forIn_cons,if_neg (by rw [hb]; exact yau)]
    simp only [pure_bind]
    exact e
   ·rcases yaj.mp hx with z | z
    ·cases z; exact absurd rfl hk
    ·exact s3 x z
theorem zef {scope : Scope} {env : Env} (h : ∀ x,(x,NameKind.free)∈scope.names→∃ c,env.cells.lookup x = some c) : ∃ cl,zf4 scope env cl:=by
 obtain ⟨cl,e,s1,_,s3⟩:=zeg scope.names [] h (fun _ _ z=>nomatch z)
 refine ⟨cl,?_,s1,s3⟩
 unfold closureFor
 exact (by simpa using e)
theorem zbJ {env : Env} : ∀ {names : List (Str×NameKind)} {x : Str},names.lookup x = some .free→
  (names.map fun (n,k)=>if (k == NameKind.free && env.scope.kind == .function && env.kindOf n == some .cell) then (n,NameKind.cell) else (n,k)).lookup x = some .cell∨
  (names.map fun (n,k)=>if (k == NameKind.free && env.scope.kind == .function && env.kindOf n == some .cell) then (n,NameKind.cell) else (n,k)).lookup x = some .free
 | [],_,h=>by simp at h
 | (n,k) :: r,x,h=>by
  have ih:=@zbJ env r x
  show List.lookup x ((if (k == NameKind.free && env.scope.kind == .function && env.kindOf n == some .cell) = true then (n,NameKind.cell) else (n,k)) :: _) = _∨List.lookup x ((if (k == NameKind.free && env.scope.kind == .function && env.kindOf n == some .cell) = true then (n,NameKind.cell) else (n,k)) :: _) = _
  cases hx : x == n with
  | true=>
   simp only [yaT,hx] at h
   cases h
   by_cases hc : (NameKind.free == NameKind.free && env.scope.kind == .function && env.kindOf n == some .cell) = true
   ·rw [if_pos hc]; left; simp only [yaT,hx]
   ·rw [if_neg hc]; right; simp only [yaT,hx]
  | false=>
   simp only [yaT,hx] at h
   by_cases hc : (k == NameKind.free && env.scope.kind == .function && env.kindOf n == some .cell) = true
   ·rw [if_pos hc]; simp only [yaT,hx]; exact ih h
   ·rw [if_neg hc]; simp only [yaT,hx]; exact ih h
theorem zcT {env : Env} : ∀ {names : List (Str×NameKind)} {x : Str} {k' : NameKind},(names.map fun (n,k)=>if (k == NameKind.free && env.scope.kind == .function && env.kindOf n == some .cell) then (n,NameKind.cell) else (n,k)).lookup x = some k'→k' = .cell∨k' = .free→
  (∀ y∈names,y.2≠.cell)→(x,NameKind.free)∈names
 | [],_,_,h,_,_=>by simp at h
 | (n,k) :: r,x,k',h,hk,hc=>by
  have ih:=@zcT env r x k'
  have h' : List.lookup x ((if (k == NameKind.free && env.scope.kind == .function && env.kindOf n == some .cell) = true then (n,NameKind.cell) else (n,k)) :: r.map fun (n,k)=>if (k == NameKind.free && env.scope.kind == .function && env.kindOf n == some .cell) then (n,NameKind.cell) else (n,k)) = some k':=h
  cases hx : x == n with
  | true=>
   have e:=eq_of_beq hx
   subst e
   by_cases hf : k = .free
   ·subst hf; exact yah
   ·have hb : (k == NameKind.free) = false:=by simpa using hf
    rw [if_neg (by rw [hb]; simp),yaT,hx] at h'
    cases h'
    rcases hk with z | z
    ·exact absurd z (hc (x,k) yah)
    ·exact absurd z hf
  | false=>
   refine yal _ (ih ?_ hk fun y hy=>hc y (yal _ hy))
   by_cases hcd : (k == NameKind.free && env.scope.kind == .function && env.kindOf n == some .cell) = true
   ·rw [if_pos hcd,yaT,hx] at h'; exact h'
   ·rw [if_neg hcd,yaT,hx] at h'; exact h'
def zdA (own : Nat) (cap : List Nat) (σ : St) : St:=List.replicate own none ++ cap.map fun i=>(σ[i]?).getD none
structure zg8 (X : Cx) (scope : Scope) (N : List Str) (own : Nat) (cap : List Nat) : Prop where
 kind : scope.kind = .function
 nocell : (scope.names.all fun y=>y.2 != .cell) = true
 locs : (scope.names.all fun y=>y.2 != .local || scope.names.lookup y.1 == some .local) = true
 frees : (scope.names.all fun y=>y.2 != .free || (X.env.kindOf y.1 == some .cell || X.env.kindOf y.1 == some .free)) = true
 len : N.length = own + cap.length
 caps : ((List.range cap.length).all fun j=>(N[own + j]? == X.N[cap[j]!]?) && (match N[own + j]? with | some x=>scope.names.lookup x == some .free && (X.env.kindOf x == some .cell || X.env.kindOf x == some .free) | none=>false)) = true
section
variable {prog : Program} {w : World} {A : Around} {R : Result→Shared→Prop} {s : Shared}
theorem zgv {elt target iter : Expr} {ifs : List Expr} {scope : Scope} {pos : Pos} {it acc : Value} {env : Env} (I : Nat→Shared→Prop)
  (turn : ∀ n s,I n s→wpAny (model prog w) A (pyNext it) (fun r s₁=>match r with
   | none=>R (.ok .next) s₁
   | some v=>wpAny (model prog w) A (letOwnedTupleGo target it v) (fun _ s₁'=>wpAny (model prog w) A (assign target env v) (fun _ s₂=>
     wpAny (model prog w) A (forIn ifs true fun c r=>if r = true then do let ok ← isTrue c env (eval c env); pure (ForInStep.yield ok) else pure (ForInStep.yield r)) (fun ok s₃=>
      if ok = true then wpAny (model prog w) A (eval elt env) (fun x s₄=>
       wpAny (model prog w) A (call (.builtin "list.append") [acc,x]) (fun _ s₅=>∃ m,m < n∧I m s₅) (fun _ _=>False) s₄) (fun _ _=>False) s₃
      else ∃ m,m < n∧I m s₃) (fun _ _=>False) s₂) (fun _ _=>False) s₁') (fun _ _=>False) s₁) (fun _ _=>False) s)
  (n : Nat) (h : I n s) :
  codeAny (model prog w) A (.compLoop (.ListComp elt [⟨target,iter,ifs,0⟩] scope pos) 0 it acc env) R s:=by
 refine codeAny_loop rfl I (fun n s hI=>?_) n h
 show wpAny _ A ((compTurn (.ListComp elt [⟨target,iter,ifs,0⟩] scope pos) 0 it acc env).onRaise (fun x=>do noteFrame x env; theTreesLotGoes x)) _ _ s
 refine wpAny_noted ?_
 rw [compTurn_list]
 refine wpAny_bind (wpAny_standAt (wpAny_bind (wpAny_mono (turn n s hI) (fun r s₁ h₁=>?_) fun _ _ h'=>h'.elim)))
 cases r with
 | none=>exact wpAny_pure h₁
 | some v=>
  refine wpAny_bind (wpAny_mono h₁ (fun _ s₁' h₁'=>?_) fun _ _ h'=>h'.elim)
  refine wpAny_bind (wpAny_mono h₁' (fun _ s₂ h₂=>wpAny_bind (wpAny_mono h₂ (fun ok s₃ h₃=>?_) fun _ _ h'=>h'.elim)) fun _ _ h'=>h'.elim)
  cases ok with
  | true=>
   simp only [if_true] at h₃ ⊢
   exact wpAny_bind (wpAny_bind (wpAny_mono h₃ (fun x s₄ h₄=>wpAny_bind (wpAny_mono h₄ (fun _ s₅ h₅=>wpAny_pure (wpAny_pure ⟨rfl,h₅⟩)) fun _ _ h'=>h'.elim)) fun _ _ h'=>h'.elim))
  | false=>
   simp only [yaE,if_false] at h₃ ⊢
   exact wpAny_pure ⟨rfl,h₃⟩
end
section
variable {X : Cx}
def PTs (X : Cx) (ifs : List Expr) (t : TT) : Prop:=
 ∀ (pins : List (Addr×Obj)) (s : Shared) (σ : St) (H : Hp) (Q : Bool→Hp→Prop),Inv X pins σ H s→t σ H Q→
  wpAny (model X.prog X.w) X.A (forIn ifs true fun c r=>if r = true then do let ok ← isTrue c X.env (eval c X.env); pure (ForInStep.yield ok) else pure (ForInStep.yield r)) (TP X pins σ Q) X.xe s
def tYes : TT:=fun _ H Q=>Q true H
theorem zbR : PTs X [] tYes:=fun _ _ _ H _ I h=>wpAny_tests_nil ⟨H,I,h⟩
theorem ze3 {c : Expr} {t : TT} (h : PT X c t) : PTs X [c] t:=fun pins s σ H Q I q=>wpAny_tests_one (h pins s σ H Q I q)
theorem zjQ {pins : List (Addr×Obj)} {σ : St} {H : Hp} {s : Shared} {N : List Str} {own : Nat} {cap : List Nat} {scope : Scope} {cl : List (Str×Addr)} {C : Addr} {fp : List Addr} {h₁ : Heap} {tk : Nat} {D : Addr}
  (I : Inv X pins σ H s) (c : zg8 X scope N own cap) (hcl : zf4 scope X.env cl) (f : ∀ b∈fp,FpOk X pins H b) (hD : s.heap.objs.size≤D) (hC : s.heap.objs.size≤C) (hCD : D≠C)
  (kp : ∀ b o,s.heap.get? b = some o→h₁.get? b = some o) (hnew : h₁.get? D = some { cls:=.type "list",data:=.seq #[] }) (hns : ∃ m,h₁.Ns C m) (hfp : ∀ b∈fp,b < s.heap.objs.size) (hcalm : X.calm = true) :
  Inv (zbh X N scope cl C s H fp) pins (zdA own cap σ) (upd H D (.lst [])) { s with heap:=h₁,toks:=tk }:=by
 have hfr : H D = none:=I.hok.fresh hD
 have hfrC : H C = none:=I.hok.fresh hC
 have sz : ∀ b o,s.heap.get? b = some o→b≠D∧b≠C:=fun b o e=>⟨yaw (yat (yac e) hD),yaw (yat (yac e) hC)⟩
 have cells : ∀ x cc,cl.lookup x = some cc→∃ v,s.heap.IsCell cc v:=fun x cc e=>I.cell x cc (hcl.sub x cc e)
 have cellne : ∀ x cc,cl.lookup x = some cc→cc≠D∧cc≠C:=fun x cc e=>by
  obtain ⟨v,o,ho,_⟩:=cells x cc e
  exact sz cc o ho
 have ok : (zbh X N scope cl C s H fp).Ok:=by
  refine ⟨I.ok.mod,c.kind,I.ok.glob,I.ok.blt,hC,fun x y cc e1 e2=>I.ok.inj x y cc (hcl.sub x cc e1) (hcl.sub y cc e2),fun x hx=>?_,(fun x cc z _=>nomatch z),I.ok.hd,I.ok.frames,.inl rfl,fun b hb=>?_,fun b o e=>I.bs b o e,?_,fun b o e hb=>?_,fun b hb z=>?_,I.stack,fun b hb=>I.stkFree b hb⟩
  ·have hm : (x,NameKind.free)∈scope.names:=by
    rcases hx with z | z
    ·exact zcT (env:=X.env) (names:=scope.names) (x:=x) (k':=.cell) z (.inl rfl) fun y hy q=>by
      have:=yaZ.mp c.nocell y hy
      rw [q] at this
      exact absurd this (by decide)
    ·exact zcT (env:=X.env) (names:=scope.names) (x:=x) (k':=.free) z (.inr rfl) fun y hy q=>by
      have:=yaZ.mp c.nocell y hy
      rw [q] at this
      exact absurd this (by decide)
   exact hcl.has x hm
  ·exact ⟨yaw (yat (hfp b hb) hC),fun x cc e z=>(f b hb).2.2.2.2.1 x cc (hcl.sub x cc e) z⟩
  ·exact yaB I.ok.bsz I.sz
  ·obtain ⟨_,_,_,h4,_⟩:=f b hb
   rcases h4 with z | z
   ·exact I.ok.noex b o e z
   ·exact absurd (yat (yac e) (yaB I.ok.bsz z)) (ya2 _)
  ·obtain ⟨_,h2,h3,_⟩:=f b hb
   rcases yaj.mp (I.stkSub b z) with q | q
   ·exact h2 q
   ·exact h3 q
 have hokN : zaU X.prog X.w (upd H D (.lst [])) h₁ D (.lst []):=⟨yaF _,[],0,.nil,hnew⟩
 refine ⟨ok,I.os.symm ▸ rfl,I.bare,Un.laid kp hD hfr,?_,fun x cc e=>?_,?_,fun x cc e=>?_,fun p hp=>?_,I.hok.laid kp hD hokN,?_⟩
 ·obtain ⟨m,hm⟩:=hns
  refine ⟨m,hm,fun i x v e1 e2 e3=>?_⟩
  have hi : own≤i:=by
   false_or_by_contra
   rename_i z
   unfold zdA at e2
   rw [yaO (by rw [ybr]; omega),List.getElem?_replicate] at e2
   split at e2 <;> cases e2
  obtain ⟨j,rfl⟩ : ∃ j,i = own + j:=⟨i - own,by omega⟩
  have hj : j < cap.length:=by
   have:=(yaD.mp e1).1
   have z:=c.len
   have this' : own + j < N.length:=this
   omega
  have hc:=yaZ.mp c.caps j (ya3.mpr hj)
  have e1' : N[own + j]? = some x:=e1
  rw [e1'] at hc
  simp only [ya4,beq_iff_eq,Bool.or_eq_true] at hc
  obtain ⟨hN,hf,hk⟩:=hc
  have e2' : σ[cap[j]!]? = some (some v):=by
   unfold zdA at e2
   rw [yaL (by rw [ybr]; omega),ybr,show own + j - own = j by omega,yax] at e2
   have g : cap[j]! = cap[j]:=by simp [hj]
   rw [yad hj,Option.map_some] at e2
   rw [g]
   have e2:=yai e2
   cases q : σ[cap[j]]? with
   | none=>rw [q] at e2; cases e2
   | some z=>rw [q] at e2; exact congrArg some e2
  obtain ⟨m0,_,hl⟩:=I.loc
  obtain ⟨u,ru,lk⟩:=hl (cap[j]!) x v hN.symm e2' (by
   rcases hk with z | z
   ·exact .inr (.inl z)
   ·exact .inr (.inr z))
  refine ⟨u,ru,.inr ⟨zbJ (env:=X.env) hf,?_⟩⟩
  rcases lk with ⟨z,_⟩ | ⟨_,cc,ec,ic⟩
  ·rcases hk with q | q
   ·rw [q] at z; cases z
   ·rw [q] at z; cases z
  ·obtain ⟨c',hc'⟩:=hcl.has x (by
    have : (x,NameKind.free)∈scope.names:=by
     have hlk:=hf
     obtain ⟨l1,l2,hs,hno⟩:=List.lookup_eq_some_iff.mp hlk
     rw [hs]
     exact yaq _ yah
    exact this)
   have:=hcl.sub x c' hc'
   rw [ec] at this
   cases this
   obtain ⟨o,ho,hd⟩:=ic
   exact ⟨cc,hc',o,kp cc o ho,hd⟩
 ·obtain ⟨v,o,ho,hd⟩:=cells x cc e
  exact ⟨v,o,kp cc o ho,hd⟩
 ·show upd H D (.lst []) C = none
  rw [zaj (Ne.symm hCD)]
  exact hfrC
 ·show upd H D (.lst []) cc = none
  rw [zaj (cellne x cc e).1]
  exact I.freeC x cc (hcl.sub x cc e)
 ·obtain ⟨e,n,ne,nf,d⟩:=I.pin p hp
  refine ⟨kp _ _ e,?_,(sz _ _ e).2,fun z=>?_,d⟩
  ·show upd H D (.lst []) p.1 = none
   rw [zaj (sz _ _ e).1]
   exact n
  ·rcases yaj.mp (I.stkSub p.1 z) with q | q
   ·exact ne q
   ·exact nf q
 ·show (zdA own cap σ).length = N.length
  unfold zdA
  rw [yae,ybr,yaa,c.len]
def zlw (own : Nat) (cap : List Nat) (wi : TI) (g : TG) (ts : TT) (te : TE) : TE:=fun σ H Q=>wi σ H fun J H1=>∀ D,H1 D = none→∃ W : Nat→Nat→St→Hp→Prop,(∃ m,W 0 m (zdA own cap σ) (upd H1 D (.lst [])))∧∀ i m σ H,W i m σ H→
 (J.stop i H∧Q (.ref D) H)∨(J.go i H∧∀ x H',J.yld i H x H'→g x σ H' fun σ2 H2=>ts σ2 H2 fun b H3=>if b = true then te σ2 H3 fun y H4=>∃ xs,H4 D = some (.lst xs)∧xs.length < sizeLine∧∃ m',m' < m∧W (i + 1) m' σ2 (upd H4 D (.lst (xs ++ [y]))) else ∃ m',m' < m∧W (i + 1) m' σ2 H3)
theorem zfW {pins : List (Addr×Obj)} {σ : St} {H2 : Hp} {s2 : Shared} {N : List Str} {own : Nat} {cap : List Nat} {scope : Scope} {cl : List (Str×Addr)} {fp : List Addr} {tg elt iter : Expr} {ifs : List Expr} {pos : Pos} {J : It} {it : Addr} {tn : Nat→Heap→Prop} {g : TG} {ts : TT} {te : TE} {Q : VK}
  {E : Value→Shared→Prop} {RR : Value→Addr→Result→Shared→Prop}
  (hcalm : X.calm = true) (c : zg8 X scope N own cap) (hcl : zf4 scope X.env cl)
  (hg : ∀ cl C s₂ H₂ fp,PG (zbh X N scope cl C s₂ H₂ fp) tg g) (hts : ∀ cl C s₂ H₂ fp,PTs (zbh X N scope cl C s₂ H₂ fp) ifs ts) (he : ∀ cl C s₂ H₂ fp,PE (zbh X N scope cl C s₂ H₂ fp) elt te)
  (I2 : Inv X pins σ H2 s2) (T : Turn X.prog X.w X.K tg J fp it tn) (st2 : tn 0 s2.heap) (f2 : ∀ b∈fp,FpOk X pins H2 b)
  (rd : ∀ D,H2 D = none→∃ W : Nat→Nat→St→Hp→Prop,(∃ m,W 0 m (zdA own cap σ) (upd H2 D (.lst [])))∧∀ i m σ H,W i m σ H→
   (J.stop i H∧Q (.ref D) H)∨(J.go i H∧∀ x H',J.yld i H x H'→g x σ H' fun σ2 H2=>ts σ2 H2 fun b H3=>if b = true then te σ2 H3 fun y H4=>∃ xs,H4 D = some (.lst xs)∧xs.length < sizeLine∧∃ m',m' < m∧W (i + 1) m' σ2 (upd H4 D (.lst (xs ++ [y]))) else ∃ m',m' < m∧W (i + 1) m' σ2 H3))
  (hRR : ∀ D C s' H',Inv X pins σ H' s'→(∃ m,s'.heap.Ns C m)→FpOk X pins H' C→Q (.ref D) H'→RR (.ref D) C (.ok .next) s') :
  wpAny (model X.prog X.w) X.A (newList []) (fun acc s₃=>wpAny (model X.prog X.w) X.A (newFunctionEnv scope X.env.globals cl [] X.env.qual none .none (some X.env)) (fun cenv s₄=>
   codeAny (model X.prog X.w) X.A (.compStart (.ListComp elt [⟨tg,iter,ifs,0⟩] scope pos) 0 (.ref it) acc { cenv with scope:=relabel scope X.env }) (RR acc cenv.locals) s₄) E s₃) E s2:=by
 have hcell : ∀ y∈scope.names,y.2≠.cell:=fun y hy q=>by
  have:=yaZ.mp c.nocell y hy
  rw [q] at this
  exact absurd this (by decide)
 have hfp : ∀ b∈fp,b < s2.heap.objs.size:=fun b hb=>by
  obtain ⟨o,e,_⟩:=T.obj 0 _ st2 b hb
  exact yac e
 refine wpAny_newObj_type (wpAny_newFunctionEnv hcell (by intro y hy; simp at hy) (fun h₁ hns₁ hsb₁=>?_) c.kind)
 dsimp only at hns₁ hsb₁ ⊢
 generalize hHH : s2.heap.push { cls:=.type "list",dict:=none,data:=.seq ([] : List Value).toArray } = HH at hns₁ hsb₁ ⊢
 have hC : HH.objs.size = s2.heap.objs.size + 1:=by rw [← hHH,Heap.size_push]
 have hDC : s2.heap.objs.size≠HH.objs.size:=by rw [hC]; exact yaw (Nat.lt_succ_self _)
 have hCle : s2.heap.objs.size≤HH.objs.size:=by rw [hC]; exact Nat.le_succ _
 have old : ∀ b o,s2.heap.get? b = some o→h₁.get? b = some o:=fun b o e=>hsb₁.extBut b o (yaw (by rw [hC]; exact Nat.lt_succ_of_lt (yac e))) (yam _ (hHH ▸ yam _ e))
 have hnew : h₁.get? s2.heap.objs.size = some { cls:=.type "list",data:=.seq #[] }:=hsb₁.extBut _ _ hDC (yam _ (hHH ▸ yaN _ rfl))
 have I3 : ∀ tk,Inv (zbh X N scope cl HH.objs.size s2 H2 fp) pins (zdA own cap σ) (upd H2 s2.heap.objs.size (.lst [])) { s2 with heap:=h₁,toks:=tk }:=fun tk=>
  zjQ I2 c hcl f2 (yab _) hCle hDC old hnew ⟨_,hns₁⟩ hfp hcalm
 obtain ⟨W,⟨m0,w0⟩,turn⟩:=rd s2.heap.objs.size (I2.hok.fresh (yab _))
 have st3 : tn 0 h₁:=T.keep _ _ _ st2 fun b _ o e=>old b o e
 have fr3 : ∀ b∈fp,upd H2 s2.heap.objs.size (.lst []) b = none:=fun b hb=>by rw [zaj (yaw (hfp b hb))]; exact (f2 b hb).1
 have stat : ∀ {H' : Hp},(∀ b∈fp,H' b = none)→∀ b∈fp,FpOk (zbh X N scope cl HH.objs.size s2 H2 fp) pins H' b:=fun hn b hb=>by
  obtain ⟨_,h2,h3,_,h5,h6⟩:=f2 b hb
  refine ⟨hn b hb,yaw (yat (hfp b hb) hCle),fun z=>?_,.inl hb,fun x cc e=>h5 x cc (hcl.sub x cc e),h6⟩
  rcases yaj.mp (I2.stkSub b z) with q | q
  ·exact h2 q
  ·exact h3 q
 have loop : ∀ s₃ : Shared,s₃ = { s2 with heap:=h₁,toks:=s2.toks + ([] : List (Str×Value)).length }→
   codeAny (model X.prog X.w) X.A (.compLoop (.ListComp elt [⟨tg,iter,ifs,0⟩] scope pos) 0 (.ref it) (.ref s2.heap.objs.size) (compEnvC scope cl HH.objs.size X.env)) (RR (.ref s2.heap.objs.size) HH.objs.size) s₃:=by
  rintro s₃ rfl
  refine zgv (fun n s'=>∃ i σ' H',Inv (zbh X N scope cl HH.objs.size s2 H2 fp) pins σ' H' s'∧tn i s'.heap∧(∀ b∈fp,H' b = none)∧W i n σ' H') ?_ m0 ⟨0,_,_,I3 _,st3,fr3,w0⟩
  rintro n s3 ⟨i,σ3,H3,J3,t3,fr,w3⟩
  rcases turn i n σ3 H3 w3 with ⟨stop,qn⟩ | ⟨go,step⟩
  ·refine thn (T.done (zbh X N scope cl HH.objs.size s2 H2 fp) rfl rfl rfl hcalm i pins s3 σ3 H3 (fun _ _=>False) J3 (stat fr) t3 stop) fun r s4 ⟨hr,I4⟩=>?_
   subst hr
   obtain ⟨mm,hmm,_⟩:=I4.loc
   refine hRR _ _ s4 H3 (I2.call' I4.os I4.base I4.hok I4.bare fun b hb=>?_) ⟨mm,hmm⟩ (I2.fpOk hCle I4.free) qn
   obtain ⟨_,h2,_,h4,h5,h6⟩:=f2 b hb
   exact ⟨h4,h2,h5,h6⟩
  ·refine thn (T.item (zbh X N scope cl HH.objs.size s2 H2 fp) rfl rfl rfl hcalm i pins s3 σ3 H3 (fun _ _=>False) J3 (stat fr) t3 go) fun r s4 ⟨u,hr,h4⟩=>?_
   subst hr
   refine thn h4 fun _ s5 ⟨x,H5,I5,r5,y5,st5,fr5⟩=>?_
   have I5':=I5.pinned (stat fr5) (T.obj _ _ st5)
   have back : ∀ {σ7 : St} {H7 : Hp} {s7 : Shared} {m' : Nat},Inv (zbh X N scope cl HH.objs.size s2 H2 fp) (pins ++ zfC fp s5.heap) σ7 H7 s7→W (i + 1) m' σ7 H7→∃ i σ' H',Inv (zbh X N scope cl HH.objs.size s2 H2 fp) pins σ' H' s7∧tn i s7.heap∧(∀ b∈fp,H' b = none)∧W i m' σ' H':=fun {σ7 H7 s7 m'} I7 w7=>by
    refine ⟨i + 1,σ7,H7,I7.unpinned,T.keep _ _ _ st5 fun b hb o e=>(I7.pin (b,o) (yaq _ (yaq _ (zcL hb e)))).1,fun b hb=>?_,w7⟩
    obtain ⟨o,e,d⟩:=T.obj _ _ st5 b hb
    exact (I7.pin (b,o) (yaq _ (yaq _ (zcL hb e)))).2.1
   refine thn (hg cl HH.objs.size s2 H2 fp _ s5 σ3 H5 x u _ I5' r5 (step x H5 y5)) fun _ s6 ⟨σ6,H6,I6,q6⟩=>?_
   refine thn (hts cl HH.objs.size s2 H2 fp _ s6 σ6 H6 _ I6 q6) fun b s7 ⟨H7,I7,q7⟩=>?_
   cases b with
   | false=>
    rw [if_neg yau] at q7 ⊢
    obtain ⟨m',hm,w7⟩:=q7
    exact ⟨m',hm,back I7 w7⟩
   | true=>
    rw [if_pos rfl] at q7 ⊢
    refine thn (he cl HH.objs.size s2 H2 fp _ s7 σ6 H7 _ I7 q7) fun v s8 ⟨y,H8,I8,r8,q8⟩=>?_
    obtain ⟨xs,hx,hz,m',hm,w8⟩:=q8
    refine thn (zcq (X:=zbh X N scope cl HH.objs.size s2 H2 fp) _ s8 σ6 H8 (.ref s2.heap.objs.size) [y] (.ref s2.heap.objs.size) [v] (fun _ H9=>H9 = upd H8 s2.heap.objs.size (.lst (xs ++ [y]))) I8 rfl (.cons r8 .nil) ⟨_,xs,y,rfl,rfl,hx,hz,rfl⟩) fun _ s9 ⟨_,H9,I9,_,e9⟩=>?_
    subst e9
    exact ⟨m',hm,back I9 w8⟩
 refine codeAny_compStart_list (loop _ rfl) ?_
 exact T.self _ 0 _ _ _ st3 (loop _ rfl)
theorem zbj {N : List Str} {own : Nat} {cap : List Nat} {scope : Scope} {tg elt iter : Expr} {ifs : List Expr} {pos : Pos} {wi : TI} {g : TG} {ts : TT} {te : TE} (hcalm : X.calm = true) (hi : PI X tg iter wi) (c : zg8 X scope N own cap)
  (hg : ∀ cl C s₂ H₂ fp,PG (zbh X N scope cl C s₂ H₂ fp) tg g) (hts : ∀ cl C s₂ H₂ fp,PTs (zbh X N scope cl C s₂ H₂ fp) ifs ts) (he : ∀ cl C s₂ H₂ fp,PE (zbh X N scope cl C s₂ H₂ fp) elt te)
  (hs : ∀ x,foldedSetIterable iter X.env x = pure x:=by intro _; rfl) : PE X (.ListComp elt [⟨tg,iter,ifs,0⟩] scope pos) (zlw own cap wi g ts te):=by
 intro pins s σ H Q I h
 obtain ⟨cl,hcl⟩:=zef (scope:=scope) (env:=X.env) fun x hx=>I.ok.has x (by
  have:=yaZ.mp c.frees _ hx
  simpa using this)
 rw [eval_ListComp]
 refine wpAny_comprehension_free (use:=none) rfl hs hcl.eq c.kind (fun x hx hl=>by
  have:=yaZ.mp c.locs x hx
  rw [hl] at this
  simpa using this) (thn (hi pins s σ H _ I h) fun v s1 h1=>thn h1 fun itv s2 h2=>?_)
 obtain ⟨it,fp,tn,J,H2,e,I2,T,st2,f2,rd⟩:=h2
 subst e
 refine zfW (RR:=fun acc C=>compPost (model X.prog X.w) X.A X.xe none (EP X pins σ Q) acc C) hcalm c hcl hg hts he I2 T st2 f2 rd ?_
 intro D C s' H' I' hm fC q
 obtain ⟨m,hm⟩:=hm
 obtain ⟨f0,f1,f2,f3,f4,f5⟩:=fC
 exact ⟨m,hm,fun h' hsb=>⟨.ref D,H',I'.turned (t':=s'.toks) (fun b o hb e=>(hsb.2 b hb).trans e) f0 f1 f3 f4 f5,rfl,q⟩⟩
theorem zkJ {i : Nat} {x : Str} {N : List Str} {own : Nat} {cap : List Nat} {scope : Scope} {tg elt iter : Expr} {ifs : List Expr} {pos pos' spos : Pos} {wi : TI} {g : TG} {ts : TT} {te : TE} (hN : X.N.Nodup) (hxi : X.N[i]? = some x) (hx : X.env.scope.names.lookup x = some .local) (hcalm : X.calm = true) (hi : PI X tg iter wi) (c : zg8 X scope N own cap)
  (hg : ∀ cl C s₂ H₂ fp,PG (zbh X N scope cl C s₂ H₂ fp) tg g) (hts : ∀ cl C s₂ H₂ fp,PTs (zbh X N scope cl C s₂ H₂ fp) ifs ts) (he : ∀ cl C s₂ H₂ fp,PE (zbh X N scope cl C s₂ H₂ fp) elt te)
  (hsw : swapsWith (.ListComp elt [⟨tg,iter,ifs,0⟩] scope pos) (some (.Name x pos')) spos.line X.env = pure true:=by rfl)
  (hs : ∀ x,foldedSetIterable iter X.env x = pure x:=by intro _; rfl) : PS X (.Assign [.Name x pos'] (.ListComp elt [⟨tg,iter,ifs,0⟩] scope pos) spos) (tAsg (zlw own cap wi g ts te) (zhx i)):=by
 intro pins s σ H D I h
 obtain ⟨cl,hcl⟩:=zef (scope:=scope) (env:=X.env) fun x hx=>I.ok.has x (by
  have:=yaZ.mp c.frees _ hx
  simpa using this)
 rw [exec_Assign_Name_used _ _ _ _ hsw]
 refine wpAny_bind (wpAny_standAt (wpAny_bind ?_))
 show wpAny _ X.A (do let _ ← comprehension (.ListComp elt [⟨tg,iter,ifs,0⟩] scope pos) scope X.env _ (newList []) false (eval iter X.env) (some (assign (.Name x pos') X.env))) _ _ s
 refine wpAny_bind (wpAny_mono (wpAny_comprehension_free (use:=some (assign (.Name x pos') X.env)) (Q:=fun _ s'=>SP X pins D .next s') rfl hs hcl.eq c.kind (fun x hx hl=>by
  have:=yaZ.mp c.locs x hx
  rw [hl] at this
  simpa using this) (thn (hi pins s σ H _ I h) fun v s1 h1=>thn h1 fun itv s2 h2=>?_)) (fun _ s' hq=>wpAny_pure (wpAny_pure hq)) fun _ _ e=>e)
 obtain ⟨it,fp,tn,J,H2,e,I2,T,st2,f2,rd⟩:=h2
 subst e
 refine zfW (RR:=fun acc C=>compPost (model X.prog X.w) X.A X.xe (some (assign (.Name x pos') X.env)) (fun _ s'=>SP X pins D .next s') acc C) (Q:=fun x H1=>zhx i x σ H1 D.nx) hcalm c hcl hg hts he I2 T st2 f2 rd ?_
 intro Dd C s' H' I' hm fC q
 obtain ⟨m,hm⟩:=hm
 have hne : ∀ a,(a = X.env.locals∨X.env.cells.lookup x = some a)→a≠C:=fun a z=>by
  obtain ⟨f0,f1,f2,f3,f4,f5⟩:=fC
  rcases z with z | z
  ·rw [z]; exact Ne.symm f1
  ·exact f4 x a z
 show wpAny _ X.A (assign (.Name x pos') X.env (.ref Dd)) _ _ _
 refine wpAny_assign_Name (zfw I' hN hxi (.inl hx) (v:=.ref Dd) rfl (fun s'' I'' hch=>?_) (.inr hx))
 obtain ⟨a,hsb,ha⟩:=hch
 refine ⟨m,hm.sameBut hsb (Ne.symm (hne a ha)),fun h' hs'=>?_⟩
 obtain ⟨f0,f1,f2,f3,f4,f5⟩:=fC
 exact ⟨_,H',I''.turned (t':=s''.toks) (fun b o hb e=>(hs'.2 b hb).trans e) f0 f1 f3 f4 f5,q⟩
end
end L2
namespace L2
open PySem PySem.Spec PyProof.Rows PySem.SeqAt
theorem Paired.right {α β : Type} {F : α→β→Prop} : ∀ {l : List α} {m : List β} {b : β},Paired F l m→b∈m→∃ a,a∈l∧F a b
 | _,_,_,.nil,h=>nomatch h
 | _,_,_,.cons r t,h=>by
  rcases yaj.mp h with z | z
  ·subst z
   exact ⟨_,yah,r⟩
  ·obtain ⟨a,h1,h2⟩:=Paired.right t z
   exact ⟨a,yal _ h1,h2⟩
class Srt (α : Type) [Rep α] where
 blt : α→α→Bool
 irrefl : ∀ a,blt a a = false
 trans : ∀ a b c,blt a b = true→blt b c = true→blt a c = true
 negTrans : ∀ a b c,blt a c = true→blt a b = true∨blt b c = true
 total : ∀ a b,blt a b = false→blt b a = false→a = b
 kd : SortKind
 one : α
 lt : ∀ {X : Cx} {pins : List (Addr×Obj)} {σ : St} {H : Hp} {s : Shared} {A : Around} {a b : α} {x y : V} {u v : Value} {Q : Bool→Shared→Prop} {E : Value→Shared→Prop},Inv X pins σ H s→Rep.has X.K H a x→Rep.has X.K H b y→RelV x u→RelV y v→Q (blt a b) s→wpAny (model X.prog X.w) A (keyLt' kd u v) Q E s
 kind : ∀ {X : Cx} {pins : List (Addr×Obj)} {σ : St} {H : Hp} {s : Shared} {A : Around} {as : List α} {xs : List V} {us : List Value} {Q : SortKind→Shared→Prop} {E : Value→Shared→Prop},Inv X pins σ H s→zal X.K H as xs→Vals xs us→2≤us.length→Q kd s→wpAny (model X.prog X.w) A (keyKind' us.toArray) Q E s
section
variable {α : Type} [Rep α] [Srt α]
noncomputable def srtKind (α : Type) [Rep α] [Srt α] (K : Frag) (H : Hp) : PyProof.Rows.KeyKind where
 α:=α
 blt:=Srt.blt
 irrefl:=Srt.irrefl
 trans:=Srt.trans
 negTrans:=Srt.negTrans
 total:=Srt.total
 keyOf:=fun u=>open Classical in if h : ∃ a : α,∃ x,RelV x u∧Rep.has K H a x then some (Classical.choose h) else none
 dflt:=Srt.one
theorem zjN {X : Cx} {pins : List (Addr×Obj)} {σ : St} {H : Hp} {s : Shared} {a : α} {x : V} {u : Value} (I : Inv X pins σ H s) (r : RelV x u) (h : Rep.has X.K H a x) : (srtKind α X.K H).keyOf u = some a:=by
 have e : ∃ a : α,∃ x,RelV x u∧Rep.has X.K H a x:=⟨a,x,r,h⟩
 unfold srtKind
 dsimp only
 rw [dif_pos e]
 obtain ⟨y,ry,hy⟩:=Classical.choose_spec e
 have z:=ry.inj r
 subst z
 exact congrArg some (Rep.inj I hy h)
theorem zey {K : Frag} {H : Hp} {a : α} {u : Value} (h : (srtKind α K H).keyOf u = some a) : ∃ x,RelV x u∧Rep.has K H a x:=by
 unfold srtKind at h
 dsimp only at h
 split at h
 ·rename_i e
  cases h
  exact Classical.choose_spec e
 ·cases h
def zaI (as : List α) : List α:=as.mergeSort fun a b=>!Srt.blt b a
theorem zbB (as : List α) : (zaI as).Perm as:=List.mergeSort_perm _ _
theorem zdS {as : List α} {a : α} : a∈zaI as↔a∈as:=(zbB as).mem_iff
theorem zci (as : List α) : (zaI as).length = as.length:=(zbB as).length_eq
theorem zi5 {a b : α} (h : Srt.blt a b = true) : Srt.blt b a = false:=by
 cases e : Srt.blt b a with
 | false=>rfl
 | true=>
  have:=Srt.trans _ _ _ h e
  rw [Srt.irrefl] at this
  cases this
theorem zcz (as : List α) : (zaI as).Pairwise fun a b=>Srt.blt b a = false:=by
 have h:=List.pairwise_mergeSort (le:=fun a b : α=>!Srt.blt b a) (fun a b c h1 h2=>by
  simp only [ybz] at h1 h2 ⊢
  cases e : Srt.blt c a with
  | false=>rfl
  | true=>
   rcases Srt.negTrans c b a e with z | z
   ·rw [h2] at z; cases z
   ·rw [h1] at z; cases z) (fun a b=>by
  cases e : Srt.blt b a with
  | false=>rfl
  | true=>rw [zi5 e]; rfl) as
 exact h.imp fun {a b} z=>by simpa using z
theorem zeT {as bs : List α} (hp : bs.Perm as) (hs : bs.Pairwise fun a b=>Srt.blt b a = false) : bs = zaI as:=
 List.Perm.eq_of_pairwise (fun a b _ _ h1 h2=>Srt.total a b h2 h1) hs (zcz as) (hp.trans (zbB as).symm)
theorem zhf {as : List α} (hn : as.Nodup) : (zaI as).Pairwise fun a b=>Srt.blt a b = true:=by
 have h1:=zcz as
 have h2 : (zaI as).Nodup:=(zbB as).nodup_iff.mpr hn
 refine (h1.and h2).imp fun {a b} z=>?_
 cases e : Srt.blt a b with
 | true=>rfl
 | false=>exact absurd (Srt.total a b e z.1) z.2
theorem zfM {K : Frag} {H : Hp} : ∀ {out : List Value},(∀ v∈out,∃ a : α,∃ x,RelV x v∧Rep.has K H a x∧(srtKind α K H).keyOf v = some a)→
  ∃ (ws : List V) (bs : List α),Vals ws out∧zal K H bs ws∧bs = out.map (Tim.keyV (srtKind α K H))
 | [],_=>⟨[],[],.nil,.nil,rfl⟩
 | v :: out,h=>by
  obtain ⟨ws,bs,h1,h2,h3⟩:=zfM (out:=out) fun u hu=>h u (yal _ hu)
  obtain ⟨a,x,r,e,k⟩:=h v yah
  refine ⟨x :: ws,a :: bs,.cons r h1,.cons e h2,?_⟩
  rw [yaA,← h3]
  have z : Tim.keyV (srtKind α K H) v = a:=by
   unfold Tim.keyV
   rw [k]
   rfl
  rw [z]
  rfl
theorem ziz {X : Cx} {pins : List (Addr×Obj)} {σ : St} {H : Hp} {s : Shared} (I : Inv X pins σ H s) : ∀ {as : List α} {xs : List V} {us : List Value},zal X.K H as xs→Vals xs us→us.map (Tim.keyV (srtKind α X.K H)) = as∧∀ v∈us,∃ a : α,∃ x,RelV x v∧Rep.has X.K H a x∧(srtKind α X.K H).keyOf v = some a
 | _,_,_,.nil,.nil=>⟨rfl,fun _ z=>nomatch z⟩
 | _,_,_,.cons e t,.cons r q=>by
  obtain ⟨h1,h2⟩:=ziz I t q
  have k:=zjN I r e
  refine ⟨?_,fun v hv=>?_⟩
  ·rw [yaA,h1]
   unfold Tim.keyV
   rw [k]
   rfl
  ·rcases yaj.mp hv with z | z
   ·subst z
    exact ⟨_,_,r,e,k⟩
   ·exact h2 v z
end
def zlK (α : Type) [Rep α] [Srt α] (K : Frag) : List V→Hp→VK→Prop:=fun xs H Q=>∃ (p : Addr) (vs : List V) (as : List α),xs = [.ref p]∧SqL K H p vs∧zal K H as vs∧
 ∀ l ws,H l = none→zal K H (zaI as) ws→Q (.ref l) (upd H l (.lst ws))
section
variable {X : Cx}
theorem zeF (α : Type) [Rep α] [Srt α] : zbU X (.builtin "sorted") (zlK α X.K):=by
 intro pins s σ H xs us Q I r h
 obtain ⟨p,vs,as,rfl,hq,ha,q⟩:=h
 obtain ⟨u,rfl,rx⟩:=zen r
 cases rx
 obtain ⟨its,rv,pl,hz⟩:=I.list hq
 have hlen:=rv.length
 obtain ⟨km,kk⟩:=ziz I ha rv
 refine Tim.zjl (κ:=srtKind α X.K H) (kd:=Srt.kd α) pl.isList (by omega) (fun v hv=>?_) (fun h' k E x y a b Q hx hy q=>?_) (fun h' E Q k h2 q=>Srt.kind (Inv.kept (t':=s.toks) I k) ha rv h2 q) fun out h' c p1 p2 k hc=>?_
 ·obtain ⟨a,_,_,_,e⟩:=kk v hv
  exact ⟨a,e⟩
 ·obtain ⟨x1,r1,e1⟩:=zey hx
  obtain ⟨y1,r2,e2⟩:=zey hy
  exact Srt.lt (Inv.kept (t':=s.toks) I k) e1 e2 r1 r2 q
 ·obtain ⟨ws,bs,w1,w2,w3⟩:=zfM (α:=α) (K:=X.K) (H:=H) (out:=out) fun v hv=>kk v (p1.mem_iff.mp hv)
  have eb : bs = zaI as:=by
   refine zeT ?_ ?_
   ·rw [w3,← km]
    exact p1.map _
   ·rw [w3]
    exact List.pairwise_map.mpr p2
  rw [eb] at w2
  have hw : ws.length≤sizeLine:=by
   have:=w1.length
   have:=p1.length_eq
   omega
  exact ⟨.ref (s.heap.objs.size + 1),_,I.laid (a:=s.heap.objs.size + 1) (o:=.lst ws) (t':=s.toks) k (Nat.le_succ _) ⟨hw,out,c,w1,hc⟩,rfl,q _ ws (I.hok.fresh (Nat.le_succ _)) w2⟩
end
instance : Srt Int where
 blt:=fun a b=>decide (a < b)
 irrefl:=fun a=>by simp
 trans:=fun a b c h1 h2=>by
  simp only [decide_eq_true_eq] at *
  omega
 negTrans:=fun a b c h=>by
  simp only [decide_eq_true_eq] at *
  omega
 total:=fun a b h1 h2=>by
  simp only [decide_eq_false_iff_not] at *
  omega
 kd:=oneType'
 one:=0
 lt:=fun {X pins σ H s A a b x y u v Q E} _ h1 h2 r1 r2 q=>by
  have h1 : x = .int a:=h1
  have h2 : y = .int b:=h2
  subst h1 h2
  obtain ⟨t,rfl⟩:=r1
  obtain ⟨t',rfl⟩:=r2
  exact PySem.W.kat_lt_int q
 kind:=fun {X pins σ H s A as xs us Q E} _ h r hl q=>by
  have e:=zal.toInts h
  subst e
  have hi : IntsAre us as:=by
   clear q hl
   induction as generalizing us with
   | nil=>cases r; exact .nil
   | cons a as ih=>
    cases r with
    | cons r1 r2=>
     obtain ⟨t,rfl⟩:=r1
     exact .cons a t (ih (by first | exact zal.ints | assumption) r2)
  match us,hl,hi with
  | v₁ :: v₂ :: rest,_,hi=>
   rw [keyKind_ints hi]
   exact wpAny_pure q
def pLt (a b : Int×Int) : Bool:=decide (a.1 < b.1) || (decide (a.1 = b.1) && decide (a.2 < b.2))
theorem ze9 {a b : Int×Int} : pLt a b = true↔a.1 < b.1∨(a.1 = b.1∧a.2 < b.2):=by
 unfold pLt
 simp
theorem zd4 {a b : Int×Int} : pLt a b = false↔¬ (a.1 < b.1∨(a.1 = b.1∧a.2 < b.2)):=by
 rw [← ze9]
 simp
theorem ze7 {X : Cx} {pins : List (Addr×Obj)} {σ : St} {H : Hp} {s : Shared} {a : Int×Int} {x : V} {u : Value} (I : Inv X pins σ H s) (h : Rep.has X.K H a x) (r : RelV x u) :
  ∃ (p : Addr) (o : Obj) (n : Nat) (t t' : Tok),u = .ref p∧s.heap.get? p = some o∧o.cls = .type "tuple"∧o.data = .seq #[.int a.1 t,.int a.2 t'] n:=by
 obtain ⟨p,x1,x2,rfl,q,e1,e2⟩:=(show hasP X.K H a x from h)
 have e1 : x1 = .int a.1:=e1
 have e2 : x2 = .int a.2:=e2
 subst e1 e2
 cases r
 obtain ⟨us,ru,pu,_⟩:=I.tuple (SqT.of q)
 obtain ⟨u1,u2,rfl,⟨t,rfl⟩,⟨t',rfl⟩⟩:=zeM ru
 obtain ⟨o,ho,hc,n,hd⟩:=pu
 exact ⟨p,o,n,t,t',rfl,ho,hc,hd⟩
theorem zkk {prog : Program} {w : World} {A : Around} {E : Value→Shared→Prop} {s : Shared} {x y : Int} {t u : Tok} {Q : Bool→Shared→Prop} (b : Bool) (h : Q (decide (x < y)) s) : wpAny (model prog w) A (oneLt' b (.int x t) (.int y u)) Q E s:=by
 cases b with
 | true=>
  rw [← keyLt'_oneType]
  exact PySem.W.kat_lt_int h
 | false=>exact PySem.W.kat_one _ _ (lt_int h)
instance : Srt (Int×Int) where
 blt:=pLt
 irrefl:=fun a=>by rw [zd4]; omega
 trans:=fun a b c h1 h2=>by
  rw [ze9] at *
  omega
 negTrans:=fun a b c h=>by
  rw [ze9] at *
  rw [ze9]
  omega
 total:=fun a b h1 h2=>by
  rw [zd4] at *
  obtain ⟨a1,a2⟩:=a
  obtain ⟨b1,b2⟩:=b
  have : a1 = b1∧a2 = b2:=by dsimp only at *; omega
  rw [this.1,this.2]
 kd:=tuples' true
 one:=(0,0)
 lt:=fun {X pins σ H s A a b x y u v Q E} I h1 h2 r1 r2 q=>by
  obtain ⟨p,o,n,t1,t2,rfl,ho,hc,hd⟩:=ze7 I h1 r1
  obtain ⟨p',o',n',t3,t4,rfl,ho',hc',hd'⟩:=ze7 I h2 r2
  refine PySem.W.kat_lt ho hd ho' hd' ?_
  show PySem.W.KatLex X.prog X.w A true _ Q [(.int a.1 t1,.int b.1 t3),(.int a.2 t2,.int b.2 t4)] 0 s
  refine PySem.W.kat_cons (EqAt.int_int a.1 t1 b.1 t3 _ _ _ _ (PySem.W.kat_go (fun e=>PySem.W.kat_yes ?_) (fun e=>PySem.W.kat_no ?_)))
  ·have e1 : a.1 = b.1:=eq_of_beq e
   refine PySem.W.kat_cons (EqAt.int_int a.2 t2 b.2 t4 _ _ _ _ (PySem.W.kat_go (fun e=>PySem.W.kat_yes (PySem.W.kat_nil ?_)) (fun e=>PySem.W.kat_no (zkk _ ?_))))
   ·have e2 : a.2 = b.2:=eq_of_beq e
    have z : pLt a b = false:=by rw [zd4]; omega
    rw [z] at q
    exact q
   ·have z : pLt a b = decide (a.2 < b.2):=by
     unfold pLt
     rw [yak (by omega : ¬ a.1 < b.1),yap e1]
     rfl
    rw [z] at q
    exact q
  ·have e1 : ¬ a.1 = b.1:=fun z=>by rw [z] at e; simp at e
   refine zkk _ ?_
   have z : pLt a b = decide (a.1 < b.1):=by
    unfold pLt
    rw [yak e1]
    simp
   rw [z] at q
   exact q
 kind:=fun {X pins σ H s A as xs us Q E} I h r hl q=>by
  have go : ∀ {as : List (Int×Int)} {xs : List V} {us : List Value},zal X.K H as xs→Vals xs us→∃ fs,PySem.W.KatTups s.heap us fs∧fs.length = us.length∧∀ v∈fs,∃ i t,v = Value.int i t:=by
   intro as
   induction as with
   | nil=>
    intro xs us h r
    cases h
    cases r
    exact ⟨[],.nil,rfl,fun _ z=>nomatch z⟩
   | cons a as ih=>
    intro xs us h r
    cases h with
    | cons h1 h2=>
     cases r with
     | cons r1 r2=>
      obtain ⟨fs,f1,f2,f3⟩:=ih h2 r2
      obtain ⟨p,o,n,t,t',rfl,ho,hc,hd⟩:=ze7 I h1 r1
      refine ⟨.int a.1 t :: fs,PySem.W.KatTups.cons ho hc hd rfl f1,by rw [yav,yav,f2],fun v hv=>?_⟩
      rcases yaj.mp hv with z | z
      ·exact ⟨_,_,z⟩
      ·exact f3 v z
  obtain ⟨fs,f1,f2,f3⟩:=go h r
  refine PySem.W.kat_kind (T:=.type "int") f1 (by omega) (fun v hv=>?_) (by decide) ?_
  ·obtain ⟨i,t,rfl⟩:=f3 v hv
   exact PySem.W.Looks.of_pure rfl
  ·exact q
end L2
namespace L2
open PySem PySem.Spec PyProof.Rows
theorem zcv {K : Frag} {a D : Addr} {xs : List V} {g : TG} {ts : TT} {te : TE} {σ : St} {H : Hp} {Q : Hp→Prop} (Pv : Nat→St→Hp→Prop) (h0 : Pv 0 σ H) (hl : ∀ i σ H,i≤xs.length→Pv i σ H→SqL K H a xs)
  (hs : ∀ i m x σ H,xs[i]? = some x→i + m = xs.length→Pv i σ H→g x σ H fun σ2 H2=>ts σ2 H2 fun b H3=>if b = true then te σ2 H3 fun y H4=>∃ zs,H4 D = some (.lst zs)∧zs.length < sizeLine∧∃ m',m' < m∧(i + 1 + m' = xs.length∧Pv (i + 1) σ2 (upd H4 D (.lst (zs ++ [y])))) else ∃ m',m' < m∧(i + 1 + m' = xs.length∧Pv (i + 1) σ2 H3))
  (hd : ∀ σ H,Pv xs.length σ H→Q H) :
  ∃ W : Nat→Nat→St→Hp→Prop,(∃ m,W 0 m σ H)∧∀ i m σ H,W i m σ H→((Itl K a).stop i H∧Q H)∨((Itl K a).go i H∧∀ x H',(Itl K a).yld i H x H'→g x σ H' fun σ2 H2=>ts σ2 H2 fun b H3=>if b = true then te σ2 H3 fun y H4=>∃ xs,H4 D = some (.lst xs)∧xs.length < sizeLine∧∃ m',m' < m∧W (i + 1) m' σ2 (upd H4 D (.lst (xs ++ [y]))) else ∃ m',m' < m∧W (i + 1) m' σ2 H3):=by
 refine ⟨fun i m σ H=>i + m = xs.length∧Pv i σ H,⟨xs.length,by omega,h0⟩,fun i m σ H ⟨e,pv⟩=>?_⟩
 have hS:=hl i σ H (by omega) pv
 by_cases hi : i < xs.length
 ·refine .inr ⟨⟨xs,xs[i],hS,yad hi⟩,fun x H' y=>?_⟩
  obtain ⟨e1,y⟩:=y
  subst e1
  exact hs i m x σ _ (y xs hS) e pv
 ·have : i = xs.length:=by omega
  subst this
  exact .inl ⟨⟨xs,hS,yab _⟩,hd σ H pv⟩
theorem zeC {lo : Int} {n : Nat} {D : Addr} {g : TG} {ts : TT} {te : TE} {σ : St} {H : Hp} {Q : Hp→Prop} (Pv : Nat→St→Hp→Prop) (h0 : Pv 0 σ H)
  (hs : ∀ i m σ H,i + m = n→i < n→Pv i σ H→g (.int (lo + i)) σ H fun σ2 H2=>ts σ2 H2 fun b H3=>if b = true then te σ2 H3 fun y H4=>∃ zs,H4 D = some (.lst zs)∧zs.length < sizeLine∧∃ m',m' < m∧(i + 1 + m' = n∧Pv (i + 1) σ2 (upd H4 D (.lst (zs ++ [y])))) else ∃ m',m' < m∧(i + 1 + m' = n∧Pv (i + 1) σ2 H3))
  (hd : ∀ σ H,Pv n σ H→Q H) :
  ∃ W : Nat→Nat→St→Hp→Prop,(∃ m,W 0 m σ H)∧∀ i m σ H,W i m σ H→((Itr lo n).stop i H∧Q H)∨((Itr lo n).go i H∧∀ x H',(Itr lo n).yld i H x H'→g x σ H' fun σ2 H2=>ts σ2 H2 fun b H3=>if b = true then te σ2 H3 fun y H4=>∃ xs,H4 D = some (.lst xs)∧xs.length < sizeLine∧∃ m',m' < m∧W (i + 1) m' σ2 (upd H4 D (.lst (xs ++ [y]))) else ∃ m',m' < m∧W (i + 1) m' σ2 H3):=by
 refine ⟨fun i m σ H=>i + m = n∧Pv i σ H,⟨n,by omega,h0⟩,fun i m σ H ⟨e,pv⟩=>?_⟩
 by_cases hi : i < n
 ·refine .inr ⟨hi,fun x H' y=>?_⟩
  obtain ⟨e1,y⟩:=y
  subst e1 y
  exact hs i m σ _ e hi pv
 ·have : i = n:=by omega
  subst this
  exact .inl ⟨yab _,hd σ H pv⟩
end L2
namespace L2
theorem zeA {i : Nat} {x : V} {σ : St} {H : Hp} {A B : St→Hp→Prop} (h : A (σ.set i (some x)) H) : zhx i x σ H fun σ2 H2=>tYes σ2 H2 fun b H3=>if b = true then A σ2 H3 else B σ2 H3:=by
 show (if true = true then A (σ.set i (some x)) H else B (σ.set i (some x)) H)
 rw [if_pos rfl]
 exact h
end L2
namespace L2
open PySem PySem.Spec PyProof.Rows
section
variable {X : Cx}
def tRev (K : Frag) (te : TE) (th : TO) : TE:=fun σ H Q=>te σ H fun x H1=>th σ H1 fun u H2=>∃ a xs,x = .ref a∧u = some (-1)∧SqL K H2 a xs∧∀ p,H2 p = none→Q (.ref p) (upd H2 p (.lst xs.reverse))
theorem Vals.rev : ∀ {xs : List V} {us : List Value},Vals xs us→Vals xs.reverse us.reverse
 | _,_,.nil=>.nil
 | _,_,.cons r t=>by
  rw [ya5,ya5]
  exact Vals.append (Vals.rev t) (.cons r .nil)
theorem zkL {e st : Expr} {te : TE} {th : TO} {p2 pos : Pos} (he : PE X e te) (hu : PO X (some st) th) : PE X (.Subscript e (.Slice none none (some st) p2) pos) (tRev X.K te th):=by
 intro pins s σ H Q I h
 refine Subscript_ (thn (he pins s σ H _ I h) fun v s1 ⟨x,H1,I1,r1,q1⟩=>?_)
 refine wpAny_Slice ?_
 rw [evalPart_none]
 refine wpAny_pure (wpAny_pure ?_)
 refine thn (hu pins s1 σ H1 _ I1 q1) fun vu s3 ⟨u,H3,I3,pu,q3⟩=>?_
 obtain ⟨a,xs,rfl,rfl,hq,q⟩:=q3
 cases r1
 have I4 : Inv X pins σ H3 { s3 with heap:=s3.heap.push { cls:=.type "slice",data:=.fields #[.none,.none,vu] } }:=I3.kept (t':=s3.toks) fun b ob q=>yam _ q
 obtain ⟨its,r,ht,hz⟩:=I4.list hq
 have hlen:=r.length
 show wpAny (model X.prog X.w) X.A (subscriptTail e (.Slice none none (some st) p2) (.ref a) (.ref s3.heap.objs.size)) (EP X pins σ Q) X.xe { s3 with heap:=s3.heap.push { cls:=.type "slice",data:=.fields #[.none,.none,vu] } }
 refine tail_any (T := "list") (ops:=[.ref a,.ref s3.heap.objs.size]) ht.isList.typeIs slot_list_getitem.lookup ?_ (by with_unfolding_all rfl)
 refine wpAny_getItem_list_slice ht.isList (Heap.IsSliceOf.new ..) .none .none pu (by simp) ?_ (by rw [yay] <;> omega)
 rw [PySem.W.krv_pick]
 refine ⟨.ref _,_,I4.laid (t':=s3.toks) (o:=.lst xs.reverse) (fun b ob q=>yam _ q) (yab _) ?_,rfl,q _ (I4.hok.fresh (yab _))⟩
 exact ⟨by rw [List.length_reverse]; exact hz,_,0,Vals.rev r,yaN _ rfl⟩
end
end L2
namespace L2
open PySem PySem.Spec PyProof.Rows
section
variable {X : Cx} {K : Frag}
theorem zgY (h : X.K = K:=by rfl) : IxR X (rIxL K):=by
 subst h
 exact zaw
theorem zcs (h : X.K = K:=by rfl) : IxR X (rIxT K):=by
 subst h
 exact zbQ
end
end L2
namespace L2
open PySem PySem.Spec PyProof.Rows
theorem zft {c : TT} {tb : TS} {D : Ends} {σ : St} {H : Hp} (Pv Pe : St→Hp→Prop) (μ : St→Hp→Nat) (h0 : Pv σ H)
  (hs : ∀ σ H,Pv σ H→c σ H fun b H1=>if b = true then tb { D with nx:=fun σ' H'=>Pv σ' H'∧μ σ' H' < μ σ H,ct:=fun σ' H'=>Pv σ' H'∧μ σ' H' < μ σ H,bk:=D.nx } σ H1 else Pe σ H1)
  (mono : ∀ σ H Q Q',(∀ b H1,Q b H1→Q' b H1)→c σ H Q→c σ H Q') (he : ∀ σ H,Pe σ H→D.nx σ H) : zhO c tb D σ H:=by
 refine zjd Pv μ h0 (fun σ H p=>mono σ H _ _ (fun b H1 q=>?_) (hs σ H p)) mono
 cases b with
 | true=>exact q
 | false=>exact he _ _ q
def zll (c : TT) : Prop:=∀ σ H Q Q',(∀ b H1,Q b H1→Q' b H1)→c σ H Q→c σ H Q'
theorem zhR {a b : TT} (ha : zll a) (hb : zll b) : zll (tAnd a b):=fun σ H Q Q' m h=>ha σ H _ _ (fun c H1 q=>by
 cases c with
 | false=>exact m _ _ q
 | true=>exact hb σ H1 Q Q' m q) h
section
variable {X : Cx} {K : Frag}
theorem zew (h : X.K = K:=by rfl) : OpR X (compareOp .In) (rIn K false):=by
 subst h
 exact zia
theorem zh7 {es : List Expr} {k : Nat} {t : TGs} {n : Nat} {pos : Pos} (hc : X.calm = true) (h : PGs X es t) (hK : X.K = K:=by rfl)
  (hn : (assignEach es X.env).length = n:=by rfl) (hst : (assignEach es X.env).findIdx? (·.1) = none:=by rfl) : PG X (.Tuple es k pos) (gTup K n t):=by
 subst hK
 exact zki hc h hn hst
end
theorem zj0 {K : Frag} {a b D : Addr} {xs ys : List V} {g : TG} {ts : TT} {te : TE} {σ : St} {H : Hp} {Q : Hp→Prop} (hlen : xs.length = ys.length) (Pv : Nat→St→Hp→Prop) (h0 : Pv 0 σ H) (hl : ∀ i σ H,i≤xs.length→Pv i σ H→SqL K H a xs∧SqL K H b ys)
  (hs : ∀ i m x y σ H r,xs[i]? = some x→ys[i]? = some y→i + m = xs.length→Pv i σ H→H r = none→g (.ref r) σ (upd H r (.tup [x,y])) fun σ2 H2=>ts σ2 H2 fun b H3=>if b = true then te σ2 H3 fun y H4=>∃ zs,H4 D = some (.lst zs)∧zs.length < sizeLine∧∃ m',m' < m∧(i + 1 + m' = xs.length∧Pv (i + 1) σ2 (upd H4 D (.lst (zs ++ [y])))) else ∃ m',m' < m∧(i + 1 + m' = xs.length∧Pv (i + 1) σ2 H3))
  (hd : ∀ σ H,Pv xs.length σ H→Q H) :
  ∃ W : Nat→Nat→St→Hp→Prop,(∃ m,W 0 m σ H)∧∀ i m σ H,W i m σ H→((Itz K a b).stop i H∧Q H)∨((Itz K a b).go i H∧∀ x H',(Itz K a b).yld i H x H'→g x σ H' fun σ2 H2=>ts σ2 H2 fun b H3=>if b = true then te σ2 H3 fun y H4=>∃ xs,H4 D = some (.lst xs)∧xs.length < sizeLine∧∃ m',m' < m∧W (i + 1) m' σ2 (upd H4 D (.lst (xs ++ [y]))) else ∃ m',m' < m∧W (i + 1) m' σ2 H3):=by
 refine ⟨fun i m σ H=>i + m = xs.length∧Pv i σ H,⟨xs.length,by omega,h0⟩,fun i m σ H ⟨e,pv⟩=>?_⟩
 obtain ⟨hS,hS'⟩:=hl i σ H (by omega) pv
 by_cases hi : i < xs.length
 ·refine .inr ⟨⟨xs,ys,xs[i],ys[i]'(by omega),hS,hS',yad hi,yad (by omega)⟩,fun x H' y=>?_⟩
  obtain ⟨p,z,z',rfl,hp,hz,hz',rfl⟩:=y
  exact hs i m z z' σ H p (hz xs hS) (hz' ys hS') e pv hp
 ·have : i = xs.length:=by omega
  subst this
  exact .inl ⟨⟨xs,ys,hS,hS',.inl (yab _)⟩,hd σ H pv⟩
end L2
namespace L2
open PySem PySem.Spec PyProof.Rows
theorem zj1 {K : Frag} {a D : Addr} {xs : List V} {g : TG} {ts : TT} {te : TE} {σ : St} {H : Hp} {Q : Hp→Prop} (Pv : Nat→St→Hp→Prop) (h0 : Pv 0 σ H) (hl : ∀ i σ H,i≤xs.length→Pv i σ H→SqT K H a xs)
  (hs : ∀ i m x σ H,xs[i]? = some x→i + m = xs.length→Pv i σ H→g x σ H fun σ2 H2=>ts σ2 H2 fun b H3=>if b = true then te σ2 H3 fun y H4=>∃ zs,H4 D = some (.lst zs)∧zs.length < sizeLine∧∃ m',m' < m∧(i + 1 + m' = xs.length∧Pv (i + 1) σ2 (upd H4 D (.lst (zs ++ [y])))) else ∃ m',m' < m∧(i + 1 + m' = xs.length∧Pv (i + 1) σ2 H3))
  (hd : ∀ σ H,Pv xs.length σ H→Q H) :
  ∃ W : Nat→Nat→St→Hp→Prop,(∃ m,W 0 m σ H)∧∀ i m σ H,W i m σ H→((Itt K a).stop i H∧Q H)∨((Itt K a).go i H∧∀ x H',(Itt K a).yld i H x H'→g x σ H' fun σ2 H2=>ts σ2 H2 fun b H3=>if b = true then te σ2 H3 fun y H4=>∃ xs,H4 D = some (.lst xs)∧xs.length < sizeLine∧∃ m',m' < m∧W (i + 1) m' σ2 (upd H4 D (.lst (xs ++ [y]))) else ∃ m',m' < m∧W (i + 1) m' σ2 H3):=by
 refine ⟨fun i m σ H=>i + m = xs.length∧Pv i σ H,⟨xs.length,by omega,h0⟩,fun i m σ H ⟨e,pv⟩=>?_⟩
 have hS:=hl i σ H (by omega) pv
 by_cases hi : i < xs.length
 ·refine .inr ⟨⟨xs,xs[i],hS,yad hi⟩,fun x H' y=>?_⟩
  obtain ⟨e1,y⟩:=y
  subst e1
  exact hs i m x σ _ (y xs hS) e pv
 ·have : i = xs.length:=by omega
  subst this
  exact .inl ⟨⟨xs,hS,yab _⟩,hd σ H pv⟩
end L2
namespace L2
open PySem PySem.Spec PyProof.Rows
theorem zh3 {P : Program} {w : World} {k : Key} {u : Value} (h : (zaS P w).is k u = true) : RelV (kV k) u:=by
 rw [zhr] at h
 rcases zaL h with ⟨i,t,rfl,rfl⟩ | ⟨x,t,rfl,rfl⟩
 ·exact ⟨t,rfl⟩
 ·exact ⟨t,rfl⟩
section
variable {X : Cx}
theorem zhD (hc : X.calm = true) : zbU X (.type "list") (fun xs H Q=>∃ (p : Addr) (kvs : List (Key×V)),xs = [.ref p]∧H p = some (.dK kvs)∧∀ l,H l = none→Q (.ref l) (upd H l (.lst (kvs.map fun kv=>kV kv.1)))):=by
 intro pins s σ H xs us Q I r h
 obtain ⟨p,kvs,rfl,hq,q⟩:=h
 obtain ⟨u,rfl,rx⟩:=zen r
 cases rx
 obtain ⟨hz,hne,vs,rel,o,es,ep,h1,h2,h3,h4,h5,h6⟩:=zlh I.hok hq
 have hlen : kvs.length = vs.length:=rel.length
 refine PySem.W.kdl_call (PySem.W.kdl_dict (knd:=zaS X.prog X.w) (kvs:=vs) (ep:=ep) hne) (I.ok.hd hc) ⟨o,es,h1,h2,h3,h4,h5,h6⟩ (by omega) fun h' tk acc c k e hi=>?_
 have hv : Vals (kvs.map fun kv=>kV kv.1) acc.toList:=by
  obtain ⟨g1,g2⟩:=hi
  have key : ∀ (m : Nat) (kvs : List (Key×V)) (vs : List (Key×Value)) (us : List Value),KV kvs vs→us.length = vs.length→(∀ (i : Nat) (v : Value),us[i]? = some v→∃ k x,vs[i]? = some (k,x)∧(zaS X.prog X.w).is k v = true)→Vals (kvs.map fun kv=>kV kv.1) us:=by
   intro m kvs
   induction kvs with
   | nil=>
    intro vs us r hl _
    cases r
    have : us = []:=ycc hl
    subst this
    exact .nil
   | cons kv kvs ih=>
    intro vs us r hl hh
    cases r with
    | cons a b=>
     cases us with
     | nil=>cases hl
     | cons v us=>
      refine .cons ?_ (ih _ us b (Nat.succ.inj hl) fun i v e=>?_)
      ·obtain ⟨k,x,e1,e2⟩:=hh 0 v rfl
       cases e1
       have h9:=zh3 e2
       have a1 : kv.1 = k:=a.1
       rw [← a1] at h9
       exact h9
      ·have:=hh (i + 1) v (by simpa using e)
       simpa using this
  refine key 0 kvs vs acc.toList rel (by rw [yao]; exact g1) fun i v e=>?_
  exact g2 i v (by rw [← yaS]; exact e)
 refine ⟨.ref s.heap.objs.size,_,I.laid (a:=s.heap.objs.size) (o:=.lst (kvs.map fun kv=>kV kv.1)) (t':=tk) k (yab _) ⟨?_,acc.toList,c,hv,by rw [Array.toArray_toList]; exact e⟩,rfl,q _ (I.hok.fresh (yab _))⟩
 rw [yaa]
 omega
end
end L2
namespace HT
open PySem PySem.Spec PyProof.Rows
section
variable {prog : Program} {w : World} {A : Around} {E : Value→Shared→Prop} {s : Shared}
theorem getItem_tuple_all {t sl : Addr} {items : Array Value} {vl vu : Value} {lo hi : Option Int} {Q : Value→Shared→Prop} (ht : IsTup s.heap t items) (hs : s.heap.IsSliceOf sl vl vu .none) (pl : IsPart vl lo) (pu : IsPart vu hi)
  (hw : sIx items.size 0 lo = 0∧sIx items.size items.size hi = items.size) (h : Q (.ref t) s) : wpAny (model prog w) A (getItem (.ref t) (.ref sl)) Q E s:=by
 obtain ⟨os,hos,hcs,hds⟩:=id hs
 have hTs : s.TypeIs (.ref sl) "slice":=⟨os,hos,hcs⟩
 unfold getItem
 try with_reducible refine wpAny_holding ?_
 first | refine wpAny_bind (wpAny_pure ?_) | skip
 refine wpAny_bind (wpAny_sequenceKey ht.typeIs (by decide) ?_)
 refine wpAny_bind (wpAny_callSpecial?_slot (name:=Str.ofString "__getitem__") ht.typeIs PyProof.Rows.slot_tuple_getitem (wpAny_call_entry PyProof.Rows.slot_tuple_getitem ht.typeIs entry_tuple_getitem ?_ (args_tuple_getitem _ _)))
 show wpAny _ _ (Builtin.Tuple.tupleItemsOf (.ref t) >>= _) _ _ s
 refine wpAny_bind (tupleItemsOf_ ht ?_)
 refine wpAny_bind (wpAny_typeOf hTs ?_)
 rw [if_pos (by decide)]
 refine wpAny_bind (zca hs pl pu ?_)
 have yes : (((sIx items.size 0 lo : Nat) : Int) == 0 && (1 : Int) == 1 && (sIx items.size items.size hi - sIx items.size 0 lo) == items.size) = true:=by
  rw [hw.1,hw.2]
  simp
 show wpAny _ _ (if (((sIx items.size 0 lo : Nat) : Int) == 0 && (1 : Int) == 1 && (sIx items.size items.size hi - sIx items.size 0 lo) == items.size) = true then _ else _) _ _ s
 rw [if_pos yes]
 refine wpAny_bind ?_
 unfold Builtin.Tuple.tupleIsExact
 refine wpAny_bind (wpAny_typeOf ht.typeIs ?_)
 refine wpAny_pure ?_
 rw [if_pos (by decide)]
 exact wpAny_bind (wpAny_rule (wpAny_pure ⟨_,rfl,wpAny_pure h⟩))
end
end HT
namespace L2
open PySem PySem.Spec PyProof.Rows
section
variable {X : Cx}
def rSlX (K : Frag) : V→Option Int→Option Int→Hp→VK→Prop:=fun x lo hi H Q=>∃ a xs,x = .ref a∧SqT K H a xs∧
 ((HT.sIx xs.length 0 lo = 0∧HT.sIx xs.length xs.length hi = xs.length)→Q (.ref a) H)∧(¬ (HT.sIx xs.length 0 lo = 0∧HT.sIx xs.length xs.length hi = xs.length)→∀ p,H p = none→Q (.ref p) (upd H p (.tup (cutV xs lo hi))))
theorem zgc : SlR X (rSlX X.K):=by
 intro pins s σ H x v vl vu lo hi sl Q I rx hs pl pu h
 obtain ⟨a,xs,e,hx,q1,q2⟩:=h
 by_cases hw : HT.sIx xs.length 0 lo = 0∧HT.sIx xs.length xs.length hi = xs.length
 ·subst e
  cases rx
  obtain ⟨its,r,ht,hz⟩:=I.tuple hx
  have hlen : its.toArray.size = xs.length:=by rw [yay]; exact r.length.symm
  refine ⟨"tuple",_,PyProof.Rows.slot_tuple_getitem.lookup,ht.typeIs,?_⟩
  exact HT.getItem_tuple_all ht hs pl pu (by rw [hlen]; exact hw) ⟨.ref a,H,I,rfl,q1 hw⟩
 ·exact zlF pins s σ H x v vl vu lo hi sl Q I rx hs pl pu ⟨a,xs,e,hx,hw,q2 hw⟩
end
end L2
namespace L2
open PySem PySem.Spec PyProof.Rows PySem.SeqAt
def hasO (o : Option Int) (v : V) : Prop:=match o with
 | none=>v = .non
 | some i=>v = .int i
instance : Rep (Option Int) where
 dec:=inferInstance
 depth:=0
 has:=fun _ _ o v=>hasO o v
 mono:=fun _ h=>h
 inj:=fun {_ _ _ _ _ a b v} _ h1 h2=>by
  cases a <;> cases b
  ·rfl
  ·have h1 : v = .non:=h1
   have h2 : v = .int _:=h2
   rw [h1] at h2
   cases h2
  ·have h1 : v = .int _:=h1
   have h2 : v = .non:=h2
   rw [h1] at h2
   cases h2
  ·have h1 : v = .int _:=h1
   have h2 : v = .int _:=h2
   rw [V.int.inj (h1.symm.trans h2)]
 rc:=fun {_ _ _ _ _ _ a b x y u v} _ _ h1 h2 r1 r2=>by
  cases a with
  | none=>
   have h1 : x = .non:=h1
   subst h1
   obtain rfl : u = .none:=r1
   cases b with
   | none=>
    have h2 : y = .non:=h2
    subst h2
    obtain rfl : v = .none:=r2
    exact RcAt.none_none
   | some j=>
    have h2 : y = .int j:=h2
    subst h2
    obtain ⟨t,rfl⟩:=r2
    exact RcAt.none_int _ _
  | some i=>
   have h1 : x = .int i:=h1
   subst h1
   obtain ⟨t,rfl⟩:=r1
   cases b with
   | none=>
    have h2 : y = .non:=h2
    subst h2
    obtain rfl : v = .none:=r2
    exact RcAt.int_none _ _
   | some j=>
    have h2 : y = .int j:=h2
    subst h2
    obtain ⟨t',rfl⟩:=r2
    have e : decide (some i = some j) = (i == j):=by
     by_cases z : i = j
     ·subst z; simp
     ·rw [yak (fun q=>z (yai q)),beq_eq_false_iff_ne.mpr z]
    have:=RcAt.int_int (A:=‹Around›) (s:=‹Shared›) i t j t'
    rw [← e] at this
    exact this
 rn:=fun {_ _ _ _ _ _ a b x y u v} _ _ h1 h2 r1 r2=>by
  cases a with
  | none=>
   have h1 : x = .non:=h1
   subst h1
   obtain rfl : u = .none:=r1
   cases b with
   | none=>
    have h2 : y = .non:=h2
    subst h2
    obtain rfl : v = .none:=r2
    exact RcNeAt.none_none
   | some j=>
    have h2 : y = .int j:=h2
    subst h2
    obtain ⟨t,rfl⟩:=r2
    exact RcNeAt.none_int _ _
  | some i=>
   have h1 : x = .int i:=h1
   subst h1
   obtain ⟨t,rfl⟩:=r1
   cases b with
   | none=>
    have h2 : y = .non:=h2
    subst h2
    obtain rfl : v = .none:=r2
    exact RcNeAt.int_none _ _
   | some j=>
    have h2 : y = .int j:=h2
    subst h2
    obtain ⟨t',rfl⟩:=r2
    have e : decide (some i = some j) = (i == j):=by
     by_cases z : i = j
     ·subst z; simp
     ·rw [yak (fun q=>z (yai q)),beq_eq_false_iff_ne.mpr z]
    have:=RcNeAt.int_int (A:=‹Around›) (s:=‹Shared›) i t j t'
    rw [← e] at this
    exact this
 eq:=fun {_ _ _ _ _ _ a b x y u v} _ _ h1 h2 r1 r2=>by
  cases a with
  | none=>
   have h1 : x = .non:=h1
   subst h1
   obtain rfl : u = .none:=r1
   cases b with
   | none=>
    have h2 : y = .non:=h2
    subst h2
    obtain rfl : v = .none:=r2
    exact EqAt.same _
   | some j=>
    have h2 : y = .int j:=h2
    subst h2
    obtain ⟨t,rfl⟩:=r2
    exact EqAt.none_int _ _
  | some i=>
   have h1 : x = .int i:=h1
   subst h1
   obtain ⟨t,rfl⟩:=r1
   cases b with
   | none=>
    have h2 : y = .non:=h2
    subst h2
    obtain rfl : v = .none:=r2
    exact EqAt.int_none _ _
   | some j=>
    have h2 : y = .int j:=h2
    subst h2
    obtain ⟨t',rfl⟩:=r2
    have e : decide (some i = some j) = (i == j):=by
     by_cases z : i = j
     ·subst z; simp
     ·rw [yak (fun q=>z (yai q)),beq_eq_false_iff_ne.mpr z]
    have:=EqAt.int_int (A:=‹Around›) (s:=‹Shared›) i t j t'
    rw [← e] at this
    exact this
structure Tup (α : Type) where
 l : List α
theorem Tup.ext' {α : Type} {a b : Tup α} (h : a.l = b.l) : a = b:=by
 cases a
 cases b
 cases h
 rfl
instance {α : Type} [DecidableEq α] : DecidableEq (Tup α):=fun a b=>if h : a.l = b.l then .isTrue (Tup.ext' h) else .isFalse fun z=>h (by rw [z])
def hasT {α : Type} [Rep α] (K : Frag) (H : Hp) (t : Tup α) (v : V) : Prop:=∃ a xs,v = .ref a∧SqT K H a xs∧zal K H t.l xs
section
variable {α : Type} [r : Rep α] {X : Cx} {pins : List (Addr×Obj)} {σ : St} {H : Hp} {s : Shared} {A : Around} {as bs : Tup α} {x y : V} {u v : Value}
theorem zgZ (I : Inv X pins σ H s) (h1 : hasT X.K H as x) (h2 : hasT X.K H bs x) : as = bs:=by
 obtain ⟨a,xs,rfl,q1,h1⟩:=h1
 obtain ⟨b,ys,e,q2,h2⟩:=h2
 cases e
 rw [I.tuple_inj q2 q1] at h2
 exact Tup.ext' (h1.inj I h2)
theorem zhL {as bs : List α} (n m : Nat) (hn : as.length = n) (hm : bs.length = m) : ((List.range (min n m)).all (fun j=>decide (as[j]? = bs[j]?)) && n == m) = decide (as = bs):=by
 by_cases hl : as.length = bs.length
 ·have e:=zdz as bs hl
  have z : min n m = as.length:=by omega
  rw [z,e,beq_iff_eq.mpr (by omega : n = m),Bool.and_true]
 ·rw [yak (fun z=>hl (by rw [z])),beq_eq_false_iff_ne.mpr (by omega : n≠m),ya7]
theorem ziS : decide (as = bs) = decide (as.l = bs.l):=by
 by_cases h : as.l = bs.l
 ·rw [yap h,yap (Tup.ext' h)]
 ·rw [yak h,yak (fun z=>h (by rw [z]))]
theorem ziI (I : Inv X pins σ H s) (hu : A.units + (Rep.depth α + 1) < cLine) (h1 : hasT X.K H as x) (h2 : hasT X.K H bs y) (r1 : RelV x u) (r2 : RelV y v) : RcAt A s u v (decide (as = bs)):=by
 obtain ⟨a,xs,rfl,q1,h1⟩:=h1
 obtain ⟨b,ys,rfl,q2,h2⟩:=h2
 cases r1
 cases r2
 obtain ⟨us,ru,pu,_⟩:=I.tuple q1
 obtain ⟨vs,rv,pv,_⟩:=I.tuple q2
 have l1:=ru.length
 have l2:=rv.length
 have m1:=h1.length
 have m2:=h2.length
 have hin : A.in1.units + Rep.depth α < cLine:=yaP (ybl zb0 _) (by omega)
 have:=RcAt.tuples (A:=A) (s:=s) (l:=a) (b:=b) (items:=us.toArray) (items2:=vs.toArray) (e:=fun j=>decide (as.l[j]? = bs.l[j]?)) pu pv (by omega) (zdN I hin h1 h2 ru rv)
 rw [zhL (as:=as.l) (bs:=bs.l) us.toArray.size vs.toArray.size (by simp; omega) (by simp; omega),← ziS] at this
 exact this
theorem zk2 (I : Inv X pins σ H s) (hu : A.units + (Rep.depth α + 1) < cLine) (h1 : hasT X.K H as x) (h2 : hasT X.K H bs y) (r1 : RelV x u) (r2 : RelV y v) : RcNeAt A s u v (!decide (as = bs)):=by
 obtain ⟨a,xs,rfl,q1,h1⟩:=h1
 obtain ⟨b,ys,rfl,q2,h2⟩:=h2
 cases r1
 cases r2
 obtain ⟨us,ru,pu,_⟩:=I.tuple q1
 obtain ⟨vs,rv,pv,_⟩:=I.tuple q2
 have l1:=ru.length
 have l2:=rv.length
 have m1:=h1.length
 have m2:=h2.length
 have hin : A.in1.units + Rep.depth α < cLine:=yaP (ybl zb0 _) (by omega)
 have:=RcNeAt.tuples (A:=A) (s:=s) (l:=a) (b:=b) (items:=us.toArray) (items2:=vs.toArray) (e:=fun j=>decide (as.l[j]? = bs.l[j]?)) pu pv (by omega) (zdN I hin h1 h2 ru rv)
 rw [zhL (as:=as.l) (bs:=bs.l) us.toArray.size vs.toArray.size (by simp; omega) (by simp; omega),← ziS] at this
 exact this
theorem zk3 (I : Inv X pins σ H s) (hu : A.units + (Rep.depth α + 1) < cLine) (h1 : hasT X.K H as x) (h2 : hasT X.K H bs y) (r1 : RelV x u) (r2 : RelV y v) : EqAt A s u v (decide (as = bs)):=by
 have rc:=ziI (A:=A) I hu h1 h2 r1 r2
 have h1':=id h1
 have h2':=id h2
 obtain ⟨a,xs,rfl,q1,h1⟩:=h1
 obtain ⟨b,ys,rfl,q2,h2⟩:=h2
 cases r1
 cases r2
 by_cases hab : a = b
 ·subst hab
  rw [yap (zgZ I h1' h2')]
  exact EqAt.same _
 ·exact EqAt.of_refs hab rc
end
instance {α : Type} [Rep α] : Rep (Tup α) where
 dec:=inferInstance
 depth:=Rep.depth α + 1
 has:=hasT
 mono:=fun e ⟨a,xs,h1,h2,h3⟩=>⟨a,xs,h1,h2.ext e,h3.mono e⟩
 inj:=fun I h1 h2=>zgZ I h1 h2
 rc:=fun I hu h1 h2 r1 r2=>ziI I hu h1 h2 r1 r2
 rn:=fun I hu h1 h2 r1 r2=>zk2 I hu h1 h2 r1 r2
 eq:=fun I hu h1 h2 r1 r2=>zk3 I hu h1 h2 r1 r2
end L2
namespace HT
open PySem PyProof.Rows
def lexGt : List Int→List Int→Bool
 | [],[]=>false
 | [],_ :: _=>false
 | _ :: _,[]=>true
 | x :: xs,y :: ys=>if x = y then lexGt xs ys else decide (y < x)
theorem lexGt_cons (x y : Int) (xs ys : List Int) : lexGt (x :: xs) (y :: ys) = if x = y then lexGt xs ys else decide (y < x):=rfl
theorem lexGt_nil_nil : lexGt [] [] = false:=rfl
end HT
namespace L2
open PySem PySem.Spec PyProof.Rows PySem.SeqAt
def zl9 {α β : Type} [Rep α] [Rep β] (K : Frag) (H : Hp) (o : Option (α×β)) (v : V) : Prop:=match o with
 | none=>v = .non
 | some p=>hasP K H p v
section
variable {α β : Type} [Rep α] [Rep β] {X : Cx} {pins : List (Addr×Obj)} {σ : St} {H : Hp} {s : Shared} {A : Around} {p q : α×β} {x y : V} {u v : Value}
theorem zcM (I : Inv X pins σ H s) (h : hasP X.K H p x) (r : RelV x u) : ∃ (a : Addr) (its : Array Value),u = .ref a∧s.heap.IsTuple a its:=by
 obtain ⟨a,x1,x2,rfl,q,_,_⟩:=h
 cases r
 obtain ⟨us,_,pu,_⟩:=I.tuple (SqT.of q)
 exact ⟨a,us.toArray,rfl,pu⟩
theorem zfm : decide (some p = some q) = decide (p = q):=by
 by_cases h : p = q
 ·subst h
  rw [yap rfl,yap rfl]
 ·rw [yak h,yak (fun z=>h (yai z))]
end
instance {α β : Type} [Rep α] [Rep β] : Rep (Option (α×β)) where
 dec:=inferInstance
 depth:=Rep.depth α + Rep.depth β + 1
 has:=zl9
 mono:=fun {_ _ _ a _} e h=>by
  cases a with
  | none=>exact h
  | some p=>exact Rep.mono (α:=α×β) e h
 inj:=fun {_ _ _ _ _ a b v} I h1 h2=>by
  cases a with
  | none=>
   have h1 : v = .non:=h1
   cases b with
   | none=>rfl
   | some q=>
    obtain ⟨c,_,_,e,_⟩:=(show hasP _ _ q v from h2)
    rw [h1] at e
    cases e
  | some p=>
   cases b with
   | none=>
    have h2 : v = .non:=h2
    obtain ⟨c,_,_,e,_⟩:=(show hasP _ _ p v from h1)
    rw [h2] at e
    cases e
   | some q=>rw [Rep.inj (α:=α×β) I h1 h2]
 rc:=fun {_ _ _ _ _ _ a b x y u v} I hu h1 h2 r1 r2=>by
  cases a with
  | none=>
   have h1 : x = .non:=h1
   subst h1
   obtain rfl : u = .none:=r1
   cases b with
   | none=>
    have h2 : y = .non:=h2
    subst h2
    obtain rfl : v = .none:=r2
    exact RcAt.none_none
   | some q=>
    obtain ⟨c,its,rfl,ht⟩:=zcM I h2 r2
    exact RcAt.none_tuple ht (by omega)
  | some p=>
   cases b with
   | none=>
    have h2 : y = .non:=h2
    subst h2
    obtain rfl : v = .none:=r2
    obtain ⟨c,its,rfl,ht⟩:=zcM I h1 r1
    exact RcAt.tuple_none ht (by omega)
   | some q=>
    have:=zgo I hu h1 h2 r1 r2
    rw [← zfm] at this
    exact this
 rn:=fun {_ _ _ _ _ _ a b x y u v} I hu h1 h2 r1 r2=>by
  cases a with
  | none=>
   have h1 : x = .non:=h1
   subst h1
   obtain rfl : u = .none:=r1
   cases b with
   | none=>
    have h2 : y = .non:=h2
    subst h2
    obtain rfl : v = .none:=r2
    exact RcNeAt.none_none
   | some q=>
    obtain ⟨c,its,rfl,ht⟩:=zcM I h2 r2
    exact RcNeAt.none_tuple ht (by omega)
  | some p=>
   cases b with
   | none=>
    have h2 : y = .non:=h2
    subst h2
    obtain rfl : v = .none:=r2
    obtain ⟨c,its,rfl,ht⟩:=zcM I h1 r1
    exact RcNeAt.tuple_none ht (by omega)
   | some q=>
    have:=ziJ I hu h1 h2 r1 r2
    rw [← zfm] at this
    exact this
 eq:=fun {_ _ _ _ _ _ a b x y u v} I hu h1 h2 r1 r2=>by
  cases a with
  | none=>
   have h1 : x = .non:=h1
   subst h1
   obtain rfl : u = .none:=r1
   cases b with
   | none=>
    have h2 : y = .non:=h2
    subst h2
    obtain rfl : v = .none:=r2
    exact EqAt.same _
   | some q=>
    obtain ⟨c,its,rfl,ht⟩:=zcM I h2 r2
    exact EqAt.none_tuple ht (by omega)
  | some p=>
   cases b with
   | none=>
    have h2 : y = .non:=h2
    subst h2
    obtain rfl : v = .none:=r2
    obtain ⟨c,its,rfl,ht⟩:=zcM I h1 r1
    exact EqAt.tuple_none ht (by omega)
   | some q=>
    have:=ziK I hu h1 h2 r1 r2
    rw [← zfm] at this
    exact this
end L2
namespace L2
open PySem PySem.Spec PyProof.Rows
structure zfr (scope : Scope) (ps caps : List Str) : Prop where
 kind : scope.kind = .function
 co : scope.isCoroutine = false
 gen : scope.isGenerator = false
 nocell : ∀ x∈scope.names,x.2≠.cell
 par : ∀ x∈ps,scope.names.lookup x = some .local
 cap : ∀ x∈caps,scope.names.lookup x = some .free
 nd : (ps ++ caps).Nodup
def zjY (P : Program) (w : World) (K : Frag) (mg : Str→Option Value) (base : Heap) (N : List Str) (qual : Str) (scope : Scope) (f : Addr) (cd : Value) (cl : List (Str×Addr)) (A : Around) (outer : List Env) (s : Shared) (H : Hp) : Cx where
 prog:=P
 w:=w
 K:=K
 mg:=mg
 base:=base
 A:=A.deeper (PySem.W.envX qual scope s.heap.objs.size f cd cl)
 N:=N
 s₀:=s
 H₀:=H
 env:=PySem.W.envX qual scope s.heap.objs.size f cd cl
 outer:=outer
 stack:=PySem.W.envX qual scope s.heap.objs.size f cd cl :: outer
 ex:=[]
 calm:=true
 fn:=fun _=>false
 pn:=[]
 xe:=fun _ _=>False
def zi1 (c : Addr) (q : Str) : Heap→Prop:=fun h=>h.CodeRec (.ref c) q
def zeJ (H : Hp) (c : Addr) (q : Str) : Prop:=H c = some (.ext (zi1 c q))
theorem zhA {c : Addr} {q : Str} (h1 h2 : Heap) (x : zi1 c q h1) (k : ∀ o,h1.get? c = some o→h2.get? c = some o) : zi1 c q h2:=by
 obtain ⟨c',o,vs,t,e,ho,r⟩:=x
 cases e
 exact ⟨c,o,vs,t,rfl,k o ho,r⟩
theorem zeJ.rec {P : Program} {w : World} {H : Hp} {h : Heap} {c : Addr} {q : Str} (x : zeJ H c q) (ok : HOk P w H h) : h.CodeRec (.ref c) q:=(ok c _ x).1
theorem zet {x : Str} {u : Value} : ∀ {ps : List Str} {us : List Value} {i : Nat},ps.Nodup→ps[i]? = some x→us[i]? = some u→(ps.zip us).reverse.lookup x = some u
 | [],_,_,_,e,_=>by simp at e
 | _ :: _,[],_,_,_,e=>by simp at e
 | p :: ps,v :: us,0,hn,e1,e2=>by
  have e1 : p = x:=by simpa using e1
  have e2 : v = u:=by simpa using e2
  subst e1 e2
  rw [yca,ya5,List.lookup_append]
  have z : (ps.zip us).reverse.lookup p = none:=by
   rw [List.lookup_eq_none_iff]
   intro y hy
   have:=ybq (List.mem_reverse.mp hy)
   simp only [beq_eq_false_iff_ne,ne_eq,bne_iff_ne]
   intro q
   rw [yaV] at hn
   first
    | exact hn.1 (q ▸ this.1)
    | (rw [q] at hn; exact hn.1 this.1)
  rw [z]
  simp
 | p :: ps,v :: us,i + 1,hn,e1,e2=>by
  rw [yaV] at hn
  have ih:=zet (ps:=ps) (us:=us) (i:=i) hn.2 (by simpa using e1) (by simpa using e2)
  rw [yca,ya5,List.lookup_append,ih]
  rfl
def zkC (n : Nat) (tb : TE) (vcs : List V) (c : Addr) (q : Str) : Sp:=fun vs H Q _=>vs.length = n∧zeJ H c q∧tb (vs.map some ++ vcs.map some) H Q
theorem zl1 {P : Program} {w : World} {K : Frag} {mg : Str→Option Value} {base : Heap} {k : Nat} {f c : Addr} {name qual : Str} {params : Arguments} {body : Expr} {scope : Scope} {cl : List (Str×Addr)} {pm ctv : Value} {ps caps : List Str} {vcs : List V} {tb : TE}
  (S : zfr scope ps caps) (hf : base.get? f = some (PySem.W.kla_obj name qual params body scope cl pm c ctv)) (hlen : vcs.length = caps.length)
  (hcap : ∀ (j : Nat) (x : Str) (v : V),caps[j]? = some x→vcs[j]? = some v→∃ a u,cl.lookup x = some a∧base.IsCell a (some u)∧RelV v u)
  (hcell : ∀ x a,cl.lookup x = some a→∃ v,base.IsCell a v) (hinj : ∀ x y a,cl.lookup x = some a→cl.lookup y = some a→x = y) (hhas : ∀ x,scope.names.lookup x = some .free→∃ a,cl.lookup x = some a)
  (hb : ∀ (A : Around) (outer : List Env) (s : Shared) (H : Hp),Room k (A.deeper (PySem.W.envX qual scope s.heap.objs.size f (.ref c) cl))→PE (zjY P w K mg base (ps ++ caps) qual scope f (.ref c) cl A outer s H) body tb) :
  FnOk P w K mg base CX0 (k + 1) f (PySem.W.kla_fn name qual params body scope cl pm (.ref c) ctv) ps (zkC ps.length tb vcs c qual):=by
 refine ⟨fun vs H Q E h=>h.1,fun A outer s H args us vs Q E hr e0 hbind r hsp=>?_⟩
 obtain ⟨hl,hc,hq⟩:=hsp
 have bk : ∀ b o,base.get? b = some o→s.heap.get? b = some o:=fun b o e=>(e0.bs b o e).1
 have hul : us.length = ps.length:=by rw [← r.length]; exact hl
 refine PySem.W.kla_callFunE hr.depth (bk _ _ hf) rfl S.co S.gen rfl (hc.rec e0.hok) ?_
 refine hbind _ _ _ _ ?_
 refine wpAny_newFunctionEnv S.nocell (fun y hy=>S.par _ (ybq hy).1) (fun h1 hns hsb=>⟨(e0.mod.nolimit.keeps bk).fresh _ hsb,?_⟩) S.kind
 show codeAny _ _ (.expr body (PySem.W.envX qual scope s.heap.objs.size f (.ref c) cl)) _ _
 have hk : ∀ b o,s.heap.get? b = some o→h1.get? b = some o:=fun b o e=>hsb.extBut b o (yaw (yac e)) (yam _ e)
 have cellK : ∀ a v,base.IsCell a v→h1.IsCell a v∧H a = none:=fun a v ⟨o,ho,hd⟩=>⟨⟨o,hk _ _ (bk _ _ ho),hd⟩,(e0.bs _ _ ho).2⟩
 have ndps : ps.Nodup:=(List.nodup_append.mp S.nd).1
 have noA : ∀ b : Addr,b∉([] : List Addr):=fun b z=>absurd z (by simp)
 have I : Inv (zjY P w K mg base (ps ++ caps) qual scope f (.ref c) cl A outer s H) [] (vs.map some ++ vcs.map some) H { s with heap:=h1,toks:=s.toks + (ps.zip us).length }:=by
  refine ⟨⟨e0.mod,S.kind,rfl,rfl,yab _,hinj,fun y hy=>?_,fun y a z _=>(by cases z),fun _=>hr.hd,Around.frames_deeper e0.frames,.inr ⟨rfl,rfl⟩,fun b z=>absurd z (noA b),e0.bs,e0.bsz,fun b _ _=>noA b,fun b z=>absurd z (noA b),e0.funs,e0.frf⟩,
   rfl,e0.bare,Un.kept hk,⟨_,hns,fun i y v h1' h2 h3=>?_⟩,fun y a h=>?_,e0.hok.fresh (yab _),fun y a h=>?_,fun p hp=>absurd (show p∈([] : List (Addr×Obj)) from hp) (by simp),e0.hok.kept hk,?_⟩
  ·have hy : scope.names.lookup y = some .cell∨scope.names.lookup y = some .free:=hy
   rcases hy with hy | hy
   ·exact absurd rfl (S.nocell _ (PySem.mem_of_lookup hy))
   ·exact hhas y hy
  ·have h1' : (ps ++ caps)[i]? = some y:=h1'
   by_cases hi : i < ps.length
   ·rw [yaO hi] at h1'
    rw [yaO (by rw [yaa]; omega),yax] at h2
    cases e : vs[i]? with
    | none=>rw [e] at h2; cases h2
    | some v'=>
     rw [e] at h2
     cases h2
     obtain ⟨u,hu,ru⟩:=r.get e
     exact ⟨u,ru,.inl ⟨S.par y (yaW h1'),zet ndps h1' hu⟩⟩
   ·rw [yaL (by omega)] at h1'
    rw [yaL (by rw [yaa]; omega),yaa,yax] at h2
    cases e : vcs[i - vs.length]? with
    | none=>rw [e] at h2; cases h2
    | some v'=>
     rw [e] at h2
     cases h2
     rw [hl] at e
     obtain ⟨a,u,e1,e2,ru⟩:=hcap _ _ _ h1' e
     exact ⟨u,ru,.inr ⟨.inr (S.cap y (yaW h1')),a,e1,(cellK _ _ e2).1⟩⟩
  ·obtain ⟨v,z⟩:=hcell y a h
   exact ⟨v,(cellK _ _ z).1⟩
  ·obtain ⟨v,z⟩:=hcell y a h
   exact (cellK _ _ z).2
  ·show (vs.map some ++ vcs.map some).length = (ps ++ caps).length
   rw [yae,yae,yaa,yaa,hl,hlen]
 refine PySem.W.kla_codeExpr (wpAny_mono (hb A outer s H (hr.deeper _) [] _ _ H Q I hq) (fun u s' hu=>?_) fun _ _ z=>(show False from z).elim)
 obtain ⟨v,H',J,rv,q⟩:=hu
 exact ⟨v,H',J.os,J.bare,J.base,J.hok,rv,q⟩
end L2
namespace L2
open PySem PySem.Spec PyProof.Rows
def Gro (Pt : Addr) (H H' : Hp) : Prop:=∀ b o,b≠Pt→H b = some o→H' b = some o
theorem Gro.refl (Pt : Addr) (H : Hp) : Gro Pt H H:=fun _ _ _ h=>h
theorem Gro.trans {Pt : Addr} {H H1 H2 : Hp} (a : Gro Pt H H1) (b : Gro Pt H1 H2) : Gro Pt H H2:=fun c o n h=>b c o n (a c o n h)
structure zaA (H : Hp) (Pt : Addr) (pos : Pos) (q : Str) : Prop where
 ex : ∃ tab : Array Value,H Pt = some (.tbl tab)∧TriplesOk tab.toList∧(codeAmong pos tab.toList = none∨∃ c,codeAmong pos tab.toList = some (.ref c)∧zeJ H c q)
theorem zaA.ext {H H' : Hp} {Pt : Addr} {pos : Pos} {q : Str} (x : zaA H Pt pos q) (e : Ext H H') : zaA H' Pt pos q:=by
 obtain ⟨tab,h1,h2,h3⟩:=x.ex
 refine ⟨tab,e _ _ h1 (fun _ z=>nomatch z),h2,?_⟩
 rcases h3 with h3 | ⟨c,h3,h4⟩
 ·exact .inl h3
 ·exact .inr ⟨c,h3,e _ _ h4 (fun _ z=>nomatch z)⟩
theorem zaA.gro {H H' : Hp} {Pt P2 : Addr} {pos : Pos} {q : Str} (x : zaA H Pt pos q) (e : Gro P2 H H') (hne : Pt≠P2) (h2 : ∃ tab,H P2 = some (.tbl tab)) : zaA H' Pt pos q:=by
 obtain ⟨tab,h1,h3,h4⟩:=x.ex
 refine ⟨tab,e _ _ hne h1,h3,?_⟩
 rcases h4 with h4 | ⟨c,h4,h5⟩
 ·exact .inl h4
 ·refine .inr ⟨c,h4,e _ _ (fun z=>?_) h5⟩
  obtain ⟨tab2,y⟩:=h2
  rw [← z,show H c = _ from h5] at y
  cases y
def BMAt (mg : Str→Option Value) (base : Heap) : Prop:=∃ bm o,mg "__builtins__" = some (.ref bm)∧bm≠builtinsNs∧bm≠mainGlobals∧base.get? bm = some o∧o.cls = .type "module"∧o.dict = some builtinsNs∧o.data = .plain
section
variable {X : Cx} {pins : List (Addr×Obj)} {σ : St} {H : Hp} {s : Shared} {params : Arguments} {body : Expr} {scope : Scope} {lpos : Pos} {c Pt : Addr} {Q : Value→Shared→Prop}
theorem zjW {c' : Addr} {q : Str} {tab more : Array Value} {h' : Heap} {tk : Nat} (I : Inv X pins σ H s) (hP : H Pt = some (.tbl tab)) (hx : ∀ b o,b≠Pt→s.heap.get? b = some o→h'.get? b = some o) (hge : s.heap.objs.size≤c')
  (hrec : h'.CodeRec (.ref c') q) (htb : h'.get? Pt = some (PySem.W.tabObj (tab ++ more))) : Inv X pins σ (upd (upd H Pt (.tbl (tab ++ more))) c' (.ext (zi1 c' q))) { s with heap:=h',toks:=tk }:=by
 have hfr : H c' = none:=I.hok.fresh hge
 have nPc : Pt≠c':=zad hP hfr
 have low : ∀ b u,H b = some u→b≠c':=fun b u e=>zad e hfr
 have lows : ∀ b o,s.heap.get? b = some o→b≠c':=fun b o e=>yaw (yat (yac e) hge)
 have nP : ∀ b,H b = none→b≠Pt:=fun b n z=>by rw [z,hP] at n; cases n
 refine I.un (t':=tk) ⟨fun b o e n _ _=>hx b o (nP b n) e,fun b o e n _ _=>⟨o.slots,hx b o (nP b n) e⟩,fun b o e n _=>?_,fun b o e _=>?_,fun b xs e=>?_,fun b o u e=>?_,fun b ps e=>?_⟩ fun a o e=>?_
 ·rw [zaj (lows b o e),zaj (nP b n)]
  exact n
 ·by_cases z : b = Pt
  ·exact ⟨_,by rw [z]; exact htb⟩
  ·exact ⟨o,hx b o z e⟩
 ·rw [zaj (low b _ e),zaj (fun z=>by rw [z,hP] at e; cases e)]
  exact e
 ·rw [zaj (low b _ e),zaj (fun z=>by rw [z,hP] at e; cases e)]
  exact e
 ·by_cases z : b = Pt
  ·rw [z,hP] at e
   cases e
   exact ⟨more,by rw [z,zaj nPc,zac]⟩
  ·exact ⟨#[],by rw [zaj (low b _ e),zaj z,e]; simp⟩
 ·by_cases z : a = c'
  ·subst z
   rw [zac] at e
   cases e
   obtain ⟨c2,o2,vs,t,e2,ho2,r2⟩:=id hrec
   cases e2
   exact ⟨hrec,⟨o2,ho2⟩,fun h1 h2 x k=>zhA h1 h2 x k⟩
  ·rw [zaj z] at e
   by_cases y : a = Pt
   ·subst y
    rw [zac] at e
    cases e
    exact htb
   ·rw [zaj y] at e
    refine (I.hok a o e).stay (fun b u hb q=>hx b u ?_ q) (fun b q=>?_) fun b xs q=>?_
    ·rcases hb with rfl | hb
     ·exact y
     ·intro z2
      rw [z2,hP] at hb
      cases hb
    ·rw [zaj (low b _ q),zaj (fun z2=>by rw [z2,hP] at q; cases q)]
     exact q
    ·rw [zaj (low b _ q),zaj (fun z2=>by rw [z2,hP] at q; cases q)]
     exact q
theorem zjL (I : Inv X pins σ H s) (hdef : defaultsOf params X.env = ([],[])) (hfr : ∀ x,(x,NameKind.free)∈scope.names→(X.env.kindOf x = some .cell∨X.env.kindOf x = some .free)) (hcode : X.env.code = .ref c) (hC : codeHdIn X.K c Pt = true) (hBM : BMAt X.mg X.base)
  (hT : zaA H Pt lpos (X.env.qual ++ "<lambda>"))
  (h : ∀ (f c' : Addr) (cl : List (Str×Addr)) (pm ctv : Value) (H' : Hp) (s' : Shared),zf4 scope X.env cl→Inv X pins σ H' s'→s'.heap.get? f = some (PySem.W.kla_obj "<lambda>" (X.env.qual ++ "<lambda>") params body scope cl pm c' ctv)→H' f = none→s.heap.objs.size≤f→
   Gro Pt H H'→zaA H' Pt lpos (X.env.qual ++ "<lambda>")→zeJ H' c' (X.env.qual ++ "<lambda>")→Q (.ref f) s') :
  wpAny (model X.prog X.w) X.A (eval (.Lambda params body scope lpos) X.env) Q X.xe s:=by
 obtain ⟨cl,hcl⟩:=zef (scope:=scope) (env:=X.env) fun x hx=>I.ok.has x (hfr x hx)
 obtain ⟨tab,hP,ht,hor⟩:=hT.ex
 have hPo : s.heap.get? Pt = some (PySem.W.tabObj tab):=I.hok Pt _ hP
 have C : PySem.W.CodeHd s.heap c Pt:=(PySem.W.codeHd_of_K I.ok.mod.kin hC).keeps I.bk
 have hgl:=I.mod.glob.keeps I.bk
 have hgP : mainGlobals≠Pt:=fun z=>by
  obtain ⟨o,es,ep,e,_⟩:=I.mod.glob
  have:=(I.bs _ _ e).2
  rw [z,hP] at this
  cases this
 have hb : s.heap.BuiltinsAt X.mg Pt:=by
  obtain ⟨bm,o,b1,b2,b3,b4,b5⟩:=hBM
  refine ⟨bm,o,b1,b2,b3,fun z=>?_,I.bk _ _ b4,b5⟩
  have:=(I.bs _ _ b4).2
  rw [z,hP] at this
  cases this
 refine PySem.W.kla_eval hdef ?_
 rcases hor with hnone | ⟨c',hsome,hca⟩
 ·refine PySem.W.kla_makeFunction (clos:=cl) hcl.eq I.ok.glob hgl hcode C hPo ht hnone hgP hb fun c' ctv h' tk hx hge hlt hrec htb=>?_
  have hx' : ∀ o2 b o,b≠Pt→s.heap.get? b = some o→(h'.push o2).get? b = some o:=fun o2 b o n e=>yam _ (hx b o n e)
  have I':=zjW (c':=c') (q:=X.env.qual ++ "<lambda>") (tk:=tk) I hP (hx' _) hge (hrec.push (PySem.W.kla_obj "<lambda>" (X.env.qual ++ "<lambda>") params body scope cl ((X.mg "__name__").getD .none) c' ctv)) (yam _ htb)
  have hsz : s.heap.objs.size≤h'.objs.size:=ya0 (yaP hge hlt)
  have nPc : Pt≠c':=zad hP (I.hok.fresh hge)
  have eT : (tab ++ #[rawInt lpos.line,rawInt lpos.col,.ref c']).toList = tab.toList ++ [rawInt lpos.line,rawInt lpos.col,.ref c']:=by simp
  have hTI : zaA (upd (upd H Pt (.tbl (tab ++ #[rawInt lpos.line,rawInt lpos.col,.ref c']))) c' (.ext (zi1 c' (X.env.qual ++ "<lambda>")))) Pt lpos (X.env.qual ++ "<lambda>"):=
   ⟨_,by rw [zaj nPc,zac],by rw [eT]; exact TriplesOk_snoc _ _ _ _ ht,.inr ⟨c',by rw [eT]; exact codeAmong_snoc _ ht hnone,zac⟩⟩
  refine h h'.objs.size c' cl _ ctv _ _ hcl I' (yaN _ rfl) ?_ hsz ?_ hTI zac
  ·rw [zaj (Nat.ne_of_gt hlt),zaj (fun z=>?_)]
   ·exact I.hok.fresh hsz
   ·have:=yac hPo
    rw [← z] at this
    exact absurd this (Nat.not_lt.mpr hsz)
  ·intro b o n e
   rw [zaj (zad e (I.hok.fresh hge)),zaj n]
   exact e
 ·refine PySem.W.kla_makeFunctionHit (clos:=cl) hcl.eq I.ok.glob hgl hcode C hPo ht hsome hb fun ctv h' tk hk hsz=>?_
  exact h h'.objs.size c' cl _ ctv H _ hcl (I.kept (t':=tk) fun b o e=>yam _ (hk b o e)) (yaN _ rfl) (I.hok.fresh hsz) hsz (Gro.refl _ _) hT hca
end
end L2
namespace L2
open PySem PySem.Spec PyProof.Rows
def zdk (X : Cx) (s : Shared) (H : Hp) : Heap:=PySem.W.hideAll s.heap (trk s.heap H ++ frs X.stack)
theorem zeb {h b1 b2 : Heap} : ∀ {l : List Env},h.FunFrames b1 l→(∀ b∈frs l,b2.get? b = none)→h.FunFrames b2 l
 | [],_,_=>trivial
 | env :: l,⟨h1,⟨L,o,h2,h3,h4,h5⟩,h6⟩,k=>by
  have m : ∀ b∈frs l,b∈frs (env :: l):=fun b hb=>by
   unfold frs
   rw [ybf,h2]
   exact yal _ hb
  refine ⟨h1,⟨L,o,h2,k L ?_,h4,h5⟩,zeb h6 fun b hb=>k b (m b hb)⟩
  unfold frs
  rw [ybf,h2]
  exact yah
section
variable {X : Cx} {pins : List (Addr×Obj)} {σ : St} {H : Hp} {s : Shared}
theorem zdy {b : Addr} {o : Obj} (e : s.heap.get? b = some o) (n : H b = none) (hf : b∉frs X.stack) : (zdk X s H).get? b = some o:=
 PySem.W.hideAll_get _ e fun hm=>by
  rcases yaf.mp hm with z | z
  ·have q : (H b).isSome = true:=(ybo.mp z).2
   rw [n] at q
   cases q
  ·exact hf z
theorem zfH {b : Addr} {o : Obj} (e : (zdk X s H).get? b = some o) : s.heap.get? b = some o∧H b = none∧b∉frs X.stack:=by
 have e1:=PySem.W.of_hideAll _ e
 have hm : b∉trk s.heap H ++ frs X.stack:=fun z=>by
  unfold zdk at e
  rw [PySem.W.hideAll_none _ z] at e
  cases e
 rw [yaf,not_or] at hm
 refine ⟨e1,?_,hm.2⟩
 cases q : H b with
 | none=>rfl
 | some u=>exact absurd (ybo.mpr ⟨ya3.mpr (yac e1),by rw [q]; rfl⟩) hm.1
theorem zhE (I : Inv X pins σ H s) : ∀ b o,X.base.get? b = some o→(zdk X s H).get? b = some o:=fun b o e=>by
 obtain ⟨h1,h2⟩:=I.bs b o e
 refine zdy h1 h2 fun z=>?_
 have:=(I.stack.mem z).1
 rw [e] at this
 cases this
theorem zgx (I : Inv X pins σ H s) : Env0 X.prog X.w X.K X.mg (zdk X s H) X.A X.stack s H:=by
 have sub:=zhE I
 refine ⟨I.ok.frames,⟨I.mod.kin.keeps sub,I.mod.glob.keeps sub,?_,I.mod.nolimit.keeps sub⟩,fun b o e=>⟨(zfH e).1,(zfH e).2.1⟩,Nat.le_of_eq (PySem.W.hideAll_size _ _),zeb I.stack fun b hb=>PySem.W.hideAll_none _ (yaq _ hb),I.stkFree,I.hok,I.bare⟩
 obtain ⟨mb,h1,h2⟩:=I.mod.blt
 exact ⟨mb,h1.keeps sub,h2⟩
end
structure FV (P : Program) (w : World) (K : Frag) (mg : Str→Option Value) (base : Heap) (k : Nat) (f : Addr) (ps : List Str) (sp : Sp) : Prop where
 ex : ∃ fd,FnOk P w K mg base CX0 k f fd ps sp∧zem K fd ps []∧PySem.W.FnAt f base
section
variable {X : Cx}
def zlz (X : Cx) (kr : Nat) (tf : TE) (t : TA) : TE:=fun σ H Q=>tf σ H fun x H1=>∃ f k ps sp,x = .ref f∧FV X.prog X.w X.K X.mg X.base k f ps sp∧k≤kr∧t σ H1 fun vs H2=>sp vs H2 Q E0
theorem zjq {kr : Nat} {x : Str} {e : Expr} {es : List Expr} {tf : TE} {t : TA} {p pos : Pos} (hr : Room kr X.A) (hf : PE X (.Name x p) tf) (ha : PA X (e :: es) t)
  (he : starEach (e :: es) X.env = (false,eval e X.env) :: starEach es X.env:=by rfl) (hpl : (backTo pos (starEach es X.env)).any (·.1) = false:=by rfl) : PE X (.Call (.Name x p) (e :: es) [] pos) (zlz X kr tf t):=by
 intro pins s σ H Q I h
 refine wpAny_Call_Name_kw (thn (hf pins s σ H _ I h) fun u s1 ⟨x1,H1,I1,r1,q1⟩=>?_)
 obtain ⟨f,k,ps,sp,rfl,hF,hk,q⟩:=q1
 cases r1
 obtain ⟨fd,ok,bd,oc,od,fd2,sl,ho⟩:=hF.ex
 refine PySem.W.callWith_F ⟨oc,od,fd2,sl,I1.bk _ _ ho⟩ (thn (ha pos pins s1 σ H1 _ I1 q) fun us s2 ⟨vs,H2,I2,r,q2⟩=>⟨⟨oc,od,fd2,sl,I2.bk _ _ ho⟩,?_⟩) he hpl
 exact zkc ok (hr.mono hk) bd .nil zlQ I2 r (by rw [yaU]; exact q2)
structure zlm (X : Cx) (params : Arguments) (body : Expr) (scope : Scope) (ps caps : List Str) (cap : List Nat) : Prop where
 sc : zfr scope ps caps
 frees : ∀ x,(x,NameKind.free)∈scope.names→(X.env.kindOf x = some .cell∨X.env.kindOf x = some .free)
 capAt : ∀ (j : Nat) (x : Str),caps[j]? = some x→∃ i : Nat,cap[j]? = some i∧X.N[i]? = some x∧(X.env.kindOf x = some .cell∨X.env.kindOf x = some .free)
 dflt : defaultsOf params X.env = ([],[])
 binds : ∀ (cl : List (Str×Addr)) (pm cdv ct : Value) (us : List Value),us.length = ps.length→bindArgs (PySem.W.kla_fn "<lambda>" (X.env.qual ++ "<lambda>") params body scope cl pm cdv ct) ⟨us,[]⟩ = pure (ps.zip us)
 own : ∀ x,X.fn x = true
theorem zmz {pins : List (Addr×Obj)} {σ : St} {H : Hp} {s : Shared} {params : Arguments} {body : Expr} {scope : Scope} {ps caps : List Str} {cap : List Nat} {f c' : Addr} {cl : List (Str×Addr)} {pm ctv : Value} {vcs : List V} {tb : TE} {k n : Nat} (I : Inv X pins σ H s) (L : zlm X params body scope ps caps cap) (hcl : zf4 scope X.env cl)
  (ho : s.heap.get? f = some (PySem.W.kla_obj "<lambda>" (X.env.qual ++ "<lambda>") params body scope cl pm c' ctv)) (hn : H f = none) (hfr : ∀ b∈frs X.stack,b < n) (hge : n≤f)
  (hv : vcs.length = caps.length) (hvs : ∀ (j i : Nat) (v : V),cap[j]? = some i→vcs[j]? = some v→σ[i]? = some (some v))
  (hb : ∀ (base : Heap) (f : Addr) (cd : Value) (cl : List (Str×Addr)) (A : Around) (outer : List Env) (s : Shared) (H : Hp),Room k (A.deeper (PySem.W.envX (X.env.qual ++ "<lambda>") scope s.heap.objs.size f cd cl))→PE (zjY X.prog X.w X.K X.mg base (ps ++ caps) (X.env.qual ++ "<lambda>") scope f cd cl A outer s H) body tb) :
  FV X.prog X.w X.K X.mg (zdk X s H) (k + 1) f ps (zkC ps.length tb vcs c' (X.env.qual ++ "<lambda>")):=by
 have nf : f∉frs X.stack:=fun z=>absurd (yat (hfr f z) hge) (ya2 _)
 have hbf:=zdy (X:=X) ho hn nf
 have cellB : ∀ x a v,X.env.cells.lookup x = some a→s.heap.IsCell a v→(zdk X s H).IsCell a v:=fun x a v e ⟨o,h1,h2⟩=>by
  refine ⟨o,zdy h1 (I.freeC x a e) fun z=>?_,h2⟩
  rcases yaj.mp (I.stkSub a z) with y | y
  ·exact I.cne x a e y
  ·obtain ⟨_,o2,h3,_⟩:=I.ok.funs.mem y
   exact absurd (yat (yac h3) (I.ok.cab x a (L.own x) e)) (ya2 _)
 refine ⟨_,zl1 L.sc hbf hv (fun j x v h1 h2=>?_) (fun x a e=>?_) (fun x y a h1 h2=>I.ok.inj x y a (hcl.sub x a h1) (hcl.sub y a h2)) (fun x e=>?_) (fun A outer s H hr=>hb _ f _ cl A outer s H hr),.all (L.binds cl pm (.ref c') ctv),⟨_,_,_,_,hbf⟩⟩
 ·obtain ⟨i,e1,e2,e3⟩:=L.capAt j x h1
  obtain ⟨m,hm,hl⟩:=I.loc
  obtain ⟨u,ru,lk⟩:=hl i x v e2 (hvs j i v e1 h2) (by
   rcases e3 with z | z
   ·exact .inr (.inl z)
   ·exact .inr (.inr z))
  rcases lk with ⟨z,_⟩ | ⟨_,a,e4,e5⟩
  ·rcases e3 with y | y
   ·rw [y] at z; cases z
   ·rw [y] at z; cases z
  ·obtain ⟨a',e6⟩:=hcl.has x (PySem.mem_of_lookup (L.sc.cap x (yaW h1)))
   have e7:=hcl.sub x a' e6
   rw [e4] at e7
   cases e7
   exact ⟨a,u,e6,cellB x a _ e4 e5,ru⟩
 ·obtain ⟨v,z⟩:=I.cell x a (hcl.sub x a e)
  exact ⟨v,cellB x a v (hcl.sub x a e) z⟩
 ·exact hcl.has x (PySem.mem_of_lookup e)
def zji (X : Cx) (n kf : Nat) (ps : List Str) (cap : List Nat) (Pt : Addr) (lpos : Pos) (tb te : TE) (spH : Heap→Sp) : TE:=fun σ H Q=>te σ H fun x1 H1=>zaA H1 Pt lpos (X.env.qual ++ "<lambda>")∧∃ vcs : List V,vcs.length = n∧(∀ (j i : Nat) (v : V),cap[j]? = some i→vcs[j]? = some v→σ[i]? = some (some v))∧
 ∀ (base : Heap) (f c' : Addr) (H2 : Hp),Gro Pt H1 H2→zaA H2 Pt lpos (X.env.qual ++ "<lambda>")→zeJ H2 c' (X.env.qual ++ "<lambda>")→FV X.prog X.w X.K X.mg base kf f ps (zkC ps.length tb vcs c' (X.env.qual ++ "<lambda>"))→spH base [x1,.ref f] H2 Q E0
theorem zev {x q1 q2 : Str} {e1 : Expr} {params : Arguments} {body : Expr} {scope : Scope} {lpos p pos : Pos} {te tb : TE} {spH : Heap→Sp} {j k kf : Nat} {c Pt : Addr} {ps caps : List Str} {cap : List Nat}
  (F : ∀ base,FC X.prog X.w X.K X.mg base j x [q1,q2] (spH base)) (hr : Room k X.A) (h1 : PE X e1 te) (L : zlm X params body scope ps caps cap) (hcode : X.env.code = .ref c) (hC : codeHdIn X.K c Pt = true) (hBM : BMAt X.mg X.base)
  (hb : ∀ (base : Heap) (f : Addr) (cd : Value) (cl : List (Str×Addr)) (A : Around) (outer : List Env) (s : Shared) (H : Hp),Room kf (A.deeper (PySem.W.envX (X.env.qual ++ "<lambda>") scope s.heap.objs.size f cd cl))→PE (zjY X.prog X.w X.K X.mg base (ps ++ caps) (X.env.qual ++ "<lambda>") scope f cd cl A outer s H) body tb)
  (hjk : j≤k:=by decide) (hg : Gl X x:=by rfl) (hdb : (x == ("__debug__" : Str)) = false:=by decide) (he : starEach [e1,.Lambda params body scope lpos] X.env = (false,eval e1 X.env) :: starEach [.Lambda params body scope lpos] X.env:=by rfl)
  (he2 : starEach [.Lambda params body scope lpos] X.env = [(false,eval (.Lambda params body scope lpos) X.env)]:=by rfl) (hpl : (backTo pos (starEach [.Lambda params body scope lpos] X.env)).any (·.1) = false:=by rfl) :
  PE X (.Call (.Name x p) [e1,.Lambda params body scope lpos] [] pos) (zji X caps.length (kf + 1) ps cap Pt lpos tb te spH):=by
 intro pins s σ H Q I h
 obtain ⟨g,fd,_,_,kp,m,oc,od,osl,lk⟩:=(F X.base).ex
 refine wpAny_Call_Name_kw (zdt I hg m ?_ hdb)
 refine PySem.W.callWith_K (h₀:=X.base) I.ok.mod.kin kp ?_ he hpl
 rw [he]
 show wpAny _ _ (spliced ((false,eval e1 X.env) :: backTo pos (starEach [.Lambda params body scope lpos] X.env))) _ _ s
 refine Calls.spliced_cons (thn (h1 pins s σ H _ I h) fun u s1 ⟨x1,H1,I1,r1,q1⟩=>?_)
 obtain ⟨hT,vcs,hv,hvs,q⟩:=q1
 rw [he2]
 show wpAny _ _ (spliced ((false,eval (.Lambda params body scope lpos) X.env) :: [])) _ _ s1
 refine Calls.spliced_cons (zjL I1 L.dflt L.frees hcode hC hBM hT fun f c' cl pm ctv H2 s2 hcl I2 ho hn hge hgr hT2 hca=>?_)
 refine Calls.spliced_nil ⟨I2.kIn,?_⟩
 have hF:=zmz (k:=kf) (n:=s1.heap.objs.size) I2 L hcl ho hn (fun b hb=>by
  obtain ⟨_,o,e,_⟩:=I1.stack.mem hb
  exact yac e) hge hv hvs hb
 have hsp:=q (zdk X s2 H2) f c' H2 hgr hT2 hca hF
 obtain ⟨g2,fd2,ok,bd,_,m2,_⟩:=(F (zdk X s2 H2)).ex
 rw [m] at m2
 cases m2
 have r2 : Vals [x1,.ref f] [u,.ref f]:=.cons r1 (.cons rfl .nil)
 refine wpAny_call (codeAny_mono (ok.run X.A X.stack s2 H2 ⟨[u,.ref f],[]⟩ [u,.ref f] [x1,.ref f] Q E0 (hr.mono hjk) (zgx I2) (bd s2 [u,.ref f] I2.kIn rfl) r2 hsp) fun r s' hq=>?_)
 cases r with
 | error e=>exact False.elim hq
 | ok fl=>
  cases fl with
  | ret u=>exact I2.after hq
  | next=>exact False.elim hq
  | brk=>exact False.elim hq
  | cont=>exact False.elim hq
end
end L2
namespace L2
open PySem PySem.Spec PyProof.Rows
theorem zix {P : Program} {w : World} {K : Frag} {mg mb : Str→Option Value} {CX : CXT} {k : Nat} {fa a : Addr} {fd : FuncData} {x : Str} {sp : Sp} {s₁ : Shared} {vs : List Value} {ns : List Int} {tabs : List (Addr×Addr)}
  (KX : K.In s₁.heap) (hns : s₁.heap.Ns mainGlobals mg) (hb : s₁.heap.Ns builtinsNs mb) (hbb : ∀ x : Str,x ≠ "__name__"→mb x = bootBuiltins x) (hlim : s₁.heap.NoLimit) (hg : s₁.gens = #[]) (hBM : BMAt mg s₁.heap)
  (hT : PySem.W.TabsAt tabs s₁.heap) (hKT : ∀ q∈tabs,K.lookup q.2 = none)
  (ha : s₁.heap.get? a = some { cls:=.type "list",data:=.seq vs.toArray }) (hi : IntsAre vs ns) (hl : ns.length≤sizeLine) (hr : Room k callerA)
  (F : ∀ base : Heap,K.In base→base.Ns mainGlobals mg→BMAt mg base→FnOk P w K mg base CX k fa fd [x] sp) (hbind : ∀ (s : Shared) (u : Value),BindsTo s fd ⟨[u],[]⟩ [(x,u)])
  (hsp : ∀ H : Hp,(∀ q∈tabs,H q.2 = some (.tbl #[]))→SqL K H a (ns.map V.int)→sp [.ref a] H (fun v _=>v = .bl true) fun _ _ _=>False)
  (hCX : ∀ H e s',CX [] H s₁ (fun _ _ _=>False) e s'→False) :
  codeAny (model P w) callerA (.call (.ref fa) ⟨[.ref a],[]⟩) (fun r s'=>r = .ok (.ret (.bool true))∧OldK s₁.heap s'.heap∧s'.os = s₁.os∧AllBare s'.gens) s₁:=by
 have rv:=zfu hi
 have lenV:=hi.length
 have tabO : ∀ b,b∈tabs.map (·.2)→s₁.heap.get? b = some (PySem.W.tabObj #[])∧isCodeTable s₁.heap b∧K.lookup b = none:=fun b hm=>by
  obtain ⟨q,hq,rfl⟩:=yaY.mp hm
  exact ⟨(hT q hq).2,((hT q hq).1.tab (hT q hq).2).isCodeTable,hKT q hq⟩
 have nat : a∉tabs.map (·.2):=fun z=>by
  have:=(tabO a z).1
  rw [ha] at this
  cases this
 have core : ∀ Hs : Hp,(∀ b,Hs b = none∨(b = a∧Hs b = some (.frz { cls:=.type "list",data:=.seq vs.toArray } (.lst (ns.map V.int)))))→(∀ H : Hp,(∀ b,b∉tabs.map (·.2)→H b = Hs b)→SqL K H a (ns.map V.int))→(Hs a≠none→K.lookup a = none)→
   codeAny (model P w) callerA (.call (.ref fa) ⟨[.ref a],[]⟩) (fun r s'=>r = .ok (.ret (.bool true))∧OldK s₁.heap s'.heap∧s'.os = s₁.os∧AllBare s'.gens) s₁:=by
  intro Hs hO hS hK
  obtain ⟨H,hH⟩ : ∃ H : Hp,H = fun b=>if b∈tabs.map (·.2) then some (.tbl #[]) else Hs b:=⟨_,rfl⟩
  have H1 : ∀ b,b∈tabs.map (·.2)→H b = some (.tbl #[]):=fun b z=>by rw [hH]; exact if_pos z
  have H2 : ∀ b,b∉tabs.map (·.2)→H b = Hs b:=fun b z=>by rw [hH]; exact if_neg z
  have cases3 : ∀ b,H b = none∨(b = a∧H b = some (.frz { cls:=.type "list",data:=.seq vs.toArray } (.lst (ns.map V.int))))∨(b∈tabs.map (·.2)∧H b = some (.tbl #[])):=fun b=>by
   by_cases z : b∈tabs.map (·.2)
   ·exact .inr (.inr ⟨z,H1 b z⟩)
   ·rcases hO b with y | ⟨y1,y2⟩
    ·exact .inl ((H2 b z).trans y)
    ·exact .inr (.inl ⟨y1,(H2 b z).trans y2⟩)
  have hok : HOk P w H s₁.heap:=fun b u e=>by
   rcases cases3 b with y | ⟨y1,y2⟩ | ⟨y1,y2⟩
   ·rw [y] at e; cases e
   ·rw [y2] at e
    cases e
    subst y1
    exact ⟨ha,by rw [yaa]; exact hl,vs,_,rv,ha⟩
   ·rw [y2] at e
    cases e
    exact (tabO b y1).1
  have base_of : ∀ {b : Addr} {o : Obj},s₁.heap.get? b = some o→H b = none→(hidT s₁.heap H).get? b = some o:=fun e n=>zjS e n
  have noD : ∀ {b : Addr} {o : Obj},s₁.heap.get? b = some o→(∀ xs n,o.data≠.seq xs n)→(∀ xs,o.data≠.fields xs)→H b = none:=fun {b o} e d1 d2=>by
   rcases cases3 b with y | ⟨y1,y2⟩ | ⟨y1,y2⟩
   ·exact y
   ·subst y1
    rw [ha] at e
    cases e
    exact absurd rfl (d1 _ _)
   ·rw [(tabO b y1).1] at e
    cases e
    exact absurd rfl (d2 _)
  have nsK : ∀ {b : Addr} {m : Str→Option Value},s₁.heap.Ns b m→(hidT s₁.heap H).Ns b m:=fun {b m} ⟨o,es,ep,e,d,r⟩=>⟨o,es,ep,base_of e (noD e (fun _ _ z=>by rw [d] at z; cases z) (fun _ z=>by rw [d] at z; cases z)),d,r⟩
  have hKb : K.In (hidT s₁.heap H):=fun b o e=>base_of (KX b o e) (by
   rcases cases3 b with y | ⟨y1,y2⟩ | ⟨y1,y2⟩
   ·exact y
   ·subst y1
    rw [hK (by rw [← H2 b nat,y2]; exact fun z=>nomatch z)] at e
    cases e
   ·rw [(tabO b y1).2.2] at e
    cases e)
  have hM : Mod K mg (hidT s₁.heap H):=⟨hKb,nsK hns,⟨mb,nsK hb,hbb⟩,let ⟨mc,h1,h2⟩:=hlim; ⟨mc,nsK h1,h2⟩⟩
  have hBMb : BMAt mg (hidT s₁.heap H):=by
   obtain ⟨bm,o,b1,b2,b3,b4,b5,b6,b7⟩:=hBM
   exact ⟨bm,o,b1,b2,b3,base_of b4 (noD b4 (fun _ _ z=>by rw [b7] at z; cases z) (fun _ z=>by rw [b7] at z; cases z)),b5,b6,b7⟩
  have e0 : Env0 P w K mg (hidT s₁.heap H) callerA [] s₁ H:=⟨rfl,hM,fun b o e=>zkV e,Nat.le_of_eq (ziH _ _),trivial,fun b hb=>absurd (show b∈([] : List Addr) from hb) (by simp),hok,.of_eq hg⟩
  refine codeAny_mono ((F _ hKb (nsK hns) hBMb).run callerA [] s₁ H ⟨[.ref a],[]⟩ [.ref a] [.ref a] _ _ hr e0 (hbind s₁ (.ref a)) (.cons rfl .nil) (hsp H (fun q hq=>H1 _ (List.mem_map_of_mem hq)) (hS H H2))) fun r s' h=>?_
  cases r with
  | error e=>exact (hCX H e s' h).elim
  | ok fl=>
   cases fl with
   | next=>exact False.elim h
   | brk=>exact False.elim h
   | cont=>exact False.elim h
   | ret u=>
    obtain ⟨v,H',os,bare,un,hok',r',q⟩:=h
    have q' : v = .bl true:=q
    subst q'
    obtain rfl : u = Value.bool true:=r'
    have keep : ∀ b o,H b = none→s₁.heap.get? b = some o→s'.heap.get? b = some o:=fun b o n e=>un.keep b o e n (by intro z; exact absurd (show b∈([] : List Addr) from z) (by simp)) (by simp)
    have frz : ∀ b o,b = a→H b = some (.frz { cls:=.type "list",data:=.seq vs.toArray } (.lst (ns.map V.int)))→s₁.heap.get? b = some o→s'.heap.get? b = some o:=fun b o y1 y2 e=>by
     obtain ⟨e1,_⟩:=hok b _ y2
     obtain ⟨e2,_⟩:=hok' b _ (un.frzs b _ _ y2)
     rw [e] at e1
     cases e1
     exact e2
    have tbl : ∀ b,H b = some (.tbl #[])→∃ ps,s'.heap.get? b = some (PySem.W.tabObj ps):=fun b y=>by
     obtain ⟨more,e⟩:=un.tbls b _ y
     exact ⟨_,hok' b _ e⟩
    refine ⟨rfl,⟨fun b o e=>?_,fun b o e=>?_⟩,os,bare⟩
    ·rcases cases3 b with y | ⟨y1,y2⟩ | ⟨y1,y2⟩
     ·exact .inl (keep b o y e)
     ·exact .inl (frz b o y1 y2 e)
     ·obtain ⟨ps,hp⟩:=tbl b y2
      obtain ⟨t1,t2,_⟩:=tabO b y1
      rw [e] at t1
      cases t1
      exact .inr (.inl ⟨t2,rfl,#[],ps,rfl,by rw [Array.empty_append]; exact hp⟩)
    ·rcases cases3 b with y | ⟨y1,y2⟩ | ⟨y1,y2⟩
     ·exact ⟨o,keep b o y e⟩
     ·exact ⟨o,frz b o y1 y2 e⟩
     ·obtain ⟨ps,hp⟩:=tbl b y2
      exact ⟨_,hp⟩
 cases hk : K.lookup a with
 | some o=>
  have e:=KX a o hk
  rw [ha] at e
  cases e
  exact core (fun _=>none) (fun _=>.inl rfl) (fun H _=>.inr ⟨_,vs.toArray,_,hk,rfl,rfl,rfl,by rw [yay,lenV]; exact hl,by simpa using rv⟩) fun z=>absurd rfl z
 | none=>
  refine core (fun b=>if b = a then some (.frz { cls:=.type "list",data:=.seq vs.toArray } (.lst (ns.map V.int))) else none) (fun b=>?_) (fun H h=>.inl (.inr ⟨{ cls:=.type "list",data:=.seq vs.toArray },by rw [h a nat]; exact if_pos rfl⟩)) fun _=>hk
  by_cases z : b = a
  ·exact .inr ⟨z,if_pos z⟩
  ·exact .inl (if_neg z)
theorem zje {l : OpenLaw} {n k : Nat} {q : Program} {loose : List Str} {XP : (Str→Option Value)→Heap→Prop} {YP : World→Heap→Prop} {d : DefRec} {K : Params→Frag} {sp : World→Sp} {x : Str} {tabs : List (Addr×Addr)}
  (hn : l.most = some n) (hn2 : n≤sizeLine) (hdf : d.params.defaults = []) (hr : Room k callerA)
  (hY : ∀ (w : World) (h : Heap),YP w h→(K w.params).In h) (hYT : ∀ (w : World) (h : Heap),YP w h→∀ q∈tabs,h.get? q.2 = some (PySem.W.tabObj #[]))
  (hC : ∀ (w : World),∀ q∈tabs,codeHdIn (K w.params) q.1 q.2 = true∧(K w.params).lookup q.2 = none)
  (F : ∀ (w : World) (mg : Str→Option Value) (fa : Addr) (h : Heap),(K w.params).In h→h.Ns mainGlobals mg→mg d.name = some (.ref fa)→
   ∃ fd : FuncData,(∀ (s : Shared) (u : Value),BindsTo s fd ⟨[u],[]⟩ [(x,u)])∧
    ∀ base : Heap,(K w.params).In base→base.Ns mainGlobals mg→BMAt mg base→FnOk l.prog w (K w.params) mg base CX0 k fa fd [x] (sp w))
  (hsp : ∀ (w : World) (H : Hp) (a : Addr) (ns : List Int),ns.length≤n→(∀ q∈tabs,H q.2 = some (.tbl #[]))→SqL (K w.params) H a (ns.map V.int)→sp w [.ref a] H (fun v _=>v = .bl true) fun _ _ _=>False) :
  PySem.W.WalkO q loose XP YP l.row.toRowW d [] (fun f vs=>PySem.call f vs):=by
 refine Att.attach_call hn hdf fun w s₀ s₁ mg mb fa o pm cd doc a vs ns G Y ho hd hcd hmg hobj hints hlen hg=>?_
 have KX:=hY w _ Y
 obtain ⟨fd,hb,hF⟩:=F w mg fa _ KX G.T.g hmg
 have hBM : BMAt mg s₁.heap:=by
  obtain ⟨bm,ob,b1,b2,b3,b4,b5,b6⟩:=G.T.bmain
  refine ⟨bm,ob,b1,b2,fun z=>?_,b3,b4,b5,b6⟩
  obtain ⟨o,es,ep,e,hd,_⟩:=G.T.g
  rw [z,e] at b3
  cases b3
  rw [hd] at b6
  cases b6
 exact zix (tabs:=tabs) KX G.T.g G.T.b G.T.builtins G.T.nolimit hg hBM (fun q hq=>⟨PySem.W.codeHd_of_K KX (hC w q hq).1,hYT w _ Y q hq⟩) (fun q hq=>(hC w q hq).2) hobj hints (yaB hlen hn2) hr hF hb (fun H hO hS=>hsp w H a ns hlen hO hS) fun H e s' z=>z
structure DFT (K : Frag) (mg : Str→Option Value) (x : Str) (st : Stmt) (ps : List Str) (c Pt : Addr) : Prop where
 ex : ∃ (f : Addr) (oc : Value) (od : Option Addr) (kV dc pm : Value) (an : Option Addr) (ct : Value) (osl : Array (Option Value)),K.lookup f = some ⟨oc,od,.func (fnOf x x (zbT st) (zbg st) (zai st) .none kV dc pm an (.ref c) ct),osl⟩∧
  codeIn K (.ref c) x = true∧keepIn K (.ref f) = true∧mg x = some (.ref f)∧zem K (fnOf x x (zbT st) (zbg st) (zai st) .none kV dc pm an (.ref c) ct) ps []
 hd : codeHdIn K c Pt = true
theorem DFT.ok {P : Program} {w : World} {K : Frag} {mg : Str→Option Value} {base : Heap} {x : Str} {st : Stmt} {N ps : List Str} {k : Nat} {sp : Sp} {c Pt : Addr} (D : DFT K mg x st ps c Pt) (S : zaq N ps (zai st)) (len : ∀ vs H Q E,sp vs H Q E→vs.length = ps.length)
  (hbody : ∀ (f : Addr) (A : Around) (outer : List Env) (s : Shared) (H : Hp) (vs : List V) (Q : VK) (E : XK),Room k (A.deeper (envOfC x (zai st) s.heap.objs.size f (.ref c)))→sp vs H Q E→
   ∃ t,PSs (cxOf CX0 P w K mg base N x (zai st) f (.ref c) A outer s H E).nox (zbg st) t∧t { nx:=fun _ H'=>Q .non H',rt:=Q } (zdP N vs) H) : FC P w K mg base (k + 1) x ps sp:=by
 obtain ⟨f,oc,od,kV,dc,pm,an,ct,osl,lk,hcd,kp,m,bd⟩:=D.ex
 refine ⟨f,_,zlb lk hcd S len fun A outer s H vs Q E hr hsp=>?_,bd,kp,m,oc,od,osl,lk⟩
 obtain ⟨t,h,q⟩:=hbody f A outer s H vs Q E hr hsp
 exact ⟨t,h.nox,q⟩
theorem zjh {K : Frag} {x : Str} {c Pt f : Addr} {oc : Value} {od : Option Addr} {fd : FuncData} {sl : Array (Option Value)} (a : nsIn K mainGlobals x = some (some (.ref f))) (l : K.lookup f = some ⟨oc,od,.func fd,sl⟩) (t : tabIn K x = some (c,Pt)) : fd.code = .ref c:=by
 unfold tabIn at t
 rw [a] at t
 dsimp only at t
 rw [l] at t
 dsimp only at t
 split at t
 ·rename_i c2 hc
  split at t
  ·split at t
   ·cases t
    exact hc
   ·cases t
  ·cases t
 ·cases t
end L2
namespace L2
open PySem PySem.Spec PyProof.Rows
theorem zko {X : Cx} {params : Arguments} {body : Expr} {scope osc : Scope} {N ps caps : List Str} {cap : List Nat} (sc : zfr scope ps caps)
  (h1 : ∀ p∈scope.names,p.2 = NameKind.free→osc.names.lookup p.1 = some NameKind.cell) (h2 : ∀ p∈caps.zip cap,N[p.2]? = some p.1∧osc.names.lookup p.1 = some NameKind.cell) (hl : caps.length = cap.length)
  (ho : X.env.scope = osc) (hN : X.N = N) (d : defaultsOf params X.env = ([],[]))
  (b : ∀ (cl : List (Str×Addr)) (pm cdv ct : Value) (us : List Value),us.length = ps.length→bindArgs (PySem.W.kla_fn "<lambda>" (X.env.qual ++ "<lambda>") params body scope cl pm cdv ct) ⟨us,[]⟩ = pure (ps.zip us))
  (o : ∀ x,X.fn x = true) : zlm X params body scope ps caps cap:=by
 have hk : ∀ x,X.env.kindOf x = osc.names.lookup x:=fun x=>by
  unfold Env.kindOf
  rw [ho]
 refine ⟨sc,fun x hx=>.inl ?_,fun j x hj=>?_,d,b,o⟩
 ·rw [hk]
  exact h1 (x,.free) hx rfl
 ·have hj':=(yaD.mp hj).1
  have hc : cap[j]? = some (cap[j]'(by omega)):=yad _
  have hz : (caps.zip cap)[j]? = some (x,cap[j]'(by omega)):=by
   rw [List.getElem?_zip_eq_some]
   exact ⟨hj,hc⟩
  obtain ⟨a1,a2⟩:=h2 _ (yaW hz)
  refine ⟨_,hc,?_,.inl ?_⟩
  ·rw [hN]
   exact a1
  ·rw [hk]
   exact a2
end L2
namespace L2
open PySem PySem.Spec PyProof.Rows
mutual
inductive RD (H : Hp) : V→PyData→List Addr→Prop
 | non : RD H .non .none []
 | bl (b : Bool) : RD H (.bl b) (.bool b) []
 | int (i : Int) : RD H (.int i) (.int i) []
 | str (x : Str) : RD H (.str x) (.str x) []
 | lst {a : Addr} {xs : List V} {ds : List PyData} {as : List Addr} : H a = some (.lst xs)→RDs H xs ds as→RD H (.ref a) (.list ds) (a :: as)
 | tup {a : Addr} {xs : List V} {ds : List PyData} {as : List Addr} : H a = some (.tup xs)→RDs H xs ds as→RD H (.ref a) (.tuple ds) as
 | dic {a : Addr} : H a = some (.dK [])→RD H (.ref a) (.dict []) [a]
inductive RDs (H : Hp) : List V→List PyData→List Addr→Prop
 | nil : RDs H [] [] []
 | cons {x : V} {xs : List V} {d : PyData} {ds : List PyData} {as bs : List Addr} : RD H x d as→RDs H xs ds bs→RDs H (x :: xs) (d :: ds) (as ++ bs)
end
mutual
theorem RD.same {H H' : Hp} (s : Same H H') : ∀ {x : V} {d : PyData} {as : List Addr},RD H x d as→RD H' x d as
 | _,_,_,.non=>.non
 | _,_,_,.bl b=>.bl b
 | _,_,_,.int i=>.int i
 | _,_,_,.str x=>.str x
 | _,_,_,.lst e t=>.lst (s _ _ e) (RDs.same s t)
 | _,_,_,.tup e t=>.tup (s _ _ e) (RDs.same s t)
 | _,_,_,.dic e=>.dic (s _ _ e)
theorem RDs.same {H H' : Hp} (s : Same H H') : ∀ {xs : List V} {ds : List PyData} {as : List Addr},RDs H xs ds as→RDs H' xs ds as
 | _,_,_,.nil=>.nil
 | _,_,_,.cons r t=>.cons (RD.same s r) (RDs.same s t)
end
section
variable {X : Cx} {pins : List (Addr×Obj)} {σ : St} {H : Hp} {s : Shared}
mutual
theorem RD.reads (I : Inv X pins σ H s) : ∀ {x : V} {d : PyData} {as : List Addr} {u : Value},RD H x d as→RelV x u→Reads s.heap u d as
 | _,_,_,_,.non,r=>by
  cases r
  exact .none
 | _,_,_,_,.bl b,r=>by
  cases r
  exact .bool b
 | _,_,_,_,.int i,r=>by
  obtain ⟨t,rfl⟩:=r
  exact .int i t
 | _,_,_,_,.str x,r=>by
  obtain ⟨t,rfl⟩:=r
  exact .str x t
 | _,_,_,_,.lst (a:=a) (xs:=xs) e t,r=>by
  cases r
  obtain ⟨_,its,n,rv,h1⟩:=(show zaU X.prog X.w H s.heap a (.lst xs) from I.hok a _ e)
  exact .list h1 rfl rfl (RDs.reads I t rv)
 | _,_,_,_,.tup (a:=a) (xs:=xs) e t,r=>by
  cases r
  obtain ⟨_,its,rv,p⟩:=(show zaU X.prog X.w H s.heap a (.tup xs) from I.hok a _ e)
  obtain ⟨o,h1,h2,n,h3⟩:=(show s.heap.IsTuple a its.toArray from p)
  exact .tuple h1 h2 h3 (RDs.reads I t rv)
 | _,_,_,_,.dic (a:=a) e,r=>by
  cases r
  obtain ⟨_,_,vs,rel,o,es,ep,h1,h2,h3,h4,h5,h6⟩:=(show zaU X.prog X.w H s.heap a (.dK []) from I.hok a _ e)
  cases rel
  have e0 : es.toList = []:=by
   have:=h5.length
   exact List.length_eq_zero_iff.mp this
  have:=Reads.dict (kvs:=[]) (as:=[]) (bs:=[]) h1 h2.1 h3 (by rw [e0]; exact .nil) (by rw [e0]; exact .nil)
  exact this
theorem RDs.reads (I : Inv X pins σ H s) : ∀ {xs : List V} {ds : List PyData} {as : List Addr} {us : List Value},RDs H xs ds as→Vals xs us→ReadsAll s.heap us ds as
 | _,_,_,_,.nil,.nil=>.nil
 | _,_,_,_,.cons r t,.cons rv q=>.cons (RD.reads I r rv) (RDs.reads I t q)
end
end
def zlL : List V→Hp→VK→Prop:=fun xs H Q=>∃ (a : Addr) (d : PyData) (as : List Addr),xs = [.ref a]∧RD H (.ref a) d as∧d.showable = true∧(d.hasDict = true→sysModules∉as)∧d.depth≤8∧d.shown.length≤sizeLine∧Q (.str d.shown) H
theorem zfX {X : Cx} (hg : X.A.guards = some []) (hu : X.A.units + 16 < cLine) : zbU X (.builtin "repr") zlL:=by
 intro pins s σ H xs us Q I r h
 obtain ⟨a,d,as,rfl,rd,h1,h2,h3,h4,q⟩:=h
 obtain ⟨u,rfl,rx⟩:=zen r
 have rr:=rd.reads I rx
 cases rx
 exact repr_of_reads' rr h1 h2 hg (by omega) (fun b o e=>e) (fun h' u tk k=>⟨.str d.shown,H,Inv.kept (t':=tk) I k,⟨u,rfl⟩,q⟩) h4
end L2
namespace L2
open PySem PySem.Spec PyProof.Rows
section
variable {X : Cx}
inductive zgB (H : Hp) : V→Str→Prop where
 | non : zgB H .non "None"
 | bl (b : Bool) : zgB H (.bl b) (if b then "True" else "False")
 | int (i : Int) (h : i.natAbs.log2 < 1920) : zgB H (.int i) (toString i)
 | str (y : Str) (h : (reprText y).length≤sizeLine) : zgB H (.str y) (reprText y)
 | dic (a : Addr) (h : H a = some (.dK [])) : zgB H (.ref a) (PyData.dict []).shown
def zkd : List V→Hp→VK→Prop:=fun xs H Q=>∃ (x : V) (t : Str),xs = [x]∧zgB H x t∧Q (.str t) H
theorem zeG (hg : X.A.guards = some []) (hu : X.A.units + 16 < cLine) : zbU X (.builtin "repr") zkd:=by
 intro pins s σ H xs us Q I r h
 obtain ⟨x,t,rfl,hx,q⟩:=h
 obtain ⟨u,rfl,rx⟩:=zen r
 cases hx with
 | non=>
  cases rx
  exact P.repr_of_none ⟨.str _,H,I.tok _,⟨_,rfl⟩,q⟩
 | bl b=>
  cases rx
  exact P.repr_of_bool ⟨.str _,H,I.tok _,⟨_,rfl⟩,by cases b <;> exact q⟩
 | int i h=>
  obtain ⟨t,rfl⟩:=rx
  exact P.repr_of_int h ⟨.str _,H,I.tok _,⟨_,rfl⟩,q⟩
 | str y h=>
  obtain ⟨t,rfl⟩:=rx
  exact P.repr_of_str ⟨.str _,H,I.tok _,⟨_,rfl⟩,q⟩ h
 | dic a h=>
  have rr:=(RD.dic h).reads I rx
  cases rx
  have hno : sysModules∉[a]:=fun hm=>by
   obtain ⟨_,g2,_⟩:=(show zaU X.prog X.w H s.heap sysModules (.dK []) from I.hok _ _ (by rw [yag.mp hm]; exact h))
   exact absurd g2 (by decide)
  exact repr_of_reads' rr (by decide) (fun _=>hno) hg (by show X.A.units + _ < _; simp [PyData.depth,PyData.depthKv]; omega) (fun b o e=>e) (fun h' u tk k=>⟨.str _,H,Inv.kept (t':=tk) I k,⟨u,rfl⟩,q⟩) (by decide)
end
end L2
namespace L2
open PySem PySem.Spec PyProof.Rows
theorem zaU.there {P : Program} {w : World} {H : Hp} {h : Heap} {a : Addr} {o : HO} (x : zaU P w H h a o) : ∃ ob,h.get? a = some ob:=by
 cases o with
 | lst xs=>obtain ⟨_,_,_,_,e⟩:=x; exact ⟨_,e⟩
 | tup xs=>obtain ⟨_,_,_,o,e,_⟩:=x; exact ⟨_,e⟩
 | dK kvs=>obtain ⟨_,_,_,_,o,_,_,e,_⟩:=x; exact ⟨_,e⟩
 | dT kvs=>obtain ⟨_,_,_,_,o,_,_,e,_⟩:=x; exact ⟨_,e⟩
 | set S n=>obtain ⟨o,_,_,_,e,_⟩:=x; exact ⟨_,e⟩
 | ins C dx fs=>obtain ⟨_,_,_,e,_⟩:=x; exact ⟨_,e⟩
 | own y=>obtain ⟨o,e⟩:=x; exact ⟨o,e⟩
 | xd fs=>obtain ⟨_,⟨o,_,_,e,_⟩,_⟩:=x; exact ⟨_,e⟩
 | rng lo hi=>obtain ⟨_,_,_,e⟩:=x; exact ⟨_,e⟩
 | frz ob u=>obtain ⟨e,_⟩:=x; exact ⟨_,e⟩
 | tbl ps=>exact ⟨_,(show h.get? a = some _ from x)⟩
 | met f y=>exact ⟨_,(show h.get? a = some _ from x)⟩
 | ext φ=>obtain ⟨_,⟨o,e⟩,_⟩:=x; exact ⟨o,e⟩
structure Air (P : Program) (w : World) (l : List Env) (H : Hp) (old : Heap) (a : Addr) (cls fl : Value) (H' : Hp) (h : Heap) : Prop where
 un : Un (frs l) [] H H' old h
 hok : HOk P w H' h
 ua : H' a = none
 na : old.get? a = none
 uf : ∀ b∈frs l,H' b = none
 nf : ∀ b∈frs l,∃ o,h.get? b = some o∧∀ vs,o.data≠.fields vs
 tr : ∃ (a0 : Value) (oe : Obj) (vs : Array Value) (T : Addr) (oT : Obj) (ts : Array Value),(h.get? a = some oe∧(oe.cls = cls∧vs[0]? = some a0)∧oe.data = .fields vs∧vs[1]? = some (.ref T)∧T≠a∧h.get? T = some oT∧oT.data = .fields ts∧ts[3]? = some fl)∧H' T = none∧old.get? T = none
section
variable {P : Program} {w : World} {l : List Env} {H H' : Hp} {old h h' : Heap} {a : Addr} {cls fl fl' : Value}
theorem Air.step (x : Air P w l H old a cls fl H' h) (hl : ∀ B : Heap,(∀ b,b∈frs l→B.get? b = none)→∀ h : Heap,(∀ b∈frs l,∃ o,h.get? b = some o∧∀ vs,o.data≠.fields vs)→h.FunFrames B l) :
  ∃ (B : Heap) (a0 : Value),B.StaysIn h∧B.get? a = none∧h.FunFrames B l∧h.TracedAtW B a cls a0 fl∧
   ∀ (h' : Heap) (fl' : Value),B.StaysIn h'→h.UpToSlots h'→h'.TracedAtW B a cls a0 fl'→Air P w l H old a cls fl' H' h':=by
 obtain ⟨a0,oe,vs,T,oT,ts,⟨e1,e2,e3,e4,e5,e6,e7,e8⟩,u1,u2⟩:=x.tr
 have hB : ∀ b o,h.get? b = some o→b≠a→b≠T→b∉frs l→(PySem.W.hideAll h (a :: T :: frs l)).get? b = some o:=fun b o e n1 n2 n3=>PySem.W.hideAll_get _ e fun hm=>by
  rcases yaj.mp hm with z | hm
  ·exact n1 z
  rcases yaj.mp hm with z | hm
  ·exact n2 z
  ·exact n3 hm
 refine ⟨PySem.W.hideAll h (a :: T :: frs l),a0,fun b o q=>PySem.W.of_hideAll _ q,PySem.W.hideAll_none _ yah,hl _ (fun b hb=>PySem.W.hideAll_none _ (yal _ (yal _ hb))) h x.nf,?_,?_⟩
 ·exact ⟨oe,vs,T,oT,ts,e1,e2,e3,e4,PySem.W.hideAll_none _ (yal _ yah),e5,e6,e7,e8⟩
 intro h' fl' k1 k2 k3
 have kT : ∀ b o,h.get? b = some o→b≠a→b≠T→∃ sl,h'.get? b = some { o with slots:=sl }:=fun b o e n1 n2=>by
  by_cases hb : b∈frs l
  ·obtain ⟨o',q,nf⟩:=x.nf b hb
   rw [e] at q
   cases q
   exact k2 b o e nf
  ·exact ⟨o.slots,k1 b o (hB b o e n1 n2 hb)⟩
 have ne : ∀ b u,H' b = some u→b≠a∧b≠T∧b∉frs l:=fun b u e=>⟨zad e x.ua,zad e u1,fun hb=>(by rw [x.uf b hb] at e; cases e)⟩
 have ne2 : ∀ b o,old.get? b = some o→b≠a∧b≠T:=fun b o e=>⟨fun z=>(by rw [z,x.na] at e; cases e),fun z=>(by rw [z,u2] at e; cases e)⟩
 refine ⟨⟨fun b o e n hb hx=>?_,fun b o e n hb hx=>?_,x.un.free,fun b o e hx=>?_,x.un.tups,x.un.frzs,x.un.tbls⟩,fun b u e=>?_,x.ua,x.na,x.uf,fun b hb=>?_,?_⟩
 ·exact k1 b o (hB b o (x.un.keep b o e n hb hx) (ne2 b o e).1 (ne2 b o e).2 hb)
 ·obtain ⟨sl,q⟩:=x.un.slot b o e n hb hx
  obtain ⟨sl',q'⟩:=kT b _ q (ne2 b o e).1 (ne2 b o e).2
  exact ⟨sl',q'⟩
 ·obtain ⟨o',q⟩:=x.un.there b o e hx
  obtain ⟨sl',q'⟩:=kT b _ q (ne2 b o e).1 (ne2 b o e).2
  exact ⟨_,q'⟩
 ·refine (x.hok b u e).stay (fun c v hc q=>?_) (fun _ q=>q) fun _ _ q=>q
  have hc' : ∃ z,H' c = some z:=by
   rcases hc with rfl | z
   ·exact ⟨_,e⟩
   ·exact ⟨_,z⟩
  obtain ⟨z,ez⟩:=hc'
  exact k1 c v (hB c v q (ne c z ez).1 (ne c z ez).2.1 (ne c z ez).2.2)
 ·obtain ⟨o,q,nf⟩:=x.nf b hb
  obtain ⟨sl,q'⟩:=k2 b o q nf
  exact ⟨_,q',nf⟩
 ·obtain ⟨oe',vs',T',oT',ts',f1,f2,f3,f4,f5,f6,f7,f8,f9⟩:=k3
  have hnT : T'∉frs l:=fun hb=>by
   obtain ⟨o,q,nf⟩:=x.nf T' hb
   obtain ⟨sl,q'⟩:=k2 T' o q nf
   rw [f7] at q'
   cases q'
   exact nf _ f8
  have hno : ∀ o,h.get? T' = some o→T' = T:=fun o e=>Decidable.byContradiction fun z=>by
   rw [hB T' o e f6 z hnT] at f5
   cases f5
  refine ⟨a0,oe',vs',T',oT',ts',⟨f1,f2,f3,f4,f6,f7,f8,f9⟩,?_,?_⟩
  ·cases e : H' T' with
   | none=>rfl
   | some u=>
    obtain ⟨o,q⟩:=(x.hok T' u e).there
    rw [hno o q,u1] at e
    cases e
  ·cases e : old.get? T' with
   | none=>rfl
   | some o=>
    obtain ⟨o',q⟩:=x.un.there T' o e (by simp)
    rw [hno o' q,u2] at e
    cases e
end
theorem zdh {base h0 : Heap} : ∀ {l : List Env},h0.FunFrames base l→∀ B h : Heap,(∀ b,b∈frs l→B.get? b = none)→(∀ b∈frs l,∃ o,h.get? b = some o∧∀ vs,o.data≠.fields vs)→h.FunFrames B l
 | [],_,_,_,_,_=>trivial
 | env :: r,⟨hk,⟨L,o,hf,_,_,_⟩,hr⟩,B,h,hB,hh=>by
  have e : frs (env :: r) = L :: frs r:=by unfold frs; rw [ybf,hf]
  rw [e] at hB hh
  obtain ⟨o',q,nf⟩:=hh L yah
  exact ⟨hk,⟨L,o',hf,hB L yah,q,nf⟩,zdh hr B h (fun b hb=>hB b (yal _ hb)) fun b hb=>hh b (yal _ hb)⟩
def CXE (P : Program) (w : World) : CXT:=fun outer H s E e s'=>∃ (a : Addr) (cls : Value) (H' : Hp),e = .ref a∧s'.os = s.os∧AllBare s'.gens∧Air P w outer H s.heap a cls .none H' s'.heap∧E cls none H'
section
variable {P : Program} {w : World} {K : Frag} {mg : Str→Option Value} {base : Heap} {N : List Str} {q : Str} {sc : Scope} {f : Addr} {cd : Value} {A : Around} {outer : List Env} {s0 : Shared} {H0 : Hp} {E : XK}
abbrev cxE (P : Program) (w : World) (K : Frag) (mg : Str→Option Value) (base : Heap) (N : List Str) (q : Str) (sc : Scope) (f : Addr) (cd : Value) (A : Around) (outer : List Env) (s0 : Shared) (H0 : Hp) (E : XK) : Cx:=cxOf (CXE P w) P w K mg base N q sc f cd A outer s0 H0 E
theorem zmb {X : Cx} {pins : List (Addr×Obj)} {σ : St} {H : Hp} {s : Shared} (I : Inv X pins σ H s) : ∀ b∈frs X.stack,∃ o,s.heap.get? b = some o∧∀ vs,o.data≠.fields vs:=fun b hb=>(I.stack.mem hb).2
theorem Air.out {pins : List (Addr×Obj)} {σ : St} {H H' : Hp} {s : Shared} {h : Heap} {a : Addr} {cls fl : Value} (I : Inv (cxE P w K mg base N q sc f cd A outer s0 H0 E) pins σ H s) (x : Air P w (envOfC q sc s0.heap.objs.size f cd :: outer) H s.heap a cls fl H' h) : Air P w outer H0 s0.heap a cls fl H' h:=by
 have ef : frs (envOfC q sc s0.heap.objs.size f cd :: outer) = s0.heap.objs.size :: frs outer:=rfl
 have nl : ∀ b o,s0.heap.get? b = some o→b≠s0.heap.objs.size:=fun b o e=>yaw (yac e)
 have nx : ∀ b : Addr,b∉(cxE P w K mg base N q sc f cd A outer s0 H0 E).ex:=fun b z=>absurd (show b∈([] : List Addr) from z) (by simp)
 obtain ⟨a0,oe,vs,T,oT,ts,tr,u1,u2⟩:=x.tr
 have old : ∀ b,s.heap.get? b = none→s0.heap.get? b = none:=fun b e=>by
  cases z : s0.heap.get? b with
  | none=>rfl
  | some o=>
   obtain ⟨o',e'⟩:=I.base.there b o z (nx b)
   rw [e] at e'
   cases e'
 refine ⟨⟨fun b o e n hb hx=>?_,fun b o e n hb hx=>?_,fun b o e n hx=>?_,fun b o e hx=>?_,fun b xs e=>x.un.tups b xs (I.base.tups b xs e),fun b o u e=>x.un.frzs b o u (I.base.frzs b o u e),fun b ps e=>?_⟩,x.hok,x.ua,old a x.na,fun b hb=>x.uf b (by rw [ef]; exact yal _ hb),fun b hb=>x.nf b (by rw [ef]; exact yal _ hb),a0,oe,vs,T,oT,ts,tr,u1,old T u2⟩
 ·exact x.un.keep b o (I.base.keep b o e n hb (nx b)) (I.base.free b o e n (nx b)) (by rw [ef]; exact fun z=>(yaj.mp z).elim (nl b o e) hb) hx
 ·obtain ⟨sl,e1⟩:=I.base.slot b o e n hb (nx b)
  obtain ⟨sl',e2⟩:=x.un.slot b _ e1 (I.base.free b o e n (nx b)) (by rw [ef]; exact yal _ hb) hx
  exact ⟨sl',e2⟩
 ·obtain ⟨o',e'⟩:=I.base.there b o e (nx b)
  exact x.un.free b o' e' (I.base.free b o e n (nx b)) hx
 ·obtain ⟨o',e'⟩:=I.base.there b o e (nx b)
  exact x.un.there b o' e' hx
 ·obtain ⟨m1,e1⟩:=I.base.tbls b ps e
  obtain ⟨m2,e2⟩:=x.un.tbls b _ e1
  exact ⟨m1 ++ m2,by rw [e2,yb1]⟩
theorem zdr : zeH (CXE P w) (cxE P w K mg base N q sc f cd A outer s0 H0 E) E:=by
 intro pins σ H s e s' I h
 obtain ⟨a,cls,H',rfl,ho,hb,x,hE⟩:=h
 obtain ⟨B,a0,b1,b2,b3,b4,next⟩:=x.step fun B hB h hh=>zdh I.stack B h hB hh
 show wpAny _ _ (leaving _ _) _ _ _
 refine wpAny_leaves_onW (base:=B) (cls:=cls) (a0:=a0) I.ok.frames rfl ⟨b1,b2,b3,b4⟩ fun h' k1 k2=>?_
 exact ⟨a,cls,H',rfl,ho.trans I.os,hb,(next h' .none k1.1 k2 k1.2.2.2).out I,hE⟩
theorem zls {pins : List (Addr×Obj)} {σ : St} {H : Hp} {s : Shared} {h' : Heap} {a : Addr} {cls : Value} {vs : List Value} (I : Inv (cxE P w K mg base N q sc f cd A outer s0 H0 E) pins σ H s) (m : Heap.MadeExcOf s.heap h' a cls vs) (hE : E cls none H) :
  (cxE P w K mg base N q sc f cd A outer s0 H0 E).xe (.ref a) { s with heap:=h' }:=by
 have hin:=zmb I
 have hB : ∀ b o,s.heap.get? b = some o→b∉frs (envOfC q sc s0.heap.objs.size f cd :: outer)→(PySem.W.hideAll s.heap (frs (envOfC q sc s0.heap.objs.size f cd :: outer))).get? b = some o:=fun b o e n=>PySem.W.hideAll_get _ e n
 show wpAny _ _ (leaving _ _) _ _ _
 refine wpAny_leaves_madeW (base:=PySem.W.hideAll s.heap (frs (envOfC q sc s0.heap.objs.size f cd :: outer))) I.ok.frames rfl (fun b o q=>PySem.W.of_hideAll _ q) (zdh I.stack _ _ (fun b hb=>PySem.W.hideAll_none _ hb) hin) m fun h2 t k1 k2 k3 k4=>?_
 obtain ⟨k11,k12,k13,oe,ws,T,oT,ts,f1,f2,f3,f4,f5,f6,f7,f8,f9⟩:=k1
 have kT : ∀ b o,s.heap.get? b = some o→∃ sl,h2.get? b = some { o with slots:=sl }:=fun b o e=>by
  by_cases hb : b∈frs (envOfC q sc s0.heap.objs.size f cd :: outer)
  ·obtain ⟨o',z,nf⟩:=hin b hb
   rw [e] at z
   cases z
   exact k4 b o (m.keeps b o e) nf
  ·exact ⟨o.slots,k11 b o (hB b o e hb)⟩
 have trk : ∀ b u,H b = some u→∃ o,s.heap.get? b = some o∧b∉frs (envOfC q sc s0.heap.objs.size f cd :: outer):=fun b u e=>by
  obtain ⟨o,z⟩:=(I.hok b u e).there
  exact ⟨o,z,fun hb=>(by rw [I.stkFree b hb] at e; cases e)⟩
 have hnT : T∉frs (envOfC q sc s0.heap.objs.size f cd :: outer):=fun hb=>by
  obtain ⟨o,z,nf⟩:=hin T hb
  obtain ⟨sl,z'⟩:=kT T o z
  rw [f7] at z'
  cases z'
  exact nf _ f8
 have x : Air P w (envOfC q sc s0.heap.objs.size f cd :: outer) H s.heap a cls .none H h2:=by
  refine ⟨⟨fun b o e n hb hx=>k11 b o (hB b o e hb),fun b o e n hb hx=>kT b o e,fun b o e n hx=>n,fun b o e hx=>?_,fun b xs e=>e,fun b o u e=>e,fun b ps e=>⟨#[],by rw [e]; simp⟩⟩,fun b u e=>?_,?_,m.new,I.stkFree,fun b hb=>?_,.ref t,oe,ws,T,oT,ts,⟨f1,f2,f3,f4,f6,f7,f8,f9⟩,?_,?_⟩
  ·obtain ⟨sl,z⟩:=kT b o e
   exact ⟨_,z⟩
  ·refine (I.hok b u e).stay (fun c v hc z=>?_) (fun _ q=>q) fun _ _ q=>q
   have hc' : ∃ y,H c = some y:=by
    rcases hc with rfl | y
    ·exact ⟨_,e⟩
    ·exact ⟨_,y⟩
   obtain ⟨y,ey⟩:=hc'
   obtain ⟨o,_,n⟩:=trk c y ey
   exact k11 c v (hB c v z n)
  ·cases e : H a with
   | none=>rfl
   | some u=>
    obtain ⟨o,z,_⟩:=trk a u e
    rw [m.new] at z
    cases z
  ·obtain ⟨o,z,nf⟩:=hin b hb
   obtain ⟨sl,z'⟩:=kT b o z
   exact ⟨_,z',nf⟩
  ·cases e : H T with
   | none=>rfl
   | some u=>
    obtain ⟨o,z,n⟩:=trk T u e
    rw [hB T o z n] at f5
    cases f5
  ·cases e : s.heap.get? T with
   | none=>rfl
   | some o=>
    rw [hB T o e hnT] at f5
    cases f5
 exact ⟨a,cls,H,rfl,I.os,I.bare,x.out I,hE⟩
end
end L2
namespace L2
open PySem PySem.Spec PyProof.Rows
abbrev zlp : List Value:=[.type "ValueError",.type "Exception",.type "BaseException",.type "object"]
theorem zld {K : Frag} {h : Heap} {C : Addr} {bmB : List Value} {newId : String} (X : K.In h) (q : PySem.W.excIn K C bmB newId = true) :
  ∃ bm N nm qn bs hdct sn sub ab col dd k0 k1 k2 k3 k5,∃ mN : Str→Option Value,h.get? C = some (excClassObj nm qn C N bs bm hdct sn sub ab col dd k0 k1 k2 k3 k5 newId)∧h.Ns N mN∧mN "__init__" = none∧OwnTail h bmB bm:=by
 unfold PySem.W.excIn at q
 split at q
 rotate_left
 ·exact absurd q (by decide)
 rename_i dct cdt slots hlook
 split at q
 rotate_left
 ·exact absurd q (by decide)
 rename_i C2 tail s0 s1 s2 s3 nid s5 hmro hslots
 simp only [ya4,beq_iff_eq,ybz] at q
 obtain ⟨⟨⟨⟨⟨z1,z2⟩,z3⟩,z4⟩,z5⟩,z6⟩:=q
 subst z1 z2
 obtain ⟨cnm,cbs,cmro,cns,cqn,chd,csn,csub,cab,ccol,cdel⟩:=cdt
 dsimp only at hmro z3 z5 z6
 subst hmro z3
 obtain ⟨ls⟩:=slots
 dsimp only at hslots
 subst hslots
 exact ⟨tail,cns,cnm,cqn,cbs,chd,csn,csub,cab,ccol,dct,s0,s1,s2,s3,s5,_,X _ _ hlook,.of_isNs (PySem.W.isNs_of_in X z5),PySem.W.nsMap_none_of_in X z5 z6,PySem.W.tail_of_in X z4⟩
structure Exc (K : Frag) (mg : Str→Option Value) (x : Str) (C : Addr) : Prop where
 nm : mg x = some (.ref C)
 ex : PySem.W.excIn K C zlp "ValueError.__new__" = true
def Thr (X : Cx) (E : XK) : Prop:=∀ (pins : List (Addr×Obj)) (σ : St) (H : Hp) (s : Shared) (h' : Heap) (a : Addr) (cls : Value) (vs : List Value),Inv X pins σ H s→Heap.MadeExcOf s.heap h' a cls vs→E cls none H→X.xe (.ref a) { s with heap:=h' }
theorem thrX {P : Program} {w : World} {K : Frag} {mg : Str→Option Value} {base : Heap} {N : List Str} {q : Str} {sc : Scope} {f : Addr} {cd : Value} {A : Around} {outer : List Env} {s0 : Shared} {H0 : Hp} {E : XK} : Thr (cxE P w K mg base N q sc f cd A outer s0 H0 E) E:=fun _ _ _ _ _ _ _ _ I m hE=>zls I m hE
def zlt (C : Addr) (E : XK) (t : TA) : TS:=fun _ σ H=>t σ H fun vs H1=>vs.length≤sizeLine∧E (.ref C) none H1
section
variable {X : Cx} {x : Str} {C : Addr} {E : XK} {e : Expr} {es : List Expr} {t : TA} {np cpos pos : Pos}
theorem zjn (O : Exc X.K X.mg x C) (hT : Thr X E) (hc : X.calm = true) (hg : Gl X x) (ha : PA X (e :: es) t) (hd : (x == ("__debug__" : Str)) = false:=by decide) (he : starEach (e :: es) X.env = (false,eval e X.env) :: starEach es X.env:=by rfl) (hpl : (backTo cpos (starEach es X.env)).any (·.1) = false:=by rfl) :
  PS X (.Raise (some (.Call (.Name x np) (e :: es) [] cpos)) none pos) (zlt C E t):=by
 intro pins s σ H D I h
 obtain ⟨bm,Nn,nm,qn,bs,hdct,sn,sub,ab,col,dd,k0,k1,k2,k3,k5,mN,hC,hN,hni,T⟩:=zld I.mod.kin O.ex
 refine wpAny_Raise_call_subT (C:=C) (nm:=nm) (q:=qn) (N:=Nn) (bs:=bs) (bm:=bm) (hdct:=hdct) (sn:=sn) (sub:=sub) (ab:=ab) (col:=col) (dd:=dd) (k0:=k0) (k1:=k1) (k2:=k2) (k3:=k3) (k5:=k5)
  F.excBase_ValueError (mN:=mN) (T.hasType F.excBase_ValueError.hasBase) (I.ok.hd hc) (by rw [he]; exact hpl) hni (zdt I hg O.nm ⟨rfl,?_⟩ hd)
 have h1:=ha cpos pins s σ H _ I h
 rw [he] at h1 ⊢
 refine Calls.evalArgs_plain (thn h1 fun us s1 ⟨vs,H1,I1,r,hl,hE⟩=>?_)
 exact ⟨rfl,by rw [← r.length]; exact hl,I1.bk _ _ hC,hN.keeps I1.bk,T.keeps I1.bk,fun h' a m=>hT pins σ H1 s1 h' a _ _ I1 m hE⟩
end
structure FX (P : Program) (w : World) (K : Frag) (mg : Str→Option Value) (base : Heap) (k : Nat) (x : Str) (ps : List Str) (sp : Sp) : Prop where
 ex : ∃ f fd,FnOk P w K mg base (CXE P w) k f fd ps sp∧zem K fd ps []∧keepIn K (.ref f) = true∧mg x = some (.ref f)∧∃ oc od osl,K.lookup f = some ⟨oc,od,.func fd,osl⟩
theorem DF.okx {P : Program} {w : World} {K : Frag} {mg : Str→Option Value} {base : Heap} {x : Str} {st : Stmt} {N ps : List Str} {k : Nat} {sp : Sp} (D : DF K mg x st ps) (S : zaq N ps (zai st)) (len : ∀ vs H Q E,sp vs H Q E→vs.length = ps.length)
  (hbody : ∀ (f : Addr) (cdv : Value) (A : Around) (outer : List Env) (s : Shared) (H : Hp) (vs : List V) (Q : VK) (E : XK),Room k (A.deeper (envOfC x (zai st) s.heap.objs.size f cdv))→sp vs H Q E→
   ∃ t,PSs (cxE P w K mg base N x (zai st) f cdv A outer s H E) (zbg st) t∧t { nx:=fun _ H'=>Q .non H',rt:=Q } (zdP N vs) H) : FX P w K mg base (k + 1) x ps sp:=by
 obtain ⟨f,fd,F,b,m⟩:=D.ex
 obtain ⟨oc,od,kV,doc,pm,an,cdv,ct,osl,rfl,lk,hcd⟩:=F.ex
 exact ⟨f,_,zlb lk hcd S len fun A outer s H vs Q E hr hsp=>hbody f cdv A outer s H vs Q E hr hsp,b,F.kp,m,oc,od,osl,lk⟩
section
variable {X : Cx} {j k : Nat} {x : Str} {ps : List Str} {sp : Sp} {e : Expr} {es : List Expr} {t : TA} {p pos : Pos} {E : XK}
theorem zkt (F : FX X.prog X.w X.K X.mg X.base j x ps sp) (hr : Room k X.A) (ha : PA X.nox (e :: es) t) {pins : List (Addr×Obj)} {s : Shared} {σ : St} {H : Hp} {Q : VK} (I : Inv X pins σ H s) (h : t σ H fun vs H1=>sp vs H1 Q E) (hjk : j≤k:=by decide) (hg : Gl X x:=by rfl)
  (hdb : (x == ("__debug__" : Str)) = false:=by decide) (he : starEach (e :: es) X.env = (false,eval e X.env) :: starEach es X.env:=by rfl) (hpl : (backTo pos (starEach es X.env)).any (·.1) = false:=by rfl) :
  wpAny (model X.prog X.w) X.A (eval (.Call (.Name x p) (e :: es) [] pos) X.env) (EP X pins σ Q) (fun er s'=>∃ H1 s1,Inv X pins σ H1 s1∧CXE X.prog X.w X.stack H1 s1 E er s') s:=by
 obtain ⟨f,fd,ok,b,kp,m,_⟩:=F.ex
 refine wpAny_Call_Name_kw (zdt I hg m ?_ hdb)
 refine PySem.W.callWith_K (h₀:=X.base) I.ok.mod.kin kp (wpAny_mono (ha pos pins s σ H _ (I.wish _) h) (fun us s1 ⟨vs,H1,I1,r,q⟩=>⟨I1.kIn,?_⟩) fun _ _ z=>z.elim) he hpl
 have I1' : Inv X pins σ H1 s1:=I1.unwish
 have hl : (us ++ []).length = ps.length:=by rw [yaU,← r.length]; exact ok.len _ _ _ _ q
 have hb:=b s1 us I1'.kIn hl
 rw [yaU] at hb
 refine wpAny_call (codeAny_mono (ok.run X.A X.stack s1 H1 ⟨us,[]⟩ us vs Q E (hr.mono hjk) I1'.env0 hb r q) fun res s' hq=>?_)
 cases res with
 | error er=>exact ⟨H1,s1,I1',hq⟩
 | ok fl=>
  cases fl with
  | ret u=>exact I1'.after hq
  | next=>exact False.elim hq
  | brk=>exact False.elim hq
  | cont=>exact False.elim hq
theorem zcp (F : FX X.prog X.w X.K X.mg X.base j x ps sp) (hr : Room k X.A) (hP : zeH (CXE X.prog X.w) X E) (ha : PA X.nox (e :: es) t) (hjk : j≤k:=by decide) (hg : Gl X x:=by rfl)
  (hdb : (x == ("__debug__" : Str)) = false:=by decide) (he : starEach (e :: es) X.env = (false,eval e X.env) :: starEach es X.env:=by rfl) (hpl : (backTo pos (starEach es X.env)).any (·.1) = false:=by rfl) : PE X (.Call (.Name x p) (e :: es) [] pos) (zkA sp [] E t):=by
 intro pins s σ H Q I h
 refine wpAny_mono (zkt F hr ha I (Q:=Q) (E:=E) ?_ hjk hg hdb he hpl) (fun _ _ q=>q) fun er s' ⟨H1,s1,I1,q⟩=>hP pins σ H1 s1 er s' I1 q
 have e1 : (fun vs H1=>sp (vs ++ []) H1 Q E) = fun vs H1=>sp vs H1 Q E:=by funext vs H1; rw [yaU]
 have h' : t σ H fun vs H1=>sp (vs ++ []) H1 Q E:=h
 rw [e1] at h'
 exact h'
end
end L2
namespace L2
open PySem PySem.Spec PyProof.Rows
def zfU (a : Addr) (cls : Value) : HO:=.ext fun h=>∃ oe vs,h.get? a = some oe∧oe.cls = cls∧oe.data = .fields vs
def Cx.inH (X : Cx) (a : Addr) : Cx:={ X with A:=X.A.mark (some (.ref a)),calm:=false,xe:=fun _ _=>False }
section
variable {X : Cx} {pins : List (Addr×Obj)} {σ : St} {H H' : Hp} {s : Shared}
theorem Inv.inH (I : Inv X pins σ H s) (a : Addr) : Inv (X.inH a) pins σ H s:=
 ⟨⟨I.ok.mod,I.ok.kind,I.ok.glob,I.ok.blt,I.ok.above,I.ok.inj,I.ok.has,I.ok.cab,(fun z=>nomatch z),I.ok.frames,I.ok.stk,I.ok.exf,I.ok.bs,I.ok.bsz,I.ok.noex,I.ok.exfs,I.ok.funs,I.ok.frf⟩,I.os,I.bare,I.base,I.loc,I.cell,I.free,I.freeC,I.pin,I.hok,I.len⟩
theorem Inv.outH {a : Addr} (hh : X.calm = true→X.A.handled = none) (I : Inv (X.inH a) pins σ H s) : Inv X pins σ H s:=
 ⟨⟨I.ok.mod,I.ok.kind,I.ok.glob,I.ok.blt,I.ok.above,I.ok.inj,I.ok.has,I.ok.cab,hh,I.ok.frames,I.ok.stk,I.ok.exf,I.ok.bs,I.ok.bsz,I.ok.noex,I.ok.exfs,I.ok.funs,I.ok.frf⟩,I.os,I.bare,I.base,I.loc,I.cell,I.free,I.freeC,I.pin,I.hok,I.len⟩
theorem Inv.unname {i : Nat} {x : Str} {m : Str→Option Value} {h' : Heap} {v : Option Value} {tk : Nat} (I : Inv X pins σ H s) (hN : X.N.Nodup) (hi : X.N[i]? = some x) (hn : s.heap.Ns X.env.locals m) (hn' : h'.Ns X.env.locals (fun y=>if y = x then v else m y)) (hs : Heap.SameBut X.env.locals s.heap h') :
  Inv X pins (σ.set i none) H { s with heap:=h',toks:=tk }:=by
 obtain ⟨m0,hn0,hl⟩:=id I.loc
 have em : m0 = m:=by
  funext y
  obtain ⟨o,es,ep,a1,a2,a3,a4⟩:=hn0
  obtain ⟨o',es',ep',b1,b2,b3,b4⟩:=hn
  rw [a1] at b1
  cases b1
  rw [a2] at b2
  cases b2
  rw [← a4 y,← b4 y]
 subst em
 have ab : ∀ b o,X.s₀.heap.get? b = some o→b≠X.env.locals:=fun b o e=>yaw (yat (yac e) I.ok.above)
 have trk : ∀ b u,H b = some u→b≠X.env.locals:=fun b u e=>zad e I.free
 refine ⟨I.ok,I.os,I.bare,⟨fun b o e n hb hx=>(hs.2 b (ab b o e)).trans (I.base.keep b o e n hb hx),fun b o e n hb hx=>?_,I.base.free,fun b o e hx=>?_,I.base.tups,I.base.frzs,I.base.tbls⟩,⟨_,hn',fun j y u e1 e2 e3=>?_⟩,fun y c e=>?_,I.free,I.freeC,fun p hp=>?_,fun b u e=>?_,by simpa using I.len⟩
 ·obtain ⟨sl,e1⟩:=I.base.slot b o e n hb hx
  exact ⟨sl,(hs.2 b (ab b o e)).trans e1⟩
 ·obtain ⟨o',e1⟩:=I.base.there b o e hx
  exact ⟨o',(hs.2 b (ab b o e)).trans e1⟩
 ·have hj : j≠i:=fun z=>by
   subst z
   rw [List.getElem?_set] at e2
   simp at e2
  rw [yb2 (Ne.symm hj)] at e2
  obtain ⟨u',r',q⟩:=hl j y u e1 e2 e3
  have hyx : y≠x:=fun z=>hj (zfb hN e1 (z ▸ hi))
  refine ⟨u',r',?_⟩
  rcases q with ⟨k,e⟩ | ⟨k,c,e,z⟩
  ·exact .inl ⟨k,by simp [hyx,e]⟩
  ·exact .inr ⟨k,c,e,z.sameBut hs (I.cne y c e)⟩
 ·obtain ⟨w',z⟩:=I.cell y c e
  exact ⟨w',z.sameBut hs (I.cne y c e)⟩
 ·obtain ⟨e,n,ne,nf,d⟩:=I.pin p hp
  exact ⟨(hs.2 p.1 ne).trans e,n,ne,nf,d⟩
 ·refine (I.hok b u e).stay (fun c w' hc q=>(hs.2 c ?_).trans q) (fun _ q=>q) fun _ _ q=>q
  rcases hc with rfl | z
  ·exact trk _ _ e
  ·exact trk _ _ z
theorem Air.held {H1 : Hp} {s1 s' : Shared} {h : Heap} {a : Addr} {cls fl : Value} (I : Inv X pins σ H1 s1) (ho : s'.os = s1.os) (hg : AllBare s'.gens) (x : Air X.prog X.w X.stack H1 s1.heap a cls fl H' h) (tk : Nat) : Inv X pins σ (upd H' a (zfU a cls)) { s' with heap:=h,toks:=tk }:=by
 obtain ⟨a0,oe,vs,T,oT,ts,⟨e1,e2,e3,_⟩,_,_⟩:=x.tr
 have nt : ∀ b u,H' b = some u→b≠a:=fun b u e=>zad e x.ua
 have un : Un (frs X.stack) [] H1 (upd H' a (zfU a cls)) s1.heap h:=by
  refine ⟨x.un.keep,x.un.slot,fun b o e n hx=>?_,x.un.there,fun b xs e=>?_,fun b o u e=>?_,fun b ps e=>?_⟩
  ·rw [zaj (fun z=>by rw [z,x.na] at e; cases e)]
   exact x.un.free b o e n hx
  ·have:=x.un.tups b xs e
   rw [zaj (nt b _ this)]
   exact this
  ·have:=x.un.frzs b o u e
   rw [zaj (nt b _ this)]
   exact this
  ·obtain ⟨m,this⟩:=x.un.tbls b ps e
   exact ⟨m,by rw [zaj (nt b _ this)]; exact this⟩
 have hok : HOk X.prog X.w (upd H' a (zfU a cls)) h:=fun b u e=>by
  by_cases hb : b = a
  ·subst hb
   rw [zac] at e
   cases e
   exact ⟨⟨oe,vs,e1,e2.1,e3⟩,⟨oe,e1⟩,fun h1 h2 ⟨o,ws,z1,z2,z3⟩ k=>⟨o,ws,k o z1,z2,z3⟩⟩
  ·rw [zaj hb] at e
   refine (x.hok b u e).stay (fun c v _ q=>q) (fun c q=>by rw [zaj (nt c _ q)]; exact q) fun c xs q=>by rw [zaj (nt c _ q)]; exact q
 obtain ⟨hh,g,d,t,os⟩:=s'
 obtain rfl : os = s1.os:=ho
 have J:=I.call (h':=h) (g':=g) (d':=d) (t':=tk) (ch:=[]) un hok hg (fun b z=>absurd z (by simp))
 exact J
theorem Air.inv {H1 : Hp} {s1 s' : Shared} {h : Heap} {a : Addr} {cls fl : Value} (I : Inv X pins σ H1 s1) (ho : s'.os = s1.os) (hg : AllBare s'.gens) (x : Air X.prog X.w X.stack H1 s1.heap a cls fl H' h) (tk : Nat) : Inv X pins σ H' { s' with heap:=h,toks:=tk }:=by
 obtain ⟨hh,g,d,t,os⟩:=s'
 obtain rfl : os = s1.os:=ho
 have J:=I.call (h':=h) (g':=g) (d':=d) (t':=tk) (ch:=[]) x.un x.hok hg (fun b z=>absurd z (by simp))
 exact J
end
structure zgC (K : Frag) (C D : Addr) : Prop where
 sub : mroIn K C (.ref D) = some true
 cls : (PySem.W.clsIn K D).isSome = true
 ty : PySem.W.typeIn K (.ref D) = some (.type "type")
 exc : mroIn K D (.type "BaseException") = some true
theorem ziQ {K : Frag} {prog : Program} {w : World} {A : Around} {E : Value→Shared→Prop} {s : Shared} {a C D : Addr} {oe : Obj} {Q : Bool→Shared→Prop} (X : K.In s.heap) (c : zgC K C D) (he : s.heap.get? a = some oe) (hc : oe.cls = .ref C) (q : Q true s) : wpAny (model prog w) A (excMatches (.ref a) (.ref D)) Q E s:=by
 obtain ⟨hh,g,d,t,os⟩:=s
 have L1 : PySem.W.Looks (model prog w) hh (isInstance (.ref D) (.type "tuple")) false:=(PySem.W.looks_typeIn X c.ty).andThen (PySem.W.Looks.of_pure (by rw [isSubtype_type]; kernel_rfl))
 have L2 : PySem.W.Looks (model prog w) hh (isType (.ref D)) true:=by
  obtain ⟨cd,hcd⟩:=ybK.mp c.cls
  unfold PySem.W.clsIn at hcd
  split at hcd
  ·rename_i ho
   intro A' Q' E' s' k z
   unfold isType loadHead
   exact wpAny_bind (wpAny_loadPart (k _ _ (X _ _ ho)) (wpAny_pure z))
  ·cases hcd
 have L3:=PySem.W.looks_mroIn (M:=model prog w) X c.exc
 have L4 : PySem.W.Looks (model prog w) hh (typeOf (.ref a)) (.ref C):=hc ▸ (PySem.W.Looks.ld he).andThen .now
 have L5:=PySem.W.looks_mroIn (M:=model prog w) X c.sub
 unfold excMatches
 refine wpAny_bind (L1.at ?_)
 simp only [yaE,if_false]
 refine wpAny_bind (wpAny_pure ?_)
 simp only [List.forIn_cons,List.forIn_nil]
 refine wpAny_bind (wpAny_bind (wpAny_bind (m:=isExcClass _) ?_))
 unfold isExcClass
 refine wpAny_bind (L2.at ?_)
 simp only [if_true]
 refine L3.at ?_
 simp only [ybD,yaE,if_false]
 refine wpAny_pure (wpAny_pure ?_)
 refine wpAny_bind (L4.at ?_)
 refine wpAny_bind (wpAny_bind (wpAny_bind (L5.at ?_)))
 simp only [if_true]
 exact wpAny_pure (wpAny_pure (wpAny_pure q))
end L2
namespace L2
open PySem PySem.Spec PyProof.Rows
def PX (X : Cx) (e : Expr) (t : XK→TE) : Prop:=∀ (E : XK) (pins : List (Addr×Obj)) (s : Shared) (σ : St) (H : Hp) (Q : VK),Inv X pins σ H s→t E σ H Q→
 wpAny (model X.prog X.w) X.A (eval e X.env) (EP X pins σ Q) (fun er s'=>∃ H1 s1,Inv X pins σ H1 s1∧CXE X.prog X.w X.stack H1 s1 E er s') s
def zly (sp : Sp) (t : TA) (E : XK) : TE:=fun σ H Q=>t σ H fun vs H1=>sp vs H1 Q E
theorem zkG {X : Cx} {j k : Nat} {x : Str} {ps : List Str} {sp : Sp} {e : Expr} {es : List Expr} {t : TA} {p pos : Pos} (F : FX X.prog X.w X.K X.mg X.base j x ps sp) (hr : Room k X.A) (ha : PA X.nox (e :: es) t) (hjk : j≤k:=by decide) (hg : Gl X x:=by rfl)
  (hdb : (x == ("__debug__" : Str)) = false:=by decide) (he : starEach (e :: es) X.env = (false,eval e X.env) :: starEach es X.env:=by rfl) (hpl : (backTo pos (starEach es X.env)).any (·.1) = false:=by rfl) : PX X (.Call (.Name x p) (e :: es) [] pos) (zly sp t):=by
 intro E pins s σ H Q I h
 exact zkt F hr ha I h hjk hg hdb he hpl
def hndE (K : Frag) (D : Addr) (i : Nat) (ts : TS) (De : Ends) (σ : St) : XK:=fun cls _ H'=>∃ C,cls = .ref C∧zgC K C D∧
 ∀ a,H' a = none→ts { nx:=fun σ2 H2=>De.nx (σ2.set i none) H2,rt:=fun _ _=>False } (σ.set i (some (.ref a))) (upd H' a (zfU a cls))
def zmh (K : Frag) (D : Addr) (i : Nat) (ts : TS) (tc : XK→TE) : TS:=fun De σ H=>tc (hndE K D i ts De σ) σ H fun _ H'=>De.nx σ H'
section
variable {X : Cx} {i : Nat} {n c : Str} {D : Addr} {b0 : Stmt} {bs : List Stmt} {ts : TS} {np hpos : Pos}
theorem zj2 (hst : X.stack = X.env :: X.outer) (hf : X.env.frame = some X.env.locals) (hN : X.N.Nodup) (hi : X.N[i]? = some n) (hx : X.env.scope.names.lookup n = some .local) (hm : X.mg c = some (.ref D)) (hg : Gl X c) (suite : ∀ a,PSs (X.inH a) (b0 :: bs) ts) (hdb : (c == ("__debug__" : Str)) = false)
  {De : Ends} {pins : List (Addr×Obj)} {σ : St} {H1 : Hp} {s1 s' : Shared} {er : Value} (I1 : Inv X pins σ H1 s1) (q : CXE X.prog X.w X.stack H1 s1 (hndE X.K D i ts De σ) er s') :
  wpAny (model X.prog X.w) X.A (noteFrame er X.env) (fun _ s2=>wpAny (model X.prog X.w) X.A (setFlight er none) (fun _ s3=>wpAny (model X.prog X.w) X.A (handleBy er X.env [.ExceptHandler (some (.Name c np)) (some n) (b0 :: bs) hpos]) (SP X pins De) X.xe s3) X.xe s2) X.xe s':=by
 obtain ⟨a,cls,H',rfl,ho,hb,x,C,rfl,cat,hq⟩:=q
 have fo:=fun B h hB hh=>zdh I1.stack B h hB hh
 obtain ⟨B,a0,b1,b2,b3,b4,next⟩:=x.step fun B hB h hh=>fo B h hB hh
 refine wpAny_looks_onW (base:=B) (cls:=.ref C) (a0:=a0) (env:=X.env) (outer:=X.outer) (by rw [I1.ok.frames,hst]) hf ⟨b1,b2,hst ▸ b3,b4⟩ fun h4 k1 k2=>?_
 have x4:=next h4 _ k1.1 k2 k1.2.2.2
 obtain ⟨B',a1,c1,c2,c3,c4,next'⟩:=x4.step fun B hB h hh=>fo B h hB hh
 refine wpAny_landsW (base:=B') (l:=X.stack) (cls:=.ref C) (a0:=a1) (L:=X.env.locals) ⟨c1,c2,c3,c4⟩ fun h5 k3 k4=>?_
 have x5:=next' h5 .none k3.1 k4 k3.2.2.2
 have J5 : Inv (X.inH a) pins σ H' { s' with heap:=h5 }:=(x5.inv I1 ho hb s'.toks).inH a
 refine wpAny_handleBy_cons (codeAny_handlers_test ?_) (by intro z; cases z)
 refine zdt (X:=X.inH a) J5 hg hm ?_ hdb
 obtain ⟨_,oe,vs,T,oT,tt,⟨e1,e2,_⟩,_,_⟩:=x5.tr
 refine ziQ (K:=X.K) J5.kIn cat e1 e2.1 ?_
 refine codeAny_handlers_suite_as ?_
 obtain ⟨B2,a2,d1,d2,d3,d4,next2⟩:=x5.step fun B hB h hh=>fo B h hB hh
 refine lands_againW (base:=B2) (l:=X.stack) (cls:=.ref C) (a0:=a2) ⟨d1,d2,d3,d4⟩ fun h6 k5 k6=>?_
 have x6:=next2 h6 .none k5.1 k6 k5.2.2.2
 have J6 : Inv (X.inH a) pins σ (upd H' a (zfU a (.ref C))) { s' with heap:=h6 }:=(x6.held I1 ho hb s'.toks).inH a
 refine zeP (X:=X.inH a) J6 hN hi (.inl hx) (v:=.ref a) rfl (fun s7 J7=>?_) (.inr hx)
 refine wpAny_mono (suite a pins s7 _ _ _ J7 (hq a x.ua)) (fun fl s8 hf8=>?_) fun _ _ z=>z.elim
 cases fl with
 | next=>
  obtain ⟨σ2,H2,J8,q2⟩:=hf8
  obtain ⟨m,hn,_⟩:=id J8.loc
  refine wpAny_nameGoes_keeps hx hn (by rw [I1.ok.kind]; rfl) fun h9 v hn9 hs9=>?_
  exact ⟨σ2.set i none,H2,(J8.outH I1.ok.hd).unname hN hi hn hn9 hs9,q2⟩
 | ret u=>
  obtain ⟨_,_,_,_,_,z⟩:=hf8
  exact z.elim
 | brk=>
  obtain ⟨_,_,_,z⟩:=hf8
  exact z.elim
 | cont=>
  obtain ⟨_,_,_,z⟩:=hf8
  exact z.elim
variable {ce : Expr} {tc : XK→TE} {epos tpos : Pos}
theorem zkI (hc : PX X ce tc) (hst : X.stack = X.env :: X.outer) (hf : X.env.frame = some X.env.locals) (hN : X.N.Nodup) (hi : X.N[i]? = some n) (hx : X.env.scope.names.lookup n = some .local) (hm : X.mg c = some (.ref D)) (hg : Gl X c) (suite : ∀ a,PSs (X.inH a) (b0 :: bs) ts)
  (hdb : (c == ("__debug__" : Str)) = false:=by decide) (hs : swapsWith ce none epos.line X.env = pure false:=by rfl) : PS X (.Try [.Expr ce epos] [.ExceptHandler (some (.Name c np)) (some n) (b0 :: bs) hpos] [] [] tpos) (zmh X.K D i ts tc):=by
 intro pins s σ H De I h
 refine wpAny_Try_except (wpAny_execs_cons (wpAny_Expr_any (wpAny_mono (hc _ pins s σ H _ I h) (fun v s1 ⟨y,H1,I1,r1,q1⟩=>?_) fun er s' ⟨H1,s1,I1,q⟩=>?_) I.quiet hs))
 ·exact wpAny_execs_nil (wpAny_execs_nil ⟨σ,H1,I1,q1⟩)
 ·exact zj2 hst hf hN hi hx hm hg suite hdb I1 q
end
end L2
namespace L2
open PySem PySem.Spec PyProof.Rows PySem.W
structure ExcC (K : Frag) (C : Addr) : Prop where
 ga : findIn K (.ref C) "__getattribute__" = some (some (.builtin "BaseException.__getattribute__"))
 gn : findIn K (.ref C) "__getattr__" = some none
 ca : findIn K (.ref C) "__class__" = some (some (.builtin "object.__class__"))
 gg : specialIn K (.builtin "object.__class__") "__get__" = some (some (.builtin "getset_descriptor.__get__"))
 gt : takesIn K (.builtin "object.__class__") = some true
 ob : mroIn K C (.type "object") = some true
 be : mroIn K C (.type "BaseException") = some true
 cl : (clsIn K C).isSome = true
section
variable {prog : Program} {w : World} {A : Around} {E : Value→Shared→Prop} {s : Shared} {K : Frag} {x C : Addr} {ox : Obj} {vs : Array Value}
theorem zle {R : Result→Shared→Prop} {hh : Heap} {g : Array GenState} {d : Drawn} {t : Nat} {os : OsState} (L0 : Looks (model prog w) hh (typeOf (.ref x)) (.ref C)) (L6 : Looks (model prog w) hh (isSubtype (.ref C) (.type "object")) true) (hq : R (.ok (.ret (.ref C))) ⟨hh,g,d,t,os⟩) :
  codeAny (model prog w) A (.call (.builtin "getset_descriptor.__get__") ⟨[.builtin "object.__class__",.ref x,.ref C],[]⟩) R ⟨hh,g,d,t,os⟩:=by
 have hT5 : (⟨hh,g,d,t,os⟩ : Shared).TypeIs (.builtin "object.__class__") "getset_descriptor":=F.typeOf_object_class
 have eo : (".".intercalate ("object.__class__".cutAt '.').dropLast) = "object":=by
  rw [show "object.__class__".cutAt '.' = ["object","__class__"] by first | rfl | decide +kernel]
  decide +kernel
 have L8 : Looks (model prog w) hh (isSubtype (.ref C) (.type (".".intercalate ("object.__class__".cutAt '.').dropLast))) true:=by rw [eo]; exact L6
 refine codeAny_call_builtin F.slot_gs_get.plain F.entry_gs_get ?_
 refine F.slot_gs_get.check _ _ _ _ _ _ _ _ hT5 (F.args_gs_get _ _ _) ?_
 repeat (any_goals (first | assumption | (with_reducible refine L0.at ?_) | (with_reducible refine L8.at ?_) | wp_step))
 refine ⟨Code.quiet_builtin _ (by decide +kernel),?_⟩
 refine codeAny_builtin F.entry_object_class ?_
 repeat (any_goals (first | assumption | (with_reducible refine L0.at ?_) | wp_step))
set_option maxHeartbeats 4000000 in
theorem ziR {Q : Option Value→Shared→Prop} (X : K.In s.heap) (c : ExcC K C) (he : s.heap.get? x = some ox) (hc : ox.cls = .ref C) (hd : ox.data = .fields vs) (h : Q (some (.ref C)) { s with toks:=s.toks + 1 }) :
  wpAny (model prog w) A (getAttr? (.ref x) "__class__") Q E s:=by
 obtain ⟨hh,g,d,t,os⟩:=s
 have L0 : Looks (model prog w) hh (typeOf (.ref x)) (.ref C):=hc ▸ (Looks.ld he).andThen .now
 have L1:=looks_findIn (M:=model prog w) X c.ga
 have f3:=F.excAttr_ValueError.ga.bind (.ref x)
 unfold getAttr? getAttrBy? getAttrBy
 refine wpAny_bind (wpAny_mkText (wpAny_bind (wpAny_attempt (wpAny_holding (wpAny_bind (L0.at (wpAny_bind (L1.at ?_))))))))
 have hx2 : (onTheHeap (Value.ref C) && Value.builtin "BaseException.__getattribute__" == Value.builtin "object.__getattribute__") = false:=by
  rw [show (Value.builtin "BaseException.__getattribute__" == Value.builtin "object.__getattribute__") = false by decide +kernel,ya7]
 show wpAny _ _ (if _ then _ else _) _ _ _
 rw [hx2]
 simp only [yaE,if_false]
 have L2:=looks_findIn (M:=model prog w) X c.gn
 have hx0 : (false && onTheHeap (Value.builtin "BaseException.__getattribute__")) = false:=rfl
 unfold getAttrByItsOwn hookBefore callGetattribute
 dsimp only at X he L1 L2
 repeat (any_goals (first | assumption | (with_reducible refine L0.at ?_) | (with_reducible refine L1.at ?_) | (with_reducible refine L2.at ?_) | wp_step))
 have L3:=looks_mroIn (M:=model prog w) X c.be
 have L6:=looks_mroIn (M:=model prog w) X c.ob
 have LI : Looks (model prog w) hh (isInstance (.ref x) (.type "BaseException")) true:=L0.andThen L3
 have L4:=looks_findIn (M:=model prog w) X c.ca
 have L5:=looks_specialIn (M:=model prog w) X c.gg
 have L7:=looks_takesIn (M:=model prog w) X c.gt
 have hk : builtinKind "BaseException.__getattribute__" = some .slot:=by decide +kernel
 have hsp : splitId "BaseException.__getattribute__" = some ("BaseException","__getattribute__"):=by decide +kernel
 refine codeAny_call_builtin F.excAttr_ValueError.ga.plain F.entry_bexc_ga ?_
 have ha:=F.args_bexc_ga (.ref x) (.str "__class__" t)
 show wpAny _ _ (checkBuiltinCall _ _) _ _ _
 simp only [checkBuiltinCall,hk,hsp]
 refine wpAny_bind (LI.at ?_)
 repeat (any_goals (first | assumption | (with_reducible refine L0.at ?_) | (with_reducible refine L4.at ?_) | (with_reducible refine L5.at ?_) | (with_reducible refine L7.at ?_) | wp_step))
 refine zle L0 L6 ?_
 repeat (any_goals (first | assumption | wp_step))
end
theorem zff {K : Frag} {a C : Addr} (c : ExcC K C) : KitX K (.ref a) (.ref C) (fun h=>∃ oe vs,h.get? a = some oe∧oe.cls = .ref C∧oe.data = .fields vs) where
 ty:=fun M h _ ⟨oe,_,e1,e2,_⟩=>e2 ▸ (Looks.ld e1).andThen .now
 it:=fun M h X _=>by
  obtain ⟨cd,hcd⟩:=ybK.mp c.cl
  unfold clsIn at hcd
  split at hcd
  ·rename_i ho
   intro A' Q' E' s' k z
   unfold isType loadHead
   exact wpAny_bind (wpAny_loadPart (k _ _ (X _ _ ho)) (wpAny_pure z))
  ·cases hcd
 ne:=fun h tp dd its n sl X htp=>by
  obtain ⟨cd,hcd⟩:=ybK.mp c.cl
  refine yba.mpr fun q=>?_
  have e : C = tp:=Value.ref.inj (beq_iff_eq.mp q)
  subst e
  unfold clsIn at hcd
  split at hcd
  ·rename_i ho
   rw [X _ _ ho] at htp
   cases htp
  ·cases hcd
 ca:=fun X ⟨_,_,e1,e2,e3⟩ k=>ziR X c e1 e2 e3 k
def zms (K : Frag) : List V→Hp→VK→Prop:=fun xs H Q=>∃ a C c b,xs = [.ref a,c]∧H a = some (zfU a (.ref C))∧ExcC K C∧
 ((∃ D,c = .ref D∧kitOne K (.ref C) (.ref D) = some b)∨(∃ n,c = .ty n∧kitOne K (.ref C) (.type n) = some b)∨∃ (tp : Addr) (Ds : List Addr),c = .ref tp∧H tp = some (.tup (Ds.map V.ref))∧kitAny K (.ref C) (Ds.map Value.ref) = some b)∧Q (.bl b) H
theorem zgF : ∀ {Ds : List Addr} {us : List Value},Vals (Ds.map V.ref) us→us = Ds.map Value.ref
 | [],_,.nil=>rfl
 | d :: ds,_,.cons r t=>by
  cases r
  rw [zgF t]
  rfl
theorem zei {X : Cx} : zbU X (.builtin "isinstance") (zms X.K):=by
 intro pins s σ H xs us Q I r h
 obtain ⟨a,C,c,b,rfl,ea,cc,hk,q⟩:=h
 obtain ⟨u,v,rfl,r1,r2⟩:=zeM r
 cases r1
 obtain ⟨p,_,_⟩:=(show zaU X.prog X.w H s.heap a (zfU a (.ref C)) from I.hok a _ ea)
 rcases hk with ⟨D,rfl,e⟩ | ⟨n,rfl,e⟩ | ⟨tp,Ds,rfl,ht,e⟩
 ·cases r2
  exact kia_one (zff cc) I.kIn p e (fun z=>nomatch z) fun tk=>⟨.bl b,H,I.tok tk,rfl,q⟩
 ·cases r2
  exact kia_one (zff cc) I.kIn p e (fun z=>nomatch z) fun tk=>⟨.bl b,H,I.tok tk,rfl,q⟩
 ·cases r2
  obtain ⟨_,its,rv,o,h1,h2,n,h3⟩:=(show zaU X.prog X.w H s.heap tp (.tup (Ds.map V.ref)) from I.hok tp _ ht)
  have ei:=zgF rv
  subst ei
  obtain ⟨oc,odc,oda,osl⟩:=o
  dsimp only at h2 h3
  subst h2 h3
  exact kia_tup (zff cc) I.kIn p h1 e (fun z=>nomatch z) fun tk=>⟨.bl b,H,I.tok tk,rfl,q⟩
end L2
namespace L2
open PySem PySem.Spec PyProof.Rows
section
variable {P : Program} {w : World} {K : Frag} {mg : Str→Option Value} {base : Heap} {k : Nat} {x : Str} {ps : List Str} {sp sp2 : Sp}
theorem FC.fx (F : FC P w K mg base k x ps sp) : FX P w K mg base k x ps sp:=by
 obtain ⟨f,fd,ok,b,kp,m,l⟩:=F.ex
 refine ⟨f,fd,⟨ok.len,fun A outer s H args us vs Q E hr he hb hv hs=>?_⟩,b,kp,m,l⟩
 refine codeAny_mono (ok.run A outer s H args us vs Q E hr he hb hv hs) fun r s' hq=>?_
 cases r with
 | error e=>exact False.elim hq
 | ok fl=>
  cases fl with
  | ret u=>exact hq
  | next=>exact hq
  | brk=>exact hq
  | cont=>exact hq
theorem FX.or (F : FX P w K mg base k x ps sp) (G : FX P w K mg base k x ps sp2) : FX P w K mg base k x ps (fun vs H Q E=>sp vs H Q E∨sp2 vs H Q E):=by
 obtain ⟨f,fd,ok,b,kp,m,oc,od,osl,l⟩:=F.ex
 obtain ⟨f2,fd2,ok2,b2,kp2,m2,oc2,od2,osl2,l2⟩:=G.ex
 rw [m] at m2
 cases m2
 rw [l] at l2
 cases l2
 refine ⟨f,fd,⟨fun vs H Q E h=>h.elim (ok.len _ _ _ _) (ok2.len _ _ _ _),fun A outer s H args us vs Q E hr he hb hv hs=>?_⟩,b,kp,m,oc,od,osl,l⟩
 rcases hs with hs | hs
 ·exact ok.run A outer s H args us vs Q E hr he hb hv hs
 ·exact ok2.run A outer s H args us vs Q E hr he hb hv hs
theorem FX.mono {j : Nat} (F : FX P w K mg base j x ps sp) (h : j≤k) : FX P w K mg base k x ps sp:=by
 obtain ⟨f,fd,ok,r⟩:=F.ex
 exact ⟨f,fd,ok.mono h,r⟩
end
structure FXV (P : Program) (w : World) (K : Frag) (mg : Str→Option Value) (base : Heap) (k : Nat) (f : Addr) (ps : List Str) (sp : Sp) : Prop where
 ex : ∃ fd,FnOk P w K mg base (CXE P w) k f fd ps sp∧zem K fd ps []∧keepIn K (.ref f) = true
theorem FX.val {P : Program} {w : World} {K : Frag} {mg : Str→Option Value} {base : Heap} {k : Nat} {x : Str} {ps : List Str} {sp : Sp} (F : FX P w K mg base k x ps sp) : ∃ f,FXV P w K mg base k f ps sp∧mg x = some (.ref f):=by
 obtain ⟨f,fd,ok,b,kp,m,_⟩:=F.ex
 exact ⟨f,⟨fd,ok,b,kp⟩,m⟩
def zlA (X : Cx) (kr : Nat) (E : XK) (tf : TE) (t : TA) : TE:=fun σ H Q=>tf σ H fun x H1=>∃ f k ps sp,x = .ref f∧FXV X.prog X.w X.K X.mg X.base k f ps sp∧k≤kr∧t σ H1 fun vs H2=>sp vs H2 Q E
theorem zfD {X : Cx} {kr : Nat} {E : XK} {v i e : Expr} {es : List Expr} {tf : TE} {t : TA} {p pos : Pos} (hr : Room kr X.A) (hP : zeH (CXE X.prog X.w) X E) (hf : PE X (.Subscript v i p) tf) (ha : PA X.nox (e :: es) t)
  (he : starEach (e :: es) X.env = (false,eval e X.env) :: starEach es X.env:=by rfl) (hpl : (backTo pos (starEach es X.env)).any (·.1) = false:=by rfl) : PE X (.Call (.Subscript v i p) (e :: es) [] pos) (zlA X kr E tf t):=by
 intro pins s σ H Q I h
 have eq : eval (.Call (.Subscript v i p) (e :: es) [] pos) X.env = (do callWith pos (← eval (.Subscript v i p) X.env) [] (backTo pos (starEach (e :: es) X.env)) (backToKw pos (keywordEach [] X.env))):=rfl
 rw [eq]
 refine wpAny_bind (thn (hf pins s σ H _ I h) fun u s1 ⟨x1,H1,I1,r1,q1⟩=>?_)
 obtain ⟨f,k,ps,sp,rfl,hF,hk,q⟩:=q1
 cases r1
 obtain ⟨fd,ok,b,kp⟩:=hF.ex
 refine PySem.W.callWith_K (h₀:=X.base) I1.ok.mod.kin kp (wpAny_mono (ha pos pins s1 σ H1 _ (I1.wish _) q) (fun us s2 ⟨vs,H2,I2,r,q2⟩=>⟨I2.kIn,?_⟩) fun _ _ z=>z.elim) he hpl
 have I2' : Inv X pins σ H2 s2:=I2.unwish
 have hl : (us ++ []).length = ps.length:=by rw [yaU,← r.length]; exact ok.len _ _ _ _ q2
 have hb:=b s2 us I2'.kIn hl
 rw [yaU] at hb
 refine wpAny_call (codeAny_mono (ok.run X.A X.stack s2 H2 ⟨us,[]⟩ us vs Q E (hr.mono hk) I2'.env0 hb r q2) fun res s' hq=>?_)
 cases res with
 | error er=>exact hP pins σ H2 s2 er s' I2' hq
 | ok fl=>
  cases fl with
  | ret u=>exact I2'.after hq
  | next=>exact False.elim hq
  | brk=>exact False.elim hq
  | cont=>exact False.elim hq
end L2
set_option maxHeartbeats 4000000
namespace My
open PySem PySem.Spec PyProof.Rows L2
local macro_rules | `(tactic| walk_at "side")=>`(tactic| first | omega | (dsimp only; omega) | (simp only [CDiv,zmB,CPow,CMul]; omega) | decide)
local macro_rules | `(tactic| walk_at "rd")=>`(tactic| repeat (first | (refine ⟨_,rfl,?_⟩) | (refine ⟨_,_,rfl,rfl,?_⟩) | (refine ⟨rfl,?_⟩) | (refine ⟨(by walk_at "side"),?_⟩)))
def top (i : Nat) : Stmt:=PySem.Challenge.pw_bridgefind_k43_asks_refused.main.body.getD i (.Pass ⟨0,0,0,0⟩)
abbrev zcA : Stmt:=top 14
abbrev za8 : Stmt:=top 15
abbrev zdq : Stmt:=top 16
abbrev zbD : Stmt:=top 17
abbrev zb5 : Stmt:=top 18
abbrev zaM : Stmt:=top 20
abbrev zc6 : Stmt:=top 21
abbrev zbW : Stmt:=top 22
abbrev zbw : Stmt:=top 24
abbrev zcl : Stmt:=top 26
abbrev zbo : Stmt:=top 27
abbrev zc0 : Stmt:=top 28
abbrev zcj : Stmt:=top 29
abbrev zbn : Stmt:=top 30
abbrev zbk : Stmt:=top 31
abbrev zck : Stmt:=top 32
abbrev zdW : Stmt:=top 33
abbrev zdV : Stmt:=top 34
abbrev zbd : Stmt:=top 35
abbrev zc4 : Stmt:=top 37
abbrev zc5 : Stmt:=top 38
abbrev zc2 : Stmt:=top 39
abbrev zdI : Stmt:=top 40
abbrev ze0 : Stmt:=top 41
abbrev zdH : Stmt:=top 42
abbrev zeZ : Stmt:=top 43
abbrev zdJ : Stmt:=top 44
abbrev zbO : Stmt:=top 45
abbrev zeY : Stmt:=top 46
abbrev zc1 : Stmt:=top 47
abbrev zbx : Stmt:=top 48
abbrev zb4 : Stmt:=top 49
abbrev ze1 : Stmt:=top 50
abbrev zc3 : Stmt:=top 51
abbrev zjm : Stmt:=top 52
theorem sc_is_whole : zaq ["thing"] ["thing"] (zai zcA):=⟨rfl,rfl,rfl,by decide +kernel,rfl,by decide +kernel,by decide +kernel⟩
theorem sc_how_many_below : zaq ["length","is_below","low","high","middle"] ["length","is_below"] (zai za8):=⟨rfl,rfl,rfl,by decide +kernel,rfl,by decide +kernel,by decide +kernel⟩
theorem sc_place : zaq ["row","key"] ["row","key"] (zai zdq):=⟨rfl,rfl,rfl,by decide +kernel,rfl,by decide +kernel,by decide +kernel⟩
theorem sc_place_in : zaq ["entries","key"] ["entries","key"] (zai zbD):=⟨rfl,rfl,rfl,by decide +kernel,rfl,by decide +kernel,by decide +kernel⟩
theorem sc_joined_up : zaq ["lists","together","entries"] ["lists"] (zai zb5):=⟨rfl,rfl,rfl,by decide +kernel,rfl,by decide +kernel,by decide +kernel⟩
theorem sc_is_one_of_first : zaq ["many","thing"] ["many","thing"] (zai zaM):=⟨rfl,rfl,rfl,by decide +kernel,rfl,by decide +kernel,by decide +kernel⟩
theorem sc_is_way : zaq ["tree","thing","knot","at"] ["tree","thing"] (zai zc6):=⟨rfl,rfl,rfl,by decide +kernel,rfl,by decide +kernel,by decide +kernel⟩
theorem sc_need_way : zaq ["tree","thing"] ["tree","thing"] (zai zbW):=⟨rfl,rfl,rfl,by decide +kernel,rfl,by decide +kernel,by decide +kernel⟩
theorem sc_own_entries : zaq ["stand","knot"] ["stand","knot"] (zai zbw):=⟨rfl,rfl,rfl,by decide +kernel,rfl,by decide +kernel,by decide +kernel⟩
theorem sc_rows_on : zaq ["stand","way"] ["stand","way"] (zai zcl):=⟨rfl,rfl,rfl,by decide +kernel,rfl,by decide +kernel,by decide +kernel⟩
theorem sc_entries_on : zaq ["stand","way"] ["stand","way"] (zai zbo):=⟨rfl,rfl,rfl,by decide +kernel,rfl,by decide +kernel,by decide +kernel⟩
theorem sc_places : zaq ["stand","way","key"] ["stand","way","key"] (zai zc0):=⟨rfl,rfl,rfl,by decide +kernel,rfl,by decide +kernel,by decide +kernel⟩
theorem sc_who_has : zaq ["stand","way","key","rows"] ["stand","way","key"] (zai zcj):=⟨rfl,rfl,rfl,by decide +kernel,rfl,by decide +kernel,by decide +kernel⟩
theorem sc_first_with : zaq ["stand","way","key","knots"] ["stand","way","key"] (zai zbn):=⟨rfl,rfl,rfl,by decide +kernel,rfl,by decide +kernel,by decide +kernel⟩
theorem sc_keys_between : zaq ["row","low","high"] ["row","low","high"] (zai zbk):=⟨rfl,rfl,rfl,by decide +kernel,rfl,by decide +kernel,by decide +kernel⟩
theorem sc_stretch : zaq ["stand","way","low","high"] ["stand","way","low","high"] (zai zck):=⟨rfl,rfl,rfl,by decide +kernel,rfl,by decide +kernel,by decide +kernel⟩
theorem sc_above : zaq ["stand","way","key","entries","at"] ["stand","way","key"] (zai zdW):=⟨rfl,rfl,rfl,by decide +kernel,rfl,by decide +kernel,by decide +kernel⟩
theorem sc_below : zaq ["stand","way","key","entries","at"] ["stand","way","key"] (zai zdV):=⟨rfl,rfl,rfl,by decide +kernel,rfl,by decide +kernel,by decide +kernel⟩
theorem sc_joined_from : zaq ["stand","way","key","many","entries","at"] ["stand","way","key","many"] (zai zbd):=⟨rfl,rfl,rfl,by decide +kernel,rfl,by decide +kernel,by decide +kernel⟩
theorem sc_l_every : zaq ["_law_rows_here","_law_found","_law_row_here"] ["_law_rows_here"] (zai zc4):=⟨rfl,rfl,rfl,by decide +kernel,rfl,by decide +kernel,by decide +kernel⟩
theorem sc_l_begin : zaq ["_law_script"] ["_law_script"] (zai zc5):=⟨rfl,rfl,rfl,by decide +kernel,rfl,by decide +kernel,by decide +kernel⟩
theorem sc_l_mixed : zaq ["_law_cell","_law_k","_law_one","_law_two"] ["_law_cell","_law_k"] (zai zc2):=⟨rfl,rfl,rfl,by decide +kernel,rfl,by decide +kernel,by decide +kernel⟩
theorem sc_l_take : zaq ["_law_state","_law_most","_law_k","_law_script","_law_cell","_law_found"] ["_law_state","_law_most"] (zai zdI):=⟨rfl,rfl,rfl,by decide +kernel,rfl,by decide +kernel,by decide +kernel⟩
theorem sc_l_key : zaq ["_law_state","_law_way_here"] ["_law_state"] (zai ze0):=⟨rfl,rfl,rfl,by decide +kernel,rfl,by decide +kernel,by decide +kernel⟩
theorem sc_l_tree : zaq ["_law_state","_law_most","_law_way_here","_law_parents","_law_k"] ["_law_state","_law_most"] (zai zdH):=⟨rfl,rfl,rfl,by decide +kernel,rfl,by decide +kernel,by decide +kernel⟩
theorem sc_l_row : zaq ["_law_state","_law_most","_law_found","_law_k"] ["_law_state","_law_most"] (zai zeZ):=⟨rfl,rfl,rfl,by decide +kernel,rfl,by decide +kernel,by decide +kernel⟩
theorem sc_l_rows : zaq ["_law_state","_law_many","_law_most","_law_rows_here","_law_k","_law_row_here"] ["_law_state","_law_many","_law_most"] (zai zdJ):=⟨rfl,rfl,rfl,by decide +kernel,rfl,by decide +kernel,by decide +kernel⟩
theorem sc_l_children : zaq ["_law_tree_here","_law_knot"] ["_law_tree_here","_law_knot"] (zai zbO):=⟨rfl,rfl,rfl,by decide +kernel,rfl,by decide +kernel,by decide +kernel⟩
theorem sc_l_way : zaq ["_law_state","_law_tree_here","_law_way_here","_law_some"] ["_law_state","_law_tree_here"] (zai zeY):=⟨rfl,rfl,rfl,by decide +kernel,rfl,by decide +kernel,by decide +kernel⟩
theorem sc_l_stand : zaq ["_law_state","_law_most","_law_keys","_law_tree_here"] ["_law_state"] (zai zc1):=⟨rfl,rfl,rfl,by decide +kernel,rfl,by decide +kernel,by decide +kernel⟩
theorem sc_l_asked_key : zaq ["_law_state","_law_stand_here","_law_every_here","_law_key_here"] ["_law_state","_law_stand_here"] (zai zbx):=⟨rfl,rfl,rfl,by decide +kernel,rfl,by decide +kernel,by decide +kernel⟩
theorem sc_l_no_ways : zaq ["_law_state","_law_tree_here","_law_way_here","_law_lone","_law_some"] ["_law_state","_law_tree_here","_law_way_here"] (zai zb4):=⟨rfl,rfl,rfl,by decide +kernel,rfl,by decide +kernel,by decide +kernel⟩
theorem sc_l_ask : zaq ["_law_stand_here","_law_thing","_law_key_here","_law_by"] ["_law_stand_here","_law_thing","_law_key_here","_law_by"] (zai ze1):=⟨rfl,rfl,rfl,by decide +kernel,rfl,by decide +kernel,by decide +kernel⟩
theorem sc_l_heard : zaq ["_law_stand_here","_law_thing","_law_key_here","_law_by","_law_caught","e"] ["_law_stand_here","_law_thing","_law_key_here","_law_by"] (zai zc3):=⟨rfl,rfl,rfl,by decide +kernel,rfl,by decide +kernel,by decide +kernel⟩
theorem sc_law : zaq ["_law_script","_law_state","_law_stand_here","_law_way_here","_law_key_here","_law_turn","_law_thing","_law_kept","_law_by","_law_other","_law_given"] ["_law_script"] (zai zjm):=⟨rfl,rfl,rfl,by decide +kernel,rfl,by decide +kernel,by decide +kernel⟩
abbrev zbF : List Str:=["thing"]
abbrev zaO : List Str:=["length","is_below"]
abbrev zcB : List Str:=["row","key"]
abbrev zaQ : List Str:=["entries","key"]
abbrev zbp : List Str:=["lists"]
abbrev zay : List Str:=["many","thing"]
abbrev zbG : List Str:=["tree","thing"]
abbrev zaR : List Str:=["tree","thing"]
abbrev za5 : List Str:=["stand","knot"]
abbrev zaN : List Str:=["stand","way"]
abbrev zaz : List Str:=["stand","way"]
abbrev zbX : List Str:=["stand","way","key"]
abbrev za9 : List Str:=["stand","way","key"]
abbrev za1 : List Str:=["stand","way","key"]
abbrev za0 : List Str:=["row","low","high"]
abbrev zbE : List Str:=["stand","way","low","high"]
abbrev zcI : List Str:=["stand","way","key"]
abbrev zcH : List Str:=["stand","way","key"]
abbrev zaV : List Str:=["stand","way","key","many"]
abbrev zcF : List Str:=["_law_rows_here"]
abbrev zcG : List Str:=["_law_script"]
abbrev zcD : List Str:=["_law_cell","_law_k"]
abbrev zaZ : List Str:=["_law_state","_law_most"]
abbrev zda : List Str:=["_law_state"]
abbrev zc8 : List Str:=["_law_state","_law_most"]
abbrev zdL : List Str:=["_law_state","_law_most"]
abbrev zc9 : List Str:=["_law_state","_law_many","_law_most"]
abbrev zby : List Str:=["_law_tree_here","_law_knot"]
abbrev zdK : List Str:=["_law_state","_law_tree_here"]
abbrev zcC : List Str:=["_law_state"]
abbrev zbl : List Str:=["_law_state","_law_stand_here"]
abbrev zbP : List Str:=["_law_state","_law_tree_here","_law_way_here"]
abbrev zdM : List Str:=["_law_stand_here","_law_thing","_law_key_here","_law_by"]
abbrev zcE : List Str:=["_law_stand_here","_law_thing","_law_key_here","_law_by"]
abbrev zgP : List Str:=["_law_script"]
structure Txt (K : Frag) (mg : Str→Option Value) : Prop where
 m_ValueError : mg "ValueError" = none
 m_abs : mg "abs" = none
 m_bool : mg "bool" = none
 m_int : mg "int" = none
 m_isinstance : mg "isinstance" = none
 m_len : mg "len" = none
 m_list : mg "list" = none
 m_max : mg "max" = none
 m_min : mg "min" = none
 m_range : mg "range" = none
 m_repr : mg "repr" = none
 m_sorted : mg "sorted" = none
 m_tuple : mg "tuple" = none
 m_zip : mg "zip" = none
structure Cls (K : Frag) (mg : Str→Option Value) (C_BridgeError C_NoTree C_NoWay C_NoStand C_Twice C_Missing C_NoRoom C_NoKnot C_NoKey C_NoOrder C_NoRow C_NoText : Addr) : Prop where
 n_BridgeError : mg "BridgeError" = some (.ref C_BridgeError)
 n_NoTree : mg "NoTree" = some (.ref C_NoTree)
 n_NoWay : mg "NoWay" = some (.ref C_NoWay)
 n_NoStand : mg "NoStand" = some (.ref C_NoStand)
 n_Twice : mg "Twice" = some (.ref C_Twice)
 n_Missing : mg "Missing" = some (.ref C_Missing)
 n_NoRoom : mg "NoRoom" = some (.ref C_NoRoom)
 n_NoKnot : mg "NoKnot" = some (.ref C_NoKnot)
 n_NoKey : mg "NoKey" = some (.ref C_NoKey)
 n_NoOrder : mg "NoOrder" = some (.ref C_NoOrder)
 n_NoRow : mg "NoRow" = some (.ref C_NoRow)
 n_NoText : mg "NoText" = some (.ref C_NoText)
 c_NoWay : Exc K mg "NoWay" C_NoWay
 x_NoWay : ExcC K C_NoWay
 h_NoWay : zgC K C_NoWay C_BridgeError
 v_NoWay : kitOne K (.ref C_NoWay) (.type "ValueError") = some true
 k_NoWay_BridgeError : kitOne K (.ref C_NoWay) (.ref C_BridgeError) = some true
 k_NoWay_NoTree : kitOne K (.ref C_NoWay) (.ref C_NoTree) = some false
 k_NoWay_NoWay : kitOne K (.ref C_NoWay) (.ref C_NoWay) = some true
 k_NoWay_NoStand : kitOne K (.ref C_NoWay) (.ref C_NoStand) = some false
 k_NoWay_Twice : kitOne K (.ref C_NoWay) (.ref C_Twice) = some false
 k_NoWay_Missing : kitOne K (.ref C_NoWay) (.ref C_Missing) = some false
 k_NoWay_NoRoom : kitOne K (.ref C_NoWay) (.ref C_NoRoom) = some false
 k_NoWay_NoKnot : kitOne K (.ref C_NoWay) (.ref C_NoKnot) = some false
 k_NoWay_NoKey : kitOne K (.ref C_NoWay) (.ref C_NoKey) = some false
 k_NoWay_NoOrder : kitOne K (.ref C_NoWay) (.ref C_NoOrder) = some false
 k_NoWay_NoRow : kitOne K (.ref C_NoWay) (.ref C_NoRow) = some false
 k_NoWay_NoText : kitOne K (.ref C_NoWay) (.ref C_NoText) = some false
def zcR (ps : List Nat) : Prop:=∀ i (h : i < ps.length),ps[i]≤i
def par (ps : List Nat) : Nat→Option Nat
 | 0=>none
 | k + 1=>ps[k]?
theorem zgU {ps : List Nat} (T : zcR ps) {k p : Nat} (h : par ps k = some p) : p < k∧k < ps.length + 1:=by
 cases k with
 | zero=>cases h
 | succ k=>
  obtain ⟨h1,rfl⟩:=yaD.mp (show ps[k]? = some p from h)
  have:=T k h1
  omega
def zfs (ps : List Nat) (w : List Nat) : Prop:=∀ t,t + 1 < w.length→par ps (w.getD (t + 1) 0) = some (w.getD t 0)
theorem zhC {ps : List Nat} {w : List Nat} {x : Nat} (h : zfs ps w) (hx : w≠[]→par ps x = some (w.getD (w.length - 1) 0)) : zfs ps (w ++ [x]):=by
 intro t ht
 rw [yae,yaH] at ht
 have e0 : (w ++ [x]).getD t 0 = w.getD t 0:=by
  rw [yan,yan,yaO (by omega)]
 rw [e0]
 by_cases c : t + 1 < w.length
 ·have e1 : (w ++ [x]).getD (t + 1) 0 = w.getD (t + 1) 0:=by
   rw [yan,yan,yaO c]
  rw [e1]
  exact h t c
 ·have et : t + 1 = w.length:=by omega
  have e1 : (w ++ [x]).getD (t + 1) 0 = x:=by
   rw [yan,et,yaL (yab _),ybF]
   rfl
  rw [e1]
  have:=hx (fun z=>by rw [z] at et; simp at et)
  rw [← et,Nat.add_sub_cancel] at this
  exact this
def zcw (ps : List Nat) (k n : Nat) : List Nat:=(List.range n).filter fun j=>decide (par ps j = some k)
theorem zhB {ps : List Nat} {k n j : Nat} : j∈zcw ps k n↔j < n∧par ps j = some k:=by
 unfold zcw
 rw [ybo,ya3,decide_eq_true_eq]
theorem zeh {ps : List Nat} {k n : Nat} : zcw ps k (n + 1) = zcw ps k n ++ (if par ps n = some k then [n] else []):=by
 unfold zcw
 rw [List.range_succ,ybW]
 congr 1
 by_cases h : par ps n = some k
 ·rw [if_pos h,ybb (by exact yap h)]
  rfl
 ·rw [if_neg h,ybc (by rw [yak h]; decide)]
  rfl
theorem zeD (ps : List Nat) (k n : Nat) : (zcw ps k n).length≤n:=by
 have:=ybX (fun j=>decide (par ps j = some k)) (List.range n)
 rw [List.length_range] at this
 exact this
seal PSs PS PE PT PW PA PI PG PO PX
section
variable {P : Program} {w : World} {K : Frag} {mg : Str→Option Value} {base : Heap}
theorem zjv (T : Txt K mg) (D_l_mixed : DF K mg "_law_mixed" zc2 zcD) : FC P w K mg base 1 "_law_mixed" zcD zhT:=by
 refine D_l_mixed.ok sc_l_mixed (fun vs H Q E h=>?_) (fun f cdv A outer s H vs Q E hr h=>?_)
 ·obtain ⟨c,k,rfl,_⟩:=h
  rfl
 obtain ⟨c,k,rfl,q⟩:=h
 refine ⟨_,(zag (zao (i:=2) sc_l_mixed.nd rfl (Or.inl rfl) (zar zd5 (zar zcP (zar zbI (zar zbI (zar zd5 (pv 0) zae) (zar zcP zae (pv 1))) zae) zae) zae))
   (zag (zao (i:=3) sc_l_mixed.nd rfl (Or.inl rfl) (zar zd5 (zar zbI (zar zbI (zar zcP (pv 2) (pv 2)) (zar zcP zae (pv 2))) (pv 1)) zae))
   (zaf (zan (zar zge (zar zd5 (zar zbI (zar zbI (zar zcP (pv 3) (pv 3)) (zar zcP zae (pv 3))) (zar zcP zae (pv 1))) zae) zae))))),?_⟩
 walk_at "rd"
 exact q _
theorem zjE (T : Txt K mg) (D_l_begin : DF K mg "_law_begin" zc5 zcG) : FC P w K mg base 1 "_law_begin" zcG (zhY K):=by
 refine D_l_begin.ok sc_l_begin (fun vs H Q E h=>?_) (fun f cdv A outer s H vs Q E hr h=>?_)
 ·obtain ⟨L,ns,rfl,_⟩:=h
  rfl
 obtain ⟨L,ns,rfl,hS,q⟩:=h
 refine ⟨_,(zaf (zan (zkM (ze5 zaX (pv 0) (ze5 zaX zae (ze5 zaX zae zkK))) rfl rfl (by simp) (by decide)))),?_⟩
 intro p hp
 refine ⟨_,rfl,zac,[(.inr "script",.ref L),(.inr "at",.int 0),(.inr "left",.int 0)],rfl,(by show 3≤15; decide),?_⟩
 have e : upd (upd H p (.dK [])) p (.dK (zdC [] [(.inr "script",.ref L),(.inr "at",.int 0),(.inr "left",.int 0)])) = upd H p (zb8 L 0 0):=by
  rw [zkw]
  have : zdC [] [((.inr "script" : Key),V.ref L),(.inr "at",.int 0),(.inr "left",.int 0)] = [(.inr "script",.ref L),(.inr "at",.int 0),(.inr "left",.int 0)]:=by
   have a1 : putK [] (.inr "script" : Key) (V.ref L) = [(.inr "script",.ref L)]:=ze2 (kvs:=[]) _ rfl
   have a2 : putK [((.inr "script" : Key),V.ref L)] (.inr "at") (.int 0) = [(.inr "script",.ref L),(.inr "at",.int 0)]:=by
    rw [ze2 _ (by rw [zbv (zcQ (show ("script" : Str) ≠ "at" by decide +kernel))]; rfl)]
    rfl
   have a3 : putK [((.inr "script" : Key),V.ref L),(.inr "at",.int 0)] (.inr "left") (.int 0) = [(.inr "script",.ref L),(.inr "at",.int 0),(.inr "left",.int 0)]:=by
    rw [ze2 _ (by rw [zbv (zcQ (show ("script" : Str) ≠ "left" by decide +kernel)),zbv (zcQ (show ("at" : Str) ≠ "left" by decide +kernel))]; rfl)]
    rfl
   unfold zdC
   simp only [List.foldl_cons,List.foldl_nil]
   rw [a1,a2,a3]
  rw [this]
  rfl
 rw [e]
 exact q p _ hp (zah hp _) ⟨ns,0,0,zac,(zah hp _).seq hS⟩
theorem zkQ (T : Txt K mg) (D_l_take : DF K mg "_law_take" zdI zaZ) (F_l_mixed : FC P w K mg base 1 "_law_mixed" zcD zhT) : FC P w K mg base 2 "_law_take" zaZ (zcY K):=by
 refine D_l_take.ok sc_l_take (fun vs H Q E h=>?_) (fun f cdv A outer s H vs Q E hr h=>?_)
 ·obtain ⟨d,L,m,rfl,_⟩:=h
  rfl
 obtain ⟨d,L,m,rfl,⟨hm,hm'⟩,⟨ns,a,l,hd,hS⟩,q⟩:=h
 refine ⟨_,(zag (zao (i:=2) sc_l_take.nd rfl (Or.inl rfl) (zdZ (zfh hr) (pv 0) zaX (fun _ _=>rfl)))
   (zag (zao (i:=3) sc_l_take.nd rfl (Or.inl rfl) (zdZ (zfh hr) (pv 0) zaX (fun _ _=>rfl)))
   (zaD (zbc (zap zd6 (zdZ (zfh hr) (pv 0) zaX (fun _ _=>rfl)) zae (zau _)) (zag (ze4 (zfh hr) (pv 0) zaX (zar zbI (pv 2) zae) rfl)
   (zag (zao (i:=4) sc_l_take.nd rfl (Or.inl rfl) zae)
   (zaD (zbc (zap zeo (zam zak rfl T.m_len boot_len (zaa (pv 3) zab)) zae (zau _)) (zaf (zao (i:=4) sc_l_take.nd rfl (Or.inl rfl) (zaE zaw (pv 3) (zar zd5 (pv 2) (zam zak rfl T.m_len boot_len (zaa (pv 3) zab))) (fun _ _=>rfl)))) zax)
   (zaD (zbc (PW.pt (zhi (zap zmt (pv 2) (zam zak rfl T.m_len boot_len (zaa (pv 3) zab)) (zau _)) (zeu (zap zdF (zam zg5 rfl T.m_abs boot_abs (zaa (pv 4) zab)) (zar zdB zae zae) (zau _))))) (zaf (zan (zar zd5 (zas F_l_mixed hr (zaa (pv 4) (zaa (pv 2) zab))) (pv 1)))) zax)
   (zaf (ze4 (zfh hr) (pv 0) zaX (zam zg5 rfl T.m_abs boot_abs (zaa (pv 4) zab)) rfl)))))) zax)
   (zag (zao (i:=5) sc_l_take.nd rfl (Or.inl rfl) (zar zd5 (zdZ (zfh hr) (pv 0) zaX (fun _ _=>rfl)) (pv 1)))
   (zag (ze4 (zfh hr) (pv 0) zaX (zar zge (zdZ (zfh hr) (pv 0) zaX (fun _ _=>rfl)) (pv 1)) rfl)
   (zaf (zan (pv 5)))))))),?_⟩
 refine ⟨_,rfl,_,_,rfl,zma hd,_,rfl,_,_,rfl,zhw hd,?_⟩
 refine ⟨fun σ' H'=>∃ (x2 x3 x4 x5 : Option V) (a' l' : Int),σ' = [some (.ref d),some (.int m),x2,x3,x4,x5]∧H' d = some (zb8 L a' l')∧Keep d H H',?_,?_⟩
 ·refine ⟨_,rfl,_,_,rfl,zfi hd,rfl,_,rfl,?_⟩
  refine ite2 (fun _=>?_) (fun _=>?_)
  ·refine ⟨_,rfl,_,_,rfl,rfl,_,rfl,_,_,rfl,zlM hd,?_⟩
   have hd1 : upd H d (zb8 L (a + 1) l) d = some (zb8 L (a + 1) l):=zac
   obtain ⟨-,k1⟩:=LS.set (a':=a + 1) (l':=l) hd hS
   have hS1:=zeV hd k1 hS
   generalize upd H d (zb8 L (a + 1) l) = H1 at hd1 k1 hS1 ⊢
   refine ⟨fun σ' H'=>∃ c : Int,σ' = [some (.ref d),some (.int m),some (.int a),some (.ref L),some (.int c),none]∧H1 = H',?_,?_⟩
   ·refine ⟨_,rfl,_,_,rfl,.inl hS1,_,_,rfl,rfl,_,rfl,?_⟩
    refine ite2 (fun c=>?_) (fun c=>?_)
    ·have c' : (0 : Int) < (((ns.map V.int).length : Nat) : Int):=yaK c
     obtain ⟨v,hv⟩:=zmf (ns:=ns) (k:=a) (by rw [yaa] at c'; omega)
     refine ⟨_,rfl,_,rfl,_,rfl,_,_,rfl,.inl hS1,_,_,rfl,rfl,c',_,_,_,_,rfl,rfl,hS1,hv,?_⟩
     exact ⟨v,rfl,rfl⟩
    ·exact ⟨0,rfl,rfl⟩
   rintro σ' H' ⟨c,rfl,rfl⟩
   refine ⟨fun σ' H'=>σ' = [some (.ref d),some (.int m),some (.int a),some (.ref L),some (.int c),none]∧H1 = H',?_,?_⟩
   ·refine ⟨_,rfl,_,rfl,_,_,rfl,.inl hS1,_,_,rfl,rfl,_,rfl,?_⟩
    refine ite2 (fun _=>?_) (fun _=>?_)
    ·refine iteT ?_
     refine ⟨_,rfl,_,rfl,c,a,rfl,fun v=>⟨_,rfl,_,_,rfl,rfl,hm,?_⟩⟩
     exact q _ _ (ybU _ (by omega)) (ybV _ hm) k1 ⟨ns,a + 1,l,hd1,hS1⟩
    ·refine ⟨_,rfl,_,rfl,_,_,rfl,rfl,⟨by decide,by decide,by decide⟩,_,_,rfl,rfl,_,rfl,?_⟩
     refine ite2 (fun _=>?_) (fun _=>?_)
     ·refine ⟨_,rfl,_,rfl,c,a,rfl,fun v=>⟨_,rfl,_,_,rfl,rfl,hm,?_⟩⟩
      exact q _ _ (ybU _ (by omega)) (ybV _ hm) k1 ⟨ns,a + 1,l,hd1,hS1⟩
     ·exact ⟨rfl,rfl⟩
   rintro σ' H' ⟨rfl,rfl⟩
   refine ⟨_,rfl,_,rfl,_,rfl,_,_,rfl,zgN hd1,?_⟩
   obtain ⟨-,k2⟩:=LS.set (a':=a + 1) (l':=if c < 0 then -c else c) hd1 hS1
   exact ⟨_,_,_,_,_,_,rfl,zac,k1.trans k2⟩
  ·exact ⟨_,_,_,_,a,l,rfl,hd,Keep.refl _ _⟩
 rintro σ' H' ⟨x2,x3,x4,x5,a',l',rfl,hd',k'⟩
 have hS':=zeV hd k' hS
 refine ⟨_,rfl,_,_,rfl,zfi hd',_,rfl,_,_,rfl,rfl,hm,?_⟩
 refine ⟨_,rfl,_,_,rfl,zfi hd',_,rfl,_,_,rfl,rfl,⟨hm,hm'⟩,_,rfl,_,_,rfl,zgN hd',?_⟩
 obtain ⟨s1,k1⟩:=LS.set (a':=a') (l':=l' / m) hd' hS'
 refine ⟨_,rfl,?_⟩
 exact q _ _ (ybU _ (by omega)) (ybV _ hm) (k'.trans k1) s1
abbrev nV (n : Nat) : V:=.int (n : Int)
theorem zfJ {v : Int} (h : 0≤v) : ∃ n : Nat,v = (n : Int):=⟨v.toNat,by omega⟩
theorem zja {xs : List Nat} {i : Nat} (h : i < xs.length) : atI (xs.map nV) (i : Int) = some (nV (xs.getD i 0)):=
 zbi (by rw [yax,yad h,yan,yad h]; rfl)
theorem zfR {xs : List Nat} {i : Nat} {x : V} (h : (xs.map nV)[i]? = some x) : i < xs.length∧x = nV (xs.getD i 0):=by
 rw [yax] at h
 cases e : xs[i]? with
 | none=>rw [e] at h; cases h
 | some y=>
  rw [e] at h
  refine ⟨(yaD.mp e).1,?_⟩
  rw [yan,e]
  exact (yai h).symm
theorem zfd {K : Frag} {H : Hp} {xs : List Nat} : zal K H (xs.map fun n : Nat=>(n : Int)) (xs.map nV):=by
 have e : xs.map nV = (xs.map fun n : Nat=>(n : Int)).map V.int:=by rw [List.map_map]; rfl
 rw [e]
 exact zal.ints
def But (p : Addr) (H H' : Hp) : Prop:=∀ b o,b≠p→H b = some o→H' b = some o
theorem But.sq {K : Frag} {p : Addr} {H H' : Hp} {a : Addr} {xs : List V} (k : But p H H') (h : SqL K H a xs) (n : H p = none) : SqL K H' a xs:=by
 rcases h with (h | ⟨o,h⟩) | h
 ·exact .inl (.inl (k _ _ (zad h n) h))
 ·exact .inl (.inr ⟨o,k _ _ (zad h n) h⟩)
 ·exact .inr h
theorem zcm {n d i : Nat} : HT.sIx n d (some (i : Int)) = min i n:=by
 unfold HT.sIx
 simp
 try omega
theorem zg2 (xs : List V) (a b : Nat) : cutV xs (some (a : Int)) (some (b : Int)) = (xs.drop a).take (b - a):=by
 unfold cutV
 rw [zcm,zcm]
 by_cases h : a≤xs.length
 ·rw [ybk h]
  by_cases h2 : b≤xs.length
  ·rw [ybk h2]
  ·rw [ybY (by omega),yaz (by rw [yaG]; exact yab _),yaz (by rw [yaG]; omega)]
 ·rw [ybY (show xs.length≤a by omega),ya8 (yab _),ya8 (show xs.length≤a by omega)]
  simp
inductive zej (K : Frag) (H : Hp) : V→Bool→Prop where
 | int (i : Int) : zej K H (.int i) true
 | bl (b : Bool) : zej K H (.bl b) false
 | oth (x : V) (t : String) (ty : TyOf K H x (.type t)) (h2 : kitO t "int" = some false) : zej K H x false
def zf8 (K : Frag) : Sp:=fun vs H Q _=>∃ (x : V) (b : Bool),vs = [x]∧zej K H x b∧Q (.bl b) H
theorem zjs (T : Txt K mg) (D_is_whole : DF K mg "is_whole" zcA zbF) : FC P w K mg base 1 "is_whole" zbF (zf8 K):=by
 refine D_is_whole.ok sc_is_whole (fun vs H Q E h=>?_) (fun f cdv A outer s H vs Q E hr h=>?_)
 ·obtain ⟨x,b,rfl,_⟩:=h
  rfl
 obtain ⟨x,b,rfl,hk,q⟩:=h
 refine ⟨_,(zaf (zan (zgT (zam zdO rfl T.m_isinstance boot_isinstance (zaa (pv 0) (zaa (zd1 (v:=.ty "int") rfl T.m_int boot_int rfl) zab))) (zgQ (zlP (zam zdO rfl T.m_isinstance boot_isinstance (zaa (pv 0) (zaa (zd1 (v:=.ty "bool") rfl T.m_bool boot_bool rfl) zab)))))))),?_⟩
 cases hk with
 | int i=>
  refine ⟨_,rfl,_,_,_,_,rfl,.int _,zl2,_,rfl,?_⟩
  refine iteT ?_
  refine ⟨_,rfl,_,_,_,_,rfl,.int _,zl3,_,rfl,?_⟩
  exact q
 | bl c=>
  refine ⟨_,rfl,_,_,_,_,rfl,.bl _,(show kitO "bool" "int" = some true by decide +kernel),_,rfl,?_⟩
  refine iteT ?_
  refine ⟨_,rfl,_,_,_,_,rfl,.bl _,zl4,_,rfl,?_⟩
  exact q
 | oth x t ty h2=>
  refine ⟨_,rfl,_,_,_,_,rfl,ty,h2,_,rfl,?_⟩
  refine iteF ?_
  exact q
def zjk (K : Frag) : Sp:=fun vs H Q _=>∃ d L : Addr,vs = [.ref d]∧LS K L d H∧∀ (v : Int) (H' : Hp),-(10 ^ 60) < v→v < 10 ^ 60→Keep d H H'→LS K L d H'→Q (.int v) H'
theorem zjM {x m : Int} (h1 : -999≤x) (h2 : x≤999) (h3 : 0 < m) (h4 : m≤10 ^ 57) : -(10 ^ 60) < x * m∧x * m < 10 ^ 60:=by
 have a:=Int.mul_le_mul_of_nonneg_right h2 (Int.le_of_lt h3)
 have b:=Int.mul_le_mul_of_nonneg_right h1 (Int.le_of_lt h3)
 omega
theorem zlY (T : Txt K mg) (D_l_key : DF K mg "_law_key" ze0 zda) (F_l_take : FC P w K mg base 2 "_law_take" zaZ (zcY K)) : FC P w K mg base 3 "_law_key" zda (zjk K):=by
 refine D_l_key.ok sc_l_key (fun vs H Q E h=>?_) (fun f cdv A outer s H vs Q E hr h=>?_)
 ·obtain ⟨d,L,rfl,_⟩:=h
  rfl
 obtain ⟨d,L,rfl,hs,q⟩:=h
 refine ⟨_,(zag (zao (i:=1) sc_l_key.nd rfl (Or.inl rfl) (zas F_l_take hr (zaa (pv 0) (zaa zae zab))))
   (zaD (zbc (zap zdF (pv 1) zae (zau _)) (zaf (zan (zas F_l_take hr (zaa (pv 0) (zaa zae zab))))) zax)
   (zaD (zbc (zap zdF (pv 1) zae (zau _)) (zaf (zan (zar zbs (zas F_l_take hr (zaa (pv 0) (zaa zae zab))) zae))) zax)
   (zaD (zbc (zap zd6 (pv 1) zae (zau _)) (zaf (zan (zar zcP (zar zbs (zas F_l_take hr (zaa (pv 0) (zaa zae zab))) zae) (zaE zaw (zaF (zaa zae (zaa (zar zdB zae zae) (zaa (zar zdB zae zae) (zaa (zar zdB zae zae) zab))))) (zas F_l_take hr (zaa (pv 0) (zaa zae zab))) (fun _ _=>rfl))))) zax)
   (zaf (zan (zar zcP (zaE zaw (zaF (zaa zae (zaa (zdY zce zae) zab))) (zas F_l_take hr (zaa (pv 0) (zaa zae zab))) (fun _ _=>rfl)) (zar zbs (zar zbs (zar zdB zae zae) zae) (zas F_l_take hr (zaa (pv 0) (zaa zae zab))))))))))),?_⟩
 refine ⟨_,rfl,d,L,8,rfl,by decide,hs,fun w1 H1 w0 w8 k1 s1=>?_⟩
 have nd : ∀ {H' : Hp} {p : Addr},LS K L d H'→H' p = none→p≠d:=fun s hp z=>by
  obtain ⟨_,_,_,e,_⟩:=s.ex
  rw [← z,hp] at e
  cases e
 refine ⟨fun σ' H'=>σ' = [some (.ref d),some (.int w1)]∧H1 = H',?_,?_⟩
 ·refine ⟨_,rfl,_,_,rfl,rfl,_,rfl,?_⟩
  refine ite2 (fun c=>?_) (fun c=>?_)
  ·refine ⟨_,rfl,d,L,10,rfl,by decide,s1,fun u H2 u0 u1 k2 s2=>?_⟩
   exact q u H2 (by omega) (by omega) (k1.trans k2) s2
  ·exact ⟨rfl,rfl⟩
 rintro σ' H' ⟨rfl,rfl⟩
 refine ⟨fun σ' H'=>σ' = [some (.ref d),some (.int w1)]∧H1 = H',?_,?_⟩
 ·refine ⟨_,rfl,_,_,rfl,rfl,_,rfl,?_⟩
  refine ite2 (fun c=>?_) (fun c=>?_)
  ·refine ⟨_,rfl,d,L,60,rfl,by decide,s1,fun u H2 u0 u1 k2 s2=>⟨_,_,rfl,rfl,?_⟩⟩
   exact q (u - 30) H2 (by omega) (by omega) (k1.trans k2) s2
  ·exact ⟨rfl,rfl⟩
 rintro σ' H' ⟨rfl,rfl⟩
 refine ⟨fun σ' H'=>σ' = [some (.ref d),some (.int w1)]∧H1 = H',?_,?_⟩
 ·refine ⟨_,rfl,rfl,_,rfl,?_⟩
  refine ite2 (fun c=>?_) (fun c=>?_)
  ·refine ⟨_,rfl,d,L,1999,rfl,by decide,s1,fun u H2 u0 u1 k2 s2=>⟨_,_,rfl,rfl,?_⟩⟩
   refine ⟨_,_,rfl,rfl,⟨by decide,by decide,by decide⟩,_,_,rfl,rfl,⟨by decide,by decide,by decide⟩,_,_,rfl,rfl,⟨by decide,by decide,by decide⟩,(by show 4≤sizeLine; decide),fun p hp=>?_⟩
   refine ⟨_,rfl,d,L,4,rfl,by decide,s2.of_new hp _,fun b H3 b0 b1 k3 s3=>?_⟩
   obtain ⟨m,hat,m0,m1⟩ : ∃ m : Int,atI [V.int 1,V.int (10 ^ (19 : Int).toNat),V.int (10 ^ (38 : Int).toNat),V.int (10 ^ (57 : Int).toNat)] b = some (.int m)∧0 < m∧m≤10 ^ 57:=by
    have z : b = 0∨b = 1∨b = 2∨b = 3:=by omega
    rcases z with rfl | rfl | rfl | rfl
    ·exact ⟨_,rfl,by decide +kernel,by decide +kernel⟩
    ·exact ⟨_,rfl,by decide +kernel,by decide +kernel⟩
    ·exact ⟨_,rfl,by decide +kernel,by decide +kernel⟩
    ·exact ⟨_,rfl,by decide +kernel,by decide +kernel⟩
   refine ⟨_,_,_,_,rfl,rfl,SqL.of (k3 p _ (nd s2 hp) zac),hat,_,_,rfl,rfl,.inl ⟨by omega,by omega⟩,?_⟩
   obtain ⟨f1,f2⟩:=zjM (x:=u - 999) (m:=m) (by omega) (by omega) m0 m1
   exact q _ H3 f1 f2 ((k1.trans k2).trans ((zah hp _).keep.trans k3)) s3
  ·exact ⟨rfl,rfl⟩
 rintro σ' H' ⟨rfl,rfl⟩
 refine ⟨_,rfl,(by show 2≤sizeLine; decide),fun p hp=>?_⟩
 refine ⟨_,rfl,d,L,2,rfl,by decide,s1.of_new hp _,fun b H2 b0 b1 k2 s2=>?_⟩
 obtain ⟨m,hat,hm⟩ : ∃ m : Int,atI [V.int 1,V.int (-1)] b = some (.int m)∧(m = 1∨m = -1):=by
  have z : b = 0∨b = 1:=by omega
  rcases z with rfl | rfl
  ·exact ⟨_,rfl,.inl rfl⟩
  ·exact ⟨_,rfl,.inr rfl⟩
 refine ⟨_,_,_,_,rfl,rfl,SqL.of (k2 p _ (nd s1 hp) zac),hat,_,_,rfl,rfl,⟨by decide,by decide,by decide⟩,_,_,rfl,rfl,_,rfl,d,L,3,rfl,by decide,s2,fun u H3 u0 u1 k3 s3=>⟨_,_,rfl,rfl,_,_,rfl,rfl,.inl ⟨by omega,by omega⟩,?_⟩⟩
 have e60 : (10 : Int) ^ (60 : Int).toNat = 10 ^ 60:=rfl
 rw [e60]
 have kk:=k1.trans ((zah hp _).keep.trans (k2.trans k3))
 rcases hm with rfl | rfl
 ·exact q _ H3 (by omega) (by omega) kk s3
 ·exact q _ H3 (by omega) (by omega) kk s3
theorem zh5 {κ : Type} [DecidableEq κ] (kvs : List (κ×V)) (k : κ) (v : V) : (putK kvs k v).map (·.1) = if (kvs.any fun kv=>decide (kv.1 = k)) = true then kvs.map (·.1) else kvs.map (·.1) ++ [k]:=by
 unfold putK
 split
 ·rw [List.map_map]
  apply List.map_congr_left
  intro a ha
  show (if a.1 = k then (a.1,v) else a).1 = a.1
  split <;> rfl
 ·rw [yas]
  rfl
def za2 (ps : List Nat) : List V:=.non :: ps.map nV
def parV (ps : List Nat) (k : Nat) : V:=match par ps k with
 | none=>.non
 | some p=>nV p
theorem zat (ps : List Nat) : (za2 ps).length = ps.length + 1:=by
 unfold za2
 rw [yav,yaa]
theorem zfo {ps : List Nat} {k : Nat} (h : k < ps.length + 1) : atI (za2 ps) (k : Int) = some (parV ps k):=by
 refine zbi ?_
 unfold za2 parV
 cases k with
 | zero=>rfl
 | succ k=>
  show (ps.map nV)[k]? = some (match ps[k]? with | none=>_ | some p=>nV p)
  rw [yax,yad (show k < ps.length by omega)]
  rfl
theorem zd2 {ps : List Nat} {k p : Nat} (h : par ps k = some p) : parV ps k = nV p:=by
 unfold parV
 rw [h]
theorem zfE {ps : List Nat} {k : Nat} (h : par ps k = none) : parV ps k = .non:=by
 unfold parV
 rw [h]
theorem ze6 {ps : List Nat} {k m : Nat} : parV ps k = .int (m : Int)↔par ps k = some m:=by
 cases e : par ps k with
 | none=>
  rw [zfE e]
  exact ⟨(fun z=>nomatch z),(fun z=>nomatch z)⟩
 | some p=>
  rw [zd2 e]
  constructor
  ·intro z
   have:=Int.ofNat.inj (V.int.inj z)
   rw [this]
  ·intro z
   rw [yai z]
theorem zdU (ps : List Nat) (k : Nat) (i : Int) : scal (parV ps k) (.int i) = true:=by
 cases e : par ps k with
 | none=>rw [zfE e]; rfl
 | some p=>rw [zd2 e]; rfl
theorem But.new' {p b : Addr} {H H2 : Hp} (k : But p H H2) (hb : H2 b = none) (o : HO) : But p H (upd H2 b o):=fun x o' n e=>(zah hb o) x o' (k x o' n e)
def zj6 (K : Frag) : Sp:=fun vs H Q _=>∃ (d L : Addr) (m : Int),vs = [.ref d,.int m]∧(0 < m∧m≤40)∧LS K L d H∧
 ∀ (t : Addr) (ps : List Nat) (H' : Hp),H t = none→zcR ps→(ps.length : Int) < m→H' t = some (.tup (za2 ps))→Keep d H H'→LS K L d H'→Q (.ref t) H'
theorem zhM {ps : List Nat} {u : Nat} (T : zcR ps) (h : u≤ps.length) : zcR (ps ++ [u]):=by
 intro i hi
 rw [yae,yaH] at hi
 by_cases c : i < ps.length
 ·rw [List.getElem_append_left c]
  exact T i c
 ·have : i = ps.length:=by omega
  subst this
  rw [List.getElem_append_right (yab _)]
  simp
  exact h
theorem zjw (T : Txt K mg) (D_l_tree : DF K mg "_law_tree" zdH zc8) (F_l_take : FC P w K mg base 2 "_law_take" zaZ (zcY K)) : FC P w K mg base 3 "_law_tree" zc8 (zj6 K):=by
 refine D_l_tree.ok sc_l_tree (fun vs H Q E h=>?_) (fun f cdv A outer s H vs Q E hr h=>?_)
 ·obtain ⟨d,L,m,rfl,_⟩:=h
  rfl
 obtain ⟨d,L,m,rfl,⟨hm0,hm1⟩,hs,q⟩:=h
 refine ⟨_,(zag (zao (i:=2) sc_l_tree.nd rfl (Or.inl rfl) (zas F_l_take hr (zaa (pv 0) (zaa zae zab))))
   (zag (zao (i:=3) sc_l_tree.nd rfl (Or.inl rfl) (zaF (zaa zco zab)))
   (zag (zcb PassesOwn.never rfl (zdb rfl T.m_range (zaa zae (zaa (zar zbI zae (zas F_l_take hr (zaa (pv 0) (zaa (pv 1) zab)))) zab))) (zav (i:=4) sc_l_tree.nd rfl (Or.inl rfl)) (zaf (zb6 (zh8 F.plainAttrs_list F.slot_list_append F.type_list_append zcq (pv 3) (zaa (zaE zaw (zaF (zaa (zar zbs (pv 4) zae) (zaa zae (zaa (zas F_l_take hr (zaa (pv 0) (zaa (pv 4) zab))) (zaa (zam (zdj rfl) rfl T.m_max boot_max (zaa zae (zaa (zar zbs (zar zbs (pv 4) zae) (zas F_l_take hr (zaa (pv 0) (zaa zae zab)))) zab))) zab))))) (pv 2) (fun _ _=>rfl)) zab)))))
   (zaf (zan (za6 zbA rfl T.m_tuple boot_tuple (zaa (pv 3) zab))))))),?_⟩
 refine ⟨_,rfl,d,L,4,rfl,by decide,hs,fun w1 H1 w0 w4 k1 s1=>?_⟩
 refine ⟨(by show 1≤sizeLine; decide),fun p hp=>?_⟩
 have g0:=zah hp (.lst [V.non])
 have hpd : p≠d:=by
  obtain ⟨ns,a,l,e,_⟩:=s1.ex
  exact Ne.symm (zad e hp)
 have hp0 : H p = none:=by
  cases e : H p with
  | none=>rfl
  | some o=>
   have:=k1 p o hpd e
   rw [hp] at this
   cases this
 refine ⟨_,rfl,_,rfl,d,L,m,rfl,⟨hm0,by omega⟩,s1.same g0,fun n H2 n0 n1 k2 s2=>⟨_,_,rfl,rfl,1,_,rfl,⟨by omega,by omega,by omega,by omega⟩,?_⟩⟩
 have en : ((1 : Int) + n - 1).toNat = n.toNat:=by omega
 rw [en]
 refine zbq (n:=n.toNat) (fun i σ H3=>∃ (ps : List Nat) (x4 : Option V),σ = [some (.ref d),some (.int m),some (.int w1),some (.ref p),x4]∧H3 p = some (.lst (za2 ps))∧ps.length = i∧zcR ps∧(∀ b o,b≠d→b≠p→H b = some o→H3 b = some o)∧LS K L d H3) ?_ ?_ ?_
 ·exact ⟨[],_,rfl,k2 p _ hpd zac,rfl,fun i hi=>absurd hi (by simp),fun b o n1 n2 e=>k2 b o n1 (g0 b o (k1 b o n1 e)),s2⟩
 ·rintro i σ H3 hi ⟨ps,x4,rfl,h3,rfl,hT,k3,s3⟩
  have ek : (1 : Int) + ((ps.length : Nat) : Int) = ((ps.length + 1 : Nat) : Int):=by omega
  rw [ek]
  refine ⟨_,rfl,.inl ⟨rfl,_,SqL.of h3⟩,?_⟩
  refine ⟨_,rfl,_,_,rfl,rfl,_,rfl,_,rfl,d,L,_,rfl,⟨by omega,by omega⟩,s3,fun v1 H4 v10 v11 k4 s4=>?_⟩
  refine ⟨_,rfl,_,_,rfl,rfl,_,rfl,d,L,2,rfl,by decide,s4,fun v2 H5 v20 v21 k5 s5=>⟨_,_,rfl,rfl,_,_,rfl,(by show 4≤sizeLine; decide),fun l hl=>?_⟩⟩
  have h4:=k4 p _ hpd h3
  have h5:=k5 p _ hpd h4
  obtain ⟨u,hat,hu⟩ : ∃ u : Nat,atI [V.int (((ps.length + 1 : Nat) : Int) - 1),V.int 0,V.int v1,V.int (if ((ps.length + 1 : Nat) : Int) - 1 - v2 > 0 then ((ps.length + 1 : Nat) : Int) - 1 - v2 else 0)] w1 = some (nV u)∧u≤ps.length:=by
   have z : w1 = 0∨w1 = 1∨w1 = 2∨w1 = 3:=by omega
   rcases z with rfl | rfl | rfl | rfl
   ·refine ⟨ps.length,?_,yab _⟩
    rw [show ((ps.length + 1 : Nat) : Int) - 1 = ((ps.length : Nat) : Int) by omega]
    rfl
   ·exact ⟨0,rfl,yaF _⟩
   ·obtain ⟨u,rfl⟩:=zfJ v10
    exact ⟨u,rfl,by omega⟩
   ·refine ⟨(if ((ps.length + 1 : Nat) : Int) - 1 - v2 > 0 then ((ps.length + 1 : Nat) : Int) - 1 - v2 else 0).toNat,?_,?_⟩
    ·show some (V.int _) = some (V.int _)
     rw [Int.toNat_of_nonneg (by split <;> omega)]
    ·split <;> omega
  refine ⟨_,rfl,_,_,_,_,rfl,rfl,SqL.of zac,hat,_,_,_,rfl,rfl,by rw [zaj (zad h5 hl)]; exact h5,zaC (by rw [zat]; omega),?_⟩
  refine ⟨ps ++ [u],_,rfl,?_,by rw [yae,yaH],zhM hT hu,fun b o n1 n2 e=>?_,?_⟩
  ·rw [zac]
   unfold za2
   rw [yas]
   rfl
  ·rw [zaj n2]
   have e5:=k5 b o n1 (k4 b o n1 (k3 b o n1 n2 e))
   exact (zah hl _) _ _ e5
  ·exact LS.put hs hp0 (fun b o n1 n2 e=>(zah hl _) _ _ (k5 b o n1 (k4 b o n1 (k3 b o n1 n2 e)))) (s5.of_new hl _)
 ·rintro σ H3 ⟨ps,x4,rfl,h3,hl,hT,k3,s3⟩
  refine ⟨_,rfl,p,_,rfl,.inl ⟨SqL.of h3,fun t ht=>?_⟩⟩
  have sn:=zah ht (.tup (za2 ps))
  have htp : t≠p:=Ne.symm (zad h3 ht)
  have ht0 : H t = none:=by
   cases e : H t with
   | none=>rfl
   | some o=>
    have htd : t≠d:=by
     obtain ⟨ns,a,l,e,_⟩:=s3.ex
     exact Ne.symm (zad e ht)
    have:=k3 t o htd htp e
    rw [ht] at this
    cases this
  exact q t ps _ ht0 hT (by omega) zac (fun b o n e=>sn _ _ (k3 b o n (zad e hp0) e)) (s3.of_new ht _)
def zhW (K : Frag) : Sp:=fun vs H Q _=>∃ (m x : Int),vs = [.int m,.int x]∧0≤x∧x < m∧Q (.bl true) H
theorem zjA (T : Txt K mg) (D_is_one_of_first : DF K mg "is_one_of_first" zaM zay) (F_is_whole : FC P w K mg base 1 "is_whole" zbF (zf8 K)) : FC P w K mg base 2 "is_one_of_first" zay (zhW K):=by
 refine D_is_one_of_first.ok sc_is_one_of_first (fun vs H Q E h=>?_) (fun f cdv A outer s H vs Q E hr h=>?_)
 ·obtain ⟨m,x,rfl,_⟩:=h
  rfl
 obtain ⟨m,x,rfl,h0,h1,q⟩:=h
 refine ⟨_,(zaf (zan (zgT (zas F_is_whole hr (zaa (pv 1) zab)) (zgQ (zgS zlT zdF zae (pv 1) (pv 0)))))),?_⟩
 refine ⟨_,rfl,_,true,rfl,.int x,_,rfl,?_⟩
 refine iteT ?_
 refine ⟨_,rfl,_,_,rfl,rfl,_,rfl,?_⟩
 refine zhu h0 ?_
 refine ⟨_,rfl,_,_,rfl,rfl,?_⟩
 show Q (.bl (decide (x < m))) H
 rw [yap h1]
 exact q
theorem zds {α β : Type} {F G : α→β→Prop} (h : ∀ a b,F a b→G a b) : ∀ {l : List α} {m : List β},Paired F l m→Paired G l m
 | _,_,.nil=>.nil
 | _,_,.cons a t=>.cons (h _ _ a) (zds h t)
theorem zcV {α β : Type} {F : α→β→Prop} {a : α} {b : β} : ∀ {l : List α} {m : List β},Paired F l m→F a b→Paired F (l ++ [a]) (m ++ [b])
 | _,_,.nil,h=>.cons h .nil
 | _,_,.cons a t,h=>.cons a (zcV t h)
theorem zba {α β : Type} {F : α→β→Prop} : ∀ {l : List α} {m : List β} {i : Nat} {a : α},Paired F l m→l[i]? = some a→∃ b,m[i]? = some b∧F a b
 | _,_,i,a,.nil,h=>by simp at h
 | _ :: _,b :: _,0,a,.cons h t,e=>by
  have:=yai (show some _ = some a from e)
  subst this
  exact ⟨b,rfl,h⟩
 | _ :: _,_ :: _,i + 1,a,.cons h t,e=>by
  obtain ⟨q,h1,h2⟩:=zba (i:=i) t (by simpa using e)
  exact ⟨q,by simpa using h1,h2⟩
theorem zd3 {α β : Type} {F : α→β→Prop} : ∀ {l : List α} {m : List β} {i : Nat} {b : β},Paired F l m→m[i]? = some b→∃ a,l[i]? = some a∧F a b
 | _,_,i,a,.nil,h=>by simp at h
 | a :: _,_ :: _,0,b,.cons h t,e=>by
  have:=yai (show some _ = some b from e)
  subst this
  exact ⟨a,rfl,h⟩
 | _ :: _,_ :: _,i + 1,a,.cons h t,e=>by
  obtain ⟨q,h1,h2⟩:=zd3 (i:=i) t (by simpa using e)
  exact ⟨q,by simpa using h1,h2⟩
def zaY (rows : List (List Int)) (k : Nat) : List Int:=rows.getD k []
structure zdE (rows : List (List Int)) : Prop where
 up : ∀ row∈rows,row.Pairwise (· < ·)
 key : ∀ row∈rows,∀ x∈row,-(10 ^ 60) < x∧x < 10 ^ 60
theorem zdE.at_up {rows : List (List Int)} (R : zdE rows) (k : Nat) : (zaY rows k).Pairwise (· < ·):=by
 unfold zaY
 rw [yan]
 cases e : rows[k]? with
 | none=>exact .nil
 | some row=>exact R.up row (yaW e)
def zeq (rows : List (List Int)) : Nat:=(rows.map List.length).sum
theorem ziA {m : Nat} : ∀ {rows : List (List Int)},(∀ row∈rows,row.length≤m)→zeq rows≤rows.length * m
 | [],_=>yaF _
 | r :: rows,h=>by
  have h1:=h r yah
  have h2:=ziA (m:=m) (rows:=rows) fun x hx=>h x (yal _ hx)
  unfold zeq at h2 ⊢
  rw [yaA,ybZ,yav,Nat.succ_mul]
  omega
theorem zgX {rows : List (List Int)} {row : List Int} (h : row∈rows) : row.length≤zeq rows:=by
 unfold zeq
 induction rows with
 | nil=>cases h
 | cons r rows ih=>
  rw [yaA,ybZ]
  rcases yaj.mp h with e | e
  ·rw [e]
   omega
  ·have:=ih e
   omega
def zaG (H : Hp) (as : List Addr) (rows : List (List Int)) : Prop:=Paired (fun a row=>H a = some (.tup (row.map V.int))) as rows
theorem zaG.ext {H H' : Hp} (e : ∀ b o,H b = some o→H' b = some o) : ∀ {as : List Addr} {rows : List (List Int)},zaG H as rows→zaG H' as rows
 | _,_,.nil=>.nil
 | _,_,.cons h t=>.cons (e _ _ h) (zaG.ext e t)
theorem zaG.keep {d p : Addr} {H H' : Hp} (hd : ∀ a row,H a = some (.tup row)→a≠d) (e : ∀ b o,b≠d→H b = some o→H' b = some o) : ∀ {as : List Addr} {rows : List (List Int)},zaG H as rows→zaG H' as rows
 | _,_,.nil=>.nil
 | _,_,.cons h t=>.cons (e _ _ (hd _ _ h) h) (zaG.keep (p:=p) hd e t)
theorem zaG.length {H : Hp} {as : List Addr} {rows : List (List Int)} (h : zaG H as rows) : as.length = rows.length:=Paired.length h
theorem zaG.get {H : Hp} : ∀ {as : List Addr} {rows : List (List Int)} {k : Nat},zaG H as rows→k < rows.length→∃ a,as[k]? = some a∧H a = some (.tup ((zaY rows k).map V.int))
 | _,_,_,.nil,hk=>by simp at hk
 | a :: as,row :: rows,0,.cons h t,_=>⟨a,rfl,h⟩
 | a :: as,row :: rows,k + 1,.cons h t,hk=>by
  obtain ⟨b,h1,h2⟩:=zaG.get (k:=k) t (by simpa using hk)
  refine ⟨b,by rw [yb9]; exact h1,?_⟩
  have : zaY (row :: rows) (k + 1) = zaY rows k:=by
   unfold zaY
   rw [yan,yan,yb9]
  rw [this]
  exact h2
theorem zaG.snoc {H : Hp} {a : Addr} {row : List Int} : ∀ {as : List Addr} {rows : List (List Int)},zaG H as rows→H a = some (.tup (row.map V.int))→zaG H (as ++ [a]) (rows ++ [row])
 | _,_,.nil,h=>.cons h .nil
 | _,_,.cons h t,h2=>.cons h (zaG.snoc t h2)
structure zaJ (H : Hp) (st : Addr) (ps : List Nat) (rows : List (List Int)) (t rs : Addr) (as : List Addr) : Prop where
 st : H st = some (.tup [.ref t,.ref rs])
 tr : H t = some (.tup (za2 ps))
 rs : H rs = some (.tup (as.map V.ref))
 at_ : zaG H as rows
 len : rows.length = ps.length + 1
 T : zcR ps
 R : zdE rows
 few : ps.length≤40
 keys : zeq rows≤400
theorem zaJ.same {H H' : Hp} {st t rs : Addr} {ps : List Nat} {rows : List (List Int)} {as : List Addr} (S : zaJ H st ps rows t rs as) (e : Same H H') : zaJ H' st ps rows t rs as:=
 ⟨e _ _ S.st,e _ _ S.tr,e _ _ S.rs,S.at_.ext e,S.len,S.T,S.R,S.few,S.keys⟩
theorem zi9 {as : List Addr} {k : Nat} {a : Addr} (h : as[k]? = some a) : atI (as.map V.ref) (k : Int) = some (.ref a):=zbi (by rw [yax,h]; rfl)
def zeI (x : Key) : Prop:=∃ a : Int,x = .inl a∧-(10 ^ 60) < a∧a < 10 ^ 60
def toI : Key→Int
 | .inl a=>a
 | _=>0
theorem zkH {kvs : List (Key×V)} {x : Key} {v : V} (h1 : (kvs.map (·.1)).Nodup) (h2 : ∀ y∈kvs.map (·.1),zeI y) (hx : zeI x) : ((putK kvs x v).map (·.1)).Nodup∧∀ y∈(putK kvs x v).map (·.1),zeI y:=by
 rw [zh5]
 split
 ·exact ⟨h1,h2⟩
 ·rename_i c
  refine ⟨?_,fun y hy=>?_⟩
  ·rw [List.nodup_append]
   refine ⟨h1,yaV.mpr ⟨(fun z=>nomatch z),List.nodup_nil⟩,fun a ha b hb z=>?_⟩
   rw [yag.mp hb] at z
   subst z
   obtain ⟨p,hp,e⟩:=yaY.mp ha
   exact c (List.any_eq_true.mpr ⟨p,hp,yap e⟩)
  ·rcases yaf.mp hy with z | z
   ·exact h2 y z
   ·rw [yag.mp z]
    exact hx
theorem zdD : ∀ {l : List Key},(∀ y∈l,zeI y)→l.map kV = (l.map toI).map V.int
 | [],_=>rfl
 | x :: l,h=>by
  obtain ⟨a,rfl,_⟩:=h x yah
  show V.int a :: l.map kV = V.int a :: (l.map toI).map V.int
  rw [zdD fun y hy=>h y (yal _ hy)]
theorem zfv : ∀ {l : List Key},l.Nodup→(∀ y∈l,zeI y)→(l.map toI).Nodup
 | [],_,_=>List.nodup_nil
 | x :: l,hn,h=>by
  rw [yaA,yaV]
  have hc:=yaV.mp hn
  refine ⟨fun z=>?_,zfv hc.2 fun y hy=>h y (yal _ hy)⟩
  obtain ⟨y,hy,e⟩:=yaY.mp z
  obtain ⟨a,rfl,_⟩:=h x yah
  obtain ⟨b,rfl,_⟩:=h y (yal _ hy)
  have : b = a:=e
  subst this
  exact hc.1 hy
def zlB (K : Frag) : Sp:=fun vs H Q _=>∃ (d L : Addr) (m : Int),vs = [.ref d,.int m]∧(0≤m∧m≤40)∧LS K L d H∧
 ∀ (a : Addr) (row : List Int) (H' : Hp),H a = none→row.Pairwise (· < ·)→(∀ x∈row,-(10 ^ 60) < x∧x < 10 ^ 60)→(row.length : Int)≤m→H' a = some (.tup (row.map V.int))→Keep d H H'→LS K L d H'→Q (.ref a) H'
theorem zkT (T : Txt K mg) (D_l_row : DF K mg "_law_row" zeZ zdL) (F_l_take : FC P w K mg base 2 "_law_take" zaZ (zcY K)) (F_l_key : FC P w K mg base 3 "_law_key" zda (zjk K)) : FC P w K mg base 4 "_law_row" zdL (zlB K):=by
 refine D_l_row.ok sc_l_row (fun vs H Q E h=>?_) (fun f cdv A outer s H vs Q E hr h=>?_)
 ·obtain ⟨d,L,m,rfl,_⟩:=h
  rfl
 obtain ⟨d,L,m,rfl,⟨hm0,hm1⟩,hs,q⟩:=h
 refine ⟨_,(zag (zao (i:=2) sc_l_row.nd rfl (Or.inl rfl) zgR)
   (zag (zcb PassesOwn.never rfl (zbY rfl T.m_range (zaa (zas F_l_take hr (zaa (pv 0) (zaa (zar zbI (pv 1) zae) zab))) zab)) (zav (i:=3) sc_l_row.nd rfl (Or.inl rfl)) (zaf (ze4 (zfh hr) (pv 2) (zas F_l_key hr (zaa (pv 0) zab)) zdc rfl)))
   (zaf (zan (za6 zbA rfl T.m_tuple boot_tuple (zaa (zam (zeF Int) rfl T.m_sorted boot_sorted (zaa (za6 (zhD rfl) rfl T.m_list boot_list (zaa (pv 2) zab)) zab)) zab)))))),?_⟩
 intro g hg
 have ngd : g≠d:=fun z=>by
  obtain ⟨_,_,_,e,_⟩:=hs.ex
  rw [← z,hg] at e
  cases e
 refine ⟨_,rfl,_,rfl,_,_,rfl,rfl,d,L,m + 1,rfl,⟨by omega,by omega⟩,hs.of_new hg _,fun n H1 n0 n1 k1 s1=>⟨_,rfl,by omega,by omega,?_⟩⟩
 refine zbq (n:=n.toNat) (fun i σ H2=>∃ (kvs : List (Key×V)) (x3 : Option V),σ = [some (.ref d),some (.int m),some (.ref g),x3]∧H2 g = some (.dK kvs)∧kvs.length≤i∧(kvs.map (·.1)).Nodup∧(∀ y∈kvs.map (·.1),zeI y)∧(∀ b o,b≠d→b≠g→H b = some o→H2 b = some o)∧LS K L d H2) ?_ ?_ ?_
 ·exact ⟨[],_,rfl,k1 g _ ngd zac,yab _,List.nodup_nil,fun y hy=>(by simp at hy),fun b o b1 b2 e=>k1 b o b1 (by rw [zaj b2]; exact e),s1⟩
 ·rintro i σ H2 hi ⟨kvs,x3,rfl,h2,hl,hn,hy,kk,s2⟩
  refine ⟨_,rfl,_,rfl,d,L,rfl,s2,fun v H3 v0 v1 k3 s3=>?_⟩
  have h3 : H3 g = some (.dK kvs):=k3 g _ ngd h2
  obtain ⟨p1,p2⟩:=zkH (v:=.bl true) hn hy (x:=.inl v) ⟨v,rfl,v0,v1⟩
  refine ⟨g,_,rfl,DPut.k (k:=.inl v) (kvs:=kvs) h3 (zaC (by omega)),?_⟩
  refine ⟨putK kvs (.inl v) (.bl true),_,rfl,zac,?_,p1,p2,?_,?_⟩
  ·have:=zb7 kvs (Sum.inl v : Key) (.bl true)
   omega
  ·intro b o b1 b2 e
   rw [zaj b2]
   exact k3 b o b1 (kk b o b1 b2 e)
  ·exact LS.put hs hg (fun b o b1 b2 e=>k3 b o b1 (kk b o b1 b2 e)) s3
 ·rintro σ H2 ⟨kvs,x3,rfl,h2,hl,hn,hy,kk,s2⟩
  refine ⟨_,rfl,g,kvs,rfl,h2,fun l hl1=>?_⟩
  have ei : kvs.map (fun kv=>kV kv.1) = ((kvs.map (·.1)).map toI).map V.int:=by
   rw [← zdD hy,List.map_map]
   rfl
  rw [ei]
  have e1:=zah hl1 (.lst (((kvs.map (·.1)).map toI).map V.int))
  refine ⟨l,_,_,rfl,SqL.of zac,zal.ints,fun l2 ws hl2 hw=>?_⟩
  rw [hw.toInts]
  have e2:=zah hl2 (.lst ((zaI ((kvs.map (·.1)).map toI)).map V.int))
  refine ⟨l2,_,rfl,.inl ⟨SqL.of zac,fun a ha=>?_⟩⟩
  have e3:=zah ha (.tup ((zaI ((kvs.map (·.1)).map toI)).map V.int))
  have e13:=e1.trans (e2.trans e3)
  have free : H a = none:=by
   have z2 : H2 a = none:=e1.free (e2.free ha)
   cases z : H a with
   | none=>rfl
   | some o=>
    by_cases c1 : a = d
    ·obtain ⟨_,_,_,e,_⟩:=s2.ex
     rw [← c1,z2] at e
     cases e
    ·by_cases c2 : a = g
     ·rw [c2,h2] at z2
      cases z2
     ·rw [kk a o c1 c2 z] at z2
      cases z2
  refine q a _ _ free ?_ (fun x hx=>?_) ?_ zac (fun b o b1 e=>e13 _ _ (kk b o b1 (zad e hg) e)) (s2.same e13)
  ·exact List.Pairwise.imp (fun {a b} (h : Srt.blt a b = true)=>yaK h) (zhf (zfv hn hy))
  ·rw [zdS] at hx
   obtain ⟨y,hy2,rfl⟩:=yaY.mp hx
   obtain ⟨a,rfl,h1,h2⟩:=hy y hy2
   exact ⟨h1,h2⟩
  ·rw [zci,yaa,yaa]
   omega
def zj7 (K : Frag) : Sp:=fun vs H Q _=>∃ (d L : Addr) (n m : Nat),vs = [.ref d,.int n,.int m]∧n≤40∧m≤40∧LS K L d H∧
 ∀ (r : Addr) (as : List Addr) (rows : List (List Int)) (H' : Hp),H r = none→zaG H' as rows→rows.length = n→zdE rows→(∀ row∈rows,row.length≤m)→H' r = some (.tup (as.map V.ref))→Keep d H H'→LS K L d H'→Q (.ref r) H'
theorem zdE.snoc {rows : List (List Int)} {row : List Int} (R : zdE rows) (h1 : row.Pairwise (· < ·)) (h2 : ∀ x∈row,-(10 ^ 60) < x∧x < 10 ^ 60) : zdE (rows ++ [row]):=by
 refine ⟨fun r hr=>?_,fun r hr=>?_⟩
 ·rcases yaf.mp hr with z | z
  ·exact R.up r z
  ·rw [yag.mp z]
   exact h1
 ·rcases yaf.mp hr with z | z
  ·exact R.key r z
  ·rw [yag.mp z]
   exact h2
theorem zjx (T : Txt K mg) (D_l_rows : DF K mg "_law_rows" zdJ zc9) (F_l_take : FC P w K mg base 2 "_law_take" zaZ (zcY K)) (F_l_row : FC P w K mg base 4 "_law_row" zdL (zlB K)) : FC P w K mg base 5 "_law_rows" zc9 (zj7 K):=by
 refine D_l_rows.ok sc_l_rows (fun vs H Q E h=>?_) (fun f cdv A outer s H vs Q E hr h=>?_)
 ·obtain ⟨d,L,n,m,rfl,_⟩:=h
  rfl
 obtain ⟨d,L,n,m,rfl,hn,hm,hs,q⟩:=h
 refine ⟨_,(zag (zao (i:=3) sc_l_rows.nd rfl (Or.inl rfl) (zaF zab))
   (zag (zcb PassesOwn.never rfl (zbY rfl T.m_range (zaa (pv 1) zab)) (zav (i:=4) sc_l_rows.nd rfl (Or.inl rfl)) (zag (zao (i:=5) sc_l_rows.nd rfl (Or.inl rfl) (zas F_l_row hr (zaa (pv 0) (zaa (pv 2) zab))))
   (zaD (zbc (zap zd6 (zas F_l_take hr (zaa (pv 0) (zaa zae zab))) zae (zau _)) (zaf (zao (i:=5) sc_l_rows.nd rfl (Or.inl rfl) (zcn zab))) zax)
   (zaD (zbc (PW.pt (zke (zap zeo (pv 4) zae (zau _)) (zh4 (zap zd6 (zas F_l_take hr (zaa (pv 0) (zaa zae zab))) zae (zau _))))) (zaf (zao (i:=5) sc_l_rows.nd rfl (Or.inl rfl) (zaE zaw (pv 3) (zar zbs (pv 4) zae) (fun _ _=>rfl)))) zax)
   (zaf (zb6 (zh8 F.plainAttrs_list F.slot_list_append F.type_list_append zcq (pv 3) (zaa (pv 5) zab))))))))
   (zaf (zan (za6 zbA rfl T.m_tuple boot_tuple (zaa (pv 3) zab)))))),?_⟩
 refine ⟨(by show 0≤sizeLine; decide),fun p hp=>?_⟩
 have g0:=zah hp (.lst [])
 have ndT : ∀ {H' : Hp} {a : Addr} {o : List V},LS K L d H'→H' a = some (.tup o)→a≠d:=fun {H' a o} s e z=>by
  obtain ⟨_,_,_,e2,_⟩:=s.ex
  rw [← z,e] at e2
  cases e2
 have nd : ∀ {H' : Hp} {a : Addr},LS K L d H'→H' a = none→a≠d:=fun {H' a} s e z=>by
  obtain ⟨_,_,_,e2,_⟩:=s.ex
  rw [← z,e] at e2
  cases e2
 have hpd : p≠d:=nd hs hp
 refine ⟨_,rfl,_,rfl,by omega,by omega,?_⟩
 rw [ybs]
 refine zbq (n:=n) (fun i σ H2=>∃ (as : List Addr) (rows : List (List Int)) (x4 x5 : Option V),σ = [some (.ref d),some (.int n),some (.int m),some (.ref p),x4,x5]∧H2 p = some (.lst (as.map V.ref))∧zaG H2 as rows∧rows.length = i∧zdE rows∧(∀ row∈rows,row.length≤m)∧(∀ b o,b≠d→b≠p→H b = some o→H2 b = some o)∧LS K L d H2) ?_ ?_ ?_
 ·exact ⟨[],[],_,_,rfl,zac,.nil,rfl,⟨(fun r hr=>nomatch hr),(fun r hr=>nomatch hr)⟩,(fun r hr=>nomatch hr),fun b o _ n e=>g0 b o e,hs.same g0⟩
 ·rintro i σ H2 hi ⟨as,rows,x4,x5,rfl,h2,hA,hl,hR,hlen,k2,s2⟩
  rw [Int.zero_add]
  have hal:=hA.length
  have old : ∀ {H3 : Hp} {b : Addr} {o : HO},(∀ b o,b≠d→H2 b = some o→H3 b = some o)→b≠d→b≠p→H b = some o→H3 b = some o:=fun k n1 n2 e=>k _ _ n1 (k2 _ _ n1 n2 e)
  refine ⟨_,rfl,_,rfl,d,L,m,rfl,⟨by omega,by omega⟩,s2,fun a row H3 ha hup hky hlr h3 k3 s3=>?_⟩
  refine ⟨fun σ' H'=>∃ (a : Addr) (row : List Int),σ' = [some (.ref d),some (.int n),some (.int m),some (.ref p),some (.int i),some (.ref a)]∧H' a = some (.tup (row.map V.int))∧row.Pairwise (· < ·)∧(∀ x∈row,-(10 ^ 60) < x∧x < 10 ^ 60)∧row.length≤m∧(∀ b o,b≠d→H2 b = some o→H' b = some o)∧LS K L d H',?_,?_⟩
  ·refine ⟨_,rfl,d,L,4,rfl,by decide,s3,fun v H4 _ _ k4 s4=>⟨rfl,_,rfl,?_⟩⟩
   have h4:=k4 _ _ (ndT s3 h3) h3
   refine ite2 (fun _=>?_) (fun _=>?_)
   ·refine ⟨(by show 0≤sizeLine; decide),fun u hu=>?_⟩
    have su:=zah hu (.tup [])
    exact ⟨u,[],rfl,zac,.nil,(fun x hx=>nomatch hx),yaF _,fun b o n1 e=>su _ _ (k4 _ _ n1 (k3 _ _ n1 e)),s4.same su⟩
   ·exact ⟨a,row,rfl,h4,hup,hky,by omega,fun b o n1 e=>k4 _ _ n1 (k3 _ _ n1 e),s4⟩
  rintro σ' H4 ⟨a,row,rfl,h4,hup,hky,hlr,k4,s4⟩
  refine ⟨fun σ' H'=>∃ (a : Addr) (row : List Int),σ' = [some (.ref d),some (.int n),some (.int m),some (.ref p),some (.int i),some (.ref a)]∧H' a = some (.tup (row.map V.int))∧row.Pairwise (· < ·)∧(∀ x∈row,-(10 ^ 60) < x∧x < 10 ^ 60)∧row.length≤m∧(∀ b o,b≠d→H2 b = some o→H' b = some o)∧LS K L d H',?_,?_⟩
  ·refine ⟨_,rfl,_,_,rfl,rfl,_,rfl,?_⟩
   refine ite2 (fun c=>?_) (fun c=>?_)
   ·have c' : (0 : Int) < (i : Int):=yaK c
    refine ⟨_,rfl,d,L,4,rfl,by decide,s4,fun v H5 _ _ k5 s5=>⟨rfl,_,rfl,?_⟩⟩
    have h5:=k5 _ _ (ndT s4 h4) h4
    refine ite2 (fun _=>?_) (fun _=>?_)
    ·have h5p : H5 p = some (.lst (as.map V.ref)):=k5 _ _ hpd (k4 _ _ hpd h2)
     obtain ⟨b,hb1,hb2⟩:=hA.get (k:=i - 1) (by omega)
     have hb5:=k5 _ _ (ndT s4 (k4 _ _ (ndT s2 hb2) hb2)) (k4 _ _ (ndT s2 hb2) hb2)
     have hat : atI (as.map V.ref) ((i : Int) - 1) = some (.ref b):=by
      rw [show (i : Int) - 1 = ((i - 1 : Nat) : Int) by omega]
      exact zi9 hb1
     refine ⟨_,rfl,_,rfl,_,_,rfl,rfl,_,_,_,_,rfl,rfl,SqL.of h5p,hat,?_⟩
     have hmem : zaY rows (i - 1)∈rows:=by
      unfold zaY
      rw [yan,yad (show i - 1 < rows.length by omega)]
      exact ybd _
     exact ⟨b,zaY rows (i - 1),rfl,hb5,hR.up _ hmem,hR.key _ hmem,hlen _ hmem,fun b o n1 e=>k5 _ _ n1 (k4 _ _ n1 e),s5⟩
    ·exact ⟨a,row,rfl,h5,hup,hky,hlr,fun b o n1 e=>k5 _ _ n1 (k4 _ _ n1 e),s5⟩
   ·refine iteF ?_
    exact ⟨a,row,rfl,h4,hup,hky,hlr,k4,s4⟩
  rintro σ' H5 ⟨a,row,rfl,h5,hup,hky,hlr,k5,s5⟩
  have h5p : H5 p = some (.lst (as.map V.ref)):=k5 _ _ hpd h2
  have keep : ∀ b o,b≠p→H5 b = some o→upd H5 p (.lst (as.map V.ref ++ [.ref a])) b = some o:=fun b o n e=>by rw [zaj n]; exact e
  have ntp : ∀ {b : Addr} {o : List V},H5 b = some (.tup o)→b≠p:=fun {b o} e z=>by
   rw [z,h5p] at e
   cases e
  refine ⟨_,rfl,.inl ⟨rfl,_,SqL.of h5p⟩,_,rfl,_,_,_,rfl,rfl,h5p,zaC (by rw [yaa]; omega),?_⟩
  refine ⟨as ++ [a],rows ++ [row],_,_,rfl,?_,?_,by rw [yae,yaH,hl],hR.snoc hup hky,fun r hr=>?_,fun b o n1 n2 e=>keep _ _ n2 (k5 _ _ n1 (k2 _ _ n1 n2 e)),?_⟩
  ·rw [zac,yas]
   rfl
  ·refine zaG.snoc ?_ (keep _ _ (ntp h5) h5)
   have hA5 : zaG H5 as rows:=zaG.keep (p:=d) (fun a row e=>ndT s2 e) k5 hA
   exact zaG.keep (p:=p) (d:=p) (fun a row e=>ntp e) keep hA5
  ·rcases yaf.mp hr with z | z
   ·exact hlen r z
   ·rw [yag.mp z]
    exact hlr
  ·exact LS.put hs hp (fun b o n1 n2 e=>k5 _ _ n1 (k2 _ _ n1 n2 e)) s5
 ·rintro σ H2 ⟨as,rows,x4,x5,rfl,h2,hA,hl,hR,hlen,k2,s2⟩
  refine ⟨_,rfl,p,_,rfl,.inl ⟨SqL.of h2,fun t ht=>?_⟩⟩
  have sn:=zah ht (.tup (as.map V.ref))
  have ht0 : H t = none:=by
   cases e : H t with
   | none=>rfl
   | some o=>
    have:=k2 t o (nd s2 ht) (Ne.symm (zad h2 ht)) e
    rw [ht] at this
    cases this
  exact q t as rows _ ht0 (hA.ext sn) hl hR hlen zac (fun b o n e=>sn _ _ (k2 b o n (zad e hp) e)) (s2.same sn)
theorem zfp {α : Type} {f : α→V} {us : List α} {c : α} : atI ((us ++ [c]).map f) (-1) = some (f c):=by
 unfold atI ixN
 rw [yas]
 simp
 rw [if_pos (by omega)]
 show (List.map f us ++ [f c])[(-1 + ((us.length : Int) + 1)).toNat]? = _
 rw [show (-1 + ((us.length : Int) + 1)).toNat = us.length by omega,yaL (by rw [yaa]; exact yab _),yaa,ybF]
 rfl
def zhU (K : Frag) : Sp:=fun vs H Q _=>∃ (t a : Addr) (ps w : List Nat),vs = [.ref t,.ref a]∧H t = some (.tup (za2 ps))∧ps.length≤900∧H a = some (.lst (w.map nV))∧w.length≤1000∧w≠[]∧zfs ps w∧(∀ x∈w,x < ps.length + 1)∧Q (.bl true) H
theorem zjy (T : Txt K mg) (D_is_way : DF K mg "is_way" zc6 zbG) (F_is_one_of_first : FC P w K mg base 2 "is_one_of_first" zay (zhW K)) : FC P w K mg base 3 "is_way" zbG (zhU K):=by
 refine D_is_way.ok sc_is_way (fun vs H Q E h=>?_) (fun f cdv A outer s H vs Q E hr h=>?_)
 ·obtain ⟨t,a,ps,w,rfl,_⟩:=h
  rfl
 obtain ⟨t,a,ps,w,rfl,ht,hz,ha,hwl,hne,hC,hlt,q⟩:=h
 have hpos : 0 < w.length:=ybe.mpr hne
 refine ⟨_,(zaD (zbc (PW.pt (zhi (zdX (zc7 (zam zdO rfl T.m_isinstance boot_isinstance (zaa (pv 1) (zaa (zd1 (v:=.ty "list") rfl T.m_list boot_list rfl) zab))))) (zeu (zap zd6 (zam zak rfl T.m_len boot_len (zaa (pv 1) zab)) zae (zau _))))) (zaf (zan zdc)) zax)
   (zag (zcb PassesOwn.never rfl (zbr (pv 1)) (zav (i:=2) sc_is_way.nd rfl (Or.inl rfl)) (zaf (zbc (zdX (zc7 (zas F_is_one_of_first hr (zaa (zam zak rfl T.m_len boot_len (zaa (pv 0) zab)) (zaa (pv 2) zab))))) (zaf (zan zdc)) zax)))
   (zag (zcb PassesOwn.never rfl (zdb rfl T.m_range (zaa zae (zaa (zam zak rfl T.m_len boot_len (zaa (pv 1) zab)) zab))) (zav (i:=3) sc_is_way.nd rfl (Or.inl rfl)) (zaf (zbc (zap zfF (zaE zbQ (pv 0) (zaE zaw (pv 1) (pv 3) (fun _ _=>rfl)) (fun _ _=>rfl)) (zaE zaw (pv 1) (zar zbs (pv 3) zae) (fun _ _=>rfl)) (zau _)) (zaf (zan zdc)) zax)))
   (zaf (zan zdc))))),?_⟩
 refine ⟨fun σ' H'=>σ' = [some (.ref t),some (.ref a),none,none]∧H = H',?_,?_⟩
 ·refine ⟨_,rfl,_,_,_,_,rfl,.lst ha,ziy,_,rfl,?_⟩
  refine iteF ?_
  refine ⟨_,rfl,_,_,rfl,.inl (SqL.of ha),rfl,_,rfl,?_⟩
  refine ziE (fun z=>?_) ?_
  ·have:=V.int.inj z
   rw [yaa] at this
   omega
  exact ⟨rfl,rfl⟩
 rintro σ' H' ⟨rfl,rfl⟩
 refine ⟨_,rfl,a,rfl,⟨_,SqL.of ha⟩,?_⟩
 refine zfj (xs:=w.map nV) (fun i σ H2=>∃ x2 : Option V,σ = [some (.ref t),some (.ref a),x2,none]∧H2 = H) ?_ ?_ ?_ ?_
 ·exact ⟨_,rfl,rfl⟩
 ·rintro i σ H2 _ ⟨x2,rfl,rfl⟩
  exact SqL.of ha
 ·rintro i x σ H2 hx ⟨x2,rfl,rfl⟩
  obtain ⟨hi,rfl⟩:=zfR hx
  have hm:=hlt (w.getD i 0) (by rw [yan,yad hi]; exact ybd hi)
  refine ⟨_,rfl,_,_,rfl,.inr (SqT.of ht),_,rfl,_,_,rfl,by omega,by rw [zat]; omega,_,rfl,?_⟩
  refine iteF ?_
  exact ⟨_,rfl,rfl⟩
 ·rintro σ H2 ⟨x2,rfl,rfl⟩
  refine ⟨_,rfl,_,_,rfl,.inl (SqL.of ha),1,_,rfl,⟨by omega,by omega,by rw [yaa]; omega,by rw [yaa]; omega⟩,?_⟩
  have en : ((((w.map nV).length : Nat) : Int) - 1).toNat = w.length - 1:=by rw [yaa]; omega
  rw [en]
  refine zbq (n:=w.length - 1) (fun i σ H3=>∃ x2 x3 : Option V,σ = [some (.ref t),some (.ref a),x2,x3]∧H3 = H2) ?_ ?_ ?_
  ·exact ⟨_,_,rfl,rfl⟩
  ·rintro i σ H3 hi ⟨x2,x3,rfl,rfl⟩
   have ek : (1 : Int) + (i : Int) = ((i + 1 : Nat) : Int):=by omega
   rw [ek]
   have h1:=hC i (by omega)
   have hm:=hlt (w.getD (i + 1) 0) (by rw [yan,yad (show i + 1 < w.length by omega)]; exact ybd _)
   have hat1 : atI (w.map nV) ((i + 1 : Nat) : Int) = some (nV (w.getD (i + 1) 0)):=zja (by omega)
   have hat0 : atI (w.map nV) (((i + 1 : Nat) : Int) - 1) = some (nV (w.getD i 0)):=by
    rw [show ((i + 1 : Nat) : Int) - 1 = ((i : Nat) : Int) by omega]
    exact zja (by omega)
   have hatT:=zfo hm
   rw [zd2 h1] at hatT
   refine ⟨_,rfl,_,rfl,_,rfl,_,_,_,_,rfl,rfl,SqL.of ha,hat1,_,_,_,_,rfl,rfl,SqT.of ht,hatT,_,rfl,_,rfl,_,_,rfl,rfl,_,_,_,_,rfl,rfl,SqL.of ha,hat0,rfl,_,rfl,?_⟩
   refine zjP rfl ?_
   exact ⟨_,_,rfl,rfl⟩
  ·rintro σ H3 ⟨x2,x3,rfl,rfl⟩
   exact q
def zkD (P : Program) (w : World) (K : Frag) (mg : Str→Option Value) (base : Heap) : Sp:=fun vs H Q _=>∃ (n : Nat) (f : Addr) (ps : List Str) (sp : Sp) (b : Nat→Bool) (R : Hp→Prop),vs = [.int n,.ref f]∧FV P w K mg base 1 f ps sp∧R H∧
 (∀ (i : Nat) (H1 : Hp) (Q1 : VK),i < n→R H1→(∀ H2,R H2→Q1 (.bl (b i)) H2)→sp [.int i] H1 Q1 E0)∧(∀ i j,i≤j→j < n→b j = true→b i = true)∧
 ∀ (m : Nat) (H' : Hp),m≤n→(∀ i,i < m→b i = true)→(∀ i,m≤i→i < n→b i = false)→R H'→Q (.int m) H'
def zlo : L2.St→Hp→Nat:=fun σ _=>match σ with
 | [_,_,some (.int lo),some (.int hi),_]=>(hi - lo).toNat
 | _=>0
theorem zkl (T : Txt K mg) (D_how_many_below : DF K mg "how_many_below" za8 zaO) : FC P w K mg base 2 "how_many_below" zaO (zkD P w K mg base):=by
 refine D_how_many_below.ok sc_how_many_below (fun vs H Q E h=>?_) (fun f cdv A outer s H vs Q E hr h=>?_)
 ·obtain ⟨n,f,ps,sp,b,R,rfl,_⟩:=h
  rfl
 obtain ⟨n,f,ps,sp,b,R,rfl,hF,hR,hask,hmono,q⟩:=h
 refine ⟨_,(zag (zao (i:=2) sc_how_many_below.nd rfl (Or.inl rfl) zae)
   (zag (zao (i:=3) sc_how_many_below.nd rfl (Or.inl rfl) (pv 0))
   (zag (zgO PassesOwn.never (zap zdF (pv 2) (pv 3) (zau _)) (zag (zao (i:=4) sc_how_many_below.nd rfl (Or.inl rfl) (zar zge (zar zbI (pv 2) (pv 3)) zae))
   (zaf (zbc (zc7 (zjq (kr:=1) hr (pv 1) (zaa (pv 4) zab))) (zaf (zao (i:=2) sc_how_many_below.nd rfl (Or.inl rfl) (zar zbI (pv 4) zae))) (zaf (zao (i:=3) sc_how_many_below.nd rfl (Or.inl rfl) (pv 4)))))))
   (zaf (zan (pv 2)))))),?_⟩
 refine ⟨_,rfl,?_⟩
 refine zft (fun σ H2=>∃ (lo hi : Nat) (x4 : Option V),σ = [some (.int n),some (.ref f),some (.int lo),some (.int hi),x4]∧lo≤hi∧hi≤n∧(∀ i,i < lo→b i = true)∧(∀ i,hi≤i→i < n→b i = false)∧R H2) (fun σ H2=>∃ (lo : Nat) (x4 : Option V),σ = [some (.int n),some (.ref f),some (.int lo),some (.int lo),x4]∧lo≤n∧(∀ i,i < lo→b i = true)∧(∀ i,lo≤i→i < n→b i = false)∧R H2) zlo ?_ ?_ ?_ ?_
 ·exact ⟨0,n,_,rfl,yaF _,yab _,fun i h=>absurd h (Nat.not_lt_zero _),fun i h1 h2=>absurd h2 (Nat.not_lt.mpr h1),hR⟩
 ·rintro σ H2 ⟨lo,hi,x4,rfl,h1,h2,hb1,hb2,hR2⟩
  refine ⟨_,rfl,_,rfl,_,_,rfl,rfl,_,rfl,?_⟩
  refine ite2 (fun c=>?_) (fun c=>?_)
  ·have c1 : (lo : Int) < (hi : Int):=yaK c
   have em : ((lo : Int) + (hi : Int)) / 2 = (((lo + hi) / 2 : Nat) : Int):=by omega
   have m1 : lo≤(lo + hi) / 2:=by omega
   have m2 : (lo + hi) / 2 < hi:=by omega
   refine ⟨_,rfl,_,rfl,_,_,rfl,rfl,_,_,rfl,rfl,⟨by decide,by decide⟩,?_⟩
   refine ⟨_,rfl,f,1,ps,sp,rfl,hF,yab _,_,rfl,?_⟩
   show sp [V.int (((lo : Int) + (hi : Int)) / 2)] H2 _ E0
   rw [em]
   refine hask ((lo + hi) / 2) H2 _ (by omega) hR2 fun H3 hR3=>⟨_,rfl,?_⟩
   cases hbm : b ((lo + hi) / 2) with
   | true=>
    refine iteT ?_
    refine ⟨_,rfl,_,_,rfl,rfl,⟨(lo + hi) / 2 + 1,hi,some (V.int (((lo : Int) + (hi : Int)) / 2)),?_,by omega,h2,fun i hi'=>hmono i ((lo + hi) / 2) (by omega) (by omega) hbm,hb2,hR3⟩,?_⟩
    ·show [some (V.int n),some (V.ref f),some (V.int (((lo : Int) + (hi : Int)) / 2 + 1)),some (V.int hi),some (V.int (((lo : Int) + (hi : Int)) / 2))] = _
     rw [em,Int.natCast_add]
     rfl
    ·show ((hi : Int) - (((lo : Int) + (hi : Int)) / 2 + 1)).toNat < ((hi : Int) - (lo : Int)).toNat
     omega
   | false=>
    refine iteF ?_
    refine ⟨_,rfl,⟨lo,(lo + hi) / 2,some (V.int (((lo : Int) + (hi : Int)) / 2)),?_,m1,by omega,hb1,fun i hi' hin=>?_,hR3⟩,?_⟩
    ·show [some (V.int n),some (V.ref f),some (V.int lo),some (V.int (((lo : Int) + (hi : Int)) / 2)),some (V.int (((lo : Int) + (hi : Int)) / 2))] = _
     rw [em]
    ·cases hbi : b i with
     | false=>rfl
     | true=>
      have:=hmono ((lo + hi) / 2) i hi' hin hbi
      rw [hbm] at this
      cases this
    ·show ((((lo : Int) + (hi : Int)) / 2) - (lo : Int)).toNat < ((hi : Int) - (lo : Int)).toNat
     omega
  ·have c1 : ¬ (lo : Int) < (hi : Int):=ybG (yba.mpr c)
   have e : hi = lo:=by omega
   subst e
   exact ⟨hi,_,rfl,h2,hb1,hb2,hR2⟩
 ·intro σ H Q Q' m h
  obtain ⟨y1,e3,y2,e4,i2,j2,f2,g2,b2,e5,q⟩:=h
  exact ⟨y1,e3,y2,e4,i2,j2,f2,g2,b2,e5,m _ _ q⟩
 rintro σ H2 ⟨lo,x4,rfl,h2,hb1,hb2,hR2⟩
 refine ⟨_,rfl,?_⟩
 exact q lo H2 h2 hb1 hb2 hR2
def zaP (row : List Int) (key : Int) : Nat:=(row.filter fun x=>decide (x < key)).length
theorem zj3 {row : List Int} {key : Int} {m : Nat} (hm : m≤row.length) (h1 : ∀ i,i < m→decide (row.getD i 0 < key) = true) (h2 : ∀ i,m≤i→i < row.length→decide (row.getD i 0 < key) = false) : zaP row key = m:=by
 unfold zaP
 conv=>lhs; rw [← yaX m row]
 rw [ybW,yae]
 have e1 : (row.take m).filter (fun x=>decide (x < key)) = row.take m:=by
  rw [ycd]
  intro x hx
  obtain ⟨i,hi,rfl⟩:=ya9 hx
  rw [yar] at hi
  have:=h1 i (by omega)
  rw [yan,yad (by omega)] at this
  rw [List.getElem_take]
  exact this
 have e2 : (row.drop m).filter (fun x=>decide (x < key)) = []:=by
  rw [ybm]
  intro x hx
  obtain ⟨i,hi,rfl⟩:=ya9 hx
  rw [yaG] at hi
  have:=h2 (m + i) (by omega) (by omega)
  rw [yan,yad (by omega)] at this
  rw [ybM]
  intro z
  rw [show decide (row[m + i] < key) = false from this] at z
  cases z
 rw [e1,e2,yar,ybi]
 omega
abbrev lamQ : Str:=(envOfC ("place" : Str) (zai zdq) 0 0 .none).qual ++ "<lambda>"
abbrev zbt : Pos:=⟨43,36,43,60⟩
def zf9 (K : Frag) (mp : Addr) : Sp:=fun vs H Q _=>∃ (r : Addr) (row : List Int) (key : Int),vs = [.ref r,.int key]∧H r = some (.tup (row.map V.int))∧row.Pairwise (· < ·)∧zaA H mp zbt lamQ∧
 ∀ H' : Hp,Gro mp H H'→zaA H' mp zbt lamQ→Q (.int (zaP row key : Nat)) H'
theorem zjt (T : Txt K mg) {mc mp : Addr} (D_place : DFT K mg "place" zdq zcB mc mp) (hBM : BMAt mg base) (F_how_many_below : ∀ base,FC P w K mg base 2 "how_many_below" zaO (zkD P w K mg base)) : FC P w K mg base 3 "place" zcB (zf9 K mp):=by
 refine D_place.ok sc_place (fun vs H Q E h=>?_) (fun f A outer s H vs Q E hr h=>?_)
 ·obtain ⟨r,row,key,rfl,_⟩:=h
  rfl
 obtain ⟨r,row,key,rfl,h0,hup,hT,q⟩:=h
 refine ⟨_,(zaf (zan (zev (kf:=0) F_how_many_below hr (zam zak rfl T.m_len boot_len (zaa (pv 0) zab)) (zko (osc:=zai zdq) (N:=["row","key"]) (ps:=["at"]) (caps:=["key","row"]) (cap:=[1,0]) ⟨rfl,rfl,rfl,by decide +kernel,by decide +kernel,by decide +kernel,by decide +kernel⟩ (by decide +kernel) (by decide +kernel) rfl rfl rfl rfl (fun _ _ _ _ us hl=>match us,hl with | [_],_=>rfl) (fun _=>rfl)) rfl D_place.hd hBM (fun _ _ _ _ _ _ _ _ _=>(zd0 zdF (zaE (zcs (K:=K)) (pv 2) (pv 0) (fun _ _=>rfl)) (pv 1) (zau _)))))),?_⟩
 refine ⟨_,rfl,_,_,rfl,.inr (SqT.of h0),hT,[.int key,.ref r],rfl,?_,fun base f c' H2 hg hT2 hC hV=>?_⟩
 ·intro j i v h1 h2
  rcases j with _ | _ | j
  ·cases h1; cases h2; rfl
  ·cases h1; cases h2; rfl
  ·cases h1
 have nmp : r≠mp:=fun z=>by
  obtain ⟨tab,e,_⟩:=hT.ex
  rw [← z,h0] at e
  cases e
 have h2r:=hg _ _ nmp h0
 rw [yaa]
 refine ⟨row.length,f,_,_,fun i=>decide (row.getD i 0 < key),fun H'=>H' = H2,rfl,hV,rfl,fun i H1 Q1 hi hR hQ=>?_,fun i j hij hj hb=>?_,fun m H' hm hb1 hb2 hR=>?_⟩
 ·subst hR
  refine ⟨rfl,hC,?_⟩
  have hat : atI (row.map V.int) ((i : Nat) : Int) = some (.int (row.getD i 0)):=zbi (by rw [yax,yad hi,yan,yad hi]; rfl)
  refine ⟨_,rfl,_,rfl,_,_,_,_,rfl,rfl,SqT.of h2r,hat,_,rfl,_,_,rfl,rfl,?_⟩
  exact hQ _ rfl
 ·refine yap ?_
  have hb:=yaK hb
  by_cases e : i = j
  ·subst e
   exact hb
  ·have:=ybw.mp hup i j (by omega) hj (by omega)
   rw [yan,yad (by omega)] at hb ⊢
   exact Int.lt_trans this hb
 ·subst hR
  have e:=zj3 hm hb1 hb2
  have q2:=q _ hg hT2
  rw [e] at q2
  exact q2
theorem zlE {n : Nat} (h : n≤900000) : n < sizeLine:=yaP h (by decide)
theorem zbz {K : Frag} {H : Hp} {q : Addr} {zs : List V} {o : HO} (hq : H q = some (.lst zs)) : ∀ {es : List (Int×Int)} {ws : List V},zal K H es ws→zal K (upd H q o) es ws
 | _,_,.nil=>.nil
 | _,_,.cons h t=>by
  refine .cons ?_ (zbz hq t)
  obtain ⟨a,x1,x2,rfl,hT,e1,e2⟩:=(show hasP K H _ _ from h)
  exact ⟨a,x1,x2,rfl,by rw [zaj (zlZ hT hq (by intro z; cases z))]; exact hT,e1,e2⟩
def Own (K : Frag) (H : Hp) : List Addr→List (List (Int×Int))→Prop:=Paired fun q l=>∃ ws,H q = some (.lst ws)∧zal K H l ws
section
variable {K : Frag} {H H' : Hp}
theorem Own.length {qs : List Addr} {ls : List (List (Int×Int))} (h : Own K H qs ls) : qs.length = ls.length:=Paired.length h
theorem Own.ext (e : Ext H H') : ∀ {qs : List Addr} {ls : List (List (Int×Int))},Own K H qs ls→Own K H' qs ls
 | _,_,.nil=>.nil
 | _,_,.cons ⟨ws,h1,h2⟩ t=>.cons ⟨ws,e _ _ h1 (fun _ z=>nomatch z),zal.mono e h2⟩ (Own.ext e t)
theorem Own.all : ∀ {qs : List Addr} {ls : List (List (Int×Int))},Own K H qs ls→zal K H ls (qs.map V.ref)
 | _,_,.nil=>.nil
 | _,_,.cons ⟨ws,h1,h2⟩ t=>.cons ⟨_,ws,rfl,SqL.of h1,h2⟩ (Own.all t)
theorem Own.has {qs : List Addr} {ls : List (List (Int×Int))} {p : Addr} (h : Own K H qs ls) (hp : H p = some (.lst (qs.map V.ref))) : Rep.has K H ls (.ref p):=⟨p,_,rfl,SqL.of hp,h.all⟩
theorem Own.get : ∀ {qs : List Addr} {ls : List (List (Int×Int))} {i : Nat} {x : V},Own K H qs ls→(qs.map V.ref)[i]? = some x→∃ q l ws,qs[i]? = some q∧x = .ref q∧ls[i]? = some l∧H q = some (.lst ws)∧zal K H l ws
 | _,_,_,_,.nil,e=>by simp at e
 | _,_,0,_,.cons ⟨ws,h1,h2⟩ _,e=>by
  simp at e
  exact ⟨_,_,ws,rfl,e.symm,rfl,h1,h2⟩
 | _,_,i + 1,x,.cons _ t,e=>by
  obtain ⟨q,l,ws,h1,h2,h3,h4,h5⟩:=Own.get (i:=i) (x:=x) t (by simpa using e)
  exact ⟨q,l,ws,by simpa using h1,h2,by simpa using h3,h4,h5⟩
theorem Own.append : ∀ {qs qs' : List Addr} {ls ls' : List (List (Int×Int))},Own K H qs ls→Own K H qs' ls'→Own K H (qs ++ qs') (ls ++ ls')
 | _,_,_,_,.nil,s=>s
 | _,_,_,_,.cons r t,s=>.cons r (Own.append t s)
theorem Own.rev : ∀ {qs : List Addr} {ls : List (List (Int×Int))},Own K H qs ls→Own K H qs.reverse ls.reverse
 | _,_,.nil=>.nil
 | _,_,.cons r t=>by
  rw [ya5,ya5]
  exact Own.append (Own.rev t) (.cons r .nil)
theorem Own.other {q : Addr} {o : HO} {zs : List V} (hq : H q = some (.lst zs)) : ∀ {qs : List Addr} {ls : List (List (Int×Int))},Own K H qs ls→q∉qs→Own K (upd H q o) qs ls
 | _,_,.nil,_=>.nil
 | _,_,.cons ⟨ws,h1,h2⟩ t,hn=>by
  rw [yaj,not_or] at hn
  exact .cons ⟨ws,by rw [zaj (Ne.symm hn.1)]; exact h1,zbz hq h2⟩ (Own.other hq t hn.2)
theorem Own.put {e : Int×Int} {x : V} (hx : Rep.has K H e x) : ∀ {qs : List Addr} {ls : List (List (Int×Int))} {i : Nat} {q : Addr} {ws : List V},Own K H qs ls→qs.Nodup→qs[i]? = some q→H q = some (.lst ws)→
  ∃ ls',Own K (upd H q (.lst (ws ++ [x]))) qs ls'∧ls'.length = ls.length∧ls'.flatten.length = ls.flatten.length + 1
 | _,_,_,_,_,.nil,_,e,_=>by simp at e
 | q' :: qs,l :: ls,0,q,ws,.cons ⟨ws',h1,h2⟩ t,hn,e,hq=>by
  have e : q' = q:=by simpa using e
  subst e
  rw [h1] at hq
  cases hq
  rw [yaV] at hn
  refine ⟨(l ++ [_]) :: ls,.cons ⟨_,zac,(zbz h1 h2).append (zbz h1 (.one hx))⟩ (Own.other h1 t hn.1),rfl,?_⟩
  rw [ybH,ybH,yae,yae,yae,yaH]
  omega
 | q' :: qs,l :: ls,i + 1,q,ws,.cons ⟨ws',h1,h2⟩ t,hn,e,hq=>by
  have e : qs[i]? = some q:=by simpa using e
  rw [yaV] at hn
  obtain ⟨ls',g1,g2,g3⟩:=Own.put hx t hn.2 e hq
  have hne : q'≠q:=fun z=>hn.1 (by rw [z]; exact yaW e)
  refine ⟨l :: ls',.cons ⟨ws',by rw [zaj hne]; exact h1,zbz hq h2⟩ g1,by rw [yav,yav,g2],?_⟩
  rw [ybH,ybH,yae,yae,g3]
  omega
end
theorem zeB {ls : List (List (Int×Int))} {i : Nat} {l : List (Int×Int)} (h : ls[i]? = some l) : (ls.take (i + 1)).flatten = (ls.take i).flatten ++ l:=by
 have hi:=(yaD.mp h).1
 rw [ybn hi,yb0,(yaD.mp h).2]
 simp
theorem zlc {ls : List (List (Int×Int))} (i : Nat) : (ls.take i).flatten.length≤ls.flatten.length:=by
 have e : ls.flatten = (ls.take i).flatten ++ (ls.drop i).flatten:=by rw [← yb0,yaX]
 rw [e,yae]
 omega
def zka (K : Frag) : Sp:=fun vs H Q _=>∃ (a : Addr) (qs : List Addr) (ls : List (List (Int×Int))),vs = [.ref a]∧H a = some (.lst (qs.map V.ref))∧Own K H qs ls∧ls.flatten.length≤900000∧
 ∀ (p : Addr) (ws : List V) (H' : Hp),H p = none→Same H H'→H' p = some (.lst ws)→zal K H' (zaI ls.flatten) ws→Q (.ref p) H'
theorem zie (T : Txt K mg) (D_joined_up : DF K mg "joined_up" zb5 zbp) : FC P w K mg base 1 "joined_up" zbp (zka K):=by
 refine D_joined_up.ok sc_joined_up (fun vs H Q E h=>?_) (fun f cdv A outer s H vs Q E hr h=>?_)
 ·obtain ⟨a,qs,ls,rfl,_⟩:=h
  rfl
 obtain ⟨a,qs,ls,rfl,ha,ho,hz,q⟩:=h
 have hll:=ho.length
 refine ⟨_,(zag (zao (i:=1) sc_joined_up.nd rfl (Or.inl rfl) (zaF zab))
   (zag (zcb PassesOwn.never rfl (zbr (pv 0)) (zav (i:=2) sc_joined_up.nd rfl (Or.inl rfl)) (zaf (zb6 (zh8 F.plainAttrs_list F.slot_list_extend F.type_list_extend zis (pv 1) (zaa (pv 2) zab)))))
   (zaf (zan (zam (zeF (Int×Int)) rfl T.m_sorted boot_sorted (zaa (pv 1) zab)))))),?_⟩
 refine ⟨(by show 0≤sizeLine; decide),fun t ht=>?_⟩
 have k0 : But t H (upd H t (.lst [])):=fun b o n e=>by rw [zaj n]; exact e
 refine ⟨_,rfl,a,rfl,⟨_,SqL.of (k0 _ _ (zad ha ht) ha)⟩,?_⟩
 refine zfj (xs:=qs.map V.ref) (fun i σ H2=>∃ (zs : List V) (x2 : Option V),σ = [some (.ref a),some (.ref t),x2]∧H2 t = some (.lst zs)∧zal K H2 (ls.take i).flatten zs∧But t H H2∧Own K H2 qs ls) ?_ ?_ ?_ ?_
 ·exact ⟨[],_,rfl,zac,.nil,k0,ho.ext (zah ht _).ext⟩
 ·rintro i σ H2 _ ⟨zs,x2,rfl,h2,_,k2,_⟩
  exact SqL.of (k2 _ _ (zad ha ht) ha)
 ·rintro i x σ H2 hx ⟨zs,x2,rfl,h2,hw,k2,o2⟩
  obtain ⟨g,l,ws,e1,rfl,e3,e4,e5⟩:=o2.get hx
  have hlen : zs.length + ws.length≤900000:=by
   have z1:=hw.length
   have z2:=e5.length
   have z3:=zlc (ls:=ls) (i + 1)
   rw [zeB e3,yae] at z3
   omega
  have hgo : ∀ b∈qs,b≠t:=fun b hb z=>by
   obtain ⟨j,hj,rfl⟩:=ya9 hb
   obtain ⟨_,_,ws0,f1,f2,_,f4,_⟩:=ho.get (i:=j) (x:=.ref qs[j]) (by rw [yax,yad hj]; rfl)
   cases f2
   rw [z,ht] at f4
   cases f4
  refine ⟨_,rfl,.inl ⟨rfl,_,SqL.of h2⟩,_,rfl,t,g,zs,ws,rfl,rfl,h2,e4,ya0 (zlE hlen),?_⟩
  refine ⟨_,_,rfl,zac,?_,fun b o n e=>by rw [zaj n]; exact k2 b o n e,o2.other h2 (fun z=>hgo t z rfl)⟩
  rw [zeB e3]
  exact (zbz h2 hw).append (zbz h2 e5)
 ·rintro σ H2 ⟨zs,x2,rfl,h2,hw,k2,o2⟩
  rw [yaz (by rw [yaa]; omega)] at hw
  refine ⟨_,rfl,t,zs,_,rfl,SqL.of h2,hw,fun l ws hl hs=>?_⟩
  have e2:=zah hl (.lst ws)
  have s2 : Same H H2:=fun b o e=>k2 b o (zad e ht) e
  exact q l ws _ (s2.free hl) (s2.trans e2) zac (zal.mono e2.ext hs)
structure zb2 (H : Hp) (wa : Addr) (ps w : List Nat) : Prop where
 at_ : H wa = some (.lst (w.map nV))
 len : w.length≤900
 ne : w≠[]
 ch : zfs ps w
 kn : ∀ x∈w,x < ps.length + 1
theorem zb2.same {H H' : Hp} {wa : Addr} {ps w : List Nat} (h : zb2 H wa ps w) (e : Same H H') : zb2 H' wa ps w:=⟨e _ _ h.at_,h.len,h.ne,h.ch,h.kn⟩
def zhS (K : Frag) : Sp:=fun vs H Q _=>∃ (t a : Addr) (ps w : List Nat),vs = [.ref t,.ref a]∧H t = some (.tup (za2 ps))∧ps.length≤900∧zb2 H a ps w∧Q .non H
theorem zkR (T : Txt K mg) (D_need_way : DF K mg "need_way" zbW zaR) (F_is_way : FC P w K mg base 3 "is_way" zbG (zhU K)) : FC P w K mg base 4 "need_way" zaR (zhS K):=by
 refine D_need_way.ok sc_need_way (fun vs H Q E h=>?_) (fun f cdv A outer s H vs Q E hr h=>?_)
 ·obtain ⟨t,a,ps,w,rfl,_⟩:=h
  rfl
 obtain ⟨t,a,ps,w,rfl,ht,hl,W,q⟩:=h
 refine ⟨_,(zaf (zbc (zdX (zc7 (zas F_is_way hr (zaa (pv 0) (zaa (pv 1) zab))))) (zaf zjo) zax)),?_⟩
 refine ⟨_,rfl,_,rfl,t,a,ps,w,rfl,ht,hl,W.at_,by have:=W.len; omega,W.ne,W.ch,W.kn,_,rfl,?_⟩
 refine iteF ?_
 exact q
def zdG (K : Frag) : Sp:=fun vs H Q _=>∃ (st wa : Addr) (ps : List Nat) (rows : List (List Int)) (t rs : Addr) (as : List Addr) (w : List Nat),vs = [.ref st,.ref wa]∧zaJ H st ps rows t rs as∧zb2 H wa ps w∧
 ∀ (p : Addr) (bs : List Addr) (H' : Hp),H p = none→Same H H'→H' p = some (.lst (bs.map V.ref))→zaG H' bs (w.map (zaY rows))→Q (.ref p) H'
theorem zbN {w : List Nat} {i : Nat} (h : i < w.length) : w.take (i + 1) = w.take i ++ [w.getD i 0]:=by
 rw [ybn h,yan,yad h]
 rfl
theorem zdn {w : List Nat} {i : Nat} (h : i < w.length) : w.getD i 0∈w:=by
 rw [yan,yad h]
 exact ybd h
theorem zib (T : Txt K mg) (D_rows_on : DF K mg "rows_on" zcl zaN) (F_need_way : FC P w K mg base 4 "need_way" zaR (zhS K)) : FC P w K mg base 5 "rows_on" zaN (zdG K):=by
 refine D_rows_on.ok sc_rows_on (fun vs H Q E h=>?_) (fun f cdv A outer s H vs Q E hr h=>?_)
 ·obtain ⟨st,wa,ps,rows,t,rs,as,w,rfl,_⟩:=h
  rfl
 obtain ⟨st,wa,ps,rows,t,rs,as,w,rfl,S,W,q⟩:=h
 have hwl:=W.len
 refine ⟨_,(zag (zb6 (zas F_need_way hr (zaa (zaE zbQ (pv 0) zae (fun _ _=>rfl)) (zaa (pv 1) zab))))
   (zaf (zan (zbj (N:=["knot","stand"]) (own:=1) (cap:=[0]) rfl (zbr (pv 1)) ⟨rfl,rfl,rfl,rfl,rfl,rfl⟩ (fun _ _ _ _ _=>(zav (i:=0) (show List.Nodup (["knot","stand"] : List Str) by decide +kernel) rfl (Or.inl rfl))) (fun _ _ _ _ _=>zbR) (fun _ _ _ _ _=>(zaE (zcs (K:=K)) (zaE (zcs (K:=K)) (pv 1) zae (fun _ _=>rfl)) (pv 0) (fun _ _=>rfl))))))),?_⟩
 refine ⟨_,rfl,_,_,_,_,rfl,rfl,SqT.of S.st,rfl,_,rfl,t,wa,ps,w,rfl,S.tr,by have:=S.few; omega,W,?_⟩
 refine ⟨_,rfl,wa,rfl,⟨_,SqL.of W.at_⟩,fun D hD=>?_⟩
 refine zcv (xs:=w.map nV) (fun i σ H2=>∃ (bs : List Addr) (x0 : Option V),σ = [x0,some (.ref st)]∧H2 D = some (.lst (bs.map V.ref))∧zaG H2 bs ((w.take i).map (zaY rows))∧But D H H2) ?_ ?_ ?_ ?_
 ·exact ⟨[],_,rfl,zac,.nil,fun b o n e=>by rw [zaj n]; exact e⟩
 ·rintro i σ H2 _ ⟨bs,x0,rfl,_,_,k2⟩
  exact k2.sq (SqL.of W.at_) hD
 ·rintro i m x σ H2 hx hm ⟨bs,x0,rfl,h2,hB,k2⟩
  obtain ⟨hi,rfl⟩:=zfR hx
  have hbl:=hB.length
  rw [yaa,yar] at hbl
  have s2 : Same H H2:=fun b o e=>k2 b o (zad e hD) e
  have S2:=S.same s2
  have hk:=W.kn _ (zdn hi)
  rw [zbN hi,yas]
  generalize w.getD i 0 = k at hk ⊢
  obtain ⟨b,hb1,hb2⟩:=S2.at_.get (k:=k) (by rw [S.len]; exact hk)
  rw [yaa] at hm
  refine zeA ?_
  refine ⟨_,rfl,_,_,_,_,rfl,rfl,SqT.of S2.st,rfl,_,rfl,_,_,_,_,rfl,rfl,SqT.of S2.rs,zi9 hb1,_,h2,zaC (by rw [yaa]; omega),m - 1,by omega,by rw [yaa]; omega,bs ++ [b],_,rfl,?_,?_,fun b o n e=>by rw [zaj n]; exact k2 b o n e⟩
  ·rw [zac,yas]
   rfl
  ·have kD : ∀ b o,b≠D→H2 b = some o→upd H2 D (.lst (bs.map V.ref ++ [.ref b])) b = some o:=fun b o n e=>by rw [zaj n]; exact e
   have nT : ∀ {x : Addr} {o : List V},H2 x = some (.tup o)→x≠D:=fun {x o} e z=>by
    rw [z,h2] at e
    cases e
   refine zaG.snoc (zaG.keep (p:=D) (d:=D) (fun a row e=>nT e) (fun c o n e=>by rw [zaj n]; exact e) hB) ?_
   rw [zaj (nT hb2)]
   exact hb2
 ·rintro σ H2 ⟨bs,x0,rfl,h2,hB,k2⟩
  rw [yaa,yaz (yab _)] at hB
  exact q D bs H2 hD (fun b o e=>k2 b o (zad e hD) e) h2 hB
def ownE (rows : List (List Int)) (k : Nat) : List (Int×Int):=(zaY rows k).map fun x=>(x,(k : Int))
theorem zfB {rows : List (List Int)} {i : Nat} (h : i < rows.length) : zaY rows i∈rows:=by
 unfold zaY
 rw [yan,yad h]
 exact ybd h
def zlC (K : Frag) : Sp:=fun vs H Q _=>∃ (st : Addr) (ps : List Nat) (rows : List (List Int)) (t rs : Addr) (as : List Addr) (j : Nat),vs = [.ref st,.int j]∧zaJ H st ps rows t rs as∧j < ps.length + 1∧
 ∀ (D : Addr) (us : List V) (H' : Hp),H D = none→Same H H'→H' D = some (.lst us)→zal K H' (ownE rows j) us→Q (.ref D) H'
theorem zlW (T : Txt K mg) (D_own_entries : DF K mg "own_entries" zbw za5) : FC P w K mg base 1 "own_entries" za5 (zlC K):=by
 refine D_own_entries.ok sc_own_entries (fun vs H Q E h=>?_) (fun f cdv A outer s H vs Q E hr h=>?_)
 ·obtain ⟨st,ps,rows,t,rs,as,k,rfl,_⟩:=h
  rfl
 obtain ⟨st,ps,rows,t,rs,as,j,rfl,S4,hjn,q⟩:=h
 refine ⟨_,(zaf (zan (zbj (N:=["key","knot"]) (own:=1) (cap:=[1]) rfl (zkh (zaE zbQ (zaE zbQ (pv 0) zae (fun _ _=>rfl)) (pv 1) (fun _ _=>rfl))) ⟨rfl,rfl,rfl,rfl,rfl,rfl⟩ (fun _ _ _ _ _=>(zav (i:=0) (show List.Nodup (["key","knot"] : List Str) by decide +kernel) rfl (Or.inl rfl))) (fun _ _ _ _ _=>zbR) (fun _ _ _ _ _=>(zcn (zaa (pv 0) (zaa (pv 1) zab))))))),?_⟩
 obtain ⟨a,ha1,ha4⟩:=S4.at_.get (k:=j) (by rw [S4.len]; exact hjn)
 have hkeys:=S4.keys
 refine ⟨_,rfl,_,_,_,_,rfl,rfl,SqT.of S4.st,rfl,_,rfl,_,_,_,_,rfl,rfl,SqT.of S4.rs,zi9 ha1,a,rfl,⟨_,SqT.of ha4⟩,fun D3 hD3=>?_⟩
 refine zj1 (xs:=(zaY rows j).map V.int) (fun m σ H5=>∃ (us : List V) (x0 : Option V),σ = [x0,some (.int j)]∧H5 D3 = some (.lst us)∧zal K H5 ((ownE rows j).take m) us∧But D3 H H5) ?_ ?_ ?_ ?_
 ·exact ⟨[],_,rfl,zac,.nil,fun b o n e=>by rw [zaj n]; exact e⟩
 ·rintro m σ H5 _ ⟨us,x0,rfl,_,_,k5⟩
  exact SqT.of (k5 _ _ (zad ha4 hD3) ha4)
 ·rintro m r x σ H5 hx hm ⟨us,x0,rfl,h5,hw5,k5⟩
  rw [yax] at hx
  obtain ⟨y,hy,rfl⟩:=ya1.mp hx
  have hlow:=(yaD.mp hy).1
  have htk3 : (ownE rows j).take (m + 1) = (ownE rows j).take m ++ [(y,(j : Int))]:=by
   unfold ownE
   rw [← ybI,← ybI,ybn hlow,yas]
   rw [(yaD.mp hy).2]
   rfl
  have hul:=hw5.length
  rw [yar] at hul
  rw [yaa] at hm
  have hrl : (zaY rows j).length≤zeq rows:=zgX (zfB (by rw [S4.len]; exact hjn))
  refine zeA ?_
  refine ⟨_,rfl,_,rfl,(by show 2≤sizeLine; decide),fun u hu=>?_⟩
  have su:=zah hu (.tup [.int y,.int (j : Int)])
  have h6:=su _ _ h5
  have hut : upd H5 u (.tup [.int y,.int (j : Int)]) u = some (.tup [.int y,.int (j : Int)]):=zac
  have k6:=k5.new' hu (.tup [.int y,.int (j : Int)])
  have hw6:=hw5.mono su.ext
  generalize upd H5 u (.tup [.int y,.int (j : Int)]) = H6 at su h6 hut k6 hw6 ⊢
  refine ⟨_,h6,zaC (by omega),r - 1,by omega,by rw [yaa]; omega,us ++ [.ref u],_,rfl,zac,?_,fun b o n e=>by rw [zaj n]; exact k6 b o n e⟩
  rw [htk3]
  exact (zbz h6 hw6).append (zbz h6 (.cons ⟨u,.int y,.int (j : Int),rfl,hut,rfl,rfl⟩ .nil))
 ·rintro σ H5 ⟨us,x0,rfl,h5,hw5,k5⟩
  rw [yaa,yaz (by unfold ownE; rw [yaa]; exact yab _)] at hw5
  exact q D3 us H5 hD3 (fun x o e=>k5 x o (zad e hD3) e) h5 hw5
def zbb (es : List (Int×Int)) (key : Int) : Nat:=(es.filter fun e=>decide (e.1 < key)).length
theorem zi7 {es : List (Int×Int)} {key : Int} {m : Nat} (hm : m≤es.length) (h1 : ∀ i,i < m→decide ((es.getD i (0,0)).1 < key) = true) (h2 : ∀ i,m≤i→i < es.length→decide ((es.getD i (0,0)).1 < key) = false) : zbb es key = m:=by
 unfold zbb
 conv=>lhs; rw [← yaX m es]
 rw [ybW,yae]
 have e1 : (es.take m).filter (fun e=>decide (e.1 < key)) = es.take m:=by
  rw [ycd]
  intro x hx
  obtain ⟨i,hi,rfl⟩:=ya9 hx
  rw [yar] at hi
  have:=h1 i (by omega)
  rw [yan,yad (by omega)] at this
  rw [List.getElem_take]
  exact this
 have e2 : (es.drop m).filter (fun e=>decide (e.1 < key)) = []:=by
  rw [ybm]
  intro x hx
  obtain ⟨i,hi,rfl⟩:=ya9 hx
  rw [yaG] at hi
  have:=h2 (m + i) (by omega) (by omega)
  rw [yan,yad (by omega)] at this
  rw [ybM]
  intro z
  rw [show decide (es[m + i].1 < key) = false from this] at z
  cases z
 rw [e1,e2,yar,ybi]
 omega
abbrev zfN : Str:=(envOfC ("place_in" : Str) (zai zbD) 0 0 .none).qual ++ "<lambda>"
abbrev zcr : Pos:=⟨45,40,45,71⟩
def zcZ (K : Frag) (mp : Addr) : Sp:=fun vs H Q _=>∃ (r : Addr) (ws : List V) (es : List (Int×Int)) (key : Int),vs = [.ref r,.int key]∧H r = some (.lst ws)∧zal K H es ws∧es.Pairwise (fun a b=>a.1≤b.1)∧zaA H mp zcr zfN∧
 ∀ H' : Hp,Gro mp H H'→zaA H' mp zcr zfN→Q (.int (zbb es key : Nat)) H'
theorem zhn (T : Txt K mg) {mc mp : Addr} (D_place_in : DFT K mg "place_in" zbD zaQ mc mp) (hBM : BMAt mg base) (F_how_many_below : ∀ base,FC P w K mg base 2 "how_many_below" zaO (zkD P w K mg base)) : FC P w K mg base 3 "place_in" zaQ (zcZ K mp):=by
 refine D_place_in.ok sc_place_in (fun vs H Q E h=>?_) (fun f A outer s H vs Q E hr h=>?_)
 ·obtain ⟨r,ws,es,key,rfl,_⟩:=h
  rfl
 obtain ⟨r,ws,es,key,rfl,h0,hw,hup,hT,q⟩:=h
 refine ⟨_,(zaf (zan (zev (kf:=0) F_how_many_below hr (zam zak rfl T.m_len boot_len (zaa (pv 0) zab)) (zko (osc:=zai zbD) (N:=["entries","key"]) (ps:=["at"]) (caps:=["key","entries"]) (cap:=[1,0]) ⟨rfl,rfl,rfl,by decide +kernel,by decide +kernel,by decide +kernel,by decide +kernel⟩ (by decide +kernel) (by decide +kernel) rfl rfl rfl rfl (fun _ _ _ _ us hl=>match us,hl with | [_],_=>rfl) (fun _=>rfl)) rfl D_place_in.hd hBM (fun _ _ _ _ _ _ _ _ _=>(zd0 zdF (zaE (zcs (K:=K)) (zaE (zgY (K:=K)) (pv 2) (pv 0) (fun _ _=>rfl)) zae (fun _ _=>rfl)) (pv 1) (zau _)))))),?_⟩
 refine ⟨_,rfl,_,_,rfl,.inl (SqL.of h0),hT,[.int key,.ref r],rfl,?_,fun base f c' H2 hg hT2 hC hV=>?_⟩
 ·intro j i v h1 h2
  rcases j with _ | _ | j
  ·cases h1; cases h2; rfl
  ·cases h1; cases h2; rfl
  ·cases h1
 have nmp : ∀ {x : Addr} {o : HO},H x = some o→(∀ tab,o≠.tbl tab)→x≠mp:=fun {x o} e n z=>by
  obtain ⟨tab,e2,_⟩:=hT.ex
  rw [← z,e] at e2
  exact n _ (yai e2)
 have h2r:=hg _ _ (nmp h0 (fun _ z=>by cases z)) h0
 have hwl:=hw.length
 rw [← hwl]
 refine ⟨es.length,f,_,_,fun i=>decide ((es.getD i (0,0)).1 < key),fun H'=>H' = H2,rfl,hV,rfl,fun i H1 Q1 hi hR hQ=>?_,fun i j hij hj hb=>?_,fun m H' hm hb1 hb2 hR=>?_⟩
 ·subst hR
  refine ⟨rfl,hC,?_⟩
  obtain ⟨v,hv,b,x1,x2,rfl,hb,e1,e2⟩ : ∃ v,ws[i]? = some v∧hasP K H (es.getD i (0,0)) v:=by
   have hge : es[i]? = some (es.getD i (0,0)):=by
    rw [yan,yad hi]
    rfl
   exact zba hw hge
  have hb2:=hg _ _ (nmp hb (fun _ z=>by cases z)) hb
  have e1' : x1 = .int (es.getD i (0,0)).1:=e1
  subst e1'
  refine ⟨_,rfl,_,rfl,_,_,_,_,rfl,rfl,SqL.of h2r,zbi hv,_,_,_,_,rfl,rfl,SqT.of hb2,rfl,_,rfl,_,_,rfl,rfl,?_⟩
  exact hQ _ rfl
 ·refine yap ?_
  have hb:=yaK hb
  by_cases e : i = j
  ·subst e
   exact hb
  ·have:=ybw.mp hup i j (by omega) hj (by omega)
   rw [yan,yad (by omega)] at hb ⊢
   exact Int.lt_of_le_of_lt this hb
 ·subst hR
  have e:=zi7 hm hb1 hb2
  have q2:=q _ hg hT2
  rw [e] at q2
  exact q2
def onE (rows : List (List Int)) (w : List Nat) : List (Int×Int):=(w.map (ownE rows)).flatten
theorem zkO {rows : List (List Int)} {w : List Nat} (h1 : ∀ k∈w,(zaY rows k).length≤400) (h2 : w.length≤900) : (onE rows w).length≤900000:=by
 have : ∀ w : List Nat,(∀ k∈w,(zaY rows k).length≤400)→(onE rows w).length≤400 * w.length:=by
  intro w
  induction w with
  | nil=>intro _; exact yaF _
  | cons k w ih=>
   intro h
   have a:=h k yah
   have b:=ih fun x hx=>h x (yal _ hx)
   unfold onE at b ⊢
   rw [yaA,ybH,yae]
   have e : (ownE rows k).length = (zaY rows k).length:=by unfold ownE; rw [yaa]
   rw [e,yav]
   omega
 have:=this w h1
 omega
theorem zjU {α : Type} [Rep α] {K : Frag} {H : Hp} {as : List α} {ws : List V} (h : zal K H as ws) : ∀ {n : Nat},zal K H (as.drop n) (ws.drop n):=by
 induction h with
 | nil=>intro n; rw [List.drop_nil,List.drop_nil]; exact .nil
 | cons a t ih=>
  intro n
  cases n with
  | zero=>exact .cons a t
  | succ n=>exact ih
theorem zjT {α : Type} [Rep α] {K : Frag} {H : Hp} {as : List α} {ws : List V} (h : zal K H as ws) : ∀ {n : Nat},zal K H (as.take n) (ws.take n):=by
 induction h with
 | nil=>intro n; rw [List.take_nil,List.take_nil]; exact .nil
 | cons a t ih=>
  intro n
  cases n with
  | zero=>exact .nil
  | succ n=>exact .cons a ih
theorem zgn {K : Frag} {H H' : Hp} (e : ∀ b o,H b = some (.tup o)→H' b = some (.tup o)) {es : List (Int×Int)} {ws : List V} (h : zal K H es ws) : zal K H' es ws:=by
 induction h with
 | nil=>exact .nil
 | cons a _ ih=>
  obtain ⟨b,x1,x2,rfl,q,e1,e2⟩:=(show hasP K H _ _ from a)
  exact .cons ⟨b,x1,x2,rfl,e _ _ q,e1,e2⟩ ih
def zeS (K : Frag) : Sp:=fun vs H Q _=>∃ (st wa : Addr) (ps : List Nat) (rows : List (List Int)) (t rs : Addr) (as : List Addr) (w : List Nat),vs = [.ref st,.ref wa]∧zaJ H st ps rows t rs as∧zb2 H wa ps w∧
 ∀ (p : Addr) (ws : List V) (H' : Hp),H p = none→Same H H'→H' p = some (.lst ws)→zal K H' (zaI (onE rows w)) ws→Q (.ref p) H'
theorem zlH {H : Hp} {st t rs : Addr} {ps : List Nat} {rows : List (List Int)} {as : List Addr} (S : zaJ H st ps rows t rs as) {k : Nat} (hk : k < ps.length + 1) : (zaY rows k).length≤400:=by
 have:=zgX (zfB (rows:=rows) (i:=k) (by rw [S.len]; exact hk))
 have:=S.keys
 omega
theorem zjC (T : Txt K mg) (D_entries_on : DF K mg "entries_on" zbo zaz) (F_need_way : FC P w K mg base 4 "need_way" zaR (zhS K)) (F_own_entries : FC P w K mg base 1 "own_entries" za5 (zlC K)) (F_joined_up : FC P w K mg base 1 "joined_up" zbp (zka K)) : FC P w K mg base 5 "entries_on" zaz (zeS K):=by
 refine D_entries_on.ok sc_entries_on (fun vs H Q E h=>?_) (fun f cdv A outer s H vs Q E hr h=>?_)
 ·obtain ⟨st,wa,ps,rows,t,rs,as,w,rfl,_⟩:=h
  rfl
 obtain ⟨st,wa,ps,rows,t,rs,as,w,rfl,S,W,q⟩:=h
 have hwl:=W.len
 refine ⟨_,(zag (zb6 (zas F_need_way hr (zaa (zaE zbQ (pv 0) zae (fun _ _=>rfl)) (zaa (pv 1) zab))))
   (zaf (zan (zas F_joined_up hr (zaa (zbj (N:=["knot","stand"]) (own:=1) (cap:=[0]) rfl (zbr (pv 1)) ⟨rfl,rfl,rfl,rfl,rfl,rfl⟩ (fun _ _ _ _ _=>(zav (i:=0) (show List.Nodup (["knot","stand"] : List Str) by decide +kernel) rfl (Or.inl rfl))) (fun _ _ _ _ _=>zbR) (fun _ _ _ _ _=>(zas F_own_entries hr (zaa (pv 1) (zaa (pv 0) zab))))) zab))))),?_⟩
 refine ⟨_,rfl,_,_,_,_,rfl,rfl,SqT.of S.st,rfl,_,rfl,t,wa,ps,w,rfl,S.tr,by have:=S.few; omega,W,?_⟩
 refine ⟨_,rfl,wa,rfl,⟨_,SqL.of W.at_⟩,fun D hD=>?_⟩
 refine zcv (xs:=w.map nV) (fun i σ H2=>∃ (gs : List Addr) (x0 : Option V),σ = [x0,some (.ref st)]∧H2 D = some (.lst (gs.map V.ref))∧Own K H2 gs ((w.take i).map (ownE rows))∧D∉gs∧But D H H2) ?_ ?_ ?_ ?_
 ·exact ⟨[],_,rfl,zac,.nil,(fun z=>nomatch z),fun b o n e=>by rw [zaj n]; exact e⟩
 ·rintro i σ H2 _ ⟨gs,x0,rfl,_,_,_,k2⟩
  exact k2.sq (SqL.of W.at_) hD
 ·rintro i m x σ H2 hx hm ⟨gs,x0,rfl,h2,hO,hg,k2⟩
  obtain ⟨hi,rfl⟩:=zfR hx
  have hgl:=hO.length
  rw [yaa,yar] at hgl
  have S2:=S.same fun b o e=>k2 b o (zad e hD) e
  have hk:=W.kn _ (zdn hi)
  rw [zbN hi,yas]
  generalize w.getD i 0 = k at hk ⊢
  rw [yaa] at hm
  refine zeA ?_
  refine ⟨_,rfl,_,rfl,st,ps,rows,t,rs,as,k,rfl,S2,hk,fun D3 us H5 hD3 s5 h5 hw5=>?_⟩
  have h5D:=s5 _ _ h2
  have n3 : D≠D3:=zad h2 hD3
  refine ⟨_,h5D,zaC (by rw [yaa]; omega),m - 1,by omega,by rw [yaa]; omega,gs ++ [D3],_,rfl,?_,?_,?_,fun x o n e=>by rw [zaj n]; exact s5 _ _ (k2 x o n e)⟩
  ·rw [zac,yas]
   rfl
  ·refine Own.other h5D (Own.append (hO.ext s5.ext) (.cons ⟨us,h5,hw5⟩ .nil)) ?_
   intro z
   rcases yaf.mp z with z | z
   ·exact hg z
   ·exact n3 (yag.mp z)
  ·intro z
   rcases yaf.mp z with z | z
   ·exact hg z
   ·exact n3 (yag.mp z)
 rintro σ H2 ⟨gs,x0,rfl,h2,hO,hg,k2⟩
 rw [yaa,yaz (yab _)] at hO
 have s2 : Same H H2:=fun b o e=>k2 b o (zad e hD) e
 exact ⟨D,gs,w.map (ownE rows),rfl,h2,hO,zkO (fun k hk=>zlH S (W.kn k hk)) hwl,fun p ws H3 hp s3 h3 hw3=>q p ws H3 (s2.free hp) (s2.trans s3) h3 hw3⟩
def zk9 (rows : List (List Int)) (w : List Nat) (key : Int) : List (Int×Int):=(onE rows w).filter fun e=>decide (key≤e.1)
theorem zfy {es : List (Int×Int)} {key : Int} (h : es.Pairwise (fun a b=>a.1≤b.1)) : es.drop (zbb es key) = es.filter fun e=>decide (key≤e.1):=by
 unfold zbb
 induction es with
 | nil=>rfl
 | cons e es ih=>
  obtain ⟨h1,h2⟩:=ybv.mp h
  by_cases c : e.1 < key
  ·rw [ybb (by exact yap c),yav,List.drop_succ_cons,ih h2,ybc (by simp; omega)]
  ·have z : es.filter (fun e=>decide (e.1 < key)) = []:=by
    rw [ybm]
    intro x hx
    have:=h1 x hx
    simp
    omega
   have z2 : es.filter (fun e=>decide (key≤e.1)) = es:=by
    rw [ycd]
    intro x hx
    have:=h1 x hx
    exact yap (by omega)
   rw [ybc (by simp; omega),z,ybi,ya6,ybb (by exact yap (by omega)),z2]
theorem zch (es : List (Int×Int)) : (zaI es).Pairwise (fun a b=>a.1≤b.1):=by
 refine List.Pairwise.imp ?_ (zcz es)
 intro a b h
 have h' : pLt b a = false:=h
 rw [zd4] at h'
 omega
theorem zfT {rows : List (List Int)} {w : List Nat} {key : Int} : (zaI (onE rows w)).drop (zbb (zaI (onE rows w)) key) = zaI (zk9 rows w key):=by
 rw [zfy (zch _)]
 exact zeT ((zbB _).filter _) ((zcz _).filter _)
def zcg (K : Frag) (mp : Addr) : Sp:=fun vs H Q _=>∃ (st wa : Addr) (ps : List Nat) (rows : List (List Int)) (t rs : Addr) (as : List Addr) (w : List Nat) (key : Int) (many : Nat),vs = [.ref st,.ref wa,.int key,.int many]∧zaJ H st ps rows t rs as∧zb2 H wa ps w∧zaA H mp zcr zfN∧
 ∀ (p : Addr) (ws : List V) (H' : Hp),H p = none→Gro mp H H'→zaA H' mp zcr zfN→H' p = some (.lst ws)→zal K H' ((zaI (zk9 rows w key)).take many) ws→Q (.ref p) H'
theorem zfa (T : Txt K mg) {mp : Addr} (D_joined_from : DF K mg "joined_from" zbd zaV) (F_entries_on : FC P w K mg base 5 "entries_on" zaz (zeS K)) (F_place_in : FC P w K mg base 3 "place_in" zaQ (zcZ K mp)) : FC P w K mg base 6 "joined_from" zaV (zcg K mp):=by
 refine D_joined_from.ok sc_joined_from (fun vs H Q E h=>?_) (fun f cdv A outer s H vs Q E hr h=>?_)
 ·obtain ⟨st,wa,ps,rows,t,rs,as,w,key,many,rfl,_⟩:=h
  rfl
 obtain ⟨st,wa,ps,rows,t,rs,as,w,key,many,rfl,S,W,hT,q⟩:=h
 refine ⟨_,(zag (zao (i:=4) sc_joined_from.nd rfl (Or.inl rfl) (zas F_entries_on hr (zaa (pv 0) (zaa (pv 1) zab))))
   (zag (zao (i:=5) sc_joined_from.nd rfl (Or.inl rfl) (zas F_place_in hr (zaa (pv 4) (zaa (pv 2) zab))))
   (zaf (zan (zbm zcS (pv 4) (zbe (pv 5)) (zbe (zar zbI (pv 5) (zam (zdj rfl) rfl T.m_max boot_max (zaa (pv 3) (zaa zae zab)))))))))),?_⟩
 refine ⟨_,rfl,_,rfl,st,wa,ps,rows,t,rs,as,w,rfl,S,W,fun p ws H1 hp s1 h1 hw1=>?_⟩
 refine ⟨_,rfl,_,rfl,p,ws,_,key,rfl,h1,hw1,zch _,hT.ext s1.ext,fun H2 g2 hT2=>?_⟩
 have nmp : ∀ {x : Addr} {o : HO},H1 x = some o→(∀ tab,o≠.tbl tab)→x≠mp:=fun {x o} e n z=>by
  obtain ⟨tab,e2,_⟩:=(hT.ext s1.ext).ex
  rw [← z,e] at e2
  exact n _ (yai e2)
 have h2:=g2 _ _ (nmp h1 (fun _ z=>by cases z)) h1
 have hw2 : zal K H2 (zaI (onE rows w)) ws:=zgn (fun _ _ e=>g2 _ _ (nmp e (fun _ z=>by cases z)) e) hw1
 have hmx : (if (0 : Int) > (many : Int) then (0 : Int) else (many : Int)) = (many : Int):=if_neg (by omega)
 refine ⟨_,rfl,_,rfl,_,rfl,_,rfl,_,rfl,_,_,rfl,_,_,rfl,rfl,_,rfl,p,ws,rfl,SqL.of h2,fun c hc=>?_⟩
 have ec : cutV ws (some ((zbb (zaI (onE rows w)) key : Nat) : Int)) (some (((zbb (zaI (onE rows w)) key : Nat) : Int) + (if (0 : Int) > (many : Int) then (0 : Int) else (many : Int)))) = (ws.drop (zbb (zaI (onE rows w)) key)).take many:=by
  rw [hmx,← Int.natCast_add,zg2]
  congr 1
  omega
 show Q (.ref c) (upd H2 c (.lst (cutV ws (some ((zbb (zaI (onE rows w)) key : Nat) : Int)) (some (((zbb (zaI (onE rows w)) key : Nat) : Int) + (if (0 : Int) > (many : Int) then (0 : Int) else (many : Int)))))))
 rw [ec]
 have sc:=zah hc (.lst ((ws.drop (zbb (zaI (onE rows w)) key)).take many))
 have hc1 : H c = none:=by
  cases e : H c with
  | none=>rfl
  | some o=>
   by_cases z : c = mp
   ·obtain ⟨tab,e2,_⟩:=hT2.ex
    rw [← z,hc] at e2
    cases e2
   ·have:=g2 _ _ z (s1 _ _ e)
    rw [hc] at this
    cases this
 refine q c _ _ hc1 (fun b o n e=>sc _ _ (g2 _ _ n (s1 _ _ e))) (hT2.ext sc.ext) zac ?_
 rw [← zfT]
 exact zal.mono sc.ext (zjT (zjU hw2))
theorem zhN {H : Hp} {Pt D : Addr} {pos : Pos} {q : Str} {xs : List V} {o : HO} (x : zaA H Pt pos q) (hD : H D = some (.lst xs)) : zaA (upd H D o) Pt pos q:=by
 obtain ⟨tab,h1,h2,h3⟩:=x.ex
 have n1 : Pt≠D:=fun z=>by
  rw [z,hD] at h1
  cases h1
 refine ⟨tab,by rw [zaj n1]; exact h1,h2,?_⟩
 rcases h3 with h3 | ⟨c,h3,h4⟩
 ·exact .inl h3
 ·refine .inr ⟨c,h3,?_⟩
  have n2 : c≠D:=fun z=>by
   rw [z] at h4
   rw [show H D = _ from h4] at hD
   cases hD
  show upd H D o c = _
  rw [zaj n2]
  exact h4
theorem ziN (xs : List Int) : (xs.map V.int).all zfk = true:=by
 induction xs with
 | nil=>rfl
 | cons a l ih=>exact (ya4 _ _).mpr ⟨rfl,ih⟩
theorem zjR (n : Int) (xs : List Int) : inV (.int n) (xs.map V.int) = decide (n∈xs):=by
 unfold inV
 induction xs with
 | nil=>rfl
 | cons x xs ih=>
  rw [yaA,ybg,ih]
  show (x == n || decide (n∈xs)) = decide (n∈x :: xs)
  by_cases h : x = n
  ·subst h
   simp
  ·have h2 : ¬ n = x:=fun z=>h z.symm
   simp [h,h2]
def zeQ (K : Frag) (mp : Addr) : Sp:=fun vs H Q _=>∃ (st wa : Addr) (ps : List Nat) (rows : List (List Int)) (t rs : Addr) (as : List Addr) (w : List Nat) (key : Int),vs = [.ref st,.ref wa,.int key]∧zaJ H st ps rows t rs as∧zb2 H wa ps w∧zaA H mp zbt lamQ∧
 ∀ (p : Addr) (H' : Hp),H p = none→Gro mp H H'→zaA H' mp zbt lamQ→H' p = some (.lst ((w.map fun k=>zaP (zaY rows k) key).map nV))→Q (.ref p) H'
theorem zic (T : Txt K mg) {mp : Addr} (D_places : DF K mg "places" zc0 zbX) (F_rows_on : FC P w K mg base 5 "rows_on" zaN (zdG K)) (F_place : FC P w K mg base 3 "place" zcB (zf9 K mp)) : FC P w K mg base 6 "places" zbX (zeQ K mp):=by
 refine D_places.ok sc_places (fun vs H Q E h=>?_) (fun f cdv A outer s H vs Q E hr h=>?_)
 ·obtain ⟨st,wa,ps,rows,t,rs,as,w,key,rfl,_⟩:=h
  rfl
 obtain ⟨st,wa,ps,rows,t,rs,as,w,key,rfl,S,W,hT,q⟩:=h
 have hwl:=W.len
 refine ⟨_,(zaf (zan (zbj (N:=["row","key"]) (own:=1) (cap:=[2]) rfl (zbr (zas F_rows_on hr (zaa (pv 0) (zaa (pv 1) zab)))) ⟨rfl,rfl,rfl,rfl,rfl,rfl⟩ (fun _ _ _ _ _=>(zav (i:=0) (show List.Nodup (["row","key"] : List Str) by decide +kernel) rfl (Or.inl rfl))) (fun _ _ _ _ _=>zbR) (fun _ _ _ _ _=>(zas F_place hr (zaa (pv 0) (zaa (pv 1) zab))))))),?_⟩
 refine ⟨_,rfl,_,rfl,st,wa,ps,rows,t,rs,as,w,rfl,S,W,fun p bs H1 hp s1 h1 hB=>?_⟩
 have hbl:=hB.length
 rw [yaa] at hbl
 have hT1:=hT.ext s1.ext
 have nmp : ∀ {H' : Hp} {x : Addr} {o : HO},zaA H' mp zbt lamQ→H' x = some o→(∀ tab,o≠.tbl tab)→x≠mp:=fun {H' x o} hT e n z=>by
  obtain ⟨tab,e2,_⟩:=hT.ex
  rw [← z,e] at e2
  exact n _ (yai e2)
 refine ⟨p,rfl,⟨_,SqL.of h1⟩,fun D hD=>?_⟩
 have hDm : D≠mp:=fun z=>by
  obtain ⟨tab,e2,_⟩:=hT1.ex
  rw [← z,hD] at e2
  cases e2
 refine zcv (xs:=bs.map V.ref) (fun i σ H2=>∃ x0 : Option V,σ = [x0,some (.int key)]∧H2 D = some (.lst (((w.take i).map fun k=>zaP (zaY rows k) key).map nV))∧(∀ b o,b≠D→b≠mp→H1 b = some o→H2 b = some o)∧zaA H2 mp zbt lamQ) ?_ ?_ ?_ ?_
 ·refine ⟨_,rfl,zac,fun b o n _ e=>by rw [zaj n]; exact e,hT1.ext (zah hD _).ext⟩
 ·rintro i σ H2 _ ⟨x0,rfl,_,k2,_⟩
  exact SqL.of (k2 _ _ (zad h1 hD) (nmp hT1 h1 (fun _ z=>nomatch z)) h1)
 ·rintro i m x σ H2 hx hm ⟨x0,rfl,h2,k2,hT2⟩
  rw [yax] at hx
  obtain ⟨b,hb,rfl⟩:=ya1.mp hx
  obtain ⟨row,hrow,h1b⟩:=zba hB hb
  have hi : i < w.length:=by
   have:=(yaD.mp hb).1
   omega
  rw [yax] at hrow
  obtain ⟨k,hk,rfl⟩:=ya1.mp hrow
  have hke : w.getD i 0 = k:=by rw [yan,hk]; rfl
  rw [zbN hi,yas,hke]
  have h2b:=k2 _ _ (zad h1b hD) (nmp hT1 h1b (fun _ z=>nomatch z)) h1b
  rw [yaa] at hm
  refine zeA ?_
  refine ⟨_,rfl,_,rfl,b,zaY rows k,key,rfl,h2b,S.R.at_up k,hT2,fun H3 hg3 hT3=>?_⟩
  have h3:=hg3 _ _ hDm h2
  refine ⟨_,h3,zaC (by rw [yaa,yaa,yar]; omega),m - 1,by omega,by rw [yaa]; omega,_,rfl,?_,fun b o n n2 e=>by rw [zaj n]; exact hg3 _ _ n2 (k2 b o n n2 e),zhN hT3 h3⟩
  rw [zac,yas]
  rfl
 ·rintro σ H2 ⟨x0,rfl,h2,k2,hT2⟩
  rw [yaa,hbl,yaz (yab _)] at h2
  exact q D H2 (s1.free hD) (fun b o n e=>k2 b o (zad (s1 _ _ e) hD) n (s1 _ _ e)) hT2 h2
def zjj (K : Frag) : Sp:=fun vs H Q _=>∃ (st wa : Addr) (ps : List Nat) (rows : List (List Int)) (t rs : Addr) (as : List Addr) (w : List Nat) (key : Int),vs = [.ref st,.ref wa,.int key]∧zaJ H st ps rows t rs as∧zb2 H wa ps w∧
 ∀ (p : Addr) (H' : Hp),H p = none→Same H H'→H' p = some (.lst ((w.filter fun k=>decide (key∈zaY rows k)).map nV))→Q (.ref p) H'
theorem zlV (T : Txt K mg) (D_who_has : DF K mg "who_has" zcj za9) (F_rows_on : FC P w K mg base 5 "rows_on" zaN (zdG K)) : FC P w K mg base 6 "who_has" za9 (zjj K):=by
 refine D_who_has.ok sc_who_has (fun vs H Q E h=>?_) (fun f cdv A outer s H vs Q E hr h=>?_)
 ·obtain ⟨st,wa,ps,rows,t,rs,as,w,key,rfl,_⟩:=h
  rfl
 obtain ⟨st,wa,ps,rows,t,rs,as,w,key,rfl,S,W,q⟩:=h
 have hwl:=W.len
 refine ⟨_,(zag (zao (i:=3) sc_who_has.nd rfl (Or.inl rfl) (zas F_rows_on hr (zaa (pv 0) (zaa (pv 1) zab))))
   (zaf (zan (zbj (N:=["knot","row","key"]) (own:=2) (cap:=[2]) rfl (zkg rfl T.m_zip (zaa (pv 1) (zaa (pv 3) zab))) ⟨rfl,rfl,rfl,rfl,rfl,rfl⟩ (fun _ _ _ _ _=>(zh7 (K:=K) (n:=2) rfl (zcJ (zav (i:=0) (show List.Nodup (["knot","row","key"] : List Str) by decide +kernel) rfl (Or.inl rfl)) (zcJ (zav (i:=1) (show List.Nodup (["knot","row","key"] : List Str) by decide +kernel) rfl (Or.inl rfl)) zgd)))) (fun _ _ _ _ _=>(ze3 (zap (zew (K:=K)) (pv 2) (pv 1) (by with_unfolding_all rfl)))) (fun _ _ _ _ _=>(pv 0)))))),?_⟩
 refine ⟨_,rfl,_,rfl,st,wa,ps,rows,t,rs,as,w,rfl,S,W,fun p bs H1 hp s1 h1 hB=>?_⟩
 have hbl:=hB.length
 rw [yaa] at hbl
 have h1w:=s1 _ _ W.at_
 refine ⟨_,rfl,_,rfl,wa,p,rfl,⟨_,SqL.of h1w⟩,⟨_,SqL.of h1⟩,fun D hD=>?_⟩
 refine zj0 (xs:=w.map nV) (ys:=bs.map V.ref) (by rw [yaa,yaa,hbl]) (fun i σ H2=>∃ x0 x1 : Option V,σ = [x0,x1,some (.int key)]∧H2 D = some (.lst (((w.take i).filter fun k=>decide (key∈zaY rows k)).map nV))∧But D H1 H2) ?_ ?_ ?_ ?_
 ·exact ⟨_,_,rfl,zac,fun b o n e=>by rw [zaj n]; exact e⟩
 ·rintro i σ H2 _ ⟨x0,x1,rfl,_,k2⟩
  exact ⟨k2.sq (SqL.of h1w) hD,k2.sq (SqL.of h1) hD⟩
 ·rintro i m x y σ H2 r' hx hy hm ⟨x0,x1,rfl,h2,k2⟩ hr'
  obtain ⟨hi,rfl⟩:=zfR hx
  rw [yax] at hy
  obtain ⟨b,hb,rfl⟩:=ya1.mp hy
  obtain ⟨row,hrow,h1b⟩:=zba hB hb
  rw [yax] at hrow
  obtain ⟨k,hk,rfl⟩:=ya1.mp hrow
  have hke : w.getD i 0 = k:=by rw [yan,hk]; rfl
  rw [zbN hi,ybW,hke]
  rw [yaa] at hm
  refine ⟨r',_,rfl,SqT.of zac,rfl,_,_,rfl,_,_,rfl,rfl,?_⟩
  have s2:=zah hr' (.tup [nV k,.ref b])
  have h3:=s2 _ _ h2
  have k3 : But D H1 (upd H2 r' (.tup [nV k,.ref b])):=fun c o n e=>s2 _ _ (k2 c o n e)
  generalize upd H2 r' (.tup [nV k,.ref b]) = H3 at h3 k3 ⊢
  have h3b:=k3 _ _ (zad h1b hD) h1b
  have hfl:=ybX (fun k=>decide (key∈zaY rows k)) (w.take i)
  rw [yar] at hfl
  refine ⟨_,rfl,_,rfl,b,_,rfl,.inr (SqT.of h3b),rfl,ziN _,_,rfl,?_⟩
  show if inV (.int key) ((zaY rows k).map V.int) = true then _ else _
  rw [zjR]
  refine ite2 (fun c=>?_) (fun c=>?_)
  ·refine ⟨_,rfl,_,h3,zaC (by rw [yaa]; omega),m - 1,by omega,by rw [yaa]; omega,_,_,rfl,?_,fun b o n e=>by rw [zaj n]; exact k3 b o n e⟩
   have ef : [k].filter (fun k=>decide (key∈zaY rows k)) = [k]:=ybb (p:=fun k=>decide (key∈zaY rows k)) c
   rw [zac,yas,ef]
   rfl
  ·refine ⟨m - 1,by omega,by rw [yaa]; omega,_,_,rfl,?_,k3⟩
   have ef : [k].filter (fun k=>decide (key∈zaY rows k)) = []:=ybc (p:=fun k=>decide (key∈zaY rows k)) c
   rw [h3,ef,yaU]
 ·rintro σ H2 ⟨x0,x1,rfl,h2,k2⟩
  rw [yaa,yaz (yab _)] at h2
  exact q D H2 (s1.free hD) (s1.trans fun b o e=>k2 b o (zad e hD) e) h2
def zmc (l : List Nat) : V:=match l with
 | []=>.non
 | k :: _=>nV k
def zeR (K : Frag) : Sp:=fun vs H Q _=>∃ (st wa : Addr) (ps : List Nat) (rows : List (List Int)) (t rs : Addr) (as : List Addr) (w : List Nat) (key : Int),vs = [.ref st,.ref wa,.int key]∧zaJ H st ps rows t rs as∧zb2 H wa ps w∧
 ∀ H' : Hp,Same H H'→Q (zmc (w.filter fun k=>decide (key∈zaY rows k))) H'
theorem zig (T : Txt K mg) (D_first_with : DF K mg "first_with" zbn za1) (F_who_has : FC P w K mg base 6 "who_has" za9 (zjj K)) : FC P w K mg base 7 "first_with" za1 (zeR K):=by
 refine D_first_with.ok sc_first_with (fun vs H Q E h=>?_) (fun f cdv A outer s H vs Q E hr h=>?_)
 ·obtain ⟨st,wa,ps,rows,t,rs,as,w,key,rfl,_⟩:=h
  rfl
 obtain ⟨st,wa,ps,rows,t,rs,as,w,key,rfl,S,W,q⟩:=h
 refine ⟨_,(zag (zao (i:=3) sc_first_with.nd rfl (Or.inl rfl) (zas F_who_has hr (zaa (pv 0) (zaa (pv 1) (zaa (pv 2) zab)))))
   (zaf (zan (zcK (zap zeo (zam zak rfl T.m_len boot_len (zaa (pv 3) zab)) zae (zau _)) (zaE zaw (pv 3) zae (fun _ _=>rfl)) zco)))),?_⟩
 refine ⟨_,rfl,_,rfl,_,rfl,st,wa,ps,rows,t,rs,as,w,key,rfl,S,W,fun p H1 hp s1 h1=>?_⟩
 generalize (w.filter fun k=>decide (key∈zaY rows k)) = l at h1 q
 refine ⟨_,rfl,_,_,rfl,.inl (SqL.of h1),_,_,rfl,rfl,_,rfl,?_⟩
 cases l with
 | nil=>
  refine ziE (by decide) ?_
  exact q _ s1
 | cons k l=>
  refine zhu (by rw [yaa,yav]; omega) ?_
  have hat0 : atI ((k :: l).map nV) 0 = some (nV k):=by
   have:=zbi (xs:=(k :: l).map nV) (j:=0) (v:=nV k) rfl
   exact this
  refine ⟨_,rfl,_,_,_,_,rfl,rfl,SqL.of h1,hat0,?_⟩
  exact q _ s1
theorem KeepT.rows {H H' : Hp} (e : ∀ b o,H b = some (.tup o)→H' b = some (.tup o)) : ∀ {as : List Addr} {rows : List (List Int)},zaG H as rows→zaG H' as rows
 | _,_,.nil=>.nil
 | _,_,.cons h t=>.cons (e _ _ h) (KeepT.rows e t)
theorem KeepT.stand {H H' : Hp} {st t rs : Addr} {ps : List Nat} {rows : List (List Int)} {as : List Addr} (S : zaJ H st ps rows t rs as) (e : ∀ b o,H b = some (.tup o)→H' b = some (.tup o)) : zaJ H' st ps rows t rs as:=
 ⟨e _ _ S.st,e _ _ S.tr,e _ _ S.rs,KeepT.rows e S.at_,S.len,S.T,S.R,S.few,S.keys⟩
theorem LS.gro {K : Frag} {L d mp : Addr} {H H' : Hp} (s : LS K L d H) (hT : ∃ tab,H mp = some (.tbl tab)) (g : Gro mp H H') : LS K L d H':=by
 obtain ⟨ns,a,l,e,q⟩:=s.ex
 obtain ⟨tab,ht⟩:=hT
 have ne : ∀ x o,H x = some o→(∀ tab,o≠.tbl tab)→x≠mp:=fun x o e n z=>by
  rw [z,ht] at e
  exact n _ (yai e).symm
 refine ⟨ns,a,l,g _ _ (ne _ _ e (fun _ z=>by cases z)) e,?_⟩
 rcases q with (h | ⟨o,h⟩) | h
 ·exact .inl (.inl (g _ _ (ne _ _ h (fun _ z=>by cases z)) h))
 ·exact .inl (.inr ⟨o,g _ _ (ne _ _ h (fun _ z=>by cases z)) h⟩)
 ·exact .inr h
def betL (row : List Int) (lo hi : Int) : List Int:=row.filter fun x=>decide (lo≤x∧x < hi)
theorem zdx {row : List Int} {key : Int} (h : ∀ x∈row,key≤x) : zaP row key = 0:=by
 unfold zaP
 rw [ybm.mpr fun x hx=>by have:=h x hx; simp; omega]
 rfl
theorem zi6 {lo hi : Int} : ∀ {row : List Int},row.Pairwise (· < ·)→(row.drop (zaP row lo)).take (zaP row hi - zaP row lo) = betL row lo hi
 | [],_=>rfl
 | x :: t,h=>by
  obtain ⟨h1,h2⟩:=ybv.mp h
  have ih:=zi6 (lo:=lo) (hi:=hi) h2
  have b1 : ∀ key,zaP (x :: t) key = (if x < key then 1 else 0) + zaP t key:=fun key=>by
   unfold zaP
   by_cases c : x < key
   ·rw [ybb (by exact yap c),if_pos c,yav]
    omega
   ·rw [ybc (by simp; omega),if_neg c]
    omega
  have f1 : betL (x :: t) lo hi = (if lo≤x∧x < hi then [x] else []) ++ betL t lo hi:=by
   unfold betL
   by_cases c : lo≤x∧x < hi
   ·rw [ybb (by exact yap c),if_pos c]
    rfl
   ·rw [ybc (by simpa using c),if_neg c]
    rfl
  rw [f1,b1,b1]
  by_cases c1 : x < lo
  ·by_cases c2 : x < hi
   ·rw [if_pos c1,if_pos c2,if_neg (show ¬ (lo≤x∧x < hi) by omega),Nat.add_comm 1 (zaP t lo),List.drop_succ_cons,ybR,← ih]
    congr 1
    omega
   ·have z : zaP t hi = 0:=zdx fun y hy=>by have:=h1 y hy; omega
    have z2 : betL t lo hi = []:=by
     unfold betL
     rw [ybm]
     intro y hy
     have:=h1 y hy
     simp
     omega
    rw [if_neg c2,z,z2,if_neg (show ¬ (lo≤x∧x < hi) by omega)]
    simp
  ·have za : zaP t lo = 0:=zdx fun y hy=>by have:=h1 y hy; omega
   rw [za,ya6] at ih
   rw [if_neg c1,za,ya6]
   by_cases c2 : x < hi
   ·rw [if_pos c2,if_pos ⟨by omega,c2⟩,← ih,ybA,ybA,Nat.add_comm 1,yce]
    rfl
   ·have z : zaP t hi = 0:=zdx fun y hy=>by have:=h1 y hy; omega
    rw [z] at ih
    rw [if_neg c2,z,if_neg (by omega),← ih]
    rfl
def spKB (K : Frag) (mp : Addr) : Sp:=fun vs H Q _=>∃ (r : Addr) (row : List Int) (lo hi : Int),vs = [.ref r,.int lo,.int hi]∧H r = some (.tup (row.map V.int))∧row.Pairwise (· < ·)∧zaA H mp zbt lamQ∧
 ∀ (p : Addr) (H' : Hp),H p = none→Gro mp H H'→zaA H' mp zbt lamQ→H' p = some (.lst ((betL row lo hi).map V.int))→Q (.ref p) H'
theorem ziZ (xs : List V) (a b : Nat) : HT.sIx xs.length 0 (some (a : Int)) = min a xs.length∧HT.sIx xs.length xs.length (some (b : Int)) = min b xs.length:=⟨zcm,zcm⟩
theorem zmu (T : Txt K mg) {mp : Addr} (D_keys_between : DF K mg "keys_between" zbk za0) (F_place : FC P w K mg base 3 "place" zcB (zf9 K mp)) : FC P w K mg base 4 "keys_between" za0 (spKB K mp):=by
 refine D_keys_between.ok sc_keys_between (fun vs H Q E h=>?_) (fun f cdv A outer s H vs Q E hr h=>?_)
 ·obtain ⟨r,row,lo,hi,rfl,_⟩:=h
  rfl
 obtain ⟨r,row,lo,hi,rfl,h0,hup,hT,q⟩:=h
 have nmp : ∀ {H' : Hp} {x : Addr} {o : HO},zaA H' mp zbt lamQ→H' x = some o→(∀ tab,o≠.tbl tab)→x≠mp:=fun {H' x o} hT e n z=>by
  obtain ⟨tab,e2,_⟩:=hT.ex
  rw [← z,e] at e2
  exact n _ (yai e2)
 have free : ∀ {H' : Hp} {c : Addr},Gro mp H H'→zaA H' mp zbt lamQ→H' c = none→H c = none:=fun {H' c} g hT' hc=>by
  cases e : H c with
  | none=>rfl
  | some o=>
   by_cases z : c = mp
   ·obtain ⟨tab,e2,_⟩:=hT'.ex
    rw [← z,hc] at e2
    cases e2
   ·have:=g _ _ z e
    rw [hc] at this
    cases this
 refine ⟨_,(zaf (zan (za6 zcx rfl T.m_list boot_list (zaa (zbm zgc (pv 0) (zbe (zas F_place hr (zaa (pv 0) (zaa (pv 1) zab)))) (zbe (zas F_place hr (zaa (pv 0) (zaa (pv 2) zab))))) zab)))),?_⟩
 refine ⟨_,rfl,_,rfl,_,rfl,r,row,lo,rfl,h0,hup,hT,fun H1 g1 hT1=>?_⟩
 have h1:=g1 _ _ (nmp hT h0 (fun _ z=>by cases z)) h0
 refine ⟨_,rfl,_,rfl,_,rfl,r,row,hi,rfl,h1,hup,hT1,fun H2 g2 hT2=>?_⟩
 have h2:=g2 _ _ (nmp hT1 h1 (fun _ z=>by cases z)) h1
 have g02:=g1.trans g2
 have hcut : cutV (row.map V.int) (some ((zaP row lo : Nat) : Int)) (some ((zaP row hi : Nat) : Int)) = (betL row lo hi).map V.int:=by
  rw [zg2,← List.map_drop,← ybI,zi6 hup]
 refine ⟨_,rfl,r,_,rfl,SqT.of h2,fun z=>?_,fun _ p hp=>?_⟩
 ·have e : (betL row lo hi).map V.int = row.map V.int:=by
   have z1 : min (zaP row lo) (row.map V.int).length = 0:=by
    have:=z.1
    rw [(ziZ (row.map V.int) (zaP row lo) (zaP row hi)).1] at this
    exact this
   have z2 : min (zaP row hi) (row.map V.int).length = (row.map V.int).length:=by
    have:=z.2
    rw [(ziZ (row.map V.int) (zaP row lo) (zaP row hi)).2] at this
    exact this
   rw [yaa] at z1 z2
   have hl : zaP row lo≤row.length:=ybX _ _
   rw [← zi6 hup,show zaP row lo = 0 by omega,ya6,ybA,yaz (by omega)]
  refine ⟨r,_,rfl,.inr (SqT.of h2),fun l hl=>?_⟩
  have sl:=zah hl (.lst (row.map V.int))
  refine q l _ (free g02 hT2 hl) (fun b o n e=>sl _ _ (g02 _ _ n e)) (hT2.ext sl.ext) ?_
  rw [zac,e]
 ·rw [hcut]
  have sp:=zah hp (.tup ((betL row lo hi).map V.int))
  refine ⟨p,_,rfl,.inr (SqT.of zac),fun l hl=>?_⟩
  have sl:=zah hl (.lst ((betL row lo hi).map V.int))
  have s2l:=Same.trans sp sl
  exact q l _ (free g02 hT2 (sp.free hl)) (fun b o n e=>s2l _ _ (g02 _ _ n e)) (hT2.ext s2l.ext) zac
theorem zfL {H : Hp} {D : Addr} {o : HO} : ∀ {ks : List Addr} {rs : List (List Int)},D∉ks→Paired (fun a (r : List Int)=>H a = some (.lst (r.map V.int))) ks rs→Paired (fun a (r : List Int)=>upd H D o a = some (.lst (r.map V.int))) ks rs
 | _,_,_,.nil=>.nil
 | k :: _,_,hn,.cons h t=>.cons (by rw [zaj (fun z : k = D=>hn (by rw [z]; exact yah))]; exact h) (zfL (fun z=>hn (yal _ z)) t)
def zdQ (K : Frag) (mp : Addr) : Sp:=fun vs H Q _=>∃ (st wa : Addr) (ps : List Nat) (rows : List (List Int)) (t rs : Addr) (as : List Addr) (w : List Nat) (lo hi : Int),vs = [.ref st,.ref wa,.int lo,.int hi]∧zaJ H st ps rows t rs as∧zb2 H wa ps w∧zaA H mp zbt lamQ∧
 ∀ (p : Addr) (ks : List Addr) (H' : Hp),H p = none→(∀ k∈ks,H k = none)→p∉ks→Gro mp H H'→zaA H' mp zbt lamQ→H' p = some (.lst (ks.map V.ref))→Paired (fun a (r : List Int)=>H' a = some (.lst (r.map V.int))) ks (w.map fun k=>betL (zaY rows k) lo hi)→Q (.ref p) H'
theorem zhk (T : Txt K mg) {mp : Addr} (D_stretch : DF K mg "stretch" zck zbE) (F_rows_on : FC P w K mg base 5 "rows_on" zaN (zdG K)) (F_keys_between : FC P w K mg base 4 "keys_between" za0 (spKB K mp)) : FC P w K mg base 6 "stretch" zbE (zdQ K mp):=by
 refine D_stretch.ok sc_stretch (fun vs H Q E h=>?_) (fun f cdv A outer s H vs Q E hr h=>?_)
 ·obtain ⟨st,wa,ps,rows,t,rs,as,w,lo,hi,rfl,_⟩:=h
  rfl
 obtain ⟨st,wa,ps,rows,t,rs,as,w,lo,hi,rfl,S,W,hT,q⟩:=h
 have hwl:=W.len
 refine ⟨_,(zaf (zan (zbj (N:=["row","low","high"]) (own:=1) (cap:=[2,3]) rfl (zbr (zas F_rows_on hr (zaa (pv 0) (zaa (pv 1) zab)))) ⟨rfl,rfl,rfl,rfl,rfl,rfl⟩ (fun _ _ _ _ _=>(zav (i:=0) (show List.Nodup (["row","low","high"] : List Str) by decide +kernel) rfl (Or.inl rfl))) (fun _ _ _ _ _=>zbR) (fun _ _ _ _ _=>(zas F_keys_between hr (zaa (pv 0) (zaa (pv 1) (zaa (pv 2) zab)))))))),?_⟩
 refine ⟨_,rfl,_,rfl,st,wa,ps,rows,t,rs,as,w,rfl,S,W,fun p bs H1 hp s1 h1 hB=>?_⟩
 have hbl:=hB.length
 rw [yaa] at hbl
 have hT1:=hT.ext s1.ext
 have nmp : ∀ {H' : Hp} {x : Addr} {o : HO},zaA H' mp zbt lamQ→H' x = some o→(∀ tab,o≠.tbl tab)→x≠mp:=fun {H' x o} hT e n z=>by
  obtain ⟨tab,e2,_⟩:=hT.ex
  rw [← z,e] at e2
  exact n _ (yai e2)
 refine ⟨p,rfl,⟨_,SqL.of h1⟩,fun D hD=>?_⟩
 have hDm : D≠mp:=fun z=>by
  obtain ⟨tab,e2,_⟩:=hT1.ex
  rw [← z,hD] at e2
  cases e2
 refine zcv (xs:=bs.map V.ref) (fun i σ H2=>∃ (ks : List Addr) (x0 : Option V),σ = [x0,some (.int lo),some (.int hi)]∧H2 D = some (.lst (ks.map V.ref))∧Paired (fun a (r : List Int)=>H2 a = some (.lst (r.map V.int))) ks ((w.take i).map fun k=>betL (zaY rows k) lo hi)∧D∉ks∧(∀ k∈ks,H k = none)∧(∀ b o,b≠D→b≠mp→H1 b = some o→H2 b = some o)∧zaA H2 mp zbt lamQ) ?_ ?_ ?_ ?_
 ·exact ⟨[],_,rfl,zac,.nil,(fun z=>nomatch z),(fun k hk=>nomatch hk),fun b o n _ e=>by rw [zaj n]; exact e,hT1.ext (zah hD _).ext⟩
 ·rintro i σ H2 _ ⟨ks,x0,rfl,_,_,_,_,k2,_⟩
  exact SqL.of (k2 _ _ (zad h1 hD) (nmp hT1 h1 (fun _ z=>by cases z)) h1)
 ·rintro i m x σ H2 hx hm ⟨ks,x0,rfl,h2,hK,hDk,hfr,k2,hT2⟩
  rw [yax] at hx
  obtain ⟨b,hb,rfl⟩:=ya1.mp hx
  obtain ⟨row,hrow,h1b⟩:=zba hB hb
  have hi' : i < w.length:=by
   have:=(yaD.mp hb).1
   omega
  rw [yax] at hrow
  obtain ⟨k,hk,rfl⟩:=ya1.mp hrow
  have hke : w.getD i 0 = k:=by rw [yan,hk]; rfl
  rw [zbN hi',yas,hke]
  have h2b:=k2 _ _ (zad h1b hD) (nmp hT1 h1b (fun _ z=>by cases z)) h1b
  have hkl:=Paired.length hK
  rw [yaa,yar] at hkl
  rw [yaa] at hm
  refine zeA ?_
  refine ⟨_,rfl,_,rfl,_,rfl,b,zaY rows k,lo,hi,rfl,h2b,S.R.at_up k,hT2,fun c H3 hc g3 hT3 h3c=>?_⟩
  have h3:=g3 _ _ hDm h2
  have nc : c≠D:=Ne.symm (zad h2 hc)
  refine ⟨_,h3,zaC (by rw [yaa]; omega),m - 1,by omega,by rw [yaa]; omega,ks ++ [c],_,rfl,?_,?_,?_,?_,fun b o n n2 e=>by rw [zaj n]; exact g3 _ _ n2 (k2 b o n n2 e),zhN hT3 h3⟩
  ·rw [zac,yas]
   rfl
  ·exact zcV (zfL hDk (zds (fun _ _ e=>g3 _ _ (nmp hT2 e (fun _ z=>by cases z)) e) hK)) (by rw [zaj nc]; exact h3c)
  ·intro z
   rcases yaf.mp z with z | z
   ·exact hDk z
   ·exact nc (yag.mp z).symm
  ·intro k hk
   rcases yaf.mp hk with z | z
   ·exact hfr k z
   ·rw [yag.mp z]
    cases e : H c with
    | none=>rfl
    | some o=>
     by_cases zz : c = mp
     ·obtain ⟨tab,e2,_⟩:=hT2.ex
      rw [← zz,hc] at e2
      cases e2
     ·have:=k2 _ _ nc zz (s1 _ _ e)
      rw [hc] at this
      cases this
 ·rintro σ H2 ⟨ks,x0,rfl,h2,hK,hDk,hfr,k2,hT2⟩
  rw [yaa,hbl,yaz (yab _)] at hK
  exact q D ks H2 (s1.free hD) hfr hDk (fun b o n e=>k2 b o (zad (s1 _ _ e) hD) n (s1 _ _ e)) hT2 h2 hK
def zkn (o : Option (Int×Int)) (e : Int×Int) : Option (Int×Int):=match o with
 | none=>some e
 | some m=>if HT.lexLt [e.1,e.2] [m.1,m.2] = true then some e else some m
def zd8 (es : List (Int×Int)) : Option (Int×Int):=es.foldl zkn none
theorem zgj (es : List (Int×Int)) (e : Int×Int) : zd8 (es ++ [e]) = zkn (zd8 es) e:=by
 unfold zd8
 rw [List.foldl_append]
 rfl
def zkp (o : Option (Int×Int)) (e : Int×Int) : Option (Int×Int):=match o with
 | none=>some e
 | some m=>if HT.lexGt [e.1,e.2] [m.1,m.2] = true then some e else some m
def zea (es : List (Int×Int)) : Option (Int×Int):=es.foldl zkp none
theorem zgr (es : List (Int×Int)) (e : Int×Int) : zea (es ++ [e]) = zkp (zea es) e:=by
 unfold zea
 rw [List.foldl_append]
 rfl
abbrev ltE (x m : Int×Int) : Prop:=x.1 < m.1∨(x.1 = m.1∧x.2 < m.2)
theorem ziv (e m : Int×Int) : (HT.lexLt [e.1,e.2] [m.1,m.2] = true)↔ltE e m:=by
 rw [HT.lexLt_cons,HT.lexLt_cons,HT.lexLt_nil_nil]
 unfold ltE
 by_cases a : e.1 = m.1
 ·rw [if_pos a]
  by_cases b : e.2 = m.2
  ·rw [if_pos b]
   constructor
   ·intro z; cases z
   ·intro z; omega
  ·rw [if_neg b,decide_eq_true_iff]
   omega
 ·rw [if_neg a,decide_eq_true_iff]
  omega
theorem ziw (e m : Int×Int) : (HT.lexGt [e.1,e.2] [m.1,m.2] = true)↔ltE m e:=by
 rw [HT.lexGt_cons,HT.lexGt_cons,HT.lexGt_nil_nil]
 unfold ltE
 by_cases a : e.1 = m.1
 ·rw [if_pos a]
  by_cases b : e.2 = m.2
  ·rw [if_pos b]
   constructor
   ·intro z; cases z
   ·intro z; omega
  ·rw [if_neg b,decide_eq_true_iff]
   omega
 ·rw [if_neg a,decide_eq_true_iff]
  omega
theorem zfV {a b : Int×Int} (h1 : ¬ ltE a b) (h2 : ¬ ltE b a) : a = b:=by
 unfold ltE at h1 h2
 exact Prod.ext (by omega) (by omega)
theorem zjK (es : List (Int×Int)) : ∀ i,i≤es.length→(zd8 (es.take i) = none∧i = 0)∨∃ m,zd8 (es.take i) = some m∧m∈es.take i∧∀ x∈es.take i,¬ ltE x m:=by
 intro i
 induction i with
 | zero=>intro _; exact .inl ⟨rfl,rfl⟩
 | succ i ih=>
  intro hi
  refine .inr ?_
  rw [ybn (by omega),zgj]
  generalize es[i] = e
  rcases ih (by omega) with ⟨h,h0⟩ | ⟨m,h,hm,hx⟩
  ·subst h0
   rw [h]
   refine ⟨e,rfl,by simp,fun x hx=>?_⟩
   have : x = e:=by simpa using hx
   subst this
   unfold ltE
   omega
  ·rw [h]
   show ∃ m',(if HT.lexLt [e.1,e.2] [m.1,m.2] = true then some e else some m) = some m'∧_
   by_cases c : HT.lexLt [e.1,e.2] [m.1,m.2] = true
   ·rw [if_pos c]
    have c':=(ziv e m).mp c
    refine ⟨e,rfl,by simp,fun x hx'=>?_⟩
    rcases yaf.mp hx' with z | z
    ·have:=hx x z
     unfold ltE at this c' ⊢
     omega
    ·rw [yag.mp z]
     unfold ltE
     omega
   ·rw [if_neg c]
    have c' : ¬ ltE e m:=fun z=>c ((ziv e m).mpr z)
    refine ⟨m,rfl,yaJ _ hm,fun x hx'=>?_⟩
    rcases yaf.mp hx' with z | z
    ·exact hx x z
    ·rw [yag.mp z]
     exact c'
theorem zjX (es : List (Int×Int)) : ∀ i,i≤es.length→(zea (es.take i) = none∧i = 0)∨∃ m,zea (es.take i) = some m∧m∈es.take i∧∀ x∈es.take i,¬ ltE m x:=by
 intro i
 induction i with
 | zero=>intro _; exact .inl ⟨rfl,rfl⟩
 | succ i ih=>
  intro hi
  refine .inr ?_
  rw [ybn (by omega),zgr]
  generalize es[i] = e
  rcases ih (by omega) with ⟨h,h0⟩ | ⟨m,h,hm,hx⟩
  ·subst h0
   rw [h]
   refine ⟨e,rfl,by simp,fun x hx=>?_⟩
   have : x = e:=by simpa using hx
   subst this
   unfold ltE
   omega
  ·rw [h]
   show ∃ m',(if HT.lexGt [e.1,e.2] [m.1,m.2] = true then some e else some m) = some m'∧_
   by_cases c : HT.lexGt [e.1,e.2] [m.1,m.2] = true
   ·rw [if_pos c]
    have c':=(ziw e m).mp c
    refine ⟨e,rfl,by simp,fun x hx'=>?_⟩
    rcases yaf.mp hx' with z | z
    ·have:=hx x z
     unfold ltE at this c' ⊢
     omega
    ·rw [yag.mp z]
     unfold ltE
     omega
   ·rw [if_neg c]
    have c' : ¬ ltE m e:=fun z=>c ((ziw e m).mpr z)
    refine ⟨m,rfl,yaJ _ hm,fun x hx'=>?_⟩
    rcases yaf.mp hx' with z | z
    ·exact hx x z
    ·rw [yag.mp z]
     exact c'
theorem zgL {es : List (Int×Int)} : (zaI es).Pairwise fun a b=>¬ ltE b a:=by
 refine List.Pairwise.imp ?_ (zcz es)
 intro a b h
 have h' : pLt b a = false:=h
 rw [zd4] at h'
 exact h'
theorem zht (es : List (Int×Int)) : zd8 es = (zaI es).head?:=by
 have h:=zjK es es.length (yab _)
 rw [yaz (yab _)] at h
 have hs:=zgL (es:=es)
 have hm:=fun x=>zdS (as:=es) (a:=x)
 have hl:=zci es
 rcases h with ⟨h,h0⟩ | ⟨m,h,hme,hx⟩
 ·rw [h,ycc (show (zaI es).length = 0 by omega)]
  rfl
 ·rw [h]
  generalize zaI es = L at hs hm hl ⊢
  cases L with
  | nil=>exact absurd ((hm m).mpr hme) (by simp)
  | cons a L=>
   obtain ⟨h1,_⟩:=ybv.mp hs
   show some m = some a
   congr 1
   refine zfV ?_ ?_
   ·rcases yaj.mp ((hm m).mpr hme) with z | z
    ·rw [z]
     unfold ltE
     omega
    ·exact h1 m z
   ·exact hx a ((hm a).mp yah)
theorem zhv (es : List (Int×Int)) : zea es = (zaI es).getLast?:=by
 have h:=zjX es es.length (yab _)
 rw [yaz (yab _)] at h
 have hs:=zgL (es:=es)
 have hm:=fun x=>zdS (as:=es) (a:=x)
 have hl:=zci es
 rcases h with ⟨h,h0⟩ | ⟨m,h,hme,hx⟩
 ·rw [h,ycc (show (zaI es).length = 0 by omega)]
  rfl
 ·rw [h]
  generalize zaI es = L at hs hm hl ⊢
  rcases List.eq_nil_or_concat L with z | ⟨L',a,z⟩
  ·subst z
   exact absurd ((hm m).mpr hme) (by simp)
  ·subst z
   simp only [List.concat_eq_append] at hs hm ⊢
   rw [show (L' ++ [a]).getLast? = some a by simp]
   show some m = some a
   congr 1
   refine zfV ?_ ?_
   ·exact hx a ((hm a).mp (by simp))
   ·rcases yaf.mp ((hm m).mpr hme) with z | z
    ·exact (yaC.mp hs).2.2 m z a (yag.mpr rfl)
    ·rw [yag.mp z]
     unfold ltE
     omega
theorem zgb {es : List (Int×Int)} {key : Int} (h : es.Pairwise (fun a b=>a.1≤b.1)) : es.take (zbb es key) = es.filter fun e=>decide (e.1 < key):=by
 unfold zbb
 induction es with
 | nil=>rfl
 | cons e es ih=>
  obtain ⟨h1,h2⟩:=ybv.mp h
  by_cases c : e.1 < key
  ·rw [ybb (by exact yap c),yav,yce,ih h2]
  ·have z : es.filter (fun e=>decide (e.1 < key)) = []:=by
    rw [ybm]
    intro x hx
    have:=h1 x hx
    simp
    omega
   rw [ybc (by simp; omega),z]
   rfl
def zj5 (rows : List (List Int)) (w : List Nat) (key : Int) : List (Int×Int):=(onE rows w).filter fun e=>decide (e.1 < key)
theorem zhc {rows : List (List Int)} {w : List Nat} {key : Int} : (zaI (onE rows w)).take (zbb (zaI (onE rows w)) key) = zaI (zj5 rows w key):=by
 rw [zgb (zch _)]
 exact zeT ((zbB _).filter _) ((zcz _).filter _)
def zdR (K : Frag) (mp : Addr) (F : List (List Int)→List Nat→Int→Option (Int×Int)) : Sp:=fun vs H Q _=>∃ (st wa : Addr) (ps : List Nat) (rows : List (List Int)) (t rs : Addr) (as : List Addr) (w : List Nat) (key : Int),vs = [.ref st,.ref wa,.int key]∧zaJ H st ps rows t rs as∧zb2 H wa ps w∧zaA H mp zcr zfN∧
 ∀ (v : V) (H' : Hp),Gro mp H H'→zaA H' mp zcr zfN→zl9 K H' (F rows w key) v→Q v H'
def zg7 (rows : List (List Int)) (w : List Nat) (key : Int) : Option (Int×Int):=zd8 (zk9 rows w key)
def zg6 (rows : List (List Int)) (w : List Nat) (key : Int) : Option (Int×Int):=zea (zj5 rows w key)
theorem zjG (T : Txt K mg) {mp : Addr} (D_above : DF K mg "above" zdW zcI) (F_entries_on : FC P w K mg base 5 "entries_on" zaz (zeS K)) (F_place_in : FC P w K mg base 3 "place_in" zaQ (zcZ K mp)) : FC P w K mg base 6 "above" zcI (zdR K mp zg7):=by
 refine D_above.ok sc_above (fun vs H Q E h=>?_) (fun f cdv A outer s H vs Q E hr h=>?_)
 ·obtain ⟨st,wa,ps,rows,t,rs,as,w,key,rfl,_⟩:=h
  rfl
 obtain ⟨st,wa,ps,rows,t,rs,as,w,key,rfl,S,W,hT,q⟩:=h
 refine ⟨_,(zag (zao (i:=3) sc_above.nd rfl (Or.inl rfl) (zas F_entries_on hr (zaa (pv 0) (zaa (pv 1) zab))))
   (zag (zao (i:=4) sc_above.nd rfl (Or.inl rfl) (zas F_place_in hr (zaa (pv 3) (zaa (pv 2) zab))))
   (zaf (zan (zcK (zap zdF (pv 4) (zam zak rfl T.m_len boot_len (zaa (pv 3) zab)) (zau _)) (zaE zaw (pv 3) (pv 4) (fun _ _=>rfl)) zco))))),?_⟩
 refine ⟨_,rfl,_,rfl,st,wa,ps,rows,t,rs,as,w,rfl,S,W,fun p ws H1 hp s1 h1 hw1=>?_⟩
 refine ⟨_,rfl,_,rfl,p,ws,_,key,rfl,h1,hw1,zch _,hT.ext s1.ext,fun H2 g2 hT2=>?_⟩
 have nmp : ∀ {x : Addr} {o : HO},H1 x = some o→(∀ tab,o≠.tbl tab)→x≠mp:=fun {x o} e n z=>by
  obtain ⟨tab,e2,_⟩:=(hT.ext s1.ext).ex
  rw [← z,e] at e2
  exact n _ (yai e2)
 have h2:=g2 _ _ (nmp h1 (fun _ z=>by cases z)) h1
 have hw2 : zal K H2 (zaI (onE rows w)) ws:=zgn (fun _ _ e=>g2 _ _ (nmp e (fun _ z=>by cases z)) e) hw1
 have g02 : Gro mp H H2:=fun b o n e=>g2 _ _ n (s1 _ _ e)
 have hF : zg7 rows w key = (zaI (onE rows w))[zbb (zaI (onE rows w)) key]?:=by
  unfold zg7
  rw [zht,← zfT,List.head?_drop]
 have q2:=fun v hv=>q v H2 g02 hT2 hv
 rw [hF] at q2
 have hwl:=hw2.length
 generalize zaI (onE rows w) = L at hw2 hwl q2 ⊢
 generalize zbb L key = at_ at q2 ⊢
 refine ⟨_,rfl,_,rfl,_,_,rfl,.inl (SqL.of h2),_,_,rfl,rfl,_,rfl,?_⟩
 refine ite2 (fun c=>?_) (fun c=>?_)
 ·have c' : (at_ : Int) < ((ws.length : Nat) : Int):=yaK c
  have hi : at_ < L.length:=by omega
  obtain ⟨v,hv1,hv2⟩ : ∃ v,ws[at_]? = some v∧hasP K H2 L[at_] v:=zba hw2 (yad hi)
  refine ⟨_,rfl,_,rfl,_,_,_,_,rfl,rfl,SqL.of h2,zbi hv1,?_⟩
  refine q2 v ?_
  rw [yad hi]
  exact hv2
 ·have c' : ¬ (at_ : Int) < ((ws.length : Nat) : Int):=ybG (yba.mpr c)
  refine q2 .non ?_
  rw [ycb (by omega)]
  rfl
theorem zjD (T : Txt K mg) {mp : Addr} (D_below : DF K mg "below" zdV zcH) (F_entries_on : FC P w K mg base 5 "entries_on" zaz (zeS K)) (F_place_in : FC P w K mg base 3 "place_in" zaQ (zcZ K mp)) : FC P w K mg base 6 "below" zcH (zdR K mp zg6):=by
 refine D_below.ok sc_below (fun vs H Q E h=>?_) (fun f cdv A outer s H vs Q E hr h=>?_)
 ·obtain ⟨st,wa,ps,rows,t,rs,as,w,key,rfl,_⟩:=h
  rfl
 obtain ⟨st,wa,ps,rows,t,rs,as,w,key,rfl,S,W,hT,q⟩:=h
 refine ⟨_,(zag (zao (i:=3) sc_below.nd rfl (Or.inl rfl) (zas F_entries_on hr (zaa (pv 0) (zaa (pv 1) zab))))
   (zag (zao (i:=4) sc_below.nd rfl (Or.inl rfl) (zas F_place_in hr (zaa (pv 3) (zaa (pv 2) zab))))
   (zaf (zan (zcK (zap zeo (pv 4) zae (zau _)) (zaE zaw (pv 3) (zar zbs (pv 4) zae) (fun _ _=>rfl)) zco))))),?_⟩
 refine ⟨_,rfl,_,rfl,st,wa,ps,rows,t,rs,as,w,rfl,S,W,fun p ws H1 hp s1 h1 hw1=>?_⟩
 refine ⟨_,rfl,_,rfl,p,ws,_,key,rfl,h1,hw1,zch _,hT.ext s1.ext,fun H2 g2 hT2=>?_⟩
 have nmp : ∀ {x : Addr} {o : HO},H1 x = some o→(∀ tab,o≠.tbl tab)→x≠mp:=fun {x o} e n z=>by
  obtain ⟨tab,e2,_⟩:=(hT.ext s1.ext).ex
  rw [← z,e] at e2
  exact n _ (yai e2)
 have h2:=g2 _ _ (nmp h1 (fun _ z=>by cases z)) h1
 have hw2 : zal K H2 (zaI (onE rows w)) ws:=zgn (fun _ _ e=>g2 _ _ (nmp e (fun _ z=>by cases z)) e) hw1
 have g02 : Gro mp H H2:=fun b o n e=>g2 _ _ n (s1 _ _ e)
 have hF : zg6 rows w key = ((zaI (onE rows w)).take (zbb (zaI (onE rows w)) key)).getLast?:=by
  unfold zg6
  rw [zhv,← zhc]
 have q2:=fun v hv=>q v H2 g02 hT2 hv
 rw [hF] at q2
 have hwl:=hw2.length
 have hle : zbb (zaI (onE rows w)) key≤(zaI (onE rows w)).length:=ybX _ _
 generalize zaI (onE rows w) = L at hw2 hwl q2 hle ⊢
 generalize zbb L key = at_ at q2 hle ⊢
 refine ⟨_,rfl,_,_,rfl,rfl,_,rfl,?_⟩
 refine ite2 (fun c=>?_) (fun c=>?_)
 ·have c' : (0 : Int) < (at_ : Int):=yaK c
  have hi : at_ - 1 < L.length:=by omega
  obtain ⟨v,hv1,hv2⟩ : ∃ v,ws[at_ - 1]? = some v∧hasP K H2 L[at_ - 1] v:=zba hw2 (yad hi)
  have hat : atI ws ((at_ : Int) - 1) = some v:=by
   rw [show (at_ : Int) - 1 = ((at_ - 1 : Nat) : Int) by omega]
   exact zbi hv1
  refine ⟨_,rfl,_,rfl,_,_,rfl,rfl,_,_,_,_,rfl,rfl,SqL.of h2,hat,?_⟩
  refine q2 v ?_
  rw [List.getLast?_eq_getElem?,yar,ybk hle,yb7,if_pos (by omega),yad hi]
  exact hv2
 ·have c' : ¬ (0 : Int) < (at_ : Int):=ybG (yba.mpr c)
  refine q2 .non ?_
  rw [show at_ = 0 by omega]
  rfl
def zer (K : Frag) : Sp:=fun vs H Q _=>∃ (t : Addr) (ps : List Nat) (k : Nat),vs = [.ref t,.int k]∧H t = some (.tup (za2 ps))∧ps.length≤900∧
 ∀ (p : Addr) (H' : Hp),H p = none→Same H H'→H' p = some (.lst ((zcw ps k (ps.length + 1)).map nV))→Q (.ref p) H'
theorem zfG (T : Txt K mg) (D_l_children : DF K mg "_law_children" zbO zby) : FC P w K mg base 1 "_law_children" zby (zer K):=by
 refine D_l_children.ok sc_l_children (fun vs H Q E h=>?_) (fun f cdv A outer s H vs Q E hr h=>?_)
 ·obtain ⟨t,ps,k,rfl,_⟩:=h
  rfl
 obtain ⟨t,ps,k,rfl,ht,hz,q⟩:=h
 refine ⟨_,(zaf (zan (zbj (N:=["_law_k","_law_tree_here","_law_knot"]) (own:=1) (cap:=[0,1]) rfl (zbY rfl T.m_range (zaa (zam zak rfl T.m_len boot_len (zaa (pv 0) zab)) zab)) ⟨rfl,rfl,rfl,rfl,rfl,rfl⟩ (fun _ _ _ _ _=>(zav (i:=0) (show List.Nodup (["_law_k","_law_tree_here","_law_knot"] : List Str) by decide +kernel) rfl (Or.inl rfl))) (fun _ _ _ _ _=>(ze3 (zap zd6 (zaE (zcs (K:=K)) (pv 1) (pv 0) (fun _ _=>rfl)) (pv 2) (zau _)))) (fun _ _ _ _ _=>(pv 0))))),?_⟩
 refine ⟨_,rfl,_,_,rfl,.inr (SqT.of ht),_,rfl,by omega,by rw [zat]; omega,fun D hD=>?_⟩
 have el : ((((za2 ps).length : Nat) : Int)).toNat = ps.length + 1:=by rw [zat,ybs]
 rw [el]
 refine zeC (n:=ps.length + 1) (fun j σ H3=>∃ x0 : Option V,σ = [x0,some (.ref t),some (.int k)]∧H3 D = some (.lst ((zcw ps k j).map nV))∧But D H H3) ?_ ?_ ?_
 ·exact ⟨_,rfl,zac,fun b o n e=>by rw [zaj n]; exact e⟩
 ·rintro j m σ H3 hm hj ⟨x0,rfl,h3,k3⟩
  rw [Int.zero_add]
  have h3t:=k3 _ _ (zad ht hD) ht
  have hlen:=zeD ps k j
  refine ⟨_,rfl,_,rfl,_,_,_,_,rfl,rfl,SqT.of h3t,zfo hj,_,rfl,zdU _ _ _,_,rfl,?_⟩
  refine ite2 (fun c=>?_) (fun c=>?_)
  ·have c' : par ps j = some k:=ze6.mp (yaK c)
   refine ⟨_,rfl,_,h3,zaC (by rw [yaa]; omega),m - 1,by omega,by omega,_,rfl,?_,fun b o n e=>by rw [zaj n]; exact k3 b o n e⟩
   rw [zac,zeh,if_pos c',yas]
   rfl
  ·have c' : ¬ par ps j = some k:=fun z=>c (yap (ze6.mpr z))
   refine ⟨m - 1,by omega,by omega,_,rfl,?_,k3⟩
   rw [h3,zeh,if_neg c',yaU]
 ·rintro σ H3 ⟨x0,rfl,h3,k3⟩
  exact q D H3 hD (fun b o e=>k3 b o (zad e hD) e) h3
def zhX (K : Frag) : Sp:=fun vs H Q _=>∃ (r : Addr) (as : List Addr) (rows : List (List Int)),vs = [.ref r]∧H r = some (.tup (as.map V.ref))∧zaG H as rows∧zeq rows≤900∧
 ∀ (p : Addr) (H' : Hp),Same H H'→H' p = some (.lst (rows.flatten.map V.int))→H p = none→Q (.ref p) H'
theorem zfP (rows : List (List Int)) : rows.flatten.length = zeq rows:=by
 unfold zeq
 rw [List.length_flatten]
theorem zhy {rows : List (List Int)} {i : Nat} {row : List Int} (h : rows[i]? = some row) : (rows.take (i + 1)).flatten = (rows.take i).flatten ++ row:=by
 obtain ⟨hi,rfl⟩:=yaD.mp h
 rw [ybn hi,yb0]
 simp
theorem zfO (rows : List (List Int)) (i : Nat) : (rows.take i).flatten.length≤zeq rows:=by
 rw [← zfP]
 conv=>rhs; rw [← yaX i rows]
 rw [yb0,yae]
 omega
theorem zjB (T : Txt K mg) (D_l_every : DF K mg "_law_every" zc4 zcF) : FC P w K mg base 1 "_law_every" zcF (zhX K):=by
 refine D_l_every.ok sc_l_every (fun vs H Q E h=>?_) (fun f cdv A outer s H vs Q E hr h=>?_)
 ·obtain ⟨r,as,rows,rfl,_⟩:=h
  rfl
 obtain ⟨r,as,rows,rfl,hr0,hA,hz,q⟩:=h
 have hal:=hA.length
 refine ⟨_,(zag (zao (i:=1) sc_l_every.nd rfl (Or.inl rfl) (zaF zab))
   (zag (zcb PassesOwn.never rfl (zkh (pv 0)) (zav (i:=2) sc_l_every.nd rfl (Or.inl rfl)) (zaf (zao (i:=1) sc_l_every.nd rfl (Or.inl rfl) (zar zbH (pv 1) (za6 zcx rfl T.m_list boot_list (zaa (pv 2) zab))))))
   (zaf (zan (pv 1))))),?_⟩
 refine ⟨(by show 0≤sizeLine; decide),fun p hp=>?_⟩
 have sp:=zah hp (.lst [])
 refine ⟨_,rfl,r,rfl,⟨_,SqT.of (sp _ _ hr0)⟩,?_⟩
 refine zla (xs:=as.map V.ref) (fun i σ H2=>∃ (c : Addr) (x2 : Option V),σ = [some (.ref r),some (.ref c),x2]∧H2 c = some (.lst (((rows.take i).flatten).map V.int))∧Same H H2∧H c = none) ?_ ?_ ?_ ?_
 ·exact ⟨p,_,rfl,zac,sp,hp⟩
 ·rintro i σ H2 _ ⟨c,x2,rfl,_,s2,_⟩
  exact SqT.of (s2 _ _ hr0)
 ·rintro i x σ H2 hx ⟨c,x2,rfl,h2,s2,hc⟩
  rw [yax] at hx
  obtain ⟨b,hb,rfl⟩:=ya1.mp hx
  obtain ⟨row,hrow,h1b⟩:=zba hA hb
  have h2b:=s2 _ _ h1b
  have e:=zhy hrow
  have hz2:=zfO rows (i + 1)
  rw [e,yae] at hz2
  refine ⟨_,rfl,_,rfl,b,_,rfl,.inr (SqT.of h2b),fun l hl=>?_⟩
  have sl:=zah hl (.lst (row.map V.int))
  refine ⟨c,l,_,_,rfl,rfl,sl _ _ h2,zac,ya0 (zaC (by rw [yaa,yaa]; omega)),fun u hu=>?_⟩
  have su:=zah hu (.lst ((rows.take i).flatten.map V.int ++ row.map V.int))
  refine ⟨u,_,rfl,?_,s2.trans (Same.trans sl su),s2.free (sl.free hu)⟩
  rw [zac,e,yas]
 ·rintro σ H2 ⟨c,x2,rfl,h2,s2,hc⟩
  rw [yaa,hal,yaz (yab _)] at h2
  refine ⟨_,rfl,?_⟩
  exact q c H2 s2 h2 hc
def zgI (K : Frag) : Sp:=fun vs H Q _=>∃ (d L : Addr),vs = [.ref d]∧LS K L d H∧
 ∀ (st : Addr) (ps : List Nat) (rows : List (List Int)) (t rs : Addr) (as : List Addr) (H' : Hp),zaJ H' st ps rows t rs as→Keep d H H'→LS K L d H'→Q (.ref st) H'
theorem zho (T : Txt K mg) (D_l_stand : DF K mg "_law_stand" zc1 zcC) (F_l_take : FC P w K mg base 2 "_law_take" zaZ (zcY K)) (F_l_tree : FC P w K mg base 3 "_law_tree" zc8 (zj6 K)) (F_l_rows : FC P w K mg base 5 "_law_rows" zc9 (zj7 K)) : FC P w K mg base 6 "_law_stand" zcC (zgI K):=by
 refine D_l_stand.ok sc_l_stand (fun vs H Q E h=>?_) (fun f cdv A outer s H vs Q E hr h=>?_)
 ·obtain ⟨d,L,rfl,_⟩:=h
  rfl
 obtain ⟨d,L,rfl,hs,q⟩:=h
 have ndT : ∀ {H' : Hp} {a : Addr} {o : List V},LS K L d H'→H' a = some (.tup o)→a≠d:=fun {H' a o} s e z=>by
  obtain ⟨_,_,_,e2,_⟩:=s.ex
  rw [← z,e] at e2
  cases e2
 have ndL : ∀ {H' : Hp} {a : Addr} {o : List V},LS K L d H'→H' a = some (.lst o)→a≠d:=fun {H' a o} s e z=>by
  obtain ⟨_,_,_,e2,_⟩:=s.ex
  rw [← z,e] at e2
  cases e2
 refine ⟨_,(zag (zlN (zaE zaw (zaF (zaa (zcn (zaa zae (zaa zae zab))) (zaa (zcn (zaa zae (zaa zae zab))) (zaa (zcn (zaa zae (zaa zae zab))) (zaa (zcn (zaa zae (zaa zae zab))) zab))))) (zas F_l_take hr (zaa (pv 0) (zaa zae zab))) (fun _ _=>rfl)) (zki rfl (zcJ (zav (i:=1) sc_l_stand.nd rfl (Or.inl rfl)) (zcJ (zav (i:=2) sc_l_stand.nd rfl (Or.inl rfl)) zgd))))
   (zag (zao (i:=3) sc_l_stand.nd rfl (Or.inl rfl) (zas F_l_tree hr (zaa (pv 0) (zaa (pv 1) zab))))
   (zaf (zan (zcn (zaa (pv 3) (zaa (zas F_l_rows hr (zaa (pv 0) (zaa (zam zak rfl T.m_len boot_len (zaa (pv 3) zab)) (zaa (pv 2) zab)))) zab))))))),?_⟩
 refine ⟨(by show 2≤sizeLine; decide),fun a1 ha1=>?_⟩
 have e1:=zah ha1 (.tup [.int 8,.int 9])
 have f1 : upd H a1 (.tup [.int 8,.int 9]) a1 = some (.tup [.int 8,.int 9]):=zac
 generalize upd H a1 (.tup [.int 8,.int 9]) = G1 at e1 f1 ⊢
 refine ⟨(by show 2≤sizeLine; decide),fun a2 ha2=>?_⟩
 have e2:=zah ha2 (.tup [.int 8,.int 9])
 have f2 : upd G1 a2 (.tup [.int 8,.int 9]) a2 = some (.tup [.int 8,.int 9]):=zac
 generalize upd G1 a2 (.tup [.int 8,.int 9]) = G2 at e2 f2 ⊢
 refine ⟨(by show 2≤sizeLine; decide),fun a3 ha3=>?_⟩
 have e3:=zah ha3 (.tup [.int 4,.int 30])
 have f3 : upd G2 a3 (.tup [.int 4,.int 30]) a3 = some (.tup [.int 4,.int 30]):=zac
 generalize upd G2 a3 (.tup [.int 4,.int 30]) = G3 at e3 f3 ⊢
 refine ⟨(by show 2≤sizeLine; decide),fun a4 ha4=>?_⟩
 have e4:=zah ha4 (.tup [.int 24,.int 4])
 have f4 : upd G3 a4 (.tup [.int 24,.int 4]) a4 = some (.tup [.int 24,.int 4]):=zac
 generalize upd G3 a4 (.tup [.int 24,.int 4]) = G4 at e4 f4 ⊢
 refine ⟨(by show 4≤sizeLine; decide),fun l hl=>?_⟩
 have e5:=zah hl (.lst [.ref a1,.ref a2,.ref a3,.ref a4])
 have f5 : upd G4 l (.lst [.ref a1,.ref a2,.ref a3,.ref a4]) l = some (.lst [.ref a1,.ref a2,.ref a3,.ref a4]):=zac
 generalize upd G4 l (.lst [.ref a1,.ref a2,.ref a3,.ref a4]) = G5 at e5 f5 ⊢
 have s0 : Same H G5:=e1.trans (Same.trans e2 (Same.trans e3 (Same.trans e4 e5)))
 have hs5:=hs.same s0
 refine ⟨_,rfl,d,L,4,rfl,by decide,hs5,fun v H1 v0 v4 k1 s1=>?_⟩
 obtain ⟨x,m,n,hat,htup,hm0,hm1,hn1,hmn⟩ : ∃ (x : Addr) (m n : Nat),atI [V.ref a1,V.ref a2,V.ref a3,V.ref a4] v = some (.ref x)∧H1 x = some (.tup [.int (m : Int),.int (n : Int)])∧0 < m∧m≤24∧n≤30∧m * n≤120:=by
  have z : v = 0∨v = 1∨v = 2∨v = 3:=by omega
  have g1:=Same.trans e2 (Same.trans e3 (Same.trans e4 e5)) _ _ f1
  have g2:=Same.trans e3 (Same.trans e4 e5) _ _ f2
  have g3:=Same.trans e4 e5 _ _ f3
  have g4:=e5 _ _ f4
  rcases z with rfl | rfl | rfl | rfl
  ·exact ⟨a1,8,9,rfl,k1 _ _ (ndT hs5 g1) g1,by decide,by decide,by decide,by decide⟩
  ·exact ⟨a2,8,9,rfl,k1 _ _ (ndT hs5 g2) g2,by decide,by decide,by decide,by decide⟩
  ·exact ⟨a3,4,30,rfl,k1 _ _ (ndT hs5 g3) g3,by decide,by decide,by decide,by decide⟩
  ·exact ⟨a4,24,4,rfl,k1 _ _ (ndT hs5 g4) g4,by decide,by decide,by decide,by decide⟩
 have k01 : Keep d H H1:=fun b o nb e=>k1 _ _ nb (s0 _ _ e)
 refine ⟨_,_,_,_,rfl,rfl,SqL.of (k1 _ _ (ndL hs5 f5) f5),hat,?_⟩
 refine ⟨x,_,rfl,SqT.of htup,rfl,_,_,rfl,_,_,rfl,rfl,?_⟩
 clear hat htup f5 f4 f3 f2 f1 e1 e2 e3 e4 e5 k1 hs5 s0
 refine ⟨_,rfl,_,rfl,d,L,m,rfl,by omega,s1,fun t ps H2 ht hT hpl h2 k2 s2=>?_⟩
 refine ⟨_,rfl,_,rfl,_,rfl,_,_,rfl,.inr (SqT.of h2),_,rfl,d,L,(za2 ps).length,n,rfl,by rw [zat]; omega,by omega,s2,fun r as rows H3 hr3 hA hrl hR hf h3 k3 s3=>?_⟩
 rw [zat] at hrl
 refine ⟨(by show 2≤sizeLine; decide),fun st hst=>?_⟩
 have ss:=zah hst (.tup [.ref t,.ref r])
 have hk:=ziA hf
 have hkk : rows.length * n≤m * n:=Nat.mul_le_mul_right n (by omega)
 exact q st ps rows t r as _ ⟨zac,ss _ _ (k3 _ _ (ndT s2 h2) h2),ss _ _ h3,hA.ext ss,hrl,hT,hR,by omega,by omega⟩ (fun b o nb e=>ss _ _ (k3 _ _ nb (k2 _ _ nb (k01 _ _ nb e)))) (s3.same ss)
theorem zi3 {ps us : List Nat} {c ch : Nat} (h : zfs ps (us ++ [c])) (hp : par ps ch = some c) : zfs ps ((us ++ [c]) ++ [ch]):=zhC h fun _=>by
 rw [hp,yae,yaH,Nat.add_sub_cancel,yan,yaL (yab _),ybF]
 rfl
def zj8 (K : Frag) : Sp:=fun vs H Q _=>∃ (d L t : Addr) (ps : List Nat),vs = [.ref d,.ref t]∧H t = some (.tup (za2 ps))∧zcR ps∧ps.length≤40∧LS K L d H∧
 ∀ (wa : Addr) (w : List Nat) (H' : Hp),H wa = none→zb2 H' wa ps w→Keep d H H'→LS K L d H'→Q (.ref wa) H'
theorem zkS (T : Txt K mg) (D_l_way : DF K mg "_law_way" zeY zdK) (F_l_take : FC P w K mg base 2 "_law_take" zaZ (zcY K)) (F_l_children : FC P w K mg base 1 "_law_children" zby (zer K)) : FC P w K mg base 3 "_law_way" zdK (zj8 K):=by
 refine D_l_way.ok sc_l_way (fun vs H Q E h=>?_) (fun f cdv A outer s H vs Q E hr h=>?_)
 ·obtain ⟨d,L,t,ps,rfl,_⟩:=h
  rfl
 obtain ⟨d,L,t,ps,rfl,ht,hT,hl,hs,q⟩:=h
 have ndT : ∀ {H' : Hp} {a : Addr} {o : List V},LS K L d H'→H' a = some (.tup o)→a≠d:=fun {H' a o} s e z=>by
  obtain ⟨_,_,_,e2,_⟩:=s.ex
  rw [← z,e] at e2
  cases e2
 have nd : ∀ {H' : Hp} {a : Addr},LS K L d H'→H' a = none→a≠d:=fun {H' a} s e z=>by
  obtain ⟨_,_,_,e2,_⟩:=s.ex
  rw [← z,e] at e2
  cases e2
 have free : ∀ {H' : Hp} {a : Addr},Keep d H H'→LS K L d H'→H' a = none→H a = none:=fun {H' a} k s e=>by
  cases e2 : H a with
  | none=>rfl
  | some o=>
   have:=k _ _ (nd s e) e2
   rw [e] at this
   cases this
 refine ⟨_,(zag (zao (i:=2) sc_l_way.nd rfl (Or.inl rfl) (zaF (zaa (zas F_l_take hr (zaa (pv 0) (zaa (zam zak rfl T.m_len boot_len (zaa (pv 1) zab)) zab))) zab)))
   (zaD (zbc (zap zd6 (zas F_l_take hr (zaa (pv 0) (zaa zae zab))) zae (zau _)) (zaf (zao (i:=2) sc_l_way.nd rfl (Or.inl rfl) (zaF (zaa zae zab)))) zax)
   (zag (zgO PassesOwn.never (PW.pt (zke (zap (zlS (List Int) (huD hr)) (zas F_l_children hr (zaa (pv 1) (zaa (zaE zaw (pv 2) (zdY zce zae) (fun _ _=>rfl)) zab))) (zaF zab) (zau _)) (zh4 (zap zeo (zas F_l_take hr (zaa (pv 0) (zaa zae zab))) zae (zau _))))) (zag (zao (i:=3) sc_l_way.nd rfl (Or.inl rfl) (zas F_l_children hr (zaa (pv 1) (zaa (zaE zaw (pv 2) (zdY zce zae) (fun _ _=>rfl)) zab))))
   (zaf (zb6 (zh8 F.plainAttrs_list F.slot_list_append F.type_list_append zcq (pv 2) (zaa (zaE zaw (pv 3) (zas F_l_take hr (zaa (pv 0) (zaa (zam zak rfl T.m_len boot_len (zaa (pv 3) zab)) zab))) (fun _ _=>rfl)) zab))))))
   (zaf (zan (pv 2)))))),?_⟩
 refine ⟨_,rfl,_,rfl,_,_,rfl,.inr (SqT.of ht),d,L,_,rfl,by rw [zat]; omega,hs,fun v H1 v0 v1 k1 s1=>?_⟩
 rw [zat] at v1
 obtain ⟨k0,rfl⟩:=zfJ v0
 refine ⟨(by show 1≤sizeLine; decide),fun p hp=>?_⟩
 have sp:=zah hp (.lst [nV k0])
 have hpp : upd H1 p (.lst [nV k0]) p = some (.lst [nV k0]):=zac
 have s1p:=s1.same sp
 have k1p : Keep d H (upd H1 p (.lst [nV k0])):=fun b o nb e=>sp _ _ (k1 _ _ nb e)
 have hp0:=free k1 s1 hp
 generalize upd H1 p (.lst [nV k0]) = H2 at hpp s1p k1p ⊢
 refine ⟨fun σ' H'=>∃ (p : Addr) (k0 : Nat),σ' = [some (.ref d),some (.ref t),some (.ref p),none]∧H' p = some (.lst [nV k0])∧k0 < ps.length + 1∧H p = none∧Keep d H H'∧LS K L d H',?_,?_⟩
 ·refine ⟨_,rfl,d,L,2,rfl,by decide,s1p,fun v H3 _ _ k3 s3=>⟨rfl,_,rfl,?_⟩⟩
  have hpd : p≠d:=nd s1 hp
  have k03 : Keep d H H3:=fun b o nb e=>k3 _ _ nb (k1p _ _ nb e)
  refine ite2 (fun _=>?_) (fun _=>?_)
  ·refine ⟨(by show 1≤sizeLine; decide),fun u hu=>?_⟩
   have su:=zah hu (.lst [nV 0])
   exact ⟨u,0,rfl,zac,by omega,free k03 s3 hu,fun b o nb e=>su _ _ (k03 _ _ nb e),s3.same su⟩
  ·exact ⟨p,k0,rfl,k3 _ _ hpd hpp,by omega,hp0,k03,s3⟩
 clear hpp s1p k1p hp0 sp hp k1 s1
 rintro σ' H3 ⟨p,k0,rfl,h3,hk0,hp,k3,s3⟩
 have hpd : p≠d:=nd hs hp
 have htp : t≠p:=zad ht hp
 have htd:=ndT hs ht
 refine zft (fun σ HW=>∃ (us : List Nat) (c : Nat) (x3 : Option V),σ = [some (.ref d),some (.ref t),some (.ref p),x3]∧HW p = some (.lst ((us ++ [c]).map nV))∧us.length≤c∧c < ps.length + 1∧zfs ps (us ++ [c])∧(∀ x∈us ++ [c],x < ps.length + 1)∧(∀ b o,b≠d→b≠p→H b = some o→HW b = some o)∧LS K L d HW)
  (fun σ HW=>∃ (w : List Nat) (x3 : Option V),σ = [some (.ref d),some (.ref t),some (.ref p),x3]∧zb2 HW p ps w∧(∀ b o,b≠d→b≠p→H b = some o→HW b = some o)∧LS K L d HW)
  (fun _ H2=>match H2 p with | some (.lst xs)=>1000 - xs.length | _=>0) ?_ ?_ ?_ ?_
 ·refine ⟨[],k0,_,rfl,h3,yaF _,hk0,fun t ht=>?_,fun x hx=>?_,fun b o nb _ e=>k3 _ _ nb e,s3⟩
  ·rw [ybR,yaH] at ht
   omega
  ·rw [yag.mp hx]
   exact hk0
 ·rintro σ HW ⟨us,c,x3,rfl,hw,hul,hc,hch,hkn,kw,sw⟩
  have hwt:=kw _ _ htd htp ht
  have done : ∀ {HX : Hp} {x3 : Option V},(∀ b o,b≠d→HW b = some o→HX b = some o)→LS K L d HX→∃ (w : List Nat) (x3' : Option V),[some (V.ref d),some (.ref t),some (.ref p),x3] = [some (.ref d),some (.ref t),some (.ref p),x3']∧zb2 HX p ps w∧(∀ b o,b≠d→b≠p→H b = some o→HX b = some o)∧LS K L d HX:=fun {HX x3} k s=>
   ⟨us ++ [c],x3,rfl,⟨k _ _ hpd hw,by rw [yae,yaH]; omega,by simp,hch,hkn⟩,fun b o n1 n2 e=>k _ _ n1 (kw _ _ n1 n2 e),s⟩
  refine ⟨_,rfl,_,rfl,_,rfl,_,_,_,_,rfl,rfl,SqL.of hw,zfp,t,ps,c,rfl,hwt,by omega,fun cl HX hcl sx hx=>?_⟩
  refine ⟨(by show 0≤sizeLine; decide),fun e he=>?_⟩
  have se:=zah he (.lst [])
  have sxe:=sx.trans se
  have swe:=sw.same sxe
  refine ⟨(zcw ps c (ps.length + 1)).map (fun n : Nat=>(n : Int)),[],⟨_,_,rfl,SqL.of (se _ _ hx),zfd⟩,⟨_,_,rfl,SqL.of zac,.nil⟩,_,rfl,?_⟩
  generalize upd HX e (.lst []) = HE at sxe swe ⊢
  refine ite2 (fun cne=>?_) (fun _=>?_)
  ·refine ⟨_,rfl,d,L,6,rfl,by decide,swe,fun v H4 _ _ k4 s4=>?_⟩
   have k04 : ∀ b o,b≠d→HW b = some o→H4 b = some o:=fun b o nb e=>k4 _ _ nb (sxe _ _ e)
   refine ⟨_,_,rfl,rfl,_,rfl,?_⟩
   refine ite2 (fun _=>?_) (fun _=>?_)
   ·have h4:=k04 _ _ hpd hw
    have h4t:=k04 _ _ htd hwt
    refine ⟨_,rfl,_,rfl,_,rfl,_,_,_,_,rfl,rfl,SqL.of h4,zfp,t,ps,c,rfl,h4t,by omega,fun c2 H5 hc2 s5 h5=>?_⟩
    have hcne : zcw ps c (ps.length + 1)≠[]:=fun z=>by
     rw [z] at cne
     cases cne
    have hcmem:=fun m=>zhB (ps:=ps) (k:=c) (n:=ps.length + 1) (j:=m)
    have hcl:=zeD ps c (ps.length + 1)
    generalize zcw ps c (ps.length + 1) = cs at hcne h5 hcmem hcl
    have hpos : 0 < cs.length:=ybe.mpr hcne
    have h5p:=s5 _ _ h4
    have s45:=s4.same s5
    refine ⟨_,rfl,.inl ⟨rfl,_,SqL.of h5p⟩,_,rfl,_,rfl,_,rfl,_,_,rfl,.inl (SqL.of h5),d,L,_,rfl,by rw [yaa]; omega,s45,fun v2 H6 v20 v21 k6 s6=>?_⟩
    rw [yaa] at v21
    obtain ⟨j,rfl⟩:=zfJ v20
    have hj : j < cs.length:=by omega
    have h6:=k6 _ _ hpd h5p
    have hc2d : c2≠d:=nd s4 hc2
    refine ⟨_,_,_,_,rfl,rfl,SqL.of (k6 _ _ hc2d h5),zja hj,?_⟩
    have hm : cs.getD j 0∈cs:=by
     rw [yan,yad hj]
     exact ybd hj
    generalize cs.getD j 0 = ch at hm ⊢
    obtain ⟨hchn,hchp⟩:=(hcmem ch).mp hm
    have hlt:=(zgU hT hchp).1
    refine ⟨_,_,_,rfl,rfl,h6,zaC (by rw [yaa,yae,yaH]; omega),?_⟩
    have k06 : ∀ b o,b≠d→HW b = some o→H6 b = some o:=fun b o nb e=>k6 _ _ nb (s5 _ _ (k04 _ _ nb e))
    refine ⟨⟨us ++ [c],ch,_,rfl,?_,?_,hchn,?_,?_,fun b o n1 n2 e=>?_,?_⟩,?_⟩
    ·rw [zac,yas (l₂:=[ch])]
     rfl
    ·rw [yae,yaH]
     omega
    ·exact zi3 hch hchp
    ·intro x hx
     rcases yaf.mp hx with z | z
     ·exact hkn x z
     ·rw [yag.mp z]
      exact hchn
    ·rw [zaj n2]
     exact k06 _ _ n1 (kw _ _ n1 n2 e)
    ·exact LS.put hs hp (fun b o n1 n2 e=>k06 _ _ n1 (kw _ _ n1 n2 e)) s6
    ·show (match upd H6 p _ p with | some (.lst xs)=>1000 - xs.length | _=>0) < (match HW p with | some (.lst xs)=>1000 - xs.length | _=>0)
     rw [zac,hw]
     show 1000 - (((us ++ [c]).map nV) ++ [nV ch]).length < 1000 - ((us ++ [c]).map nV).length
     rw [yae,yaa,yae,yaH,yaH]
     omega
   ·exact done k04 s4
  ·refine iteF ?_
   exact done (fun b o _ e=>sxe _ _ e) swe
 ·refine zhR (fun σ H Q Q' m h=>?_) (fun σ H Q Q' m h=>?_)
  ·obtain ⟨y1,e1,y2,e2,y3,e3,y4,y5,y6,y7,e4,e5,e6,e7,t,ps,k,e8,e9,e10,q⟩:=h
   refine ⟨y1,e1,y2,e2,y3,e3,y4,y5,y6,y7,e4,e5,e6,e7,t,ps,k,e8,e9,e10,fun p H' a1 a2 a3=>?_⟩
   obtain ⟨z1,z2⟩:=q p H' a1 a2 a3
   refine ⟨z1,fun e he=>?_⟩
   obtain ⟨as,bs,g1,g2,b,g3,q⟩:=z2 e he
   exact ⟨as,bs,g1,g2,b,g3,m _ _ q⟩
  ·obtain ⟨y1,e1,d,L,z,e2,e3,e4,q⟩:=h
   refine ⟨y1,e1,d,L,z,e2,e3,e4,fun v H' a1 a2 a3 a4=>?_⟩
   obtain ⟨i,j,g1,g2,b,g3,q⟩:=q v H' a1 a2 a3 a4
   exact ⟨i,j,g1,g2,b,g3,m _ _ q⟩
 rintro σ HW ⟨w,x3,rfl,W,kw,sw⟩
 refine ⟨_,rfl,?_⟩
 exact q p w HW hp W (fun b o nb e=>kw _ _ nb (zad e hp) e) sw
def zhZ (K : Frag) : Sp:=fun vs H Q _=>∃ (d L st : Addr) (ps : List Nat) (rows : List (List Int)) (t rs : Addr) (as : List Addr),vs = [.ref d,.ref st]∧zaJ H st ps rows t rs as∧LS K L d H∧
 ∀ (key : Int) (H' : Hp),Keep d H H'→LS K L d H'→Q (.int key) H'
theorem zjF (T : Txt K mg) (D_l_asked_key : DF K mg "_law_asked_key" zbx zbl) (F_l_every : FC P w K mg base 1 "_law_every" zcF (zhX K)) (F_l_take : FC P w K mg base 2 "_law_take" zaZ (zcY K)) (F_l_key : FC P w K mg base 3 "_law_key" zda (zjk K)) : FC P w K mg base 4 "_law_asked_key" zbl (zhZ K):=by
 refine D_l_asked_key.ok sc_l_asked_key (fun vs H Q E h=>?_) (fun f cdv A outer s H vs Q E hr h=>?_)
 ·obtain ⟨d,L,st,ps,rows,t,rs,as,rfl,_⟩:=h
  rfl
 obtain ⟨d,L,st,ps,rows,t,rs,as,rfl,S,hs,q⟩:=h
 have ndT : ∀ {H' : Hp} {a : Addr} {o : List V},LS K L d H'→H' a = some (.tup o)→a≠d:=fun {H' a o} s e z=>by
  obtain ⟨_,_,_,e2,_⟩:=s.ex
  rw [← z,e] at e2
  cases e2
 refine ⟨_,(zag (zao (i:=2) sc_l_asked_key.nd rfl (Or.inl rfl) (zas F_l_every hr (zaa (zaE zbQ (pv 1) zae (fun _ _=>rfl)) zab)))
   (zaD (zbc (PW.pt (zhi (zap (zkj (List Int) (huD hr)) (pv 2) (zaF zab) (zau _)) (zeu (zap zd6 (zas F_l_take hr (zaa (pv 0) (zaa zae zab))) zae (zau _))))) (zaf (zan (zas F_l_key hr (zaa (pv 0) zab)))) zax)
   (zag (zao (i:=3) sc_l_asked_key.nd rfl (Or.inl rfl) (zar zbs (zar zbI (zaE zaw (pv 2) (zas F_l_take hr (zaa (pv 0) (zaa (zam zak rfl T.m_len boot_len (zaa (pv 2) zab)) zab))) (fun _ _=>rfl)) (zas F_l_take hr (zaa (pv 0) (zaa zae zab)))) zae))
   (zaf (zan (zam (zdj rfl) rfl T.m_max boot_max (zaa (zar zbs zae (zar zdB zae zae)) (zaa (zam (zi4 rfl) rfl T.m_min boot_min (zaa (zar zbs (zar zdB zae zae) zae) (zaa (pv 3) zab))) zab)))))))),?_⟩
 refine ⟨_,rfl,_,_,_,_,rfl,rfl,SqT.of S.st,rfl,rs,as,rows,rfl,S.rs,S.at_,by have:=S.keys; omega,fun p H1 s1 h1 hp=>?_⟩
 have hs1:=hs.same s1
 have hpd : p≠d:=fun z=>by
  obtain ⟨_,_,_,e2,_⟩:=hs.ex
  rw [← z,hp] at e2
  cases e2
 have hfl:=zfP rows
 have hkeys:=S.keys
 generalize rows.flatten = fl at h1 hfl
 refine ⟨fun σ' H'=>σ' = [some (.ref d),some (.ref st),some (.ref p),none]∧H' p = some (.lst (fl.map V.int))∧fl≠[]∧Keep d H H'∧LS K L d H',?_,?_⟩
 ·refine ⟨_,rfl,(by show 0≤sizeLine; decide),fun e he=>?_⟩
  have se:=zah he (.lst [])
  refine ⟨fl,[],⟨_,_,rfl,SqL.of (se _ _ h1),zal.ints⟩,⟨_,_,rfl,SqL.of zac,.nil⟩,_,rfl,?_⟩
  have h2:=se _ _ h1
  have s2:=hs1.same se
  have k2 : Keep d H (upd H1 e (.lst [])):=fun b o _ z=>se _ _ (s1 _ _ z)
  generalize upd H1 e (.lst []) = H2 at h2 s2 k2 ⊢
  have ret : ∀ {H3 : Hp},Keep d H H3→LS K L d H3→zjk K [.ref d] H3 Q E0:=fun {H3} k s=>⟨d,L,rfl,s,fun v H' _ _ k' s'=>q v H' (fun b o nb z=>k' _ _ nb (k _ _ nb z)) s'⟩
  refine ite2 (fun _=>?_) (fun c=>?_)
  ·refine iteT ?_
   exact ⟨_,rfl,ret k2 s2⟩
  ·have hne : fl≠[]:=fun z=>c (yap z)
   refine ⟨_,rfl,d,L,4,rfl,by decide,s2,fun v H3 _ _ k3 s3=>⟨rfl,_,rfl,?_⟩⟩
   have k03 : Keep d H H3:=fun b o nb z=>k3 _ _ nb (k2 _ _ nb z)
   refine ite2 (fun _=>?_) (fun _=>?_)
   ·exact ⟨_,rfl,ret k03 s3⟩
   ·exact ⟨rfl,k3 _ _ hpd h2,hne,k03,s3⟩
 rintro σ' H2 ⟨rfl,h2,hne,k2,s2⟩
 have hpos : 0 < fl.length:=ybe.mpr hne
 refine ⟨_,rfl,_,rfl,_,rfl,_,_,rfl,.inl (SqL.of h2),d,L,_,rfl,by rw [yaa]; omega,s2,fun v H3 v0 v1 k3 s3=>?_⟩
 rw [yaa] at v1
 obtain ⟨j,rfl⟩:=zfJ v0
 have hat : atI (fl.map V.int) (j : Int) = some (.int (fl.getD j 0)):=zbi (by rw [yax,yad (show j < fl.length by omega),yan,yad (show j < fl.length by omega)]; rfl)
 refine ⟨_,_,_,_,rfl,rfl,SqL.of (k3 _ _ hpd h2),hat,_,rfl,d,L,3,rfl,by decide,s3,fun v2 H4 _ _ k4 s4=>?_⟩
 refine ⟨_,_,rfl,rfl,_,_,rfl,rfl,?_⟩
 refine ⟨_,_,rfl,rfl,⟨by decide,by decide,by decide⟩,_,_,rfl,rfl,_,_,rfl,rfl,⟨by decide,by decide,by decide⟩,_,_,rfl,rfl,_,rfl,_,_,rfl,_,_,rfl,?_⟩
 exact q _ _ (fun b o nb e=>k4 _ _ nb (k3 _ _ nb (k2 _ _ nb e))) s4
inductive AnyV (K : Frag) (H : Hp) : V→Prop where
 | int (i : Int) : AnyV K H (.int i)
 | oth (x : V) (h : ∀ i,x≠.int i) (w : zej K H x false) : AnyV K H x
def zb1 (n : Nat) (x : V) : Bool:=match x with
 | .int i=>decide (0≤i) && decide (i < n)
 | _=>false
theorem zhz {n : Nat} {x : V} (h : ∀ i,x≠.int i) : zb1 n x = false:=by
 cases x with
 | int i=>exact absurd rfl (h i)
 | _=>rfl
def zgK (K : Frag) : Sp:=fun vs H Q _=>∃ (n : Nat) (x : V),vs = [.int n,x]∧AnyV K H x∧Q (.bl (zb1 n x)) H
theorem zih (T : Txt K mg) (D_is_one_of_first : DF K mg "is_one_of_first" zaM zay) (F_is_whole : FC P w K mg base 1 "is_whole" zbF (zf8 K)) : FC P w K mg base 2 "is_one_of_first" zay (zgK K):=by
 refine D_is_one_of_first.ok sc_is_one_of_first (fun vs H Q E h=>?_) (fun f cdv A outer s H vs Q E hr h=>?_)
 ·obtain ⟨n,x,rfl,_⟩:=h
  rfl
 obtain ⟨n,x,rfl,hx,q⟩:=h
 refine ⟨_,(zaf (zan (zgT (zas F_is_whole hr (zaa (pv 1) zab)) (zgQ (zgS zlT zdF zae (pv 1) (pv 0)))))),?_⟩
 cases hx with
 | oth x h w=>
  refine ⟨_,rfl,_,false,rfl,w,_,rfl,?_⟩
  refine iteF ?_
  rw [zhz h] at q
  exact q
 | int i=>
  refine ⟨_,rfl,_,true,rfl,.int i,_,rfl,?_⟩
  refine iteT ?_
  refine ⟨_,rfl,_,_,rfl,rfl,_,rfl,?_⟩
  refine ite2 (fun c=>?_) (fun c=>?_)
  ·refine ⟨_,rfl,_,_,rfl,rfl,?_⟩
   have e : zb1 n (.int i) = decide (i < (n : Int)):=by
    show (decide (0≤i) && decide (i < (n : Int))) = _
    rw [show decide (0≤i) = true from c,Bool.true_and]
   rw [e] at q
   exact q
  ·have e : zb1 n (.int i) = false:=by
    show (decide (0≤i) && decide (i < (n : Int))) = _
    rw [show decide (0≤i) = false from yba.mpr c,ybp]
   rw [e] at q
   exact q
def ziq (ps : List Nat) (zs : List V) (i : Nat) : Bool:=match zs[i + 1]?,zs[i]? with
 | some (.int a),some y=>decide (parV ps a.toNat = y)
 | _,_=>true
def wayB (ps : List Nat) (zs : List V) : Bool:=!zs.isEmpty && zs.all (zb1 (ps.length + 1)) && (List.range (zs.length - 1)).all (ziq ps zs)
def zgJ (K : Frag) : Sp:=fun vs H Q _=>∃ (t : Addr) (ps : List Nat) (x : V),vs = [.ref t,x]∧H t = some (.tup (za2 ps))∧ps.length≤900∧
 ((∃ ty,TyOf K H x (.type ty)∧kitO ty "list" = some false∧Q (.bl false) H)∨∃ (a : Addr) (zs : List V),x = .ref a∧H a = some (.lst zs)∧zs.length≤2800∧(∀ z∈zs,AnyV K H z)∧Q (.bl (wayB ps zs)) H)
theorem zif (T : Txt K mg) (D_is_way : DF K mg "is_way" zc6 zbG) (F_is_one_of_first : FC P w K mg base 2 "is_one_of_first" zay (zgK K)) : FC P w K mg base 3 "is_way" zbG (zgJ K):=by
 refine D_is_way.ok sc_is_way (fun vs H Q E h=>?_) (fun f cdv A outer s H vs Q E hr h=>?_)
 ·obtain ⟨t,ps,x,rfl,_⟩:=h
  rfl
 obtain ⟨t,ps,x,rfl,ht,hz,h⟩:=h
 refine ⟨_,(zaD (zbc (PW.pt (zhi (zdX (zc7 (zam zdO rfl T.m_isinstance boot_isinstance (zaa (pv 1) (zaa (zd1 (v:=.ty "list") rfl T.m_list boot_list rfl) zab))))) (zeu (zap zd6 (zam zak rfl T.m_len boot_len (zaa (pv 1) zab)) zae (zau _))))) (zaf (zan zdc)) zax)
   (zag (zcb PassesOwn.never rfl (zbr (pv 1)) (zav (i:=2) sc_is_way.nd rfl (Or.inl rfl)) (zaf (zbc (zdX (zc7 (zas F_is_one_of_first hr (zaa (zam zak rfl T.m_len boot_len (zaa (pv 0) zab)) (zaa (pv 2) zab))))) (zaf (zan zdc)) zax)))
   (zag (zcb PassesOwn.never rfl (zdb rfl T.m_range (zaa zae (zaa (zam zak rfl T.m_len boot_len (zaa (pv 1) zab)) zab))) (zav (i:=3) sc_is_way.nd rfl (Or.inl rfl)) (zaf (zbc (zap zfF (zaE zbQ (pv 0) (zaE zaw (pv 1) (pv 3) (fun _ _=>rfl)) (fun _ _=>rfl)) (zaE zaw (pv 1) (zar zbs (pv 3) zae) (fun _ _=>rfl)) (zau _)) (zaf (zan zdc)) zax)))
   (zaf (zan zdc))))),?_⟩
 rcases h with ⟨ty,hty,hk,q⟩ | ⟨a,zs,rfl,ha,hl,hA,q⟩
 ·refine ⟨fun _ _=>False,?_,fun _ _ z=>z.elim⟩
  refine ⟨_,rfl,_,_,_,_,rfl,hty,hk,_,rfl,?_⟩
  exact iteT q
 ·cases zs with
  | nil=>
   refine ⟨fun _ _=>False,?_,fun _ _ z=>z.elim⟩
   refine ⟨_,rfl,_,_,_,_,rfl,.lst ha,ziy,_,rfl,?_⟩
   refine iteF ?_
   refine ⟨_,rfl,_,_,rfl,.inl (SqL.of ha),rfl,_,rfl,?_⟩
   exact zhu rfl q
  | cons z0 zs0=>
   have hne : (z0 :: zs0)≠[]:=List.cons_ne_nil _ _
   generalize z0 :: zs0 = zs at ha hl hA q hne
   have hpos : 0 < zs.length:=ybe.mpr hne
   refine ⟨fun σ' H'=>σ' = [some (.ref t),some (.ref a),none,none]∧H = H',?_,?_⟩
   ·refine ⟨_,rfl,_,_,_,_,rfl,.lst ha,ziy,_,rfl,?_⟩
    refine iteF ?_
    refine ⟨_,rfl,_,_,rfl,.inl (SqL.of ha),rfl,_,rfl,?_⟩
    refine ziE (fun z=>?_) ?_
    ·have:=V.int.inj z
     omega
    exact ⟨rfl,rfl⟩
   rintro σ' H' ⟨rfl,rfl⟩
   refine ⟨_,rfl,a,rfl,⟨_,SqL.of ha⟩,?_⟩
   refine zfj (xs:=zs) (fun i σ H2=>∃ x2 : Option V,σ = [some (.ref t),some (.ref a),x2,none]∧H = H2∧∀ j x,j < i→zs[j]? = some x→zb1 (ps.length + 1) x = true) ?_ ?_ ?_ ?_
   ·exact ⟨_,rfl,rfl,fun j x hj=>absurd hj (Nat.not_lt_zero _)⟩
   ·rintro i σ H2 _ ⟨x2,rfl,rfl,_⟩
    exact SqL.of ha
   ·rintro i x σ H2 hx ⟨x2,rfl,rfl,hb⟩
    have hxm:=yaW hx
    refine ⟨_,rfl,_,_,rfl,.inr (SqT.of ht),_,rfl,(za2 ps).length,x,rfl,hA x hxm,_,rfl,?_⟩
    rw [zat]
    cases hf : zb1 (ps.length + 1) x with
    | true=>
     refine iteF ⟨_,rfl,rfl,fun j y hj hy=>?_⟩
     rcases ybC j i with z | z
     ·exact hb j y z hy
     ·have : j = i:=by omega
      subst this
      rw [hx] at hy
      cases hy
      exact hf
    | false=>
     refine iteT ?_
     have e : wayB ps zs = false:=by
      unfold wayB
      rw [ybE.mpr ⟨x,hxm,by rw [hf]; decide⟩,ya7,ybp]
     rw [e] at q
     exact q
   rintro σ H2 ⟨x2,rfl,rfl,hb⟩
   have hall : zs.all (zb1 (ps.length + 1)) = true:=yaZ.mpr fun x hx=>by
    obtain ⟨j,hj,rfl⟩:=ya9 hx
    exact hb j _ hj (yad hj)
   have hint : ∀ j (hj : j < zs.length),∃ b : Nat,zs[j] = .int (b : Int)∧b < ps.length + 1:=fun j hj=>by
    have:=hb j _ hj (yad hj)
    generalize zs[j] = y at this
    cases y with
    | int v=>
     have:=(ya4 _ _).mp (show (decide (0≤v) && decide (v < ((ps.length + 1 : Nat) : Int))) = true from this)
     have h1:=yaK this.1
     have h2:=yaK this.2
     exact ⟨v.toNat,by rw [Int.toNat_of_nonneg h1],by omega⟩
    | _=>cases this
   refine ⟨_,rfl,_,_,rfl,.inl (SqL.of ha),1,_,rfl,⟨by omega,by omega,by omega,by omega⟩,?_⟩
   have en : (((zs.length : Nat) : Int) - 1).toNat = zs.length - 1:=by omega
   rw [en]
   refine zbq (n:=zs.length - 1) (fun i σ H2=>∃ x3 : Option V,σ = [some (.ref t),some (.ref a),x2,x3]∧H = H2∧∀ j,j < i→ziq ps zs j = true) ?_ ?_ ?_
   ·exact ⟨_,rfl,rfl,fun j hj=>absurd hj (Nat.not_lt_zero _)⟩
   ·rintro i σ H2 hi ⟨x3,rfl,rfl,hn⟩
    have e1 : (1 : Int) + (i : Int) = ((i + 1 : Nat) : Int):=by omega
    rw [e1]
    obtain ⟨b,hb1,hb2⟩:=hint (i + 1) (by omega)
    obtain ⟨c,hc1,hc2⟩:=hint i (by omega)
    have g1 : zs[i + 1]? = some (.int (b : Int)):=by rw [yad (by omega),hb1]
    have g0 : zs[i]? = some (.int (c : Int)):=by rw [yad (by omega),hc1]
    have e0 : ((i + 1 : Nat) : Int) - 1 = (i : Int):=by omega
    have hnx : ziq ps zs i = decide (parV ps b = .int (c : Int)):=by
     unfold ziq
     rw [g1,g0]
     rfl
    refine ⟨_,rfl,_,rfl,_,rfl,_,_,_,_,rfl,rfl,SqL.of ha,zbi g1,_,_,_,_,rfl,rfl,SqT.of ht,zfo hb2,_,rfl,_,rfl,_,_,rfl,rfl,_,_,_,_,rfl,rfl,SqL.of ha,(by rw [e0]; exact zbi g0),zdU _ _ _,_,rfl,?_⟩
    by_cases hq : parV ps b = .int (c : Int)
    ·refine zjP hq ⟨_,rfl,rfl,fun j hj=>?_⟩
     rcases ybC j i with z | z
     ·exact hn j z
     ·have : j = i:=by omega
      subst this
      rw [hnx]
      exact yap hq
    ·rw [yak hq]
     refine iteT ?_
     have e : wayB ps zs = false:=by
      unfold wayB
      rw [ybE.mpr ⟨i,ya3.mpr hi,by rw [hnx,yak hq]; decide⟩,ya7]
     rw [e] at q
     exact q
   rintro σ H2 ⟨x3,rfl,rfl,hn⟩
   have e : wayB ps zs = true:=by
    unfold wayB
    rw [hall,yaZ.mpr fun j hj=>hn j (ya3.mp hj)]
    cases zs with
    | nil=>exact absurd rfl hne
    | cons _ _=>rfl
   rw [e] at q
   exact q
theorem _root_.L2.TyOf.same {K : Frag} {H H' : Hp} {x : V} {n : String} (s : Same H H') (h : TyOf K H x (.type n)) : TyOf K H' x (.type n):=by
 cases h with
 | non=>exact .non
 | bl b=>exact .bl b
 | int i=>exact .int i
 | str y=>exact .str y
 | flt y=>exact .flt y
 | lst e=>exact .lst (s _ _ e)
 | frz e=>exact .frz (s _ _ e)
 | tup e=>exact .tup (s _ _ e)
 | dK e=>exact .dK (s _ _ e)
 | dT e=>exact .dT (s _ _ e)
theorem AnyV.same {K : Frag} {H H' : Hp} {x : V} (s : Same H H') (h : AnyV K H x) : AnyV K H' x:=by
 cases h with
 | int i=>exact .int i
 | oth x h w=>
  refine .oth x h ?_
  cases w with
  | bl b=>exact .bl b
  | oth x t ty h2=>
   exact .oth x t (ty.same s) h2
def NoW (K : Frag) (ps : List Nat) (x : V) (H : Hp) : Prop:=(∃ ty,TyOf K H x (.type ty)∧kitO ty "list" = some false)∨∃ (a : Addr) (zs : List V),x = .ref a∧H a = some (.lst zs)∧zs.length≤2800∧(∀ z∈zs,AnyV K H z)∧wayB ps zs = false
def zga (K : Frag) (C : Addr) : Sp:=fun vs H Q E=>∃ (t : Addr) (ps : List Nat) (x : V),vs = [.ref t,x]∧H t = some (.tup (za2 ps))∧ps.length≤900∧NoW K ps x H∧∀ H',Same H H'→E (.ref C) none H'
theorem zju (T : Txt K mg) {C_BridgeError C_NoTree C_NoWay C_NoStand C_Twice C_Missing C_NoRoom C_NoKnot C_NoKey C_NoOrder C_NoRow C_NoText : Addr} (CL : Cls K mg C_BridgeError C_NoTree C_NoWay C_NoStand C_Twice C_Missing C_NoRoom C_NoKnot C_NoKey C_NoOrder C_NoRow C_NoText) (D_need_way : DF K mg "need_way" zbW zaR) (F_is_way : FC P w K mg base 3 "is_way" zbG (zgJ K)) : FX P w K mg base 4 "need_way" zaR (zga K C_NoWay):=by
 refine D_need_way.okx sc_need_way (fun vs H Q E h=>?_) (fun f cdv A outer s H vs Q E hr h=>?_)
 ·obtain ⟨t,ps,x,rfl,_⟩:=h
  rfl
 obtain ⟨t,ps,x,rfl,ht,hp,hN,hE⟩:=h
 refine ⟨_,(zaf (zbc (zdX (zc7 (zas F_is_way hr (zaa (pv 0) (zaa (pv 1) zab))))) (zaf (zjn CL.c_NoWay thrX rfl rfl (zaa zaX zab))) zax)),?_⟩
 rcases hN with ⟨ty,h1,h2⟩ | ⟨a,zs,rfl,ha,hl,hA,hb⟩
 ·refine ⟨_,rfl,_,rfl,t,ps,x,rfl,ht,hp,.inl ⟨ty,h1,h2,_,rfl,?_⟩⟩
  refine iteT ?_
  exact ⟨(by show 1≤sizeLine; decide),hE _ fun _ _ e=>e⟩
 ·refine ⟨_,rfl,_,rfl,t,ps,_,rfl,ht,hp,.inr ⟨a,zs,rfl,ha,hl,hA,_,rfl,?_⟩⟩
  rw [hb]
  refine iteT ?_
  exact ⟨(by show 1≤sizeLine; decide),hE _ fun _ _ e=>e⟩
def zaK (K : Frag) (C : Addr) (rest : List V→Prop) : Sp:=fun vs H Q E=>∃ (st t rs : Addr) (ps : List Nat) (x : V) (r : List V),vs = .ref st :: x :: r∧rest r∧H st = some (.tup [.ref t,.ref rs])∧H t = some (.tup (za2 ps))∧ps.length≤900∧NoW K ps x H∧∀ H',Same H H'→E (.ref C) none H'
abbrev R0 (r : List V) : Prop:=r = []
abbrev R1 (r : List V) : Prop:=∃ k,r = [k]
abbrev R2 (r : List V) : Prop:=∃ k m,r = [k,m]
theorem zhl (T : Txt K mg) {C : Addr} (D_rows_on : DF K mg "rows_on" zcl zaN) (F_need_way : FX P w K mg base 4 "need_way" zaR (zga K C)) : FX P w K mg base 5 "rows_on" zaN (zaK K C R0):=by
 refine D_rows_on.okx sc_rows_on (fun vs H Q E h=>?_) (fun f cdv A outer s H vs Q E hr h=>?_)
 ·obtain ⟨st,t,rs,ps,x,r,rfl,rfl,_⟩:=h
  rfl
 obtain ⟨st,t,rs,ps,x,r,rfl,rfl,hst,ht,hp,hN,hE⟩:=h
 exact ⟨_,(zag (zb6 (zcp F_need_way hr zdr (zaa (zaE zbQ (pv 0) zae (fun _ _=>rfl)) (zaa (pv 1) zab))))
   (zaf (zan (zbj (N:=["knot","stand"]) (own:=1) (cap:=[0]) rfl (zbr (pv 1)) ⟨rfl,rfl,rfl,rfl,rfl,rfl⟩ (fun _ _ _ _ _=>(zav (i:=0) (show List.Nodup (["knot","stand"] : List Str) by decide +kernel) rfl (Or.inl rfl))) (fun _ _ _ _ _=>zbR) (fun _ _ _ _ _=>(zaE (zcs (K:=K)) (zaE (zcs (K:=K)) (pv 1) zae (fun _ _=>rfl)) (pv 0) (fun _ _=>rfl))))))),_,rfl,_,_,_,_,rfl,rfl,SqT.of hst,rfl,_,rfl,t,ps,x,rfl,ht,hp,hN,hE⟩
theorem zii (T : Txt K mg) {C : Addr} {s1 s2 : Sp} (D_entries_on : DF K mg "entries_on" zbo zaz) (F_need_way : FX P w K mg base 4 "need_way" zaR (zga K C)) (F_own_entries : FC P w K mg base 1 "own_entries" za5 s1) (F_joined_up : FC P w K mg base 1 "joined_up" zbp s2) : FX P w K mg base 5 "entries_on" zaz (zaK K C R0):=by
 refine D_entries_on.okx sc_entries_on (fun vs H Q E h=>?_) (fun f cdv A outer s H vs Q E hr h=>?_)
 ·obtain ⟨st,t,rs,ps,x,r,rfl,rfl,_⟩:=h
  rfl
 obtain ⟨st,t,rs,ps,x,r,rfl,rfl,hst,ht,hp,hN,hE⟩:=h
 exact ⟨_,(zag (zb6 (zcp F_need_way hr zdr (zaa (zaE zbQ (pv 0) zae (fun _ _=>rfl)) (zaa (pv 1) zab))))
   (zaf (zan (zas F_joined_up hr (zaa (zbj (N:=["knot","stand"]) (own:=1) (cap:=[0]) rfl (zbr (pv 1)) ⟨rfl,rfl,rfl,rfl,rfl,rfl⟩ (fun _ _ _ _ _=>(zav (i:=0) (show List.Nodup (["knot","stand"] : List Str) by decide +kernel) rfl (Or.inl rfl))) (fun _ _ _ _ _=>zbR) (fun _ _ _ _ _=>(zas F_own_entries hr (zaa (pv 1) (zaa (pv 0) zab))))) zab))))),_,rfl,_,_,_,_,rfl,rfl,SqT.of hst,rfl,_,rfl,t,ps,x,rfl,ht,hp,hN,hE⟩
theorem zhm (T : Txt K mg) {C : Addr} {s1 : Sp} (D_places : DF K mg "places" zc0 zbX) (F_rows_on : FX P w K mg base 5 "rows_on" zaN (zaK K C R0)) (F_place : FC P w K mg base 3 "place" zcB s1) : FX P w K mg base 6 "places" zbX (zaK K C R1):=by
 refine D_places.okx sc_places (fun vs H Q E h=>?_) (fun f cdv A outer s H vs Q E hr h=>?_)
 ·obtain ⟨st,t,rs,ps,x,r,rfl,⟨k,rfl⟩,_⟩:=h
  rfl
 obtain ⟨st,t,rs,ps,x,r,rfl,⟨k,rfl⟩,hst,ht,hp,hN,hE⟩:=h
 exact ⟨_,(zaf (zan (zbj (N:=["row","key"]) (own:=1) (cap:=[2]) rfl (zbr (zcp F_rows_on hr zdr (zaa (pv 0) (zaa (pv 1) zab)))) ⟨rfl,rfl,rfl,rfl,rfl,rfl⟩ (fun _ _ _ _ _=>(zav (i:=0) (show List.Nodup (["row","key"] : List Str) by decide +kernel) rfl (Or.inl rfl))) (fun _ _ _ _ _=>zbR) (fun _ _ _ _ _=>(zas F_place hr (zaa (pv 0) (zaa (pv 1) zab))))))),_,rfl,_,rfl,st,t,rs,ps,x,[],rfl,rfl,hst,ht,hp,hN,hE⟩
theorem zkP (T : Txt K mg) {C : Addr} (D_who_has : DF K mg "who_has" zcj za9) (F_rows_on : FX P w K mg base 5 "rows_on" zaN (zaK K C R0)) : FX P w K mg base 6 "who_has" za9 (zaK K C R1):=by
 refine D_who_has.okx sc_who_has (fun vs H Q E h=>?_) (fun f cdv A outer s H vs Q E hr h=>?_)
 ·obtain ⟨st,t,rs,ps,x,r,rfl,⟨k,rfl⟩,_⟩:=h
  rfl
 obtain ⟨st,t,rs,ps,x,r,rfl,⟨k,rfl⟩,hst,ht,hp,hN,hE⟩:=h
 exact ⟨_,(zag (zao (i:=3) sc_who_has.nd rfl (Or.inl rfl) (zcp F_rows_on hr zdr (zaa (pv 0) (zaa (pv 1) zab))))
   (zaf (zan (zbj (N:=["knot","row","key"]) (own:=2) (cap:=[2]) rfl (zkg rfl T.m_zip (zaa (pv 1) (zaa (pv 3) zab))) ⟨rfl,rfl,rfl,rfl,rfl,rfl⟩ (fun _ _ _ _ _=>(zh7 (K:=K) (n:=2) rfl (zcJ (zav (i:=0) (show List.Nodup (["knot","row","key"] : List Str) by decide +kernel) rfl (Or.inl rfl)) (zcJ (zav (i:=1) (show List.Nodup (["knot","row","key"] : List Str) by decide +kernel) rfl (Or.inl rfl)) zgd)))) (fun _ _ _ _ _=>(ze3 (zap (zew (K:=K)) (pv 2) (pv 1) (by with_unfolding_all rfl)))) (fun _ _ _ _ _=>(pv 0)))))),_,rfl,_,rfl,st,t,rs,ps,x,[],rfl,rfl,hst,ht,hp,hN,hE⟩
theorem zhp (T : Txt K mg) {C : Addr} (D_first_with : DF K mg "first_with" zbn za1) (F_who_has : FX P w K mg base 6 "who_has" za9 (zaK K C R1)) : FX P w K mg base 7 "first_with" za1 (zaK K C R1):=by
 refine D_first_with.okx sc_first_with (fun vs H Q E h=>?_) (fun f cdv A outer s H vs Q E hr h=>?_)
 ·obtain ⟨st,t,rs,ps,x,r,rfl,⟨k,rfl⟩,_⟩:=h
  rfl
 obtain ⟨st,t,rs,ps,x,r,rfl,⟨k,rfl⟩,hst,ht,hp,hN,hE⟩:=h
 exact ⟨_,(zag (zao (i:=3) sc_first_with.nd rfl (Or.inl rfl) (zcp F_who_has hr zdr (zaa (pv 0) (zaa (pv 1) (zaa (pv 2) zab)))))
   (zaf (zan (zcK (zap zeo (zam zak rfl T.m_len boot_len (zaa (pv 3) zab)) zae (zau _)) (zaE zaw (pv 3) zae (fun _ _=>rfl)) zco)))),_,rfl,_,rfl,_,rfl,st,t,rs,ps,x,_,rfl,⟨k,rfl⟩,hst,ht,hp,hN,hE⟩
theorem zgf (T : Txt K mg) {C : Addr} {s1 : Sp} (D_stretch : DF K mg "stretch" zck zbE) (F_rows_on : FX P w K mg base 5 "rows_on" zaN (zaK K C R0)) (F_keys_between : FC P w K mg base 4 "keys_between" za0 s1) : FX P w K mg base 6 "stretch" zbE (zaK K C R2):=by
 refine D_stretch.okx sc_stretch (fun vs H Q E h=>?_) (fun f cdv A outer s H vs Q E hr h=>?_)
 ·obtain ⟨st,t,rs,ps,x,r,rfl,⟨k,m,rfl⟩,_⟩:=h
  rfl
 obtain ⟨st,t,rs,ps,x,r,rfl,⟨k,m,rfl⟩,hst,ht,hp,hN,hE⟩:=h
 exact ⟨_,(zaf (zan (zbj (N:=["row","low","high"]) (own:=1) (cap:=[2,3]) rfl (zbr (zcp F_rows_on hr zdr (zaa (pv 0) (zaa (pv 1) zab)))) ⟨rfl,rfl,rfl,rfl,rfl,rfl⟩ (fun _ _ _ _ _=>(zav (i:=0) (show List.Nodup (["row","low","high"] : List Str) by decide +kernel) rfl (Or.inl rfl))) (fun _ _ _ _ _=>zbR) (fun _ _ _ _ _=>(zas F_keys_between hr (zaa (pv 0) (zaa (pv 1) (zaa (pv 2) zab)))))))),_,rfl,_,rfl,st,t,rs,ps,x,[],rfl,rfl,hst,ht,hp,hN,hE⟩
theorem zik (T : Txt K mg) {C : Addr} {s1 : Sp} (D_above : DF K mg "above" zdW zcI) (F_entries_on : FX P w K mg base 5 "entries_on" zaz (zaK K C R0)) (F_place_in : FC P w K mg base 3 "place_in" zaQ s1) : FX P w K mg base 6 "above" zcI (zaK K C R1):=by
 refine D_above.okx sc_above (fun vs H Q E h=>?_) (fun f cdv A outer s H vs Q E hr h=>?_)
 ·obtain ⟨st,t,rs,ps,x,r,rfl,⟨k,rfl⟩,_⟩:=h
  rfl
 obtain ⟨st,t,rs,ps,x,r,rfl,⟨k,rfl⟩,hst,ht,hp,hN,hE⟩:=h
 exact ⟨_,(zag (zao (i:=3) sc_above.nd rfl (Or.inl rfl) (zcp F_entries_on hr zdr (zaa (pv 0) (zaa (pv 1) zab))))
   (zag (zao (i:=4) sc_above.nd rfl (Or.inl rfl) (zas F_place_in hr (zaa (pv 3) (zaa (pv 2) zab))))
   (zaf (zan (zcK (zap zdF (pv 4) (zam zak rfl T.m_len boot_len (zaa (pv 3) zab)) (zau _)) (zaE zaw (pv 3) (pv 4) (fun _ _=>rfl)) zco))))),_,rfl,_,rfl,st,t,rs,ps,x,[],rfl,rfl,hst,ht,hp,hN,hE⟩
theorem zij (T : Txt K mg) {C : Addr} {s1 : Sp} (D_below : DF K mg "below" zdV zcH) (F_entries_on : FX P w K mg base 5 "entries_on" zaz (zaK K C R0)) (F_place_in : FC P w K mg base 3 "place_in" zaQ s1) : FX P w K mg base 6 "below" zcH (zaK K C R1):=by
 refine D_below.okx sc_below (fun vs H Q E h=>?_) (fun f cdv A outer s H vs Q E hr h=>?_)
 ·obtain ⟨st,t,rs,ps,x,r,rfl,⟨k,rfl⟩,_⟩:=h
  rfl
 obtain ⟨st,t,rs,ps,x,r,rfl,⟨k,rfl⟩,hst,ht,hp,hN,hE⟩:=h
 exact ⟨_,(zag (zao (i:=3) sc_below.nd rfl (Or.inl rfl) (zcp F_entries_on hr zdr (zaa (pv 0) (zaa (pv 1) zab))))
   (zag (zao (i:=4) sc_below.nd rfl (Or.inl rfl) (zas F_place_in hr (zaa (pv 3) (zaa (pv 2) zab))))
   (zaf (zan (zcK (zap zeo (pv 4) zae (zau _)) (zaE zaw (pv 3) (zar zbs (pv 4) zae) (fun _ _=>rfl)) zco))))),_,rfl,_,rfl,st,t,rs,ps,x,[],rfl,rfl,hst,ht,hp,hN,hE⟩
theorem zep (T : Txt K mg) {C : Addr} {s1 : Sp} (D_joined_from : DF K mg "joined_from" zbd zaV) (F_entries_on : FX P w K mg base 5 "entries_on" zaz (zaK K C R0)) (F_place_in : FC P w K mg base 3 "place_in" zaQ s1) : FX P w K mg base 6 "joined_from" zaV (zaK K C R2):=by
 refine D_joined_from.okx sc_joined_from (fun vs H Q E h=>?_) (fun f cdv A outer s H vs Q E hr h=>?_)
 ·obtain ⟨st,t,rs,ps,x,r,rfl,⟨k,m,rfl⟩,_⟩:=h
  rfl
 obtain ⟨st,t,rs,ps,x,r,rfl,⟨k,m,rfl⟩,hst,ht,hp,hN,hE⟩:=h
 exact ⟨_,(zag (zao (i:=4) sc_joined_from.nd rfl (Or.inl rfl) (zcp F_entries_on hr zdr (zaa (pv 0) (zaa (pv 1) zab))))
   (zag (zao (i:=5) sc_joined_from.nd rfl (Or.inl rfl) (zas F_place_in hr (zaa (pv 4) (zaa (pv 2) zab))))
   (zaf (zan (zbm zcS (pv 4) (zbe (pv 5)) (zbe (zar zbI (pv 5) (zam (zdj rfl) rfl T.m_max boot_max (zaa (pv 3) (zaa zae zab)))))))))),_,rfl,_,rfl,st,t,rs,ps,x,[],rfl,rfl,hst,ht,hp,hN,hE⟩
def Kp0 (H H' : Hp) : Prop:=∀ b o,(∀ tab,o≠.tbl tab)→H b = some o→H' b = some o
theorem zcf {H : Hp} {Pt : Addr} {pos : Pos} {q : Str} (x : zaA H Pt pos q) : ∃ tab,H Pt = some (.tbl tab):=by
 obtain ⟨tab,e,_⟩:=x.ex
 exact ⟨tab,e⟩
theorem Kp0.trans {H H1 H2 : Hp} (a : Kp0 H H1) (b : Kp0 H1 H2) : Kp0 H H2:=fun c o n h=>b c o n (a c o n h)
theorem Kp0.of {H H1 : Hp} (a : Same H H1) : Kp0 H H1:=fun c o _ h=>a c o h
theorem Kp0.tup {H H1 : Hp} (a : Kp0 H H1) {b : Addr} {us : List V} (h : H b = some (.tup us)) : H1 b = some (.tup us):=a _ _ (fun _ z=>nomatch z) h
theorem Kp0.lst {H H1 : Hp} (a : Kp0 H H1) {b : Addr} {us : List V} (h : H b = some (.lst us)) : H1 b = some (.lst us):=a _ _ (fun _ z=>nomatch z) h
theorem zh2 {H H' : Hp} (e : Kp0 H H') : ∀ {as : List Addr} {rows : List (List Int)},zaG H as rows→zaG H' as rows
 | _,_,.nil=>.nil
 | _,_,.cons h t=>.cons (e.tup h) (zh2 e t)
theorem zgG {H H' : Hp} {st t rs : Addr} {ps : List Nat} {rows : List (List Int)} {as : List Addr} (e : Kp0 H H') (S : zaJ H st ps rows t rs as) : zaJ H' st ps rows t rs as:=
 ⟨e.tup S.st,e.tup S.tr,e.tup S.rs,zh2 e S.at_,S.len,S.T,S.R,S.few,S.keys⟩
theorem zl0 {L d : Addr} {H H' : Hp} (s : LS K L d H) (g : Kp0 H H') : LS K L d H':=by
 obtain ⟨ns,a,l,e,q⟩:=s.ex
 refine ⟨ns,a,l,g _ _ (fun _ z=>nomatch z) e,?_⟩
 rcases q with (q | ⟨o,q⟩) | q
 ·exact .inl (.inl (g _ _ (fun _ z=>nomatch z) q))
 ·exact .inl (.inr ⟨o,g _ _ (fun _ z=>nomatch z) q⟩)
 ·exact .inr q
def Gv (t : TE) (σ : L2.St) (H : Hp) (R : V→Hp→Prop) : Prop:=∀ H1,Same H H1→∀ Q : VK,(∀ x H2,Same H1 H2→R x H2→Q x H2)→t σ H1 Q
def GvA (t : TA) (σ : L2.St) (H : Hp) (R : List V→Hp→Prop) : Prop:=∀ H1,Same H H1→∀ Q : List V→Hp→Prop,(∀ x H2,Same H1 H2→R x H2→Q x H2)→t σ H1 Q
def GvO (t : TO) (σ : L2.St) (H : Hp) (o : Option Int) : Prop:=∀ H1,Same H H1→∀ Q : Option Int→Hp→Prop,Q o H1→t σ H1 Q
theorem Same.refl (H : Hp) : Same H H:=fun _ _ h=>h
theorem Gv.mono {t : TE} {σ : L2.St} {H : Hp} {R R' : V→Hp→Prop} (h : Gv t σ H R) (m : ∀ x H2,Same H H2→R x H2→R' x H2) : Gv t σ H R':=fun H1 s Q q=>h H1 s Q fun x H2 s2 r=>q x H2 s2 (m x H2 (s.trans s2) r)
theorem zdg {i : Nat} {σ : L2.St} {H : Hp} {x : V} {R : V→Hp→Prop} (e : σ[i]? = some (some x)) (r : ∀ H1,Same H H1→R x H1) : Gv (tVar i) σ H R:=fun H1 s Q q=>⟨x,e,q x H1 (Same.refl _) (r H1 s)⟩
theorem zdf {σ : L2.St} {H : Hp} : GvO zhQ σ H none:=fun _ _ _ q=>q
def LP (n : Nat) (E : V→Hp→Prop) (x : V) (H : Hp) : Prop:=∃ a zs,x = .ref a∧H a = some (.lst zs)∧zs.length≤n∧∀ z∈zs,E z H
def zek (E : V→Hp→Prop) : Prop:=∀ x H H',Same H H'→E x H→E x H'
theorem zjZ {xs : List V} {lo hi : Option Int} {z : V} (h : z∈cutV xs lo hi) : z∈xs:=yby (ybj h)
theorem zg3 (xs : List V) (lo hi : Option Int) : (cutV xs lo hi).length≤xs.length:=by
 unfold cutV
 rw [yar,yaG]
 omega
theorem zgp {σ : L2.St} {H : Hp} {E : V→Hp→Prop} : GvA tNil σ H (fun xs H'=>xs.length = 0∧∀ x∈xs,E x H'):=fun H1 _ Q q=>q [] H1 (Same.refl _) ⟨rfl,fun _ h=>absurd h yaM⟩
theorem zaB {σ : L2.St} {H : Hp} {E : V→Hp→Prop} {n : Nat} {t : TE} {ts : TA} (hE : zek E) (h : Gv t σ H E) (hs : GvA ts σ H (fun xs H'=>xs.length = n∧∀ x∈xs,E x H')) : GvA (zkz t ts) σ H (fun xs H'=>xs.length = n + 1∧∀ x∈xs,E x H'):=fun H1 s1 Q q=>
 h H1 s1 _ fun x H2 s2 r=>hs H2 (s1.trans s2) _ fun xs H3 s3 r3=>q _ _ (s2.trans s3) ⟨by rw [yav,r3.1],fun z hz=>by
  rcases yaj.mp hz with rfl | h
  ·exact hE _ _ _ s3 r
  ·exact r3.2 z h⟩
theorem LP.mono {n : Nat} {E : V→Hp→Prop} (hE : zek E) : zek (LP n E):=fun x H H' s h=>by
 obtain ⟨a,zs,rfl,ha,la,ea⟩:=h
 exact ⟨a,zs,rfl,s _ _ ha,la,fun z hz=>hE _ _ _ s (ea z hz)⟩
theorem LP.le {n m : Nat} {E : V→Hp→Prop} {x : V} {H : Hp} (h : LP n E x H) (hn : n≤m:=by decide) : LP m E x H:=by
 obtain ⟨a,zs,rfl,ha,la,ea⟩:=h
 exact ⟨a,zs,rfl,ha,yaB la hn,ea⟩
def El (b : Bool) (z : V) (H : Hp) : Prop:=∃ d as,RD H z d as∧d.showable = true∧(b = false→d.hasDict = false)∧(b = true→∀ x∈as,H x = some (.dK []))∧d.depth≤3∧d.shown.length≤4000
theorem El.same {b : Bool} : zek (El b):=fun x H H' s h=>by
 obtain ⟨d,as,r,h1,h2,h3,h4⟩:=h
 exact ⟨d,as,r.same s,h1,h2,fun e x hx=>s _ _ (h3 e x hx),h4⟩
theorem zlJ {K : Frag} {H : Hp} {x : V} {d : PyData} {as : List Addr} (r : RD H x d as) : AnyV K H x:=by
 cases r with
 | non=>exact .oth _ (fun _ z=>nomatch z) (.oth _ _ .non (by decide +kernel))
 | bl b=>exact .oth _ (fun _ z=>nomatch z) (.bl b)
 | int i=>exact .int i
 | str x=>exact .oth _ (fun _ z=>nomatch z) (.oth _ _ (.str x) (by decide +kernel))
 | lst e _=>exact .oth _ (fun _ z=>nomatch z) (.oth _ _ (.lst e) (by decide +kernel))
 | tup e _=>exact .oth _ (fun _ z=>nomatch z) (.oth _ _ (.tup e) (by decide +kernel))
 | dic e=>exact .oth _ (fun _ z=>nomatch z) (.oth _ _ (.dK e) (by decide +kernel))
theorem els {b : Bool} {H : Hp} : ∀ {zs : List V},(∀ z∈zs,El b z H)→∃ ds as,RDs H zs ds as∧PyData.showableAll ds = true∧(b = false→PyData.hasDictAll ds = false)∧(b = true→∀ x∈as,H x = some (.dK []))∧PyData.depthAll ds≤3∧((PyData.shownAll ds).map (·.length)).sum≤4000 * zs.length∧(PyData.shownAll ds).length = zs.length
 | [],_=>⟨[],[],.nil,by simp [PyData.showableAll],fun _=>by simp [PyData.hasDictAll],fun _ _ h=>absurd h yaM,by simp [PyData.depthAll],by simp [PyData.shownAll],by simp [PyData.shownAll]⟩
 | z :: zs,h=>by
  obtain ⟨d,as,r,h1,h2,h3,h4,h5⟩:=h z yah
  obtain ⟨ds,bs,rs,g1,g2,g3,g4,g5,g6⟩:=els (zs:=zs) fun y hy=>h y (yal _ hy)
  refine ⟨d :: ds,as ++ bs,.cons r rs,by simp [PyData.showableAll,h1,g1],fun e=>by simp [PyData.hasDictAll,h2 e,g2 e],fun e x hx=>?_,?_,?_,?_⟩
  ·rcases yaf.mp hx with h | h
   ·exact h3 e x h
   ·exact g3 e x h
  ·simp only [PyData.depthAll]
   omega
  ·simp only [PyData.shownAll,yaA,ybZ,yav]
   omega
  ·simp only [PyData.shownAll,yav,g6]
theorem zd7 {n : Nat} (h : n < 64) : (PyData.shown (.int (n : Int))).length≤2∧(PyData.int (n : Int)).showable = true:=by
 have : ∀ n : Fin 64,(PyData.shown (.int ((n : Nat) : Int))).length≤2∧(PyData.int ((n : Nat) : Int)).showable = true:=by decide +kernel
 exact this ⟨n,h⟩
theorem El.nat {b : Bool} {H : Hp} {n : Nat} (h : n < 64) : El b (nV n) H:=⟨_,[],.int _,(zd7 h).2,fun _=>by simp [PyData.hasDict],fun _ _ h=>absurd h yaM,by simp [PyData.depth],yaB (zd7 h).1 (by decide)⟩
theorem El.of {b : Bool} {H : Hp} {x : V} {d : PyData} (r : RD H x d []) (h1 : d.showable = true) (h2 : d.hasDict = false) (h3 : d.depth≤3) (h4 : d.shown.length≤4000) : El b x H:=⟨d,[],r,h1,fun _=>h2,fun _ _ h=>absurd h yaM,h3,h4⟩
theorem zfc {H : Hp} : ∀ {ws : List Nat},(∀ n∈ws,n < 64)→∃ ds,RDs H (ws.map nV) ds []∧PyData.showableAll ds = true∧PyData.hasDictAll ds = false∧PyData.depthAll ds≤1∧((PyData.shownAll ds).map (·.length)).sum≤2 * ws.length∧(PyData.shownAll ds).length = ws.length
 | [],_=>⟨[],.nil,by simp [PyData.showableAll],by simp [PyData.hasDictAll],by simp [PyData.depthAll],by simp [PyData.shownAll],by simp [PyData.shownAll]⟩
 | n :: ws,h=>by
  have hn:=zd7 (h n yah)
  obtain ⟨ds,rs,g1,g2,g4,g5,g6⟩:=zfc (H:=H) (ws:=ws) fun y hy=>h y (yal _ hy)
  refine ⟨.int (n : Int) :: ds,.cons (as:=[]) (bs:=[]) (.int _) rs,by simp [PyData.showableAll,hn.2,g1],by simp [PyData.hasDictAll,PyData.hasDict,g2],?_,?_,?_⟩
  ·simp only [PyData.depthAll,PyData.depth]
   omega
  ·simp only [PyData.shownAll,yaA,ybZ,yav]
   omega
  ·simp only [PyData.shownAll,yav,g6]
theorem El.way {H : Hp} {a : Addr} {ws : List Nat} (h : H a = some (.lst (ws.map nV))) (hl : ws.length≤900) (hn : ∀ n∈ws,n < 64) : El false (.ref a) H:=by
 obtain ⟨ds,rs,g1,g2,g4,g5,g6⟩:=zfc (H:=H) hn
 refine ⟨.list ds,[a],.lst h rs,by simpa [PyData.showable] using g1,fun _=>by simpa [PyData.hasDict] using g2,(fun z=>nomatch z),by simp only [PyData.depth]; omega,?_⟩
 have:=listText_len_le (PyData.shownAll ds)
 simp only [PyData.shown]
 omega
theorem zec {n : Nat} {i : Int} (h : (n : Int)≤i) : zb1 n (.int i) = false:=by
 have e : zb1 n (.int i) = (decide (0≤i) && decide (i < (n : Int))):=rfl
 rw [e,yak (show ¬ i < (n : Int) by omega),ya7]
theorem ziO {n : Nat} {i : Int} (h : i < 0) : zb1 n (.int i) = false:=by
 have e : zb1 n (.int i) = (decide (0≤i) && decide (i < (n : Int))):=rfl
 rw [e,yak (show ¬ 0≤i by omega),ybp]
theorem El.tupw {H : Hp} {a : Addr} {ws : List Nat} (h : H a = some (.tup (ws.map nV))) (hl : ws.length≤900) (hn : ∀ n∈ws,n < 64) : El false (.ref a) H:=by
 obtain ⟨ds,rs,g1,g2,g4,g5,g6⟩:=zfc (H:=H) hn
 refine ⟨.tuple ds,[],.tup h rs,by simpa [PyData.showable] using g1,fun _=>by simpa [PyData.hasDict] using g2,(fun z=>nomatch z),by simp only [PyData.depth]; omega,?_⟩
 have:=tupleText_len_le (PyData.shownAll ds)
 simp only [PyData.shown]
 omega
def Txt3 (x : V) (H : Hp) : Prop:=∃ t : Str,∀ H',Same H H'→∀ Q : VK,Q (.str t) H'→(zlL [x] H' Q∨zkd [x] H' Q)
theorem Txt3.same : zek Txt3:=fun x H H' s ⟨t,ht⟩=>⟨t,fun H2 s2=>ht H2 (s.trans s2)⟩
theorem zkX {a : Addr} {zs : List V} {H : Hp} (ha : H a = some (.lst zs)) (la : zs.length≤2000) (ea : ∀ z∈zs,El false z H) : Txt3 (.ref a) H:=by
 obtain ⟨ds,as,rs,g1,g2,g3,g4,g5,g6⟩:=els ea
 refine ⟨(PyData.list ds).shown,fun H' s Q q=>.inl ⟨a,.list ds,a :: as,rfl,.lst (s _ _ ha) (rs.same s),by simpa [PyData.showable] using g1,PyData.noDict_hsm (by simpa [PyData.hasDict] using g2 rfl),by simp only [PyData.depth]; omega,?_,q⟩⟩
 have:=listText_len_le (PyData.shownAll ds)
 have e : sizeLine = 16777216:=by decide
 simp only [PyData.shown]
 omega
theorem zkx {a : Addr} {ws : List Nat} {H : Hp} (h : H a = some (.tup (ws.map nV))) (hl : ws.length≤900) (hn : ∀ n∈ws,n < 64) : Txt3 (.ref a) H:=by
 obtain ⟨ds,rs,g1,g2,g4,g5,g6⟩:=zfc (H:=H) hn
 refine ⟨(PyData.tuple ds).shown,fun H' s Q q=>.inl ⟨a,.tuple ds,[],rfl,.tup (s _ _ h) (rs.same s),by simpa [PyData.showable] using g1,PyData.noDict_hsm (by simpa [PyData.hasDict] using g2),by simp only [PyData.depth]; omega,?_,q⟩⟩
 have:=tupleText_len_le (PyData.shownAll ds)
 have e : sizeLine = 16777216:=by decide
 simp only [PyData.shown]
 omega
def del (H : Hp) (L : List Addr) : Hp:=fun b=>if b∈L then none else H b
theorem zcc {H : Hp} {L : List Addr} {b : Addr} (h : b∉L) : del H L b = H b:=if_neg h
theorem zed {H : Hp} {L : List Addr} {b : Addr} {o : HO} (e : del H L b = some o) : b∉L∧H b = some o:=by
 unfold del at e
 by_cases c : b∈L
 ·rw [if_pos c] at e
  cases e
 ·rw [if_neg c] at e
  exact ⟨c,e⟩
theorem zir {H : Hp} {p : Addr} (h : H p = none) (o : HO) : Same H (del (upd H p o) [p]):=fun b o' e=>by
 have n:=zad e h
 rw [zcc (fun z=>n (yag.mp z)),zaj n]
 exact e
theorem zli {H : Hp} {L : Addr} {o : HO} : Same (del H [L]) (del (upd H L o) [L]):=fun b o' e=>by
 obtain ⟨n,h⟩:=zed e
 rw [zcc n,zaj (fun z=>n (yag.mpr z))]
 exact h
theorem zfl {H H' : Hp} {L : List Addr} (s : Same H H') : Same (del H L) (del H' L):=fun b o e=>by
 obtain ⟨n,h⟩:=zed e
 rw [zcc n]
 exact s _ _ h
def NWD (K : Frag) (ps : List Nat) (d : List Addr) (x : V) (H : Hp) : Prop:=NoW K ps x (del H d)∧Txt3 x (del H d)
theorem NoW.same {K : Frag} {ps : List Nat} {x : V} {H H' : Hp} (s : Same H H') (h : NoW K ps x H) : NoW K ps x H':=by
 rcases h with ⟨ty,h1,h2⟩ | ⟨a,zs,e,h1,h2,h3,h4⟩
 ·exact .inl ⟨ty,h1.same s,h2⟩
 ·exact .inr ⟨a,zs,e,s _ _ h1,h2,fun z hz=>(h3 z hz).same s,h4⟩
theorem NWD.same {K : Frag} {ps : List Nat} {d : List Addr} : zek (NWD K ps d):=fun x _ _ s h=>⟨h.1.same (zfl s),Txt3.same _ _ _ (zfl s) h.2⟩
theorem zfI {K : Frag} {ps : List Nat} {d : List Addr} {a : Addr} {zs : List V} {H : Hp} (hn : a∉d) (ha : H a = some (.lst zs)) (la : zs.length≤2000) (ea : ∀ z∈zs,El false z (del H d)) (hb : wayB ps zs = false) : NWD K ps d (.ref a) H:=
 have ha' : del H d a = some (.lst zs):=by rw [zcc hn]; exact ha
 ⟨.inr ⟨a,zs,rfl,ha',by omega,fun z hz=>by
  obtain ⟨_,_,r,_⟩:=ea z hz
  exact zlJ r,hb⟩,zkX ha' la ea⟩
theorem zim {K : Frag} {ps : List Nat} {d : List Addr} {H : Hp} {x : V} {ty : String} {t : Str} (h : TyOf K (del H d) x (.type ty)) (hk : kitO ty "list" = some false) (r : ∀ H',Same (del H d) H'→zgB H' x t) : NWD K ps d x H:=⟨.inl ⟨ty,h,hk⟩,t,fun H' s Q q=>.inr ⟨x,t,rfl,r H' s,q⟩⟩
theorem zkm {K : Frag} {ps : List Nat} {d : List Addr} {a : Addr} {ws : List Nat} {H : Hp} (hn : a∉d) (ha : H a = some (.tup (ws.map nV))) (hl : ws.length≤900) (hk : ∀ n∈ws,n < 64) : NWD K ps d (.ref a) H:=
 have ha' : del H d a = some (.tup (ws.map nV)):=by rw [zcc hn]; exact ha
 ⟨.inl ⟨_,.tup ha',by decide +kernel⟩,zkx ha' hl hk⟩
theorem za4 {ps : List Nat} {zs : List V} {x : V} (hx : x∈zs) (h : zb1 (ps.length + 1) x = false) : wayB ps zs = false:=by
 unfold wayB
 rw [ybE.mpr ⟨x,hx,by rw [h]; decide⟩,ya7,ybp]
theorem zdm {ps l : List Nat} {i a c : Nat} (h1 : l[i]? = some a) (h2 : l[i + 1]? = some c) (h : par ps c≠some a) : wayB ps (l.map nV) = false:=by
 have hl:=(yaD.mp h2).1
 unfold wayB
 refine Bool.and_eq_false_iff.mpr (.inr (ybE.mpr ⟨i,ya3.mpr (by rw [yaa]; omega),?_⟩))
 unfold ziq
 rw [yax,yax,h1,h2]
 show ¬ decide (parV ps ((c : Int)).toNat = nV a) = true
 rw [ybs,yak (fun z=>h (ze6.mp z))]
 decide
theorem zjr {ps : List Nat} : par ps 0 = none:=rfl
theorem zfn {ps w : List Nat} (T : zcR ps) (h : zfs ps w) {i j : Nat} (hij : i < j) (hj : j < w.length) : w.getD i 0 < w.getD j 0:=by
 induction j with
 | zero=>omega
 | succ j ih=>
  have h1:=(zgU T (h j hj)).1
  rcases ybC i j with z | z
  ·have:=ih z (by omega)
   omega
  ·have : i = j:=by omega
   subst this
   exact h1
theorem zfS {w : List Nat} {i : Nat} (h : i < w.length) : w[i]? = some (w.getD i 0):=by
 rw [yan,yad h]
 rfl
section
variable {ps w : List Nat} (T : zcR ps) (hc : zfs ps w) (hw : 0 < w.length)
include hw in
theorem zio {k : Nat} (h : par ps k≠some (w.getD (w.length - 1) 0)) : wayB ps ((w ++ [k]).map nV) = false:=
 zdm (i:=w.length - 1) (a:=w.getD (w.length - 1) 0) (c:=k) (by rw [yaO (by omega)]; exact zfS (by omega)) (by rw [show w.length - 1 + 1 = w.length by omega,yaL (yab _),ybF]; rfl) h
include T hc hw in
theorem zjI : wayB ps ((w ++ w).map nV) = false:=by
 refine zdm (i:=w.length - 1) (a:=w.getD (w.length - 1) 0) (c:=w.getD 0 0) (by rw [yaO (by omega)]; exact zfS (by omega)) (by rw [show w.length - 1 + 1 = w.length by omega,yaL (yab _),ybF]; exact zfS hw) fun z=>?_
 have h1:=(zgU T z).1
 rcases ybC 0 (w.length - 1) with y | y
 ·have:=zfn T hc y (by omega)
  omega
 ·rw [show w.length - 1 = 0 by omega] at h1
  omega
include T hc in
theorem zin (h1 : 1 < w.length) : wayB ps (w.reverse.map nV) = false:=by
 refine zdm (i:=0) (a:=w.getD (w.length - 1) 0) (c:=w.getD (w.length - 2) 0) (by rw [List.getElem?_reverse (by omega)]; exact zfS (by omega)) (by rw [List.getElem?_reverse (by omega),show w.length - 1 - (0 + 1) = w.length - 2 by omega]; exact zfS (by omega)) fun z=>?_
 have h2:=(zgU T z).1
 have:=zfn T hc (show w.length - 2 < w.length - 1 by omega) (by omega)
 omega
include T hc in
theorem zkW (h2 : 2 < w.length) : wayB ps ((w.take 1 ++ w.drop 2).map nV) = false:=by
 have hl : (w.take 1).length = 1:=by rw [yar]; omega
 refine zdm (i:=0) (a:=w.getD 0 0) (c:=w.getD 2 0) (by rw [yaO (by omega),List.getElem?_take_of_lt (by omega)]; exact zfS (by omega)) (by rw [yaL (by omega),hl,yb8]; exact zfS (by omega)) fun z=>?_
 have e:=hc 1 h2
 rw [e] at z
 have:=zfn T hc (show 0 < 1 by omega) (by omega)
 have:=yai z
 omega
include hw in
theorem zjJ (h1 : 1 < w.length) : wayB ps ((w.take 1 ++ w.drop 2 ++ [0]).map nV) = false:=by
 have hl : (w.take 1 ++ w.drop 2).length = w.length - 1:=by rw [yae,yar,yaG]; omega
 obtain ⟨a,ha⟩ : ∃ a,(w.take 1 ++ w.drop 2)[w.length - 2]? = some a:=⟨_,yad (by omega)⟩
 refine zdm (i:=w.length - 2) (a:=a) (c:=0) (by rw [yaO (by omega)]; exact ha) (by rw [yaL (by omega),hl,show w.length - 2 + 1 - (w.length - 1) = 0 by omega]; rfl) ?_
 rw [zjr]
 exact fun z=>nomatch z
end
def LX (Av : List Addr) (zs : List V) (x : V) (H : Hp) : Prop:=∃ a,a∉Av∧x = .ref a∧H a = some (.lst zs)
def zfq (H : Hp) (Av : List Addr) : Prop:=∀ a∈Av,∃ o,H a = some o
theorem zfq.mono {H H' : Hp} {Av : List Addr} (h : zfq H Av) (s : Same H H') : zfq H' Av:=fun a ha=>by
 obtain ⟨o,e⟩:=h a ha
 exact ⟨o,s _ _ e⟩
theorem zfq.out {H H' : Hp} {Av : List Addr} (h : zfq H Av) (s : Same H H') {p : Addr} (hp : H' p = none) : p∉Av:=fun z=>by
 obtain ⟨o,e⟩:=h p z
 rw [s _ _ e] at hp
 cases hp
theorem gv_c {σ : L2.St} {H : Hp} {v : V} {R : V→Hp→Prop} (r : ∀ H1,Same H H1→R v H1) : Gv (tC v) σ H R:=fun H1 s Q q=>q v H1 (Same.refl _) (r H1 s)
section
variable {K : Frag} {σ : L2.St} {H : Hp} {d : List Addr} (hd : zfq H d)
include hd in
theorem zbS {zs ys : List V} {t u : TE} (h1 : Gv t σ H (LX d zs)) (h2 : Gv u σ H (LX d ys)) (hl : zs.length + ys.length≤100000) : Gv (tOp rCat t u) σ H (LX d (zs ++ ys)):=fun H1 s1 Q q=>
 h1 H1 s1 _ fun x H2 s2 r1=>h2 H2 (s1.trans s2) _ fun y H3 s3 r2=>by
  obtain ⟨a,na,rfl,ha⟩:=r1
  obtain ⟨b,nb,rfl,hb⟩:=r2
  refine ⟨a,b,_,_,rfl,rfl,s3 _ _ ha,hb,yaB hl (by decide),fun p hp=>?_⟩
  exact q _ _ (s2.trans (s3.trans (zah hp _))) ⟨p,hd.out (s1.trans (s2.trans s3)) hp,rfl,zac⟩
theorem zbK : GvA tNil σ H (fun xs _=>xs = []):=fun H1 _ Q q=>q [] H1 (Same.refl _) rfl
theorem zbf {v : V} {vs : List V} {t : TE} {ts : TA} (h : Gv t σ H (fun x _=>x = v)) (hs : GvA ts σ H (fun xs _=>xs = vs)) : GvA (zkz t ts) σ H (fun xs _=>xs = v :: vs):=fun H1 s1 Q q=>
 h H1 s1 _ fun x H2 s2 r=>hs H2 (s1.trans s2) _ fun xs H3 s3 r3=>q _ _ (s2.trans s3) (by rw [r,r3])
include hd in
theorem zbL {zs : List V} {ts : TA} (hs : GvA ts σ H (fun xs _=>xs = zs)) (hn : zs.length≤1000) : Gv (tLst ts) σ H (LX d zs):=fun H1 s1 Q q=>
 hs H1 s1 _ fun xs H2 s2 r=>by
  subst r
  exact ⟨yaB hn (by decide),fun p hp=>q _ _ (s2.trans (zah hp _)) ⟨p,hd.out (s1.trans s2) hp,rfl,zac⟩⟩
include hd in
theorem zct {zs : List V} {i : Nat} {x : V} {tl th : TO} {lo hi : Option Int} (e : σ[i]? = some (some x)) (h : LX d zs x H) (hl : GvO tl σ H lo) (hh : GvO th σ H hi) : Gv (tSl (rSlL K) (tVar i) tl th) σ H (LX d (cutV zs lo hi)):=fun H1 s1 Q q=>by
 obtain ⟨a,na,rfl,ha⟩:=h
 refine ⟨_,e,hl H1 s1 _ (hh H1 s1 _ ⟨a,zs,rfl,SqL.of (s1 _ _ ha),fun p hp=>?_⟩)⟩
 exact q _ _ (zah hp _) ⟨p,hd.out s1 hp,rfl,zac⟩
include hd in
theorem zk6 {zs : List V} {i : Nat} {x : V} {th : TO} (e : σ[i]? = some (some x)) (h : LX d zs x H) (hh : GvO th σ H (some (-1))) : Gv (tRev K (tVar i) th) σ H (LX d zs.reverse):=fun H1 s1 Q q=>by
 obtain ⟨a,na,rfl,ha⟩:=h
 refine ⟨_,e,hh H1 s1 _ ⟨a,zs,rfl,rfl,SqL.of (s1 _ _ ha),fun p hp=>?_⟩⟩
 exact q _ _ (zah hp _) ⟨p,hd.out s1 hp,rfl,zac⟩
end
theorem LX.mono {d : List Addr} {zs : List V} : zek (LX d zs):=fun _ _ _ s ⟨a,n,e,h⟩=>⟨a,n,e,s _ _ h⟩
def LE_ (n : Nat) (E : V→Hp→Prop) (x : V) (H : Hp) : Prop:=∃ a zs,x = .ref a∧H a = some (.lst zs)∧zs.length = n∧∀ z∈zs,E z H
theorem LE_.mono {n : Nat} {E : V→Hp→Prop} (hE : zek E) : zek (LE_ n E):=fun x H H' s h=>by
 obtain ⟨a,zs,rfl,ha,la,ea⟩:=h
 exact ⟨a,zs,rfl,s _ _ ha,la,fun z hz=>hE _ _ _ s (ea z hz)⟩
theorem zgq {σ : L2.St} {H : Hp} {E : V→Hp→Prop} {n : Nat} {ts : TA} (hE : zek E) (hs : GvA ts σ H (fun xs H'=>xs.length = n∧∀ x∈xs,E x H')) (hn : n≤1000:=by decide) : Gv (tLst ts) σ H (LE_ n E):=fun H1 s1 Q q=>
 hs H1 s1 _ fun xs H2 s2 r=>⟨by rw [r.1]; exact yaB hn (by decide),fun p hp=>q _ _ (s2.trans (zah hp _)) ⟨p,xs,rfl,zac,r.1,fun z hz=>hE _ _ _ (zah hp _) (r.2 z hz)⟩⟩
theorem zk7 {σ : L2.St} {H : Hp} {E : V→Hp→Prop} {n m : Nat} {t u : TE} (hE : zek E) (h1 : Gv t σ H (LE_ n E)) (h2 : Gv u σ H (LE_ m E)) (hl : n + m≤100000) : Gv (tOp rCat t u) σ H (LE_ (n + m) E):=fun H1 s1 Q q=>
 h1 H1 s1 _ fun x H2 s2 r1=>h2 H2 (s1.trans s2) _ fun y H3 s3 r2=>by
  obtain ⟨a,xs,rfl,ha,la,ea⟩:=r1
  obtain ⟨b,ys,rfl,hb,lb,eb⟩:=r2
  refine ⟨a,b,_,_,rfl,rfl,s3 _ _ ha,hb,by rw [la,lb]; exact yaB hl (by decide),fun p hp=>?_⟩
  have sp:=zah hp (.lst (xs ++ ys))
  refine q _ _ (s2.trans (s3.trans sp)) ⟨p,_,rfl,zac,by rw [yae,la,lb],fun z hz=>?_⟩
  rcases yaf.mp hz with h | h
  ·exact hE _ _ _ (s3.trans sp) (ea z h)
  ·exact hE _ _ _ sp (eb z h)
structure TabA (m1 m2 : Addr) (H : Hp) : Prop where
 p : zaA H m1 zbt lamQ
 q : zaA H m2 zcr zfN
 n : m1≠m2
theorem TabA.ext {m1 m2 : Addr} {H H' : Hp} (x : TabA m1 m2 H) (e : Ext H H') : TabA m1 m2 H':=⟨x.p.ext e,x.q.ext e,x.n⟩
def K2 (m1 m2 : Addr) (H H' : Hp) : Prop:=∀ b o,b≠m1→b≠m2→H b = some o→H' b = some o
theorem K2.trans {m1 m2 : Addr} {H H1 H2 : Hp} (a : K2 m1 m2 H H1) (b : K2 m1 m2 H1 H2) : K2 m1 m2 H H2:=fun c o x y h=>b c o x y (a c o x y h)
theorem K2.of {m1 m2 : Addr} {H H1 : Hp} (a : Same H H1) : K2 m1 m2 H H1:=fun c o _ _ h=>a c o h
theorem TabA.k0 {m1 m2 : Addr} {H H' : Hp} (x : TabA m1 m2 H) (k : K2 m1 m2 H H') : Kp0 H H':=fun b o n e=>by
 have go : ∀ {m : Addr},(∃ tab,H m = some (.tbl tab))→b≠m:=fun {m} ⟨tab,e2⟩ z=>by
  rw [← z,e] at e2
  exact n _ (yai e2)
 exact k _ _ (go (zcf x.p)) (go (zcf x.q)) e
theorem TabA.g1 {m1 m2 : Addr} {H H' : Hp} (x : TabA m1 m2 H) (g : Gro m1 H H') (t : zaA H' m1 zbt lamQ) : TabA m1 m2 H'∧K2 m1 m2 H H':=⟨⟨t,x.q.gro g (Ne.symm x.n) (zcf x.p),x.n⟩,fun c o n _ e=>g _ _ n e⟩
theorem TabA.g2 {m1 m2 : Addr} {H H' : Hp} (x : TabA m1 m2 H) (g : Gro m2 H H') (t : zaA H' m2 zcr zfN) : TabA m1 m2 H'∧K2 m1 m2 H H':=⟨⟨x.p.gro g x.n (zcf x.q),t,x.n⟩,fun c o _ n e=>g _ _ n e⟩
def zcO (K : Frag) (m1 m2 C : Addr) (st : Addr) (x : V) (H : Hp) (Q : VK) (E : XK) : Prop:=
 (∃ (wa : Addr) (ps : List Nat) (rows : List (List Int)) (t rs : Addr) (as : List Addr) (w : List Nat),x = .ref wa∧zaJ H st ps rows t rs as∧zb2 H wa ps w∧TabA m1 m2 H∧∀ v H',K2 m1 m2 H H'→TabA m1 m2 H'→Q v H')∨
 ∃ (t rs : Addr) (ps : List Nat),H st = some (.tup [.ref t,.ref rs])∧H t = some (.tup (za2 ps))∧ps.length≤900∧NoW K ps x H∧∀ H',Same H H'→E (.ref C) none H'
theorem zcO.same {K : Frag} {m1 m2 C st : Addr} {x : V} {H H' : Hp} {Q : VK} {E : XK} (h : zcO K m1 m2 C st x H Q E) (s : Same H H') : zcO K m1 m2 C st x H' Q E:=by
 rcases h with ⟨wa,ps,rows,t,rs,as,w,e,S,W,T,q⟩ | ⟨t,rs,ps,h1,h2,h3,h4,h5⟩
 ·exact .inl ⟨wa,ps,rows,t,rs,as,w,e,S.same s,W.same s,T.ext s.ext,fun v H2 k=>q v H2 (K2.trans (.of s) k)⟩
 ·exact .inr ⟨t,rs,ps,s _ _ h1,s _ _ h2,h3,h4.same s,fun H2 k=>h5 H2 (s.trans k)⟩
section
variable {m1 m2 C st : Addr} {x : V} {H : Hp} {Q : VK} {E : XK} {key : Int}
theorem zcO.places (h : zcO K m1 m2 C st x H Q E) : zeQ K m1 [.ref st,x,.int key] H Q E∨zaK K C R1 [.ref st,x,.int key] H Q E:=by
 rcases h with ⟨wa,ps,rows,t,rs,as,w,rfl,S,W,T,q⟩ | ⟨t,rs,ps,h1,h2,h3,h4,h5⟩
 ·exact .inl ⟨st,wa,ps,rows,t,rs,as,w,key,rfl,S,W,T.p,fun p H' _ g t _=>q _ H' (T.g1 g t).2 (T.g1 g t).1⟩
 ·exact .inr ⟨st,t,rs,ps,x,_,rfl,⟨_,rfl⟩,h1,h2,h3,h4,h5⟩
theorem zcO.who (h : zcO K m1 m2 C st x H Q E) : zjj K [.ref st,x,.int key] H Q E∨zaK K C R1 [.ref st,x,.int key] H Q E:=by
 rcases h with ⟨wa,ps,rows,t,rs,as,w,rfl,S,W,T,q⟩ | ⟨t,rs,ps,h1,h2,h3,h4,h5⟩
 ·exact .inl ⟨st,wa,ps,rows,t,rs,as,w,key,rfl,S,W,fun p H' _ s _=>q _ H' (.of s) (T.ext s.ext)⟩
 ·exact .inr ⟨st,t,rs,ps,x,_,rfl,⟨_,rfl⟩,h1,h2,h3,h4,h5⟩
theorem zcO.first (h : zcO K m1 m2 C st x H Q E) : zeR K [.ref st,x,.int key] H Q E∨zaK K C R1 [.ref st,x,.int key] H Q E:=by
 rcases h with ⟨wa,ps,rows,t,rs,as,w,rfl,S,W,T,q⟩ | ⟨t,rs,ps,h1,h2,h3,h4,h5⟩
 ·exact .inl ⟨st,wa,ps,rows,t,rs,as,w,key,rfl,S,W,fun H' s=>q _ H' (.of s) (T.ext s.ext)⟩
 ·exact .inr ⟨st,t,rs,ps,x,_,rfl,⟨_,rfl⟩,h1,h2,h3,h4,h5⟩
theorem zcO.neigh {F : List (List Int)→List Nat→Int→Option (Int×Int)} (h : zcO K m1 m2 C st x H Q E) : zdR K m2 F [.ref st,x,.int key] H Q E∨zaK K C R1 [.ref st,x,.int key] H Q E:=by
 rcases h with ⟨wa,ps,rows,t,rs,as,w,rfl,S,W,T,q⟩ | ⟨t,rs,ps,h1,h2,h3,h4,h5⟩
 ·exact .inl ⟨st,wa,ps,rows,t,rs,as,w,key,rfl,S,W,T.q,fun v H' g t _=>q _ H' (T.g2 g t).2 (T.g2 g t).1⟩
 ·exact .inr ⟨st,t,rs,ps,x,_,rfl,⟨_,rfl⟩,h1,h2,h3,h4,h5⟩
theorem zcO.stretch (h : zcO K m1 m2 C st x H Q E) : zdQ K m1 [.ref st,x,.int key,.int key] H Q E∨zaK K C R2 [.ref st,x,.int key,.int key] H Q E:=by
 rcases h with ⟨wa,ps,rows,t,rs,as,w,rfl,S,W,T,q⟩ | ⟨t,rs,ps,h1,h2,h3,h4,h5⟩
 ·exact .inl ⟨st,wa,ps,rows,t,rs,as,w,key,key,rfl,S,W,T.p,fun _ _ H' _ _ _ g t _ _=>q _ H' (T.g1 g t).2 (T.g1 g t).1⟩
 ·exact .inr ⟨st,t,rs,ps,x,_,rfl,⟨_,_,rfl⟩,h1,h2,h3,h4,h5⟩
theorem zcO.joined (h : zcO K m1 m2 C st x H Q E) : zcg K m2 [.ref st,x,.int key,.int 0] H Q E∨zaK K C R2 [.ref st,x,.int key,.int 0] H Q E:=by
 rcases h with ⟨wa,ps,rows,t,rs,as,w,rfl,S,W,T,q⟩ | ⟨t,rs,ps,h1,h2,h3,h4,h5⟩
 ·exact .inl ⟨st,wa,ps,rows,t,rs,as,w,key,0,rfl,S,W,T.q,fun _ _ H' _ g t _ _=>q _ H' (T.g2 g t).2 (T.g2 g t).1⟩
 ·exact .inr ⟨st,t,rs,ps,x,_,rfl,⟨_,_,rfl⟩,h1,h2,h3,h4,h5⟩
end
def zj9 (K : Frag) (m1 m2 C : Addr) : Sp:=fun vs H Q E=>∃ (st : Addr) (x : V) (key : Int) (b : Nat),vs = [.ref st,x,.int key,.int b]∧b < 7∧zcO K m1 m2 C st x H Q E
theorem zkU (T : Txt K mg) {m1 m2 C : Addr} (D_l_ask : DF K mg "_law_ask" ze1 zdM) (F_places : FX P w K mg base 7 "places" zbX (fun vs H Q E=>zeQ K m1 vs H Q E∨zaK K C R1 vs H Q E)) (F_who_has : FX P w K mg base 7 "who_has" za9 (fun vs H Q E=>zjj K vs H Q E∨zaK K C R1 vs H Q E)) (F_first_with : FX P w K mg base 7 "first_with" za1 (fun vs H Q E=>zeR K vs H Q E∨zaK K C R1 vs H Q E))
  (F_above : FX P w K mg base 7 "above" zcI (fun vs H Q E=>zdR K m2 zg7 vs H Q E∨zaK K C R1 vs H Q E)) (F_below : FX P w K mg base 7 "below" zcH (fun vs H Q E=>zdR K m2 zg6 vs H Q E∨zaK K C R1 vs H Q E)) (F_stretch : FX P w K mg base 7 "stretch" zbE (fun vs H Q E=>zdQ K m1 vs H Q E∨zaK K C R2 vs H Q E)) (F_joined_from : FX P w K mg base 7 "joined_from" zaV (fun vs H Q E=>zcg K m2 vs H Q E∨zaK K C R2 vs H Q E)) : FX P w K mg base 8 "_law_ask" zdM (zj9 K m1 m2 C):=by
 obtain ⟨f0,V0,e0⟩:=F_places.val
 obtain ⟨f1,V1,e1⟩:=F_who_has.val
 obtain ⟨f2,V2,e2⟩:=F_first_with.val
 obtain ⟨f3,V3,e3⟩:=F_above.val
 obtain ⟨f4,V4,e4⟩:=F_below.val
 refine D_l_ask.okx sc_l_ask (fun vs H Q E h=>?_) (fun f cdv A outer s H vs Q E hr h=>?_)
 ·obtain ⟨st,x,key,b,rfl,_⟩:=h
  rfl
 obtain ⟨st,x,key,b,rfl,hb,h⟩:=h
 refine ⟨_,(zaD (zbc (zap zdF (pv 3) zae (zau _)) (zaf (zan (zfD (kr:=7) hr zdr (zaE zaw (zaF (zaa (za3 (v:=.ref f0) rfl e0 rfl) (zaa (za3 (v:=.ref f1) rfl e1 rfl) (zaa (za3 (v:=.ref f2) rfl e2 rfl) zab)))) (pv 3) (fun _ _=>rfl)) (zaa (pv 0) (zaa (pv 1) (zaa (pv 2) zab)))))) zax)
   (zaD (zbc (zap zdF (pv 3) zae (zau _)) (zaf (zan (zfD (kr:=7) hr zdr (zaE zaw (zaF (zaa (za3 (v:=.ref f3) rfl e3 rfl) (zaa (za3 (v:=.ref f4) rfl e4 rfl) zab))) (zar zbs (pv 3) zae) (fun _ _=>rfl)) (zaa (pv 0) (zaa (pv 1) (zaa (pv 2) zab)))))) zax)
   (zaD (zbc (zap zd6 (pv 3) zae (zau _)) (zaf (zan (zcp F_stretch hr zdr (zaa (pv 0) (zaa (pv 1) (zaa (pv 2) (zaa (pv 2) zab))))))) zax)
   (zaf (zan (zcp F_joined_from hr zdr (zaa (pv 0) (zaa (pv 1) (zaa (pv 2) (zaa zae zab)))))))))),?_⟩
 refine ⟨fun σ' H'=>σ' = [some (.ref st),some x,some (.int key),some (.int b)]∧H = H'∧3≤b,?_,?_⟩
 ·refine ⟨_,rfl,_,_,rfl,rfl,_,rfl,?_⟩
  refine ite2 (fun c=>?_) (fun c=>⟨rfl,rfl,?_⟩)
  ·have c:=yaK c
   refine ⟨(by show 3≤sizeLine; decide),fun l hl=>?_⟩
   have sl:=zah hl (.lst [.ref f0,.ref f1,.ref f2])
   have h':=h.same sl
   have hll : upd H l (.lst [.ref f0,.ref f1,.ref f2]) l = some (.lst [.ref f0,.ref f1,.ref f2]):=zac
   generalize upd H l (.lst [.ref f0,.ref f1,.ref f2]) = H1 at h' hll ⊢
   have z : b = 0∨b = 1∨b = 2:=by omega
   rcases z with rfl | rfl | rfl
   ·exact ⟨_,rfl,_,_,_,_,rfl,rfl,SqL.of hll,rfl,f0,7,_,_,rfl,V0,by decide,_,rfl,_,rfl,_,rfl,h'.places⟩
   ·exact ⟨_,rfl,_,_,_,_,rfl,rfl,SqL.of hll,rfl,f1,7,_,_,rfl,V1,by decide,_,rfl,_,rfl,_,rfl,h'.who⟩
   ·exact ⟨_,rfl,_,_,_,_,rfl,rfl,SqL.of hll,rfl,f2,7,_,_,rfl,V2,by decide,_,rfl,_,rfl,_,rfl,h'.first⟩
  ·have c:=ybG (yba.mpr c)
   omega
 rintro σ' H' ⟨rfl,rfl,hb3⟩
 refine ⟨fun σ' H'=>σ' = [some (.ref st),some x,some (.int key),some (.int b)]∧H = H'∧5≤b,?_,?_⟩
 ·refine ⟨_,rfl,_,_,rfl,rfl,_,rfl,?_⟩
  refine ite2 (fun c=>?_) (fun c=>⟨rfl,rfl,?_⟩)
  ·have c:=yaK c
   refine ⟨(by show 2≤sizeLine; decide),fun l hl=>?_⟩
   have sl:=zah hl (.lst [.ref f3,.ref f4])
   have h':=h.same sl
   have hll : upd H l (.lst [.ref f3,.ref f4]) l = some (.lst [.ref f3,.ref f4]):=zac
   generalize upd H l (.lst [.ref f3,.ref f4]) = H1 at h' hll ⊢
   have z : b = 3∨b = 4:=by omega
   rcases z with rfl | rfl
   ·exact ⟨_,rfl,_,_,rfl,rfl,_,_,_,_,rfl,rfl,SqL.of hll,rfl,f3,7,_,_,rfl,V3,by decide,_,rfl,_,rfl,_,rfl,h'.neigh⟩
   ·exact ⟨_,rfl,_,_,rfl,rfl,_,_,_,_,rfl,rfl,SqL.of hll,rfl,f4,7,_,_,rfl,V4,by decide,_,rfl,_,rfl,_,rfl,h'.neigh⟩
  ·have c:=ybG (yba.mpr c)
   omega
 rintro σ' H' ⟨rfl,rfl,hb5⟩
 have z : b = 5∨b = 6:=by omega
 rcases z with rfl | rfl
 ·refine ⟨fun _ _=>False,?_,fun _ _ z=>z.elim⟩
  refine ⟨_,rfl,rfl,_,rfl,?_⟩
  refine zhu rfl ?_
  exact ⟨_,rfl,_,rfl,_,rfl,_,rfl,h.stretch⟩
 ·refine ⟨fun σ' H'=>σ' = [some (.ref st),some x,some (.int key),some (.int 6)]∧H = H',?_,?_⟩
  ·refine ⟨_,rfl,rfl,_,rfl,?_⟩
   refine ziE (fun z=>nomatch z) ⟨rfl,rfl⟩
  rintro σ' H' ⟨rfl,rfl⟩
  exact ⟨_,rfl,_,rfl,_,rfl,h.joined⟩
theorem ziY (xs : List V) (a : Nat) : cutV xs none (some (a : Int)) = xs.take a:=by
 unfold cutV
 rw [zcm,show HT.sIx xs.length 0 none = 0 from rfl,ya6,ybA]
 by_cases h : a≤xs.length
 ·rw [ybk h]
 ·rw [ybY (by omega),yaz (yab _),yaz (by omega)]
theorem zi0 (xs : List V) (a : Nat) : cutV xs (some (a : Int)) none = xs.drop a:=by
 unfold cutV
 rw [zcm,show HT.sIx xs.length xs.length none = xs.length from rfl]
 by_cases h : a≤xs.length
 ·rw [ybk h,yaz (by rw [yaG]; exact yab _)]
 ·rw [ybY (by omega),ya8 (yab _),ya8 (show xs.length≤a by omega),List.take_nil]
theorem zf3 {n : Nat} (h : n < 64) : (PyData.shown (.int ((n : Int) + 10 ^ 50))).length≤60∧(PyData.int ((n : Int) + 10 ^ 50)).showable = true:=by
 have : ∀ n : Fin 64,(PyData.shown (.int (((n : Nat) : Int) + 10 ^ 50))).length≤60∧(PyData.int (((n : Nat) : Int) + 10 ^ 50)).showable = true:=by decide +kernel
 exact this ⟨n,h⟩
theorem El.big {b : Bool} {H : Hp} {n : Nat} (h : n < 64) : El b (.int ((n : Int) + 10 ^ 50)) H:=⟨_,[],.int _,(zf3 h).2,fun _=>by simp [PyData.hasDict],fun _ _ h=>absurd h yaM,by simp [PyData.depth],yaB (zf3 h).1 (by decide)⟩
def zgH (K : Frag) : Sp:=fun vs H Q _=>∃ (d L t wa : Addr) (ps w : List Nat) (Av : List Addr),vs = [.ref d,.ref t,.ref wa]∧d∈Av∧zfq H Av∧wa∉Av∧H t = some (.tup (za2 ps))∧zcR ps∧ps.length≤40∧zb2 H wa ps w∧LS K L d H∧
 ∀ x H',NWD K ps Av x H'→Keep d H H'→LS K L d H'→Q x H'
set_option maxHeartbeats 2000000 in
theorem zid (T : Txt K mg) (D_l_no_ways : DF K mg "_law_no_ways" zb4 zbP) (F_l_take : FC P w K mg base 2 "_law_take" zaZ (zcY K)) : FC P w K mg base 3 "_law_no_ways" zbP (zgH K):=by
 refine D_l_no_ways.ok sc_l_no_ways (fun vs H Q E h=>?_) (fun f cdv A outer s H vs Q E hr h=>?_)
 ·obtain ⟨d,L,t,wa,ps,w,Av,rfl,_⟩:=h
  rfl
 obtain ⟨d,L,t,wa,ps,w,Av,rfl,hdA,hAv,hwA,ht,hT,hp,W,hs,q⟩:=h
 refine ⟨_,(zag (zkJ (i:=3) (N:=["_law_knot","_law_tree_here","_law_way_here"]) (own:=1) (cap:=[1,2]) sc_l_no_ways.nd rfl rfl rfl (zdb rfl T.m_range (zaa zae (zaa (zam zak rfl T.m_len boot_len (zaa (pv 1) zab)) zab))) ⟨rfl,rfl,rfl,rfl,rfl,rfl⟩ (fun _ _ _ _ _=>(zav (i:=0) (show List.Nodup (["_law_knot","_law_tree_here","_law_way_here"] : List Str) by decide +kernel) rfl (Or.inl rfl))) (fun _ _ _ _ _=>(ze3 (zap zfF (zaE (zcs (K:=K)) (pv 1) (pv 0) (fun _ _=>rfl)) (zaE (zgY (K:=K)) (pv 2) (zdY zce zae) (fun _ _=>rfl)) (zau _)))) (fun _ _ _ _ _=>(pv 0)))
   (zag (zao (i:=4) sc_l_no_ways.nd rfl (Or.inl rfl) (zaF (zaa (zaF zab) (zaa (zcn zab) (zaa (za6 zbA rfl T.m_tuple boot_tuple (zaa (pv 2) zab)) (zaa zco (zaa zae (zaa zdc (zaa zaX (zaa zgR (zaa (zaF (zaa (pv 2) zab)) (zaa (zar zbH (zaF (zaa zco zab)) (pv 2)) (zaa (zar zbH (pv 2) (zaF (zaa zdc zab))) (zaa (zar zbH (pv 2) (zaF (zaa zaX zab))) (zaa (zaF (zaa zae (zaa zae zab))) zab)))))))))))))))
   (zag (zao (i:=4) sc_l_no_ways.nd rfl (Or.inl rfl) (zar zbH (pv 4) (zaF (zaa (zar zbH (pv 2) (pv 2)) (zaa (zar zbH (pv 2) (zaF (zaa zae zab))) (zaa (zar zbH (pv 2) (zaF (zaa (zam zak rfl T.m_len boot_len (zaa (pv 1) zab)) zab))) (zaa (zaF (zaa (zdY zce zae) zab)) (zaa (zar zbH (zbm zcS (pv 2) zcU (zbe (zdY zce zae))) (zaF (zaa (zar zbI (zaE zaw (pv 2) (zdY zce zae) (fun _ _=>rfl)) (zar zdB zae zae)) zab))) (zaa (zaF (zaa (zaF (zaa zae zab)) zab)) (zaa (zaF (zaa (zcn (zaa (zaE zaw (pv 2) zae (fun _ _=>rfl)) zab)) zab)) zab))))))))))
   (zag (zao (i:=4) sc_l_no_ways.nd rfl (Or.inl rfl) (zar zbH (pv 4) (zbj (N:=["_law_knot","_law_way_here"]) (own:=1) (cap:=[2]) rfl (zbr (pv 3)) ⟨rfl,rfl,rfl,rfl,rfl,rfl⟩ (fun _ _ _ _ _=>(zav (i:=0) (show List.Nodup (["_law_knot","_law_way_here"] : List Str) by decide +kernel) rfl (Or.inl rfl))) (fun _ _ _ _ _=>zbR) (fun _ _ _ _ _=>(zar zbH (pv 1) (zaF (zaa (pv 0) zab)))))))
   (zaD (zbc (zap zeo (zam zak rfl T.m_len boot_len (zaa (pv 2) zab)) zae (zau _)) (zaf (zao (i:=4) sc_l_no_ways.nd rfl (Or.inl rfl) (zar zbH (pv 4) (zaF (zaa (zkL (pv 2) (zbe (zdY zce zae))) (zaa (zar zbH (zar zbH (zbm zcS (pv 2) zcU (zbe zae)) (zbm zcS (pv 2) (zbe zae) zcU)) (zaF (zaa zae zab))) zab)))))) zax)
   (zaD (zbc (zap zeo (zam zak rfl T.m_len boot_len (zaa (pv 2) zab)) zae (zau _)) (zaf (zb6 (zh8 F.plainAttrs_list F.slot_list_append F.type_list_append zcq (pv 4) (zaa (zar zbH (zbm zcS (pv 2) zcU (zbe zae)) (zbm zcS (pv 2) (zbe zae) zcU)) zab)))) zax)
   (zaf (zan (zaE zaw (pv 4) (zas F_l_take hr (zaa (pv 0) (zaa (zam zak rfl T.m_len boot_len (zaa (pv 4) zab)) zab))) (fun _ _=>rfl)))))))))),?_⟩
 have hwl:=W.len
 have hw0 : 0 < w.length:=ybe.mpr W.ne
 have hwk : ∀ n∈w,n < 64:=fun n hn=>by
  have:=W.kn n hn
  omega
 obtain ⟨ob,hob⟩ : ∃ ob,H d = some ob:=by
  obtain ⟨_,_,_,e2,_⟩:=hs.ex
  exact ⟨_,e2⟩
 have htd : t≠d:=fun z=>by
  obtain ⟨_,_,_,e2,_⟩:=hs.ex
  rw [← z,ht] at e2
  cases e2
 have hwd : wa≠d:=fun z=>by
  obtain ⟨_,_,_,e2,_⟩:=hs.ex
  rw [← z,W.at_] at e2
  cases e2
 have hla : atI (w.map nV) (-1) = some (nV (w.getD (w.length - 1) 0)):=by
  have e : w = w.take (w.length - 1) ++ [w.getD (w.length - 1) 0]:=by
   conv=>lhs; rw [← yaz (yab w.length),show w.length = w.length - 1 + 1 by omega,zbN (by omega)]
  conv=>lhs; rw [e]
  exact zfp
 have hlk:=W.kn _ (zdn (show w.length - 1 < w.length by omega))
 generalize hwl0 : w.getD (w.length - 1) 0 = wl at hla hlk
 refine ⟨_,rfl,_,_,rfl,.inr (SqT.of ht),1,_,rfl,⟨by omega,by omega,by omega,by rw [zat]; omega⟩,fun D hD=>?_⟩
 have en : ((((za2 ps).length : Nat) : Int) - 1).toNat = ps.length:=by
  rw [zat]
  omega
 rw [en]
 refine zeC (lo:=1) (n:=ps.length) (fun i σ H2=>∃ (x0 : Option V) (lone : List Nat),σ = [x0,some (.ref t),some (.ref wa)]∧H2 D = some (.lst (lone.map nV))∧lone.length≤i∧(∀ k∈lone,k < ps.length + 1∧par ps k≠some wl)∧But D H H2) ?_ ?_ ?_
 ·exact ⟨_,[],rfl,zac,yab _,fun _ h=>absurd h yaM,fun b o n e=>by rw [zaj n]; exact e⟩
 ·rintro i m σ H2 him hi ⟨x0,lone,rfl,h2,hll,hlo,k2⟩
  have e1 : (1 : Int) + (i : Int) = ((i + 1 : Nat) : Int):=by omega
  rw [e1]
  have h2t:=k2 _ _ (zad ht hD) ht
  have h2w:=k2 _ _ (zad W.at_ hD) W.at_
  refine ⟨_,rfl,_,rfl,_,_,_,_,rfl,rfl,SqT.of h2t,zfo (by omega),_,rfl,_,rfl,_,_,_,_,rfl,rfl,SqL.of h2w,hla,zdU _ _ _,_,rfl,?_⟩
  by_cases hq : parV ps (i + 1) = nV wl
  ·refine zjP hq ⟨m - 1,by omega,by omega,_,lone,rfl,h2,by omega,hlo,k2⟩
  ·rw [yak hq]
   refine iteT ?_
   refine ⟨_,rfl,_,h2,zaC (by rw [yaa]; omega),m - 1,by omega,by omega,_,lone ++ [i + 1],rfl,?_,by rw [yae,yaH]; omega,fun k hk=>?_,fun b o n e=>by rw [zaj n]; exact k2 b o n e⟩
   ·rw [zac,yas]
    rfl
   ·rcases yaf.mp hk with z | z
    ·exact hlo k z
    ·rw [yag.mp z]
     exact ⟨by omega,fun z=>hq (ze6.mpr z)⟩
 rintro σ H1 ⟨x0,lone,rfl,h1,hll,hlo,k1⟩
 have s1 : Same H H1:=fun b o e=>k1 b o (zad e hD) e
 have hob1:=hAv.mono s1
 have hd1:=s1 _ _ hob
 have hDd : D≠d:=fun z=>zad hob hD z.symm
 have w1:=s1 _ _ W.at_
 have t1:=s1 _ _ ht
 have lw : ∀ {H'},Same H1 H'→LX Av (w.map nV) (.ref wa) H':=fun s=>⟨wa,hwA,rfl,s _ _ w1⟩
 have elw : ∀ {H' : Hp},∀ z∈w.map nV,El false z H':=fun z hz=>by
  obtain ⟨n,hn,rfl⟩:=yaY.mp hz
  exact El.nat (hwk n hn)
 have el1 : ∀ {H' : Hp} {l : List V} {v : V},(∀ z∈l,El false z H')→El false v H'→∀ z∈l ++ [v],El false z H':=fun h1 h2 z hz=>by
  rcases yaf.mp hz with y | y
  ·exact h1 z y
  ·rw [yag.mp y]
   exact h2
 have elc : ∀ {H' : Hp} {l m : List V},(∀ z∈l,El false z H')→(∀ z∈m,El false z H')→∀ z∈l ++ m,El false z H':=fun h1 h2 z hz=>(yaf.mp hz).elim (h1 z) (h2 z)
 have cutm : ∀ {H' : Hp} {lo hi : Option Int},∀ z∈cutV (w.map nV) lo hi,El false z H':=fun z hz=>elw z (zjZ hz)
 have mk : ∀ {zs : List V} {x : V} {H' : Hp},LX Av zs x H'→zs.length≤2000→(∀ z∈zs,El false z (del H' Av))→wayB ps zs = false→NWD K ps Av x H':=fun ⟨a,na,e,ha⟩ hl hE hb=>e ▸ zfI na ha hl hE hb
 dsimp only [zhx,tSeq,tAsg]
 refine (zgq (n:=13) (NWD.same (K:=K) (ps:=ps) (d:=Av)) (zaB NWD.same ?a1 (zaB NWD.same ?a2 (zaB NWD.same ?a3 (zaB NWD.same ?a4 (zaB NWD.same ?a5 (zaB NWD.same ?a6 (zaB NWD.same ?a7 (zaB NWD.same ?a8 (zaB NWD.same ?a9 (zaB NWD.same ?b1 (zaB NWD.same ?b2 (zaB NWD.same ?b3 (zaB NWD.same ?b4 zgp)))))))))))))) H1 (Same.refl _) _ fun y2 H2 s2 r2=>?_
 case a1=>exact (zbL hob1 zbK (by decide)).mono fun _ H' _ h=>mk h (by decide) (fun z hz=>absurd hz yaM) rfl
 case a2=>exact fun H' s' Q q=>⟨(by show 0≤sizeLine; decide),fun p hp=>q _ _ (zah hp _) (zkm (ws:=[]) (hob1.out s' hp) zac (by decide) (fun _ h=>absurd h yaM))⟩
 case a3=>exact fun H' s' Q q=>⟨_,rfl,wa,_,rfl,.inl ⟨SqL.of (s' _ _ w1),fun p hp=>q _ _ (zah hp _) (zkm (ws:=w) (hob1.out s' hp) zac hwl hwk)⟩⟩
 case a4=>exact gv_c fun H' _=>zim .non (by decide +kernel) fun _ _=>.non
 case a5=>exact gv_c fun H' _=>zim (.int 7) (by decide +kernel) fun _ _=>.int 7 (by decide)
 case a6=>exact gv_c fun H' _=>zim (.bl true) (by decide +kernel) fun _ _=>.bl true
 case a7=>exact gv_c fun H' _=>zim (.str _) (by decide +kernel) fun _ _=>.str _ (by decide +kernel)
 case a8=>
  intro H' s' Q q e he
  have n : e∉Av:=hob1.out s' he
  have w : del (upd H' e (.dK [])) Av e = some (.dK []):=by rw [zcc n]; exact zac
  exact q _ _ (zah he _) (zim (.dK w) (by decide +kernel) fun H' s'=>.dic e (s' _ _ w))
 case a9=>exact (zbL hob1 (zbf (v:=.ref wa) (zdg rfl fun _ _=>rfl) zbK) (by show 1≤1000; decide)).mono fun _ H' s h=>mk h (by show 1≤2000; decide) (fun z hz=>by rw [yag.mp hz]; exact El.way (by rw [zcc hwA]; exact s _ _ w1) hwl hwk) (za4 yah rfl)
 case b1=>exact (zbS hob1 (zbL hob1 (zbf (v:=.non) (gv_c fun _ _=>rfl) zbK) (by decide)) (zdg rfl fun _ s=>lw s) (by rw [yaa]; show 1 + _≤_; omega)).mono fun _ H' s h=>mk h (by rw [yae,yaa]; show 1 + _≤_; omega) (elc (fun z hz=>by rw [yag.mp hz]; exact .of .non (by decide +kernel) (by decide +kernel) (by decide +kernel) (by decide +kernel)) elw) (za4 yah rfl)
 case b2=>exact (zbS hob1 (zdg rfl fun _ s=>lw s) (zbL hob1 (zbf (v:=.bl true) (gv_c fun _ _=>rfl) zbK) (by decide)) (by rw [yaa]; show _ + 1≤_; omega)).mono fun _ H' s h=>mk h (by rw [yae,yaa]; show _ + 1≤_; omega) (el1 elw (.of (.bl _) (by decide +kernel) (by decide +kernel) (by decide +kernel) (by decide +kernel))) (za4 (yaq _ yah) rfl)
 case b3=>exact (zbS hob1 (zdg rfl fun _ s=>lw s) (zbL hob1 (zbf (v:=.str "1") (gv_c fun _ _=>rfl) zbK) (by decide)) (by rw [yaa]; show _ + 1≤_; omega)).mono fun _ H' s h=>mk h (by rw [yae,yaa]; show _ + 1≤_; omega) (el1 elw (.of (.str _) (by decide +kernel) (by decide +kernel) (by decide +kernel) (by decide +kernel))) (za4 (yaq _ yah) rfl)
 case b4=>exact (zbL hob1 (zbf (v:=.int 0) (gv_c fun _ _=>rfl) (zbf (v:=.int 0) (gv_c fun _ _=>rfl) zbK)) (by decide)).mono fun _ H' s h=>mk h (by decide) (fun z hz=>by
   have : z = .int 0:=by simpa using hz
   rw [this]
   exact El.nat (n:=0) (by decide)) (zdm (l:=[0,0]) (i:=0) rfl rfl (fun z=>nomatch z))
 have s12:=s1.trans s2
 have hob2:=hob1.mono s2
 have hd2:=s2 _ _ hd1
 have w2:=s2 _ _ w1
 have t2:=s2 _ _ t1
 refine (zk7 (n:=13) (m:=7) NWD.same (zdg rfl fun H' s=>LE_.mono NWD.same _ _ _ s r2) (zgq (n:=7) NWD.same (zaB NWD.same ?c1 (zaB NWD.same ?c2 (zaB NWD.same ?c3 (zaB NWD.same ?c4 (zaB NWD.same ?c5 (zaB NWD.same ?c6 (zaB NWD.same ?c7 zgp)))))))) (by decide)) H2 (Same.refl _) _ fun y3 H3 s3 r3=>?_
 case c1=>exact (zbS hob2 (zdg rfl fun _ s=>lw (s2.trans s)) (zdg rfl fun _ s=>lw (s2.trans s)) (by rw [yaa]; omega)).mono fun _ H' s h=>mk h (by rw [yae,yaa]; omega) (elc elw elw) (by rw [← yas]; exact zjI hT W.ch hw0)
 case c2=>exact (zbS hob2 (zdg rfl fun _ s=>lw (s2.trans s)) (zbL hob2 (zbf (v:=.int 0) (gv_c fun _ _=>rfl) zbK) (by decide)) (by rw [yaa]; show _ + 1≤_; omega)).mono fun _ H' s h=>mk h (by rw [yae,yaa]; show _ + 1≤_; omega) (el1 elw (El.nat (n:=0) (by decide))) (by rw [show w.map nV ++ [.int 0] = (w ++ [0]).map nV by rw [yas]; rfl]; exact zio hw0 (fun z=>nomatch z))
 case c3=>exact (zbS hob2 (zdg rfl fun _ s=>lw (s2.trans s)) (zbL hob2 (zbf (v:=.int (((za2 ps).length : Nat) : Int)) (fun H' s' Q q=>⟨_,rfl,_,_,rfl,.inr (SqT.of (s' _ _ t2)),q _ _ (Same.refl _) rfl⟩) zbK) (by show 1≤1000; decide)) (by rw [yaa]; show _ + 1≤_; omega)).mono fun _ H' s h=>mk h (by rw [yae,yaa]; show _ + 1≤_; omega) (el1 elw (El.nat (by rw [zat]; omega))) (za4 (yaq _ yah) (zec (by rw [zat]; omega)))
 case c4=>exact (zbL hob2 (zbf (v:=.int (-1)) (fun H' s' Q q=>⟨_,rfl,q _ _ (Same.refl _) rfl⟩) zbK) (by decide)).mono fun _ H' s h=>mk h (by decide) (fun z hz=>by rw [yag.mp hz]; exact .of (.int _) (by decide +kernel) (by decide +kernel) (by decide +kernel) (by decide +kernel)) (za4 yah (ziO (by decide)))
 case c5=>
  refine (zbS hob2 (zct hob2 rfl (lw s2) zdf (fun _ _ _ q=>⟨_,rfl,_,rfl,q⟩)) (zbL hob2 (zbf (v:=.int ((wl : Int) + 10 ^ 50)) (fun H' s' Q q=>⟨_,rfl,_,rfl,_,_,_,_,rfl,rfl,SqL.of (s' _ _ w2),hla,_,_,rfl,rfl,⟨by decide,by decide,by decide⟩,_,_,rfl,rfl,q _ _ (Same.refl _) rfl⟩) zbK) (by show 1≤1000; decide)) ?_).mono fun _ H' s h=>mk h ?_ (el1 cutm (El.big (by omega))) (za4 (yaq _ yah) (zec ?_))
  ·have:=zg3 (w.map nV) none (some (-1))
   rw [yaa] at this
   show _ + 1≤_
   omega
  ·have:=zg3 (w.map nV) none (some (-1))
   rw [yaa] at this
   rw [yae]
   show _ + 1≤_
   omega
  ·have : (100 : Int)≤10 ^ 50:=by decide
   omega
 case c6=>
  intro H' s' Q q
  refine ⟨(by show 1≤sizeLine; decide),fun b hb=>⟨(by show 1≤sizeLine; decide),fun a ha=>?_⟩⟩
  have sb:=zah hb (.lst [V.int 0])
  have sa:=zah ha (.lst [V.ref b])
  have nbd : b∉Av:=hob2.out s' hb
  have nad : a∉Av:=hob2.out (s'.trans sb) ha
  refine q _ _ (sb.trans sa) (zfI (zs:=[.ref b]) nad zac (by show 1≤2000; decide) (fun z hz=>?_) (za4 yah rfl))
  rw [yag.mp hz]
  exact El.way (ws:=[0]) (by rw [zcc nbd]; exact sa _ _ zac) (by decide) (by decide)
 case c7=>
  intro H' s' Q q
  refine ⟨_,rfl,_,_,_,_,rfl,rfl,SqL.of (s' _ _ w2),zbi (j:=0) (v:=nV (w.getD 0 0)) (by rw [yax,zfS hw0]; rfl),(by show 1≤sizeLine; decide),fun b hb=>⟨(by show 1≤sizeLine; decide),fun a ha=>?_⟩⟩
  have sb:=zah hb (.tup [nV (w.getD 0 0)])
  have sa:=zah ha (.lst [V.ref b])
  have nbd : b∉Av:=hob2.out s' hb
  have nad : a∉Av:=hob2.out (s'.trans sb) ha
  refine q _ _ (sb.trans sa) (zfI (zs:=[.ref b]) nad zac (by show 1≤2000; decide) (fun z hz=>?_) (za4 yah rfl))
  rw [yag.mp hz]
  exact El.tupw (ws:=[w.getD 0 0]) (by rw [zcc nbd]; exact sa _ _ zac) (by show 1≤900; decide) (fun n hn=>by rw [yag.mp hn]; exact hwk _ (zdn hw0))
 have s13:=s2.trans s3
 have s03:=s1.trans s13
 have h3D:=s13 _ _ h1
 have h3w:=s13 _ _ w1
 have hd3:=s13 _ _ hd1
 have hob3:=hob1.mono s13
 obtain ⟨a3,xs3,rfl,ha3,hl3,he3⟩:=r3
 refine ⟨_,rfl,_,rfl,D,rfl,⟨_,SqL.of h3D⟩,fun D4 hD4=>?_⟩
 refine zcv (xs:=lone.map nV) (fun i σ H4=>∃ (x0 : Option V) (us : List V),σ = [x0,some (.ref wa)]∧H4 D4 = some (.lst us)∧Paired (fun k u=>∃ p,u = V.ref p∧p∉Av∧p≠D4∧H4 p = some (.lst ((w ++ [k]).map nV))) (lone.take i) us∧But D4 H3 H4) ?_ ?_ ?_ ?_
 ·exact ⟨_,[],rfl,zac,.nil,fun b o n e=>by rw [zaj n]; exact e⟩
 ·rintro i σ H4 _ ⟨x0,us,rfl,_,_,k4⟩
  exact k4.sq (SqL.of h3D) hD4
 ·rintro i m x σ H4 hx hm ⟨x0,us,rfl,h4,hP,k4⟩
  have hi:=(yaD.mp hx).1
  rw [yaa] at hi hm
  obtain ⟨hi',rfl⟩:=zfR hx
  have h4w:=k4 _ _ (zad h3w hD4) h3w
  have hul:=Paired.length hP
  rw [yar] at hul
  refine zeA ?_
  refine ⟨_,rfl,_,rfl,(by show 1≤sizeLine; decide),fun u hu=>?_⟩
  have su:=zah hu (.lst [nV (lone.getD i 0)])
  refine ⟨wa,u,_,_,rfl,rfl,su _ _ h4w,zac,ya0 (zaC (by rw [yaa]; show _ + 1≤_; omega)),fun p hp=>?_⟩
  have sp:=su.trans (zah hp (.lst (w.map nV ++ [nV (lone.getD i 0)])))
  have hpp : upd (upd H4 u (.lst [nV (lone.getD i 0)])) p (.lst (w.map nV ++ [nV (lone.getD i 0)])) p = some (.lst ((w ++ [lone.getD i 0]).map nV)):=by rw [zac,yas]; rfl
  generalize upd (upd H4 u (.lst [nV (lone.getD i 0)])) p (.lst (w.map nV ++ [nV (lone.getD i 0)])) = H5 at sp hpp ⊢
  have h5D:=sp _ _ h4
  have npD : p≠D4:=fun z=>by
   have:=su _ _ h4
   rw [← z,hp] at this
   cases this
  have npd : p∉Av:=hob3.out (fun b o e=>su _ _ (k4 b o (zad e hD4) e)) hp
  refine ⟨_,h5D,zaC (by omega),m - 1,by omega,by rw [yaa]; omega,_,us ++ [.ref p],rfl,zac,?_,fun b o n e=>by rw [zaj n]; exact sp _ _ (k4 b o n e)⟩
  rw [zbN hi]
  exact zcV (zds (fun _ _ ⟨p,e1,e2,e3,e4⟩=>⟨p,e1,e2,e3,by rw [zaj e3]; exact sp _ _ e4⟩) hP) ⟨p,rfl,npd,npD,by rw [zaj npD]; exact hpp⟩
 rintro σ H4 ⟨x0,us,rfl,h4,hP,k4⟩
 rw [yaa,yaz (yab _)] at hP
 have s4 : Same H3 H4:=fun b o e=>k4 b o (zad e hD4) e
 have hul:=Paired.length hP
 refine ⟨a3,D4,_,_,rfl,rfl,s4 _ _ ha3,h4,ya0 (zaC (by omega)),fun c5 hc5=>?_⟩
 have s5:=zah hc5 (.lst (xs3 ++ us))
 have hn5:=zir hc5 (.lst (xs3 ++ us))
 have hcd : c5≠d:=fun z=>zad (s4 _ _ hd3) hc5 z.symm
 have hcf : H c5 = none:=(s03.trans s4).free hc5
 have f5 : ∃ zs : List V,upd H4 c5 (.lst (xs3 ++ us)) c5 = some (.lst zs)∧(0 < zs.length∧zs.length≤60)∧∀ z∈zs,NWD K ps Av z (del (upd H4 c5 (.lst (xs3 ++ us))) [c5]):=by
  refine ⟨_,zac,by rw [yae]; omega,fun z hz=>?_⟩
  rcases yaf.mp hz with y | y
  ·exact NWD.same _ _ _ (s4.trans hn5) (he3 z y)
  ·obtain ⟨j,hj⟩:=List.getElem?_of_mem y
   obtain ⟨k,hk,p,rfl,e2,e3,e4⟩:=zd3 hP hj
   have hkl:=hlo k (yaW hk)
   refine NWD.same _ _ _ hn5 (zfI e2 e4 (by rw [yaa,yae,yaH]; omega) (fun z hz=>?_) (zio hw0 (by rw [hwl0]; exact hkl.2)))
   obtain ⟨n,hn,rfl⟩:=yaY.mp hz
   rcases yaf.mp hn with y | y
   ·exact El.nat (hwk n y)
   ·rw [yag.mp y]
    exact El.nat (by omega)
 have s05:=s03.trans (s4.trans s5)
 generalize upd H4 c5 (.lst (xs3 ++ us)) = H5 at s5 f5 s05 ⊢
 have h5w:=s05 _ _ W.at_
 have hd5:=s05 _ _ hob
 obtain ⟨zs5,h5c,hl5,he5⟩:=f5
 have el10 : ∀ {H' : Hp},∀ z∈[V.int 0],El false z H':=fun z hz=>by
  rw [yag.mp hz]
  exact El.nat (n:=0) (by decide)
 have cut1 : cutV (w.map nV) none (some 1) = (w.take 1).map nV:=by
  have:=ziY (xs:=w.map nV) 1
  rw [← ybI] at this
  exact this
 have cut2 : cutV (w.map nV) (some 2) none = (w.drop 2).map nV:=by
  have:=zi0 (xs:=w.map nV) 2
  rw [← List.map_drop] at this
  exact this
 have elh : ∀ {H' : Hp},∀ z∈(w.take 1 ++ w.drop 2).map nV,El false z H':=fun z hz=>by
  obtain ⟨n,hn,rfl⟩:=yaY.mp hz
  rcases yaf.mp hn with y | y
  ·exact El.nat (hwk n (ybj y))
  ·exact El.nat (hwk n (yby y))
 have hhl : (w.take 1 ++ w.drop 2).length≤900:=by
  rw [yae,yar,yaG]
  omega
 have hob5:=hAv.mono s05
 have lw5 : ∀ {H'},Same H5 H'→LX Av (w.map nV) (.ref wa) H':=fun s=>⟨wa,hwA,rfl,s _ _ h5w⟩
 refine ⟨fun σ' H'=>∃ (c : Addr) (zs : List V),σ' = [some (.ref d),some (.ref t),some (.ref wa),some (.ref D),some (.ref c)]∧H' c = some (.lst zs)∧(0 < zs.length∧zs.length≤62)∧c≠d∧H c = none∧(∀ z∈zs,NWD K ps Av z (del H' [c]))∧Same H5 H',?_,?_⟩
 ·refine ⟨_,rfl,_,_,rfl,.inl (SqL.of h5w),_,_,rfl,rfl,_,rfl,?_⟩
  refine ite2 (fun z1=>?_) (fun _=>⟨c5,zs5,rfl,h5c,⟨hl5.1,by omega⟩,hcd,hcf,he5,Same.refl _⟩)
  have z1:=yaK z1
  rw [yaa] at z1
  have hw1 : 1 < w.length:=by omega
  refine ⟨_,rfl,?_⟩
  refine (zgq (n:=2) (NWD.same (K:=K) (ps:=ps) (d:=Av)) (zaB NWD.same ?e1 (zaB NWD.same ?e2 zgp))) H5 (Same.refl _) _ fun y6 H6 s6 r6=>?_
  case e1=>exact (zk6 hob5 rfl (lw5 (Same.refl _)) (fun _ _ _ q=>⟨_,rfl,_,rfl,q⟩)).mono fun _ H' s h=>mk h (by rw [List.length_reverse,yaa]; omega) (fun z hz=>elw z (List.mem_reverse.mp hz)) (by rw [← List.map_reverse]; exact zin hT W.ch hw1)
  case e2=>
   refine (zbS hob5 (zbS hob5 (zct hob5 rfl (lw5 (Same.refl _)) zdf (fun _ _ _ q=>⟨_,rfl,q⟩)) (zct hob5 rfl (lw5 (Same.refl _)) (fun _ _ _ q=>⟨_,rfl,q⟩) zdf) ?_) (zbL hob5 (zbf (v:=.int 0) (gv_c fun _ _=>rfl) zbK) (by decide)) ?_).mono fun _ H' s h=>?_
   ·rw [cut1,cut2,yaa,yaa,yar,yaG]
    omega
   ·rw [cut1,cut2,← yas,yaa]
    show _ + 1≤_
    omega
   ·rw [cut1,cut2,← yas] at h
    refine mk h (by rw [yae,yaa]; show _ + 1≤_; omega) (elc elh el10) ?_
    rw [show (w.take 1 ++ w.drop 2).map nV ++ [V.int 0] = (w.take 1 ++ w.drop 2 ++ [0]).map nV by rw [yas (l₂:=[0])]; rfl]
    exact zjJ hw0 hw1
  obtain ⟨b6,ys6,rfl,hb6,l6,e6⟩:=r6
  refine ⟨c5,b6,_,_,rfl,rfl,s6 _ _ h5c,hb6,ya0 (zaC (by omega)),fun c7 hc7=>?_⟩
  have hn7:=zir hc7 (.lst (zs5 ++ ys6))
  refine ⟨c7,_,rfl,zac,by rw [yae]; omega,(fun z=>zad (s6 _ _ hd5) hc7 z.symm),(s05.trans s6).free hc7,fun z hz=>?_,s6.trans (zah hc7 _)⟩
  rcases yaf.mp hz with y | y
  ·exact NWD.same _ _ _ (fun b o e=>hn7 _ _ (s6 _ _ (zed e).2)) (he5 z y)
  ·exact NWD.same _ _ _ hn7 (e6 z y)
 rintro σ' H6 ⟨c,zs,rfl,hc,hlz,hcd',hcf',he,s6⟩
 have h6w:=s6 _ _ h5w
 have hd6:=s6 _ _ hd5
 have s06:=s05.trans s6
 have hcw : wa≠c:=zad W.at_ hcf'
 refine ⟨fun σ' H'=>∃ (zs : List V),σ' = [some (.ref d),some (.ref t),some (.ref wa),some (.ref D),some (.ref c)]∧H' c = some (.lst zs)∧(0 < zs.length∧zs.length≤63)∧(∀ z∈zs,NWD K ps Av z (del H' [c]))∧But c H6 H',?_,?_⟩
 ·refine ⟨_,rfl,_,_,rfl,.inl (SqL.of h6w),_,_,rfl,rfl,_,rfl,?_⟩
  refine ite2 (fun z1=>?_) (fun _=>⟨zs,rfl,hc,⟨hlz.1,by omega⟩,he,fun _ _ _ e=>e⟩)
  have z1:=yaK z1
  rw [yaa] at z1
  have hw2 : 2 < w.length:=by omega
  have hob6 : zfq H6 (c :: Av):=fun a ha=>by
   rcases yaj.mp ha with z | z
   ·rw [z]
    exact ⟨_,hc⟩
   ·exact (hob5.mono s6) a z
  have lw6 : LX (c :: Av) (w.map nV) (.ref wa) H6:=⟨wa,(fun z=>by
   rcases yaj.mp z with y | y
   ·exact hcw y
   ·exact hwA y),rfl,h6w⟩
  refine ⟨_,rfl,.inl ⟨rfl,_,SqL.of hc⟩,?_⟩
  refine (zbS hob6 (zct hob6 rfl lw6 zdf (fun _ _ _ q=>⟨_,rfl,q⟩)) (zct hob6 rfl lw6 (fun _ _ _ q=>⟨_,rfl,q⟩) zdf) ?_) H6 (Same.refl _) _ fun y7 H7 s7 r7=>?_
  ·rw [cut1,cut2,yaa,yaa,yar,yaG]
   omega
  obtain ⟨a7,n7,rfl,h7⟩:=r7
  rw [cut1,cut2,← yas] at h7
  have n7d : a7∉Av:=fun z=>n7 (yal _ z)
  have n7c : a7∉[c]:=fun z=>n7 (by rw [yag.mp z]; exact yah)
  refine ⟨_,_,_,rfl,rfl,s7 _ _ hc,zaC (by omega),?_⟩
  refine ⟨zs ++ [.ref a7],rfl,zac,by rw [yae,yaH]; omega,fun z hz=>?_,fun b o n e=>by rw [zaj n]; exact s7 _ _ e⟩
  refine NWD.same _ _ _ zli ?_
  rcases yaf.mp hz with y | y
  ·exact NWD.same _ _ _ (zfl s7) (he z y)
  ·rw [yag.mp y]
   exact zfI n7d (by rw [zcc n7c]; exact h7) (by rw [yaa]; omega) elh (zkW hT W.ch hw2)
 rintro σ' H7 ⟨zs7,rfl,h7c,hl7,he7,k7⟩
 have kd7 : Keep d H H7:=fun b o _ e=>k7 _ _ (zad e hcf') (s06 _ _ e)
 have ls7 : LS K L d H7:=hs.same fun b o e=>k7 _ _ (zad e hcf') (s06 _ _ e)
 refine ⟨_,rfl,_,rfl,_,rfl,_,_,rfl,.inl (SqL.of h7c),d,L,_,rfl,by omega,ls7,fun v H8 v0 v1 k8 s8=>?_⟩
 obtain ⟨j,rfl⟩:=zfJ v0
 have hj : j < zs7.length:=by omega
 refine ⟨_,_,_,_,rfl,rfl,SqL.of (k8 _ _ hcd' h7c),zbi (yad hj),?_⟩
 have hz:=he7 _ (ybd hj)
 have sd : Same (del (del H7 [c]) Av) (del H8 Av):=fun b o e=>by
  obtain ⟨n,e1⟩:=zed e
  rw [zcc n]
  exact k8 _ _ (fun z=>n (by rw [z]; exact hdA)) (zed e1).2
 exact q _ H8 ⟨hz.1.same sd,Txt3.same _ _ _ sd hz.2⟩ (fun b o n e=>k8 _ _ n (kd7 _ _ n e)) s8
theorem hu16 {A : Around} {k : Nat} (hr : Room k A) : A.units + 16 < cLine:=yaP (yb3 (by decide : 16≤64) _) hr.units
def zhV (K : Frag) (m1 m2 : Addr) : Sp:=fun vs H Q _=>∃ (st : Addr) (x : V) (key : Int) (b : Nat),vs = [.ref st,x,.int key,.int b]∧b < 7∧
 ((∃ (wa : Addr) (ps : List Nat) (rows : List (List Int)) (t rs : Addr) (as : List Addr) (w : List Nat),x = .ref wa∧zaJ H st ps rows t rs as∧zb2 H wa ps w∧TabA m1 m2 H∧∀ H',K2 m1 m2 H H'→TabA m1 m2 H'→Q (.str "none") H')∨
 ∃ (t rs : Addr) (ps : List Nat),H st = some (.tup [.ref t,.ref rs])∧H t = some (.tup (za2 ps))∧ps.length≤900∧NoW K ps x H∧∀ H',Same H H'→Q (.str "way") H')
theorem zjz (T : Txt K mg) {C_BridgeError C_NoTree C_NoWay C_NoStand C_Twice C_Missing C_NoRoom C_NoKnot C_NoKey C_NoOrder C_NoRow C_NoText : Addr} (CL : Cls K mg C_BridgeError C_NoTree C_NoWay C_NoStand C_Twice C_Missing C_NoRoom C_NoKnot C_NoKey C_NoOrder C_NoRow C_NoText) {m1 m2 : Addr} (D_l_heard : DF K mg "_law_heard" zc3 zcE) (F_l_ask : FX P w K mg base 8 "_law_ask" zdM (zj9 K m1 m2 C_NoWay)) : FC P w K mg base 9 "_law_heard" zcE (zhV K m1 m2):=by
 refine D_l_heard.ok sc_l_heard (fun vs H Q E h=>?_) (fun f cdv A outer s H vs Q E hr h=>?_)
 ·obtain ⟨st,x,key,b,rfl,_⟩:=h
  rfl
 obtain ⟨st,x,key,b,rfl,hb,h⟩:=h
 refine ⟨_,(zag (zao (i:=4) sc_l_heard.nd rfl (Or.inl rfl) zco)
   (zaD (zkI (i:=5) (zkG F_l_ask hr (zaa (pv 0) (zaa (pv 1) (zaa (pv 2) (zaa (pv 3) zab))))) rfl rfl sc_l_heard.nd rfl rfl CL.n_BridgeError rfl (fun _=>(zaf (zao (i:=4) sc_l_heard.nd rfl (Or.inl rfl) (pv 5)))))
   (zaD (zbc (zap zlU (pv 4) zco (zau _)) (zaf (zan zaX)) zax)
   (zaD (zbc (zc7 (zam zei rfl T.m_isinstance boot_isinstance (zaa (pv 4) (zaa (zcn (zaa (za3 (v:=.ref C_Missing) rfl CL.n_Missing rfl) (zaa (za3 (v:=.ref C_NoKey) rfl CL.n_NoKey rfl) (zaa (za3 (v:=.ref C_NoKnot) rfl CL.n_NoKnot rfl) (zaa (za3 (v:=.ref C_NoOrder) rfl CL.n_NoOrder rfl) (zaa (za3 (v:=.ref C_NoRoom) rfl CL.n_NoRoom rfl) (zaa (za3 (v:=.ref C_NoRow) rfl CL.n_NoRow rfl) (zaa (za3 (v:=.ref C_NoStand) rfl CL.n_NoStand rfl) (zaa (za3 (v:=.ref C_NoText) rfl CL.n_NoText rfl) (zaa (za3 (v:=.ref C_NoTree) rfl CL.n_NoTree rfl) (zaa (za3 (v:=.ref C_Twice) rfl CL.n_Twice rfl) zab))))))))))) zab)))) (zaf (zan zaX)) zax)
   (zaD (zbc (zdX (zc7 (zam zei rfl T.m_isinstance boot_isinstance (zaa (pv 4) (zaa (zd1 (v:=.ty "ValueError") rfl T.m_ValueError (by decide +kernel) rfl) zab))))) (zaf (zan zaX)) zax)
   (zaf (zan (zaE zaw (zaF (zaa zaX (zaa zaX zab))) (za6 zfY rfl T.m_int boot_int (zaa (zam zei rfl T.m_isinstance boot_isinstance (zaa (pv 4) (zaa (za3 (v:=.ref C_NoWay) rfl CL.n_NoWay rfl) zab))) zab)) (fun _ _=>rfl))))))))),?_⟩
 rcases h with ⟨wa,ps,rows,t,rs,as,w,rfl,S,W,TT,q⟩ | ⟨t,rs,ps,hst,ht,hp,hN,q⟩
 ·refine ⟨fun σ' H'=>σ' = [some (.ref st),some (.ref wa),some (.int key),some (.int b),some .non,none]∧K2 m1 m2 H H'∧TabA m1 m2 H',?_,?_⟩
  ·exact ⟨_,rfl,_,rfl,_,rfl,_,rfl,st,_,key,b,rfl,hb,.inl ⟨wa,ps,rows,t,rs,as,w,rfl,S,W,TT,fun v H' k' t'=>⟨rfl,k',t'⟩⟩⟩
  rintro σ' H1 ⟨rfl,k1,T1⟩
  refine ⟨fun _ _=>False,?_,fun _ _ z=>z.elim⟩
  refine ⟨_,rfl,rfl,_,rfl,?_⟩
  exact zhu rfl (q H1 k1 T1)
 ·refine ⟨fun σ' H'=>∃ a,σ' = [some (.ref st),some x,some (.int key),some (.int b),some (.ref a),none]∧H' a = some (zfU a (.ref C_NoWay))∧Same H H',?_,?_⟩
  ·exact ⟨_,rfl,_,rfl,_,rfl,_,rfl,st,x,key,b,rfl,hb,.inr ⟨t,rs,ps,hst,ht,hp,hN,fun H' s'=>⟨C_NoWay,rfl,CL.h_NoWay,fun a ha=>⟨_,rfl,a,rfl,zac,s'.trans (zah ha _)⟩⟩⟩⟩
  rintro σ' H1 ⟨a,rfl,ha,s1⟩
  refine ⟨fun σ' H'=>σ' = [some (.ref st),some x,some (.int key),some (.int b),some (.ref a),none]∧H1 = H',?_,?_⟩
  ·refine ⟨_,rfl,rfl,_,rfl,?_⟩
   refine ziE (fun z=>nomatch z) ?_
   exact ⟨rfl,rfl⟩
  rintro σ' H' ⟨rfl,rfl⟩
  refine ⟨fun σ' H'=>σ' = [some (.ref st),some x,some (.int key),some (.int b),some (.ref a),none]∧Same H1 H',?_,?_⟩
  ·refine ⟨_,rfl,(by show 10≤sizeLine; decide),fun tp htp=>?_⟩
   have st:=zah htp (.tup [.ref C_Missing,.ref C_NoKey,.ref C_NoKnot,.ref C_NoOrder,.ref C_NoRoom,.ref C_NoRow,.ref C_NoStand,.ref C_NoText,.ref C_NoTree,.ref C_Twice])
   refine ⟨a,C_NoWay,_,false,rfl,st _ _ ha,CL.x_NoWay,.inr (.inr ⟨tp,[C_Missing,C_NoKey,C_NoKnot,C_NoOrder,C_NoRoom,C_NoRow,C_NoStand,C_NoText,C_NoTree,C_Twice],rfl,zac,by show PySem.W.kitAny K _ _ = _; simp only [List.map,PySem.W.kitAny,CL.k_NoWay_Missing,CL.k_NoWay_NoKey,CL.k_NoWay_NoKnot,CL.k_NoWay_NoOrder,CL.k_NoWay_NoRoom,CL.k_NoWay_NoRow,CL.k_NoWay_NoStand,CL.k_NoWay_NoText,CL.k_NoWay_NoTree,CL.k_NoWay_Twice]⟩),_,rfl,?_⟩
   refine iteF ?_
   exact ⟨rfl,st⟩
  rintro σ' H2 ⟨rfl,s2⟩
  refine ⟨fun σ' H'=>σ' = [some (.ref st),some x,some (.int key),some (.int b),some (.ref a),none]∧H2 = H',?_,?_⟩
  ·refine ⟨_,rfl,a,C_NoWay,_,true,rfl,s2 _ _ ha,CL.x_NoWay,.inr (.inl ⟨_,rfl,CL.v_NoWay⟩),_,rfl,?_⟩
   refine iteF ?_
   exact ⟨rfl,rfl⟩
  rintro σ' H' ⟨rfl,rfl⟩
  refine ⟨(by show 2≤sizeLine; decide),fun l hl=>?_⟩
  have gl:=zah hl (.lst [V.str "other",V.str "way"])
  have wl : upd H2 l (.lst [V.str "other",V.str "way"]) l = some (.lst [V.str "other",V.str "way"]):=zac
  generalize upd H2 l (.lst [V.str "other",V.str "way"]) = H3 at gl wl ⊢
  refine ⟨_,rfl,a,C_NoWay,_,true,rfl,gl _ _ (s2 _ _ ha),CL.x_NoWay,.inl ⟨_,rfl,CL.k_NoWay_NoWay⟩,?_⟩
  refine .inr ⟨true,rfl,?_⟩
  refine ⟨_,_,_,_,rfl,rfl,SqL.of wl,rfl,?_⟩
  exact q H3 (s1.trans (s2.trans gl))
def zfx (K : Frag) (m1 m2 : Addr) : Sp:=fun vs H Q _=>∃ (a : Addr) (ns : List Int),vs = [.ref a]∧SqL K H a (ns.map V.int)∧ns.length≤63∧m1≠m2∧H m1 = some (.tbl #[])∧H m2 = some (.tbl #[])∧∀ H',Q (.bl true) H'
set_option maxHeartbeats 1000000 in
theorem zlX (T : Txt K mg) {m1 m2 : Addr} (D_law : DF K mg "law" zjm zgP) (F_l_begin : FC P w K mg base 1 "_law_begin" zcG (zhY K)) (F_l_stand : FC P w K mg base 6 "_law_stand" zcC (zgI K)) (F_l_way : FC P w K mg base 3 "_law_way" zdK (zj8 K)) (F_l_asked_key : FC P w K mg base 4 "_law_asked_key" zbl (zhZ K)) (F_l_no_ways : FC P w K mg base 3 "_law_no_ways" zbP (zgH K)) (F_l_heard : FC P w K mg base 9 "_law_heard" zcE (zhV K m1 m2)) : FC P w K mg base 10 "law" zgP (zfx K m1 m2):=by
 refine D_law.ok sc_law (fun vs H Q E h=>?_) (fun f cdv A outer s H vs Q E hr h=>?_)
 ·obtain ⟨a,ns,rfl,_⟩:=h
  rfl
 obtain ⟨a,ns,rfl,hS,_,hnd,hm1,hm2,q⟩:=h
 have TT0 : TabA m1 m2 H:=⟨⟨#[],hm1,trivial,.inl rfl⟩,⟨#[],hm2,trivial,.inl rfl⟩,hnd⟩
 refine ⟨_,(zag (zao (i:=1) sc_law.nd rfl (Or.inl rfl) (zas F_l_begin hr (zaa (pv 0) zab)))
   (zag (zao (i:=2) sc_law.nd rfl (Or.inl rfl) (zas F_l_stand hr (zaa (pv 1) zab)))
   (zag (zao (i:=3) sc_law.nd rfl (Or.inl rfl) (zas F_l_way hr (zaa (pv 1) (zaa (zaE zbQ (pv 2) zae (fun _ _=>rfl)) zab))))
   (zag (zao (i:=4) sc_law.nd rfl (Or.inl rfl) (zas F_l_asked_key hr (zaa (pv 1) (zaa (pv 2) zab))))
   (zag (zcb PassesOwn.never rfl (zbY rfl T.m_range (zaa zae zab)) (zav (i:=5) sc_law.nd rfl (Or.inl rfl)) (zag (zao (i:=6) sc_law.nd rfl (Or.inl rfl) (zas F_l_no_ways hr (zaa (pv 1) (zaa (zaE zbQ (pv 2) zae (fun _ _=>rfl)) (zaa (pv 3) zab)))))
   (zag (zao (i:=7) sc_law.nd rfl (Or.inl rfl) (zam (zbU.or (zfX hr.gd (hu16 hr)) (zeG hr.gd (hu16 hr))) rfl T.m_repr boot_repr (zaa (pv 6) zab)))
   (zag (zcb PassesOwn.never rfl (zbY rfl T.m_range (zaa zae zab)) (zav (i:=8) sc_law.nd rfl (Or.inl rfl)) (zaf (zbc (PW.pt (zhi (zap zfF (zas F_l_heard hr (zaa (pv 2) (zaa (pv 3) (zaa (pv 4) (zaa (pv 8) zab))))) zaX (zau _)) (zeu (zap zfF (zas F_l_heard hr (zaa (pv 2) (zaa (pv 6) (zaa (pv 4) (zaa (pv 8) zab))))) zaX (zau _))))) (zaf (zan zdc)) zax)))
   (zaf (zbc (zap zfF (zam (zbU.or (zfX hr.gd (hu16 hr)) (zeG hr.gd (hu16 hr))) rfl T.m_repr boot_repr (zaa (pv 6) zab)) (pv 7) (zau _)) (zaf (zan zdc)) zax))))))
   (zag (zao (i:=9) sc_law.nd rfl (Or.inl rfl) (zcn (zaa (zbm zgc (zaE zbQ (pv 2) zae (fun _ _=>rfl)) zcU (zbe (zaE zaw (pv 3) (zdY zce zae) (fun _ _=>rfl)))) (zaa (zbm zgc (zaE zbQ (pv 2) zae (fun _ _=>rfl)) zcU (zbe (zaE zaw (pv 3) (zdY zce zae) (fun _ _=>rfl)))) zab))))
   (zag (zao (i:=10) sc_law.nd rfl (Or.inl rfl) (za6 zcx rfl T.m_list boot_list (zaa (pv 3) zab)))
   (zag (zcb PassesOwn.never rfl (zbY rfl T.m_range (zaa (zar zcP zae (za6 zfY rfl T.m_int boot_int (zaa (zd0 zeo (zaE zaw (pv 3) (zdY zce zae) (fun _ _=>rfl)) zae (zau _)) zab))) zab)) (zav (i:=8) sc_law.nd rfl (Or.inl rfl)) (zaf (zbc (PW.pt (zhi (zap zfF (zas F_l_heard hr (zaa (pv 2) (zaa (pv 10) (zaa (pv 4) (zaa (pv 8) zab))))) zaX (zau _)) (zeu (zap zfF (zas F_l_heard hr (zaa (pv 9) (zaa (pv 10) (zaa (pv 4) (zaa (pv 8) zab))))) zaX (zau _))))) (zaf (zan zdc)) zax)))
   (zaf (zan (zgT (zd0 zd6 (zas F_l_heard hr (zaa (pv 2) (zaa (pv 10) (zaa (pv 4) (zaa zae zab))))) zaX (zau _)) (zgQ (zd0 (zkj (List Int) (huD hr)) (pv 10) (pv 3) (zau _)))))))))))))),?_⟩
 refine ⟨_,rfl,a,ns,rfl,hS,fun d H1 _ g1 s1=>?_⟩
 have ndT : ∀ {H' : Hp} {p : Addr} {o : HO},LS K a d H'→H' p = some o→(∀ kvs,o≠.dK kvs)→p≠d:=fun s hp n z=>by
  obtain ⟨_,_,_,e,_⟩:=s.ex
  rw [← z,hp] at e
  exact n _ (yai e)
 refine ⟨_,rfl,d,a,rfl,s1,fun st ps rows t rs as H2 S k2 s2=>?_⟩
 have T2 : TabA m1 m2 H2:=(TT0.ext g1.ext).ext (s1.ext k2)
 have hfew:=S.few
 refine ⟨_,rfl,_,rfl,_,_,_,_,rfl,rfl,SqT.of S.st,rfl,d,a,t,ps,rfl,S.tr,S.T,S.few,s2,fun wa w H3 hwa W3 k3 s3=>?_⟩
 have tk : ∀ {HX HY : Hp} {b : Addr} {o : List V},LS K a d HX→Keep d HX HY→HX b = some (.tup o)→HY b = some (.tup o):=fun s k e=>k _ _ (ndT s e (fun _ z=>by cases z)) e
 have S3:=KeepT.stand S fun _ _ e=>tk s2 k3 e
 refine ⟨_,rfl,_,rfl,d,a,st,ps,rows,t,rs,as,rfl,S3,s3,fun key H4 k4 s4=>?_⟩
 have S4:=KeepT.stand S3 fun _ _ e=>tk s3 k4 e
 have T4:=(T2.ext (s2.ext k3)).ext (s3.ext k4)
 have hwd : wa≠d:=fun z=>by
  obtain ⟨_,_,_,e,_⟩:=s2.ex
  rw [← z,hwa] at e
  cases e
 have W4 : zb2 H4 wa ps w:=⟨k4 _ _ hwd W3.at_,W3.len,W3.ne,W3.ch,W3.kn⟩
 clear S S3 W3 T2 TT0 k2 k3 k4 s1 s2 s3
 have hla : atI (w.map nV) (-1) = some (nV (w.getD (w.length - 1) 0)):=by
  have hw0 : 0 < w.length:=ybe.mpr W4.ne
  have e : w = w.take (w.length - 1) ++ [w.getD (w.length - 1) 0]:=by
   conv=>lhs; rw [← yaz (yab w.length),show w.length = w.length - 1 + 1 by omega,zbN (by omega)]
  conv=>lhs; rw [e]
  exact zfp
 have P : ∀ H' : Hp,(∀ b o,b≠d→(∀ tab,o≠.tbl tab)→H4 b = some o→H' b = some o)→zaJ H' st ps rows t rs as∧zb2 H' wa ps w:=fun H' k=>by
  have kt : ∀ {b : Addr} {o : HO},(∀ tab,o≠.tbl tab)→(∀ kvs,o≠.dK kvs)→H4 b = some o→H' b = some o:=fun n1 n2 e=>k _ _ (ndT s4 e n2) n1 e
  exact ⟨KeepT.stand S4 fun _ _ e=>kt (fun _ z=>by cases z) (fun _ z=>by cases z) e,⟨kt (fun _ z=>by cases z) (fun _ z=>by cases z) W4.at_,W4.len,W4.ne,W4.ch,W4.kn⟩⟩
 refine ⟨3,rfl,by decide,by decide,?_⟩
 refine zbq (n:=3) (fun i σ HA=>∃ x5 x6 x7 x8 x9 x10 : Option V,σ = [some (.ref a),some (.ref d),some (.ref st),some (.ref wa),some (.int key),x5,x6,x7,x8,x9,x10]∧(∀ b o,b≠d→(∀ tab,o≠.tbl tab)→H4 b = some o→HA b = some o)∧TabA m1 m2 HA∧LS K a d HA∧(x9 = none∧x10 = none)) ?_ ?_ ?_
 ·exact ⟨_,_,_,_,_,_,rfl,fun _ _ _ _ e=>e,T4,s4,rfl,rfl⟩
 ·rintro i σ HA hi ⟨x5,x6,x7,x8,x9,x10,rfl,kA,TA,sA,rfl,rfl⟩
  obtain ⟨SA,WA⟩:=P HA kA
  have hAv : zfq HA [d,m1,m2]:=fun b hb=>by
   rcases yaj.mp hb with z | hb
   ·obtain ⟨_,_,_,e,_⟩:=sA.ex
    rw [z]
    exact ⟨_,e⟩
   rcases yaj.mp hb with z | hb
   ·obtain ⟨tab,e⟩:=zcf TA.p
    rw [z]
    exact ⟨_,e⟩
   ·obtain ⟨tab,e⟩:=zcf TA.q
    rw [yag.mp hb]
    exact ⟨_,e⟩
  have hwA : wa∉[d,m1,m2]:=fun hb=>by
   rcases yaj.mp hb with z | hb
   ·exact hwd z
   rcases yaj.mp hb with z | hb
   ·obtain ⟨tab,e⟩:=zcf TA.p
    rw [← z,WA.at_] at e
    cases e
   ·obtain ⟨tab,e⟩:=zcf TA.q
    rw [← yag.mp hb,WA.at_] at e
    cases e
  refine ⟨_,rfl,_,rfl,_,_,_,_,rfl,rfl,SqT.of SA.st,rfl,_,rfl,d,a,t,wa,ps,w,[d,m1,m2],rfl,yah,hAv,hwA,SA.tr,SA.T,hfew,WA,sA,fun x HB hx kB sB=>?_⟩
  have TB:=TA.ext (sA.ext kB)
  have kAB : ∀ b o,b≠d→(∀ tab,o≠.tbl tab)→H4 b = some o→HB b = some o:=fun b o n1 n2 e=>kB _ _ n1 (kA _ _ n1 n2 e)
  obtain ⟨hN,tx,htx⟩:=hx
  have dm : ∀ {HX : Hp},K2 m1 m2 HB HX→Same (del HB [d,m1,m2]) (del HX [d,m1,m2]):=fun {HX} k b o e=>by
   obtain ⟨n,e1⟩:=zed e
   rw [zcc n]
   exact k _ _ (fun z=>n (by rw [z]; exact yal _ yah)) (fun z=>n (by rw [z]; exact yal _ (yal _ yah))) e1
  have dd : ∀ {HX : Hp},Same (del HX [d,m1,m2]) HX:=fun {HX} b o e=>(zed e).2
  have kx : ∀ {HX : Hp},K2 m1 m2 HB HX→∀ b o,b≠d→(∀ tab,o≠.tbl tab)→H4 b = some o→HX b = some o:=fun k b o n1 n2 e=>(TB.k0 k) _ _ n2 (kAB _ _ n1 n2 e)
  refine ⟨_,rfl,?_⟩
  refine htx HB dd _ ?_
  refine ⟨7,rfl,by decide,by decide,?_⟩
  refine zbq (n:=7) (fun j σ HC=>∃ x8 : Option V,σ = [some (.ref a),some (.ref d),some (.ref st),some (.ref wa),some (.int key),some (.int (0 + (i : Int))),some x,some (.str tx),x8,none,none]∧K2 m1 m2 HB HC∧TabA m1 m2 HC) ?_ ?_ ?_
  ·exact ⟨_,rfl,fun _ _ _ _ e=>e,TB⟩
  ·rintro j σ HC hj ⟨x8,rfl,kC,TC⟩
   obtain ⟨SC,WC⟩:=P HC (kx kC)
   rw [Int.zero_add]
   refine ⟨_,rfl,_,rfl,_,rfl,_,rfl,st,_,key,j,rfl,hj,.inl ⟨wa,ps,rows,t,rs,as,w,rfl,SC,WC,TC,fun HD kD TD=>?_⟩⟩
   have kCD:=kC.trans kD
   obtain ⟨SD,WD⟩:=P HD (kx kCD)
   refine ⟨rfl,_,rfl,?_⟩
   refine iteF ?_
   refine ⟨_,rfl,_,rfl,_,rfl,_,rfl,st,x,key,j,rfl,hj,.inr ⟨t,rs,ps,SD.st,SD.tr,by omega,(hN.same (dm kCD)).same dd,fun HE sE=>?_⟩⟩
   refine ⟨rfl,_,rfl,?_⟩
   refine iteF ?_
   exact ⟨_,rfl,kCD.trans (.of sE),TD.ext sE.ext⟩
  rintro σ HC ⟨x8,rfl,kC,TC⟩
  refine ⟨_,rfl,?_⟩
  refine htx HC (fun b o e=>dd _ _ (dm kC b o e)) _ ?_
  refine ⟨_,rfl,rfl,_,rfl,?_⟩
  refine zjP rfl ?_
  exact ⟨_,_,_,_,_,_,rfl,kx kC,TC,zl0 sB (TB.k0 kC),rfl,rfl⟩
 rintro σ HA ⟨x5,x6,x7,x8,x9,x10,rfl,kA,TA,sA,rfl,rfl⟩
 obtain ⟨SA,WA⟩:=P HA kA
 have hw0 : 0 < w.length:=ybe.mpr W4.ne
 have hlk:=W4.kn _ (zdn (show w.length - 1 < w.length by omega))
 have hlm : w.getD (w.length - 1) 0∈w:=zdn (by omega)
 generalize w.getD (w.length - 1) 0 = wl at hla hlk hlm
 have notW : ∀ {xs : List V},wl < xs.length→¬ (HT.sIx xs.length 0 none = 0∧HT.sIx xs.length xs.length (some (wl : Int)) = xs.length):=fun {xs} h ⟨_,z⟩=>by
  have e : HT.sIx xs.length xs.length (some (wl : Int)) = min wl xs.length:=zcm
  omega
 have hal:=SA.at_.length
 have hlen:=SA.len
 refine ⟨_,rfl,_,_,_,_,rfl,rfl,SqT.of SA.st,rfl,_,rfl,_,rfl,_,_,_,_,rfl,rfl,SqL.of WA.at_,hla,wl,rfl,t,_,rfl,SqT.of SA.tr,(fun z=>absurd z (notW (by rw [zat]; exact hlk))),fun _ p1 hp1=>?_⟩
 have c1 : cutV (za2 ps) none (some (wl : Int)) = (za2 ps).take wl:=ziY _ _
 rw [c1]
 have sp1:=zah hp1 (.tup ((za2 ps).take wl))
 have hpp1 : upd HA p1 (.tup ((za2 ps).take wl)) p1 = some (.tup ((za2 ps).take wl)):=zac
 generalize upd HA p1 (.tup ((za2 ps).take wl)) = HB at sp1 hpp1 ⊢
 have SB:=SA.same sp1
 refine ⟨_,rfl,_,_,_,_,rfl,rfl,SqT.of SB.st,rfl,_,rfl,_,rfl,_,_,_,_,rfl,rfl,SqL.of (sp1 _ _ WA.at_),hla,wl,rfl,rs,_,rfl,SqT.of SB.rs,(fun z=>absurd z (notW (by rw [yaa]; omega))),fun _ p2 hp2=>?_⟩
 have sp2:=zah hp2 (.tup (cutV (as.map V.ref) none (some (wl : Int))))
 have hpp2:=sp2 _ _ hpp1
 generalize upd HB p2 (.tup (cutV (as.map V.ref) none (some (wl : Int)))) = HC at sp2 hpp2 ⊢
 refine ⟨(by show 2≤sizeLine; decide),fun ot hot=>?_⟩
 have sot:=zah hot (.tup [.ref p1,.ref p2])
 have hoo : upd HC ot (.tup [.ref p1,.ref p2]) ot = some (.tup [.ref p1,.ref p2]):=zac
 have ho1:=sot _ _ hpp2
 have sD:=sp1.trans (sp2.trans sot)
 generalize upd HC ot (.tup [.ref p1,.ref p2]) = HD at sot hoo ho1 sD ⊢
 refine ⟨_,rfl,wa,_,rfl,.inl (SqL.of (sD _ _ WA.at_)),fun gv hgv=>?_⟩
 have sg:=zah hgv (.lst (w.map nV))
 have hgg : upd HD gv (.lst (w.map nV)) gv = some (.lst (w.map nV)):=zac
 have sE:=sD.trans sg
 have hoo:=sg _ _ hoo
 have ho1:=sg _ _ ho1
 generalize upd HD gv (.lst (w.map nV)) = HE at sg hgg sE hoo ho1 ⊢
 have TE:=TA.ext sE.ext
 have SE:=SA.same sE
 have hwE:=sE _ _ WA.at_
 clear sD sg sot sp1 sp2 hpp1 hpp2 hp1 hp2 hot hgv SB TA SA
 refine ⟨_,rfl,_,rfl,_,_,_,_,rfl,rfl,SqL.of hwE,hla,_,_,rfl,rfl,?_⟩
 refine .inr ⟨_,rfl,?_⟩
 have ee : (7 : Int) * (if decide ((0 : Int) < (wl : Int)) = true then 1 else 0) = (((if 0 < wl then 7 else 0 : Nat)) : Int):=by
  by_cases c : 0 < wl
  ·rw [yap (show (0 : Int) < (wl : Int) by omega),if_pos rfl,if_pos c]
   rfl
  ·rw [yak (show ¬ (0 : Int) < (wl : Int) by omega),if_neg (by decide),if_neg c]
   rfl
 have hn7 : (if 0 < wl then 7 else 0 : Nat)≤7:=by split <;> omega
 refine ⟨_,_,rfl,rfl,.inl ⟨by decide,by decide⟩,_,rfl,by rw [ee]; omega,by rw [ee]; omega,?_⟩
 rw [ee,ybs]
 refine zbq (n:=(if 0 < wl then 7 else 0)) (fun j σ HF=>∃ x8 : Option V,σ = [some (.ref a),some (.ref d),some (.ref st),some (.ref wa),some (.int key),x5,x6,x7,x8,some (.ref ot),some (.ref gv)]∧K2 m1 m2 HE HF∧TabA m1 m2 HF) ?_ ?_ ?_
 ·exact ⟨_,rfl,fun _ _ _ _ e=>e,TE⟩
 ·rintro j σ HF hj ⟨x8,rfl,kF,TF⟩
  have hz : 0 < wl:=by
   by_cases c : 0 < wl
   ·exact c
   ·rw [if_neg c] at hj
    omega
  have hj7 : j < 7:=by omega
  have kp:=TE.k0 kF
  rw [Int.zero_add]
  refine ⟨_,rfl,_,rfl,_,rfl,_,rfl,st,_,key,j,rfl,hj7,.inl ⟨gv,ps,rows,t,rs,as,w,rfl,zgG kp SE,⟨kp.lst hgg,W4.len,W4.ne,W4.ch,W4.kn⟩,TF,fun HG kG TG=>?_⟩⟩
  have kEG:=kF.trans kG
  have kpG:=TE.k0 kEG
  refine ⟨rfl,_,rfl,?_⟩
  refine iteF ?_
  have etr : (za2 ps).take wl = za2 (ps.take (wl - 1)):=by
   obtain ⟨m,rfl⟩ : ∃ m,wl = m + 1:=⟨wl - 1,by omega⟩
   unfold za2
   rw [yce,ybI]
   rfl
  have hpl : (ps.take (wl - 1)).length = wl - 1:=by
   rw [yar]
   omega
  refine ⟨_,rfl,_,rfl,_,rfl,_,rfl,ot,_,key,j,rfl,hj7,.inr ⟨p1,p2,ps.take (wl - 1),kpG.tup hoo,by rw [← etr]; exact kpG.tup ho1,by omega,.inr ⟨gv,_,rfl,kpG.lst hgg,by rw [yaa]; have:=W4.len; omega,fun z hz=>?_,za4 (yaY.mpr ⟨wl,hlm,rfl⟩) (zec (by rw [hpl]; omega))⟩,fun HI sI=>?_⟩⟩
  ·obtain ⟨n,_,rfl⟩:=yaY.mp hz
   exact .int _
  refine ⟨rfl,_,rfl,?_⟩
  refine iteF ?_
  exact ⟨_,rfl,kEG.trans (.of sI),TG.ext sI.ext⟩
 rintro σ HF ⟨x8,rfl,kF,TF⟩
 have kp:=TE.k0 kF
 refine ⟨_,rfl,_,rfl,_,rfl,st,_,key,0,rfl,by decide,.inl ⟨gv,ps,rows,t,rs,as,w,rfl,zgG kp SE,⟨kp.lst hgg,W4.len,W4.ne,W4.ch,W4.kn⟩,TF,fun HG kG TG=>?_⟩⟩
 have kpG:=TE.k0 (kF.trans kG)
 refine ⟨rfl,_,rfl,?_⟩
 refine zhu rfl ?_
 refine ⟨_,rfl,_,rfl,w.map (fun n : Nat=>(n : Int)),w.map (fun n : Nat=>(n : Int)),⟨_,_,rfl,SqL.of (kpG.lst hgg),zfd⟩,⟨_,_,rfl,SqL.of (kpG.lst hwE),zfd⟩,?_⟩
 rw [yap rfl]
 exact q _
abbrev lawRoom : Nat:=10
theorem all_ok (T : Txt K mg) {C_BridgeError C_NoTree C_NoWay C_NoStand C_Twice C_Missing C_NoRoom C_NoKnot C_NoKey C_NoOrder C_NoRow C_NoText : Addr} (CL : Cls K mg C_BridgeError C_NoTree C_NoWay C_NoStand C_Twice C_Missing C_NoRoom C_NoKnot C_NoKey C_NoOrder C_NoRow C_NoText) {mc3 mp3 mc4 mp4 : Addr} (hBM : BMAt mg base) (D_is_whole : DF K mg "is_whole" zcA zbF) (D_how_many_below : DF K mg "how_many_below" za8 zaO) (D_place : DFT K mg "place" zdq zcB mc3 mp3) (D_place_in : DFT K mg "place_in" zbD zaQ mc4 mp4) (D_joined_up : DF K mg "joined_up" zb5 zbp) (D_is_one_of_first : DF K mg "is_one_of_first" zaM zay) (D_is_way : DF K mg "is_way" zc6 zbG) (D_need_way : DF K mg "need_way" zbW zaR) (D_own_entries : DF K mg "own_entries" zbw za5) (D_rows_on : DF K mg "rows_on" zcl zaN) (D_entries_on : DF K mg "entries_on" zbo zaz) (D_places : DF K mg "places" zc0 zbX) (D_who_has : DF K mg "who_has" zcj za9) (D_first_with : DF K mg "first_with" zbn za1) (D_keys_between : DF K mg "keys_between" zbk za0) (D_stretch : DF K mg "stretch" zck zbE) (D_above : DF K mg "above" zdW zcI) (D_below : DF K mg "below" zdV zcH) (D_joined_from : DF K mg "joined_from" zbd zaV) (D_l_every : DF K mg "_law_every" zc4 zcF) (D_l_begin : DF K mg "_law_begin" zc5 zcG) (D_l_mixed : DF K mg "_law_mixed" zc2 zcD) (D_l_take : DF K mg "_law_take" zdI zaZ) (D_l_key : DF K mg "_law_key" ze0 zda) (D_l_tree : DF K mg "_law_tree" zdH zc8) (D_l_row : DF K mg "_law_row" zeZ zdL) (D_l_rows : DF K mg "_law_rows" zdJ zc9) (D_l_children : DF K mg "_law_children" zbO zby) (D_l_way : DF K mg "_law_way" zeY zdK) (D_l_stand : DF K mg "_law_stand" zc1 zcC) (D_l_asked_key : DF K mg "_law_asked_key" zbx zbl) (D_l_no_ways : DF K mg "_law_no_ways" zb4 zbP) (D_l_ask : DF K mg "_law_ask" ze1 zdM) (D_l_heard : DF K mg "_law_heard" zc3 zcE) (D_law : DF K mg "law" zjm zgP) : FC P w K mg base 10 "law" zgP (zfx K mp3 mp4):=
 have m:=zjv (P:=P) (w:=w) (base:=base) T D_l_mixed
 have t:=zkQ T D_l_take m
 have ky:=zlY T D_l_key t
 have wh:=zjs (P:=P) (w:=w) (base:=base) T D_is_whole
 have nw:=zkR T D_need_way (zjy T D_is_way (zjA T D_is_one_of_first wh))
 have pl:=zjt (P:=P) (w:=w) (base:=base) T D_place hBM (fun b=>zkl (base:=b) T D_how_many_below)
 have pi:=zhn (P:=P) (w:=w) (base:=base) T D_place_in hBM (fun b=>zkl (base:=b) T D_how_many_below)
 have ro:=zib T D_rows_on nw
 have ow:=zlW (P:=P) (w:=w) (base:=base) T D_own_entries
 have jo:=zie (P:=P) (w:=w) (base:=base) T D_joined_up
 have eo:=zjC T D_entries_on nw ow jo
 have kb:=zmu T D_keys_between pl
 have who:=zlV T D_who_has ro
 have nx:=zju T CL D_need_way (zif T D_is_way (zih T D_is_one_of_first wh))
 have rx:=zhl T D_rows_on nx
 have ex:=zii T D_entries_on nx ow jo
 have wx:=zkP T D_who_has rx
 have ask:=zkU T D_l_ask (((zic T D_places ro pl).fx.or (zhm T D_places rx pl)).mono (by decide)) ((who.fx.or wx).mono (by decide)) ((zig T D_first_with who).fx.or (zhp T D_first_with wx)) (((zjG T D_above eo pi).fx.or (zik T D_above ex pi)).mono (by decide)) (((zjD T D_below eo pi).fx.or (zij T D_below ex pi)).mono (by decide)) (((zhk T D_stretch ro kb).fx.or (zgf T D_stretch rx kb)).mono (by decide)) (((zfa T D_joined_from eo pi).fx.or (zep T D_joined_from ex pi)).mono (by decide))
 zlX T D_law (zjE T D_l_begin) (zho T D_l_stand t (zjw T D_l_tree t) (zjx T D_l_rows t (zkT T D_l_row t ky))) (zkS T D_l_way t (zfG T D_l_children)) (zjF T D_l_asked_key (zjB T D_l_every) t ky) (zid T D_l_no_ways t) (zjz T CL D_l_heard ask)
end
structure AD (K : Frag) (x : Str) (st : Stmt) : Prop where
 ex : ∃ (f : Addr) (oc : Value) (od : Option Addr) (kV dc pm : Value) (an : Option Addr) (cd ct : Value) (sl : Array (Option Value)),nsIn K mainGlobals x = some (some (.ref f))∧K.lookup f = some ⟨oc,od,.func (fnOf x x (zbT st) (zbg st) (zai st) .none kV dc pm an cd ct),sl⟩∧codeIn K cd x = true∧keepIn K (.ref f) = true
theorem AD.of {K : Frag} {x : Str} {st : Stmt} {f : Addr} {oc : Value} {od : Option Addr} {kV dc pm : Value} {an : Option Addr} {cd ct : Value} {sl : Array (Option Value)} (a : nsIn K mainGlobals x = some (some (.ref f))) (l : K.lookup f = some ⟨oc,od,.func (fnOf x x (zbT st) (zbg st) (zai st) .none kV dc pm an cd ct),sl⟩) (c : codeIn K cd x = true) (k : keepIn K (.ref f) = true) : AD K x st:=⟨f,oc,od,kV,dc,pm,an,cd,ct,sl,a,l,c,k⟩
theorem AD.df {K : Frag} {h : Heap} {mg : Str→Option Value} {x : Str} {st : Stmt} {ps : List Str} (a : AD K x st) (X : K.In h) (G : h.Ns mainGlobals mg)
  (hb : ∀ (kV doc pm : Value) (an : Option Addr) (cdv ct : Value) (us : List Value),us.length = ps.length→bindArgs (fnOf x x (zbT st) (zbg st) (zai st) .none kV doc pm an cdv ct) ⟨us,[]⟩ = pure (ps.zip us):=by
   intro _ _ _ _ _ _ u h
   rcases u with _ | ⟨_,_ | ⟨_,_ | ⟨_,_ | ⟨_,_ | ⟨_,_ | ⟨_,_ | ⟨_,u⟩⟩⟩⟩⟩⟩⟩ <;> first | rfl | cases h) : DF K mg x st ps:=by
 obtain ⟨f,oc,od,kV,dc,pm,an,cd,ct,sl,a,l,c,k⟩:=a.ex
 exact ⟨_,_,ziM l c k,(ziM l c k).binds hb,mg_of X G a⟩
theorem AD.dft {K : Frag} {h : Heap} {mg : Str→Option Value} {x : Str} {st : Stmt} {ps : List Str} {mc mp : Addr} (a : AD K x st) (X : K.In h) (G : h.Ns mainGlobals mg) (t : tabIn K x = some (mc,mp)) (hh : codeHdIn K mc mp = true)
  (hb : ∀ (kV doc pm : Value) (an : Option Addr) (cdv ct : Value) (us : List Value),us.length = ps.length→bindArgs (fnOf x x (zbT st) (zbg st) (zai st) .none kV doc pm an cdv ct) ⟨us,[]⟩ = pure (ps.zip us):=by
   intro _ _ _ _ _ _ u h
   rcases u with _ | ⟨_,_ | ⟨_,_ | ⟨_,_ | ⟨_,_ | ⟨_,_ | ⟨_,_ | ⟨_,u⟩⟩⟩⟩⟩⟩⟩ <;> first | rfl | cases h) : DFT K mg x st ps mc mp:=by
 obtain ⟨f,oc,od,kV,dc,pm,an,cd,ct,sl,a,l,c,k⟩:=a.ex
 have e : cd = .ref mc:=L2.zjh a l t
 subst e
 exact ⟨⟨_,_,_,_,_,_,_,_,_,l,c,k,mg_of X G a,(ziM l c k).binds hb⟩,hh⟩
theorem zmg {l : OpenLaw} {w : World} {K : Frag} {h : Heap} {mg : Str→Option Value} {fa mc3 mp3 mc4 mp4 C_BridgeError C_NoTree C_NoWay C_NoStand C_Twice C_Missing C_NoRoom C_NoKnot C_NoKey C_NoOrder C_NoRow C_NoText : Addr} (X : K.In h) (G : h.Ns mainGlobals mg) (hfa : mg "law" = some (.ref fa)) (a1 : AD K "is_whole" zcA) (a2 : AD K "how_many_below" za8) (a3 : AD K "place" zdq) (a4 : AD K "place_in" zbD) (a5 : AD K "joined_up" zb5) (a6 : AD K "is_one_of_first" zaM) (a7 : AD K "is_way" zc6) (a8 : AD K "need_way" zbW) (a9 : AD K "own_entries" zbw) (a10 : AD K "rows_on" zcl) (a11 : AD K "entries_on" zbo) (a12 : AD K "places" zc0) (a13 : AD K "who_has" zcj) (a14 : AD K "first_with" zbn) (a15 : AD K "keys_between" zbk) (a16 : AD K "stretch" zck) (a17 : AD K "above" zdW) (a18 : AD K "below" zdV) (a19 : AD K "joined_from" zbd) (a20 : AD K "_law_every" zc4) (a21 : AD K "_law_begin" zc5) (a22 : AD K "_law_mixed" zc2) (a23 : AD K "_law_take" zdI) (a24 : AD K "_law_key" ze0) (a25 : AD K "_law_tree" zdH) (a26 : AD K "_law_row" zeZ) (a27 : AD K "_law_rows" zdJ) (a28 : AD K "_law_children" zbO) (a29 : AD K "_law_way" zeY) (a30 : AD K "_law_stand" zc1) (a31 : AD K "_law_asked_key" zbx) (a32 : AD K "_law_no_ways" zb4) (a33 : AD K "_law_ask" ze1) (a34 : AD K "_law_heard" zc3) (a35 : AD K "law" zjm) (t3 : tabIn K "place" = some (mc3,mp3)) (h3 : codeHdIn K mc3 mp3 = true) (t4 : tabIn K "place_in" = some (mc4,mp4)) (h4 : codeHdIn K mc4 mp4 = true) (u_BridgeError : nsIn K mainGlobals "BridgeError" = some (some (.ref C_BridgeError))) (u_NoTree : nsIn K mainGlobals "NoTree" = some (some (.ref C_NoTree))) (u_NoWay : nsIn K mainGlobals "NoWay" = some (some (.ref C_NoWay))) (u_NoStand : nsIn K mainGlobals "NoStand" = some (some (.ref C_NoStand))) (u_Twice : nsIn K mainGlobals "Twice" = some (some (.ref C_Twice))) (u_Missing : nsIn K mainGlobals "Missing" = some (some (.ref C_Missing))) (u_NoRoom : nsIn K mainGlobals "NoRoom" = some (some (.ref C_NoRoom))) (u_NoKnot : nsIn K mainGlobals "NoKnot" = some (some (.ref C_NoKnot))) (u_NoKey : nsIn K mainGlobals "NoKey" = some (some (.ref C_NoKey))) (u_NoOrder : nsIn K mainGlobals "NoOrder" = some (some (.ref C_NoOrder))) (u_NoRow : nsIn K mainGlobals "NoRow" = some (some (.ref C_NoRow))) (u_NoText : nsIn K mainGlobals "NoText" = some (some (.ref C_NoText))) (ue_NoWay : PySem.W.excIn K C_NoWay zlp "ValueError.__new__" = true) (ux0_NoWay : findIn K (.ref C_NoWay) "__getattribute__" = some (some (.builtin "BaseException.__getattribute__"))) (ux1_NoWay : findIn K (.ref C_NoWay) "__getattr__" = some none) (ux2_NoWay : findIn K (.ref C_NoWay) "__class__" = some (some (.builtin "object.__class__"))) (ux3_NoWay : mroIn K C_NoWay (.type "object") = some true) (ux4_NoWay : mroIn K C_NoWay (.type "BaseException") = some true) (ux5_NoWay : (PySem.W.clsIn K C_NoWay).isSome = true) (ux6_NoWay : mroIn K C_NoWay (.ref C_BridgeError) = some true) (ux7_NoWay : kitOne K (.ref C_NoWay) (.type "ValueError") = some true) (uk_NoWay_BridgeError : kitOne K (.ref C_NoWay) (.ref C_BridgeError) = some true) (uk_NoWay_NoTree : kitOne K (.ref C_NoWay) (.ref C_NoTree) = some false) (uk_NoWay_NoWay : kitOne K (.ref C_NoWay) (.ref C_NoWay) = some true) (uk_NoWay_NoStand : kitOne K (.ref C_NoWay) (.ref C_NoStand) = some false) (uk_NoWay_Twice : kitOne K (.ref C_NoWay) (.ref C_Twice) = some false) (uk_NoWay_Missing : kitOne K (.ref C_NoWay) (.ref C_Missing) = some false) (uk_NoWay_NoRoom : kitOne K (.ref C_NoWay) (.ref C_NoRoom) = some false) (uk_NoWay_NoKnot : kitOne K (.ref C_NoWay) (.ref C_NoKnot) = some false) (uk_NoWay_NoKey : kitOne K (.ref C_NoWay) (.ref C_NoKey) = some false) (uk_NoWay_NoOrder : kitOne K (.ref C_NoWay) (.ref C_NoOrder) = some false) (uk_NoWay_NoRow : kitOne K (.ref C_NoWay) (.ref C_NoRow) = some false) (uk_NoWay_NoText : kitOne K (.ref C_NoWay) (.ref C_NoText) = some false) (ug1 : PySem.W.specialIn K (.builtin "object.__class__") "__get__" = some (some (.builtin "getset_descriptor.__get__"))) (ug2 : PySem.W.takesIn K (.builtin "object.__class__") = some true) (ub1 : (PySem.W.clsIn K C_BridgeError).isSome = true) (ub2 : PySem.W.typeIn K (.ref C_BridgeError) = some (.type "type")) (ub3 : mroIn K C_BridgeError (.type "BaseException") = some true) (z_ValueError : nsIn K mainGlobals "ValueError" = some none) (z_abs : nsIn K mainGlobals "abs" = some none) (z_bool : nsIn K mainGlobals "bool" = some none) (z_int : nsIn K mainGlobals "int" = some none) (z_isinstance : nsIn K mainGlobals "isinstance" = some none) (z_len : nsIn K mainGlobals "len" = some none) (z_list : nsIn K mainGlobals "list" = some none) (z_max : nsIn K mainGlobals "max" = some none) (z_min : nsIn K mainGlobals "min" = some none) (z_range : nsIn K mainGlobals "range" = some none) (z_repr : nsIn K mainGlobals "repr" = some none) (z_sorted : nsIn K mainGlobals "sorted" = some none) (z_tuple : nsIn K mainGlobals "tuple" = some none) (z_zip : nsIn K mainGlobals "zip" = some none) :
  ∃ fd : FuncData,(∀ (s : Shared) (v : Value),BindsTo s fd ⟨[v],[]⟩ [("_law_script",v)])∧∀ base : Heap,K.In base→base.Ns mainGlobals mg→L2.BMAt mg base→FnOk l.prog w K mg base CX0 lawRoom fa fd ["_law_script"] (zfx K mp3 mp4):=by
 obtain ⟨f,oc,od,kV,dc,pm,an,cd,ct,sl,a,l,c,k⟩:=a35.ex
 have e:=hfa.symm.trans (mg_of X G a)
 cases e
 have T : Txt K mg:=⟨mg_none_of X G z_ValueError,mg_none_of X G z_abs,mg_none_of X G z_bool,mg_none_of X G z_int,mg_none_of X G z_isinstance,mg_none_of X G z_len,mg_none_of X G z_list,mg_none_of X G z_max,mg_none_of X G z_min,mg_none_of X G z_range,mg_none_of X G z_repr,mg_none_of X G z_sorted,mg_none_of X G z_tuple,mg_none_of X G z_zip⟩
 have CL : Cls K mg C_BridgeError C_NoTree C_NoWay C_NoStand C_Twice C_Missing C_NoRoom C_NoKnot C_NoKey C_NoOrder C_NoRow C_NoText:=⟨mg_of X G u_BridgeError,mg_of X G u_NoTree,mg_of X G u_NoWay,mg_of X G u_NoStand,mg_of X G u_Twice,mg_of X G u_Missing,mg_of X G u_NoRoom,mg_of X G u_NoKnot,mg_of X G u_NoKey,mg_of X G u_NoOrder,mg_of X G u_NoRow,mg_of X G u_NoText,⟨mg_of X G u_NoWay,ue_NoWay⟩,⟨ux0_NoWay,ux1_NoWay,ux2_NoWay,ug1,ug2,ux3_NoWay,ux4_NoWay,ux5_NoWay⟩,⟨ux6_NoWay,ub1,ub2,ub3⟩,ux7_NoWay,uk_NoWay_BridgeError,uk_NoWay_NoTree,uk_NoWay_NoWay,uk_NoWay_NoStand,uk_NoWay_Twice,uk_NoWay_Missing,uk_NoWay_NoRoom,uk_NoWay_NoKnot,uk_NoWay_NoKey,uk_NoWay_NoOrder,uk_NoWay_NoRow,uk_NoWay_NoText⟩
 exact ⟨_,fun s v=>.of_eq rfl,fun base _ _ hBM=>(all_ok (P:=_) (w:=w) (base:=base) T CL hBM (a1.df X G) (a2.df X G) (a3.dft X G t3 h3) (a4.dft X G t4 h4) (a5.df X G) (a6.df X G) (a7.df X G) (a8.df X G) (a9.df X G) (a10.df X G) (a11.df X G) (a12.df X G) (a13.df X G) (a14.df X G) (a15.df X G) (a16.df X G) (a17.df X G) (a18.df X G) (a19.df X G) (a20.df X G) (a21.df X G) (a22.df X G) (a23.df X G) (a24.df X G) (a25.df X G) (a26.df X G) (a27.df X G) (a28.df X G) (a29.df X G) (a30.df X G) (a31.df X G) (a32.df X G) (a33.df X G) (a34.df X G) (a35.df X G)).at (mg_of X G a) l⟩
theorem walk {l : OpenLaw} {q : Program} {loose : List Str} {XP : (Str→Option Value)→Heap→Prop} {YP : World→Heap→Prop} {d : DefRec} {K : Params→Frag} {mc3 mp3 mc4 mp4 : Addr} (hn : l.most = some 63) (hdf : d.params.defaults = [])
  (hY : ∀ (w : World) (h : Heap),YP w h→(K w.params).In h) (hYT3 : ∀ (w : World) (h : Heap),YP w h→h.get? mp3 = some (PySem.W.tabObj #[])) (hC3 : ∀ (w : World),codeHdIn (K w.params) mc3 mp3 = true) (hD3 : ∀ (w : World),(K w.params).lookup mp3 = none) (hYT4 : ∀ (w : World) (h : Heap),YP w h→h.get? mp4 = some (PySem.W.tabObj #[])) (hC4 : ∀ (w : World),codeHdIn (K w.params) mc4 mp4 = true) (hD4 : ∀ (w : World),(K w.params).lookup mp4 = none) (hNE : mp3≠mp4)
  (F : ∀ (w : World) (mg : Str→Option Value) (fa : Addr) (h : Heap),(K w.params).In h→h.Ns mainGlobals mg→mg d.name = some (.ref fa)→
   ∃ fd : FuncData,(∀ (s : Shared) (u : Value),BindsTo s fd ⟨[u],[]⟩ [("_law_script",u)])∧∀ base : Heap,(K w.params).In base→base.Ns mainGlobals mg→L2.BMAt mg base→FnOk l.prog w (K w.params) mg base CX0 lawRoom fa fd ["_law_script"] (zfx (K w.params) mp3 mp4)) :
  PySem.W.WalkO q loose XP YP l.row.toRowW d [] (fun f vs=>PySem.call f vs):=
 L2.zje (n:=63) (k:=lawRoom) (x := "_law_script") (tabs:=[(mc3,mp3),(mc4,mp4)]) (sp:=fun w=>zfx (K w.params) mp3 mp4) hn (by decide) hdf ⟨rfl,by decide,by decide,rfl⟩ hY (fun w h Y q hq=>(yaj.mp hq).elim (fun z=>z ▸ hYT3 w h Y) (fun hq=>(yaj.mp hq).elim (fun z=>z ▸ hYT4 w h Y) (fun hq=>absurd hq yaM))) (fun w q hq=>(yaj.mp hq).elim (fun z=>z ▸ ⟨hC3 w,hD3 w⟩) (fun hq=>(yaj.mp hq).elim (fun z=>z ▸ ⟨hC4 w,hD4 w⟩) (fun hq=>absurd hq yaM))) F (fun _ _ a ns hl hT hS=>⟨a,ns,rfl,hS,hl,hNE,hT _ yah,hT _ (yal _ yah),fun _=>rfl⟩)
end My
open PySem PySem.W PyProof.Rows
def PySem.W.Fast.tw17705239180501914725 : Nat := 0
def PySem.W.Fast.tw6718696700878353897 : Nat := 0
def PySem.W.Fast.tw7666136564170992135 : Nat := 0
def PySem.W.Fast.tw3253735288037473332 : Nat := 0
def PySem.W.Fast.tw245635918021889860 : Nat := 0
def PySem.W.Fast.tw5617490435164434237 : Nat := 0
def PySem.W.Fast.tw2458423728776607195 : Nat := 0
def PySem.W.Fast.tw6476509890822304499 : Nat := 0
def PySem.W.Fast.tw3151426325672261469 : Nat := 0
def PySem.W.Fast.tw11932133752329678461 : Nat := 0
def PySem.W.Fast.tw7849826989148649977 : Nat := 0
def PySem.W.Fast.tw16831803926669375843 : Nat := 0
def PySem.W.Fast.tw6840917652531057323 : Nat := 0
def PySem.W.Fast.tw2188076955879507954 : Nat := 0
def PySem.W.Fast.tw3406806954951730835 : Nat := 0
def PySem.W.Fast.tw14681106324012761164 : Nat := 0
def PySem.W.Fast.tw5205835862872929439 : Nat := 0
def PySem.W.Fast.tw3518948788393893417 : Nat := 0
def PySem.W.Fast.tw9739941869229607225 : Nat := 0
def PySem.W.Fast.tw328658021405617470 : Nat := 0
def PySem.W.Fast.tw3152518993267616495 : Nat := 0
def PySem.W.Fast.tw153871609661289194 : Nat := 0
def PySem.W.Fast.tw3495244037668006307 : Nat := 0
def PySem.W.Fast.tw3169222055296614756 : Nat := 0
def PySem.W.Fast.tw2542739417450889662 : Nat := 0
def PySem.W.Fast.tw7856604959337518821 : Nat := 0
def PySem.W.Fast.tw14250260026614309346 : Nat := 0
def PySem.W.Fast.tw16173422419945858477 : Nat := 0
def PySem.W.Fast.tw13769366366181094954 : Nat := 0
def PySem.W.Fast.tw12702052514720255073 : Nat := 0
def PySem.W.Fast.tw5301301033102220720 : Nat := 0
def PySem.W.Fast.tw9872946777483682570 : Nat := 0
def PySem.W.Fast.tw6179633651927250569 : Nat := 0
def PySem.W.Fast.tw937720650400211220 : Nat := 0
def PySem.W.Fast.tw4001624485516407071 : Nat := 0
def PySem.W.Fast.tw16199749630994815849 : Nat := 0
def PySem.W.Fast.tw1364084127649629403 : Nat := 0
def PySem.W.Fast.tw8381556780248921815 : Nat := 0
def PySem.W.Fast.tw17172299828596832588 : Nat := 0
def PySem.W.Fast.tw16569055231139319473 : Nat := 0
def PySem.W.Fast.tw573926328144669041 : Nat := 0
def PySem.W.Fast.tw15007138174718476585 : Nat := 0
def PySem.W.Fast.tw16042409599002758985 : Nat := 0
def PySem.W.Fast.tw4606119449109280038 : Nat := 0
def PySem.W.Fast.tw11533048312376356480 : Nat := 0
def PySem.W.Fast.tw8017546226562908352 : Nat := 0
def PySem.W.Fast.tw1391168483961042725 : Nat := 0
def PySem.W.Fast.tw6062790452772762102 : Nat := 0
def PySem.W.Fast.tw333224482414055248 : Nat := 0
def PySem.W.Fast.tw11066389546317032724 : Nat := 0
def PySem.W.Fast.tw10190995423985103770 : Nat := 0
def PySem.W.Fast.tw2699600935338328571 : Nat := 0
def PySem.W.Fast.tw16502510460240244831 : Nat := 0
def PySem.W.Fast.tw12780063359232519579 : Nat := 0
def PySem.W.Fast.tw14259673113629630074 : Nat := 0
def PySem.W.Fast.tw13212193771688151497 : Nat := 0
def PySem.W.Fast.tw14034839198251126757 : Nat := 0
def PySem.W.Fast.tw2236584433315065027 : Nat := 0
def PySem.W.Fast.tw3322773206127531698 : Nat := 0
def PySem.W.Fast.tw10781344554050085784 : Nat := 0
def PySem.W.Fast.tw4610356285473304908 : Nat := 0
def PySem.W.Fast.tw13189868012009435685 : Nat := 0
def PySem.W.Fast.tw1620699016883450172 : Nat := 0
def PySem.W.Fast.tw9420430499730524350 : Nat := 0
def PySem.W.Fast.tw14416628552598043766 : Nat := 0
def PySem.W.Fast.tw17031120321176646516 : Nat := 0
def PySem.W.Fast.tw14582892275772821568 : Nat := 0
def PySem.W.Fast.tw3354581068003464404 : Nat := 0
def PySem.W.Fast.tw2981453286794604014 : Nat := 0
def PySem.W.Fast.tw1610424090257815458 : Nat := 0
def PySem.W.Fast.tw14073388046778514556 : Nat := 0
def PySem.W.Fast.tw10179527692486464707 : Nat := 0
def PySem.W.Fast.tw17542769467289917025 : Nat := 0
def PySem.W.Fast.tw17316380695890722682 : Nat := 0
def PySem.W.Fast.tw52044855213958586 : Nat := 0
def PySem.W.Fast.tw6969275742958633485 : Nat := 0
def PySem.W.Fast.tw12328433618709556317 : Nat := 0
def PySem.W.Fast.tw16380698664192580878 : Nat := 0
def PySem.W.Fast.tw4110155647715568542 : Nat := 0
def PySem.W.Fast.tw1445598128751895610 : Nat := 0
def PySem.W.Fast.tw12687455091932533849 : Nat := 0
def PySem.W.Fast.tw2864283400783850304 : Nat := 0
def PySem.W.Fast.tw4641686783252528954 : Nat := 0
def PySem.W.Fast.tw1170196885037986611 : Nat := 0
def PySem.W.Fast.tw10459783697905039723 : Nat := 0
def PySem.W.Fast.tw12440623502170951386 : Nat := 0
def PySem.W.Fast.tw14773317802532198694 : Nat := 0
def PySem.W.Fast.tw9713425608634611008 : Nat := 0
def PySem.W.Fast.tw9099318184774342205 : Nat := 0
def PySem.W.Fast.tw5392239884514886757 : Nat := 0
def PySem.W.Fast.tw1404957671786264659 : Nat := 0
def PySem.W.Fast.tw16171106856363628037 : Nat := 0
def PySem.W.Fast.tw4884398278060864686 : Nat := 0
def PySem.W.Fast.tw2850145129043712950 : Nat := 0
def PySem.W.Fast.tw12523604585994812260 : Nat := 0
def PySem.W.Fast.tw11889975449841339219 : Nat := 0
def PySem.W.Fast.tw14384028639293325684 : Nat := 0
def PySem.W.Fast.tw12432330980531435448 : Nat := 0
def PySem.W.Fast.tw6728588387670288761 : Nat := 0
def PySem.W.Fast.tw9979555697656298289 : Nat := 0
def PySem.W.Fast.tw13996739319105573186 : Nat := 0
def PySem.W.Fast.tw6617295582067552566 : Nat := 0
def PySem.W.Fast.tw3407825618822666933 : Nat := 0
def PySem.W.Fast.tw3749213471483164181 : Nat := 0
def PySem.W.Fast.tw1116284476519700826 : Nat := 0
def PySem.W.Fast.tw16930809977833685527 : Nat := 0
def PySem.W.Fast.tw2299360386056494763 : Nat := 0
def PySem.W.Fast.tw16944056604029616628 : Nat := 0
def PySem.W.Fast.tw14875437254307131821 : Nat := 0
def PySem.W.Fast.tw10387385972645830919 : Nat := 0
def PySem.W.Fast.tw5118436056973070142 : Nat := 0
def PySem.W.Fast.tw17425581750283052714 : Nat := 0
def PySem.W.Fast.tw16957495951547504572 : Nat := 0
def PySem.W.Fast.tw14740386213290129685 : Nat := 0
def PySem.W.Fast.tw989502639960287818 : Nat := 0
def PySem.W.Fast.tw3649096979087799334 : Nat := 0
def PySem.W.Fast.tw15455194149123486745 : Nat := 0
def PySem.W.Fast.tw14962905340881475173 : Nat := 0
def PySem.W.Fast.tw14111793527561109329 : Nat := 0
def PySem.W.Fast.tw11628034018560328078 : Nat := 0
def PySem.W.Fast.tw2855965347181010348 : Nat := 0
def PySem.W.Fast.tw7071087575368162134 : Nat := 0
def PySem.W.Fast.tw4873300370247851767 : Nat := 0
def PySem.W.Fast.tw9239713849317033349 : Nat := 0
def PySem.W.Fast.tw16872223831691901567 : Nat := 0
def PySem.W.Fast.tw14686848992671371987 : Nat := 0
def PySem.W.Fast.tw1650458312461469260 : Nat := 0
def PySem.W.Fast.tw4669039842278157779 : Nat := 0
def PySem.W.Fast.tw9610228901644617642 : Nat := 0
def PySem.W.Fast.tw4568850766452361405 : Nat := 0
def PySem.W.Fast.tw2907367111773661934 : Nat := 0
def PySem.W.Fast.tw17930850410836163435 : Nat := 0
def PySem.W.Fast.tw17856829347357464573 : Nat := 0
def PySem.W.Fast.tw17080126772455527644 : Nat := 0
def PySem.W.Fast.tw14108513392324779002 : Nat := 0
def PySem.W.Fast.tw12937888377125816506 : Nat := 0
def PySem.W.Fast.tw11651188199559513817 : Nat := 0
def PySem.W.Fast.tw11258312023262494467 : Nat := 0
def PySem.W.Fast.tw7031112815390070324 : Nat := 0
def PySem.W.Fast.tw9267680915293232364 : Nat := 0
def PySem.W.Fast.tw4525563806960492494 : Nat := 0
def PySem.W.Fast.tw10580816095301822401 : Nat := 0
def PySem.W.Fast.tw1999608211653434845 : Nat := 0
def PySem.W.Fast.tw17663330146036173754 : Nat := 0
def PySem.W.Fast.tw13995066597071896031 : Nat := 0
def PySem.W.Fast.tw10810822984792754542 : Nat := 0
def PySem.W.Fast.tw10190899224278360360 : Nat := 0
def PySem.W.Fast.tw3846036777989364792 : Nat := 0
def PySem.W.Fast.tw15818039442683590052 : Nat := 0
def PySem.W.Fast.tw12006368348026746218 : Nat := 0
def PySem.W.Fast.tw8413610831452256953 : Nat := 0
def PySem.W.Fast.tw6152957828738872778 : Nat := 0
def PySem.W.Fast.tw18004256574992896398 : Nat := 0
def PySem.W.Fast.tw7362444013971519284 : Nat := 0
def PySem.W.Fast.tw3850760333077630980 : Nat := 0
def PySem.W.Fast.tw3142110260107216464 : Nat := 0
def PySem.W.Fast.tw5641519930362493437 : Nat := 0
def PySem.W.Fast.tw12535962364681639156 : Nat := 0
def PySem.W.Fast.tw10666186594110280103 : Nat := 0
def PySem.W.Fast.tw17306754638463972164 : Nat := 0
def PySem.W.Fast.tw5807390566479520905 : Nat := 0
def PySem.W.Fast.tw14289149743626387780 : Nat := 0
def PySem.W.Fast.tw5467575298191812008 : Nat := 0
def PySem.W.Fast.tw3208456248583208704 : Nat := 0
def PySem.W.Fast.tw10170446334371966585 : Nat := 0
def PySem.W.Fast.tw6305254397718097357 : Nat := 0
def PySem.W.Fast.tw3670532857452570838 : Nat := 0
def PySem.W.Fast.tw11615117634284282021 : Nat := 0
def PySem.W.Fast.tw12575356321178094959 : Nat := 0
def PySem.W.Fast.tw2164894928999534984 : Nat := 0
def PySem.W.Fast.tw8131788533249887227 : Nat := 0
def PySem.W.Fast.tw17704327341610708062 : Nat := 0
def PySem.W.Fast.tw9832345619677975892 : Nat := 0
def PySem.W.Fast.tw12390004297966868759 : Nat := 0
def PySem.W.Fast.tw10226917101342451562 : Nat := 0
def PySem.W.Fast.tw12270229010559133943 : Nat := 0
def PySem.W.Fast.tw8128428188231546199 : Nat := 0
def PySem.W.Fast.tw4925992430319645248 : Nat := 0
def PySem.W.Fast.tw9344729893522118753 : Nat := 0
def PySem.W.Fast.tw9260589130776381916 : Nat := 0
def PySem.W.Fast.tw7369582138171205713 : Nat := 0
def PySem.W.Fast.tw12880381643736181513 : Nat := 0
def PySem.W.Fast.tw541774396278844077 : Nat := 0
def PySem.W.Fast.tw18002874370959363668 : Nat := 0
def PySem.W.Fast.tw6876602693375368728 : Nat := 0
def PySem.W.Fast.tw8970938964877713259 : Nat := 0
def PySem.W.Fast.tw4044001074391921962 : Nat := 0
def PySem.W.Fast.tw10785963993287054074 : Nat := 0
def PySem.W.Fast.tw18019250541905171403 : Nat := 0
def PySem.W.Fast.tw1053609735886100898 : Nat := 0
def PySem.W.Fast.tw10385108709093909528 : Nat := 0
def PySem.W.Fast.tw3069058481605931072 : Nat := 0
def PySem.W.Fast.tw3056794502650553558 : Nat := 0
def PySem.W.Fast.tw17548544261113368749 : Nat := 0
def PySem.W.Fast.tw15347469774200190348 : Nat := 0
def PySem.W.Fast.tw10146342832122814722 : Nat := 0
def PySem.W.Fast.tw13121829098922373621 : Nat := 0
def PySem.W.Fast.tw16629071779660799895 : Nat := 0
def PySem.W.Fast.tw6833002699829527193 : Nat := 0
def PySem.W.Fast.tw2773844800273838747 : Nat := 0
set_option maxRecDepth 100000 in
set_option maxHeartbeats 0 in
theorem PySem.Challenge.cw_bridgefind_k43_asks_refused_holds : PySem.Challenge.rw_bridgefind_k43_asks_refused.Holds := by
 w_on; o_law; k_head; (case hw=>w_witness2)
 k_fill
 refine My.walk (l:=PySem.Challenge.rw_bridgefind_k43_asks_refused) (mc3:=186) (mp3:=182) (mc4:=193) (mp4:=189) rfl rfl (fun w h Y=>PySem.W.km_in_of Y) (fun w h Y=>PySem.W.km_tabs_of Y 182 (by decide)) (fun w=>by kernel_rfl) (fun w=>by kernel_rfl) (fun w h Y=>PySem.W.km_tabs_of Y 189 (by decide)) (fun w=>by kernel_rfl) (fun w=>by kernel_rfl) (by decide) ?F
 case F=>
  intro w mg fa h KX G hmg
  refine' My.zmg (mc3:=186) (mp3:=182) (mc4:=193) (mp4:=189) KX G hmg ?_ ?_ ?_ ?_ ?_ ?_ ?_ ?_ ?_ ?_ ?_ ?_ ?_ ?_ ?_ ?_ ?_ ?_ ?_ ?_ ?_ ?_ ?_ ?_ ?_ ?_ ?_ ?_ ?_ ?_ ?_ ?_ ?_ ?_ ?_ ?_ ?_ ?_ ?_ ?_ ?_ ?_ ?_ ?_ ?_ ?_ ?_ ?_ ?_ ?_ ?_ ?_ ?_ ?_ ?_ ?_ ?_ ?_ ?_ ?_ ?_ ?_ ?_ ?_ ?_ ?_ ?_ ?_ ?_ ?_ ?_ ?_ ?_ ?_ ?_ ?_ ?_ ?_ ?_ ?_ ?_ ?_ ?_ ?_ ?_ ?_ ?_ ?_ ?_ ?_ ?_
  any_goals k_is
  all_goals first | refine' My.AD.of ?_ ?_ ?_ ?_ | skip
  any_goals k_is
  all_goals kernel_rfl

